/-
  Signs as bytes, and read again; patterns as signs, and read again; no walk in it.
-/
import Derived.Test.YtjgbfpemkjpikaaDoorLm
import Derived.Test.YtjgbfpemkjpikaaDoorDecode
import Derived.Test.YtjgbfpemkjpikaaDoorL5
namespace Go.Proofs.YtjgbfpemkjpikaaDoor
set_option linter.unusedVariables false
set_option linter.unusedSimpArgs false
def nth (l : List Nat) (j : Nat) : Nat := l.getD j 0
/-- the bytes of a sign's number. -/
def pb (c : Nat) : List Nat :=
  if c < 128 then [c] else if c < 2048 then [192 + c / 64, 128 + c % 64] else if c < 65536 then [224 + c / 4096, 128 + c / 64 % 64, 128 + c % 64]
  else [240 + c / 262144, 128 + c / 4096 % 64, 128 + c / 64 % 64, 128 + c % 64]
/-- is it a sign's number? -/
def Right (c : Nat) : Prop := c < 55296 ∨ (57343 < c ∧ c ≤ 1114111)
theorem pb_len (c : Nat) : 1 ≤ (pb c).length ∧ (pb c).length ≤ 4 := by unfold pb; (repeat' split) <;> simp
/-- the bytes are read as that sign. -/
theorem put_sign (c n : Nat) (y : Nat → Nat) (hc : Right c) (hn : (pb c).length ≤ n) (hy : ∀ j, j < (pb c).length → y j = nth (pb c) j) : Sg.cnt n y = (pb c).length ∧ Sg.num n y = c := by
  unfold Right at hc
  by_cases c1 : c < 128
  · have e : pb c = [c] := by unfold pb; rw [if_pos c1]
    rw [e] at hn hy ⊢
    have y0 : y 0 = c := hy 0 (by simp)
    have hs := Sg.sz_cases (y 0) (by omega)
    have h1 : Sg.sz (y 0) = 1 := by omega
    have hcnt : Sg.cnt n y = 1 := by unfold Sg.cnt; rw [if_neg (by omega)]
    refine ⟨hcnt, ?_⟩
    rw [Sg.num_val hcnt h1.symm]; simp [Sg.val, y0]
  · by_cases c2 : c < 2048
    · have e : pb c = [192 + c / 64, 128 + c % 64] := by unfold pb; rw [if_neg c1, if_pos c2]
      rw [e] at hn hy ⊢
      have y0 : y 0 = 192 + c / 64 := hy 0 (by simp)
      have y1 : y 1 = 128 + c % 64 := hy 1 (by simp)
      have hs := Sg.sz_cases (y 0) (by omega)
      simp only [List.length_cons, List.length_nil] at hn ⊢
      have h1 : Sg.sz (y 0) = 2 ∧ Sg.lo (y 0) = 128 ∧ Sg.hi (y 0) = 191 := by omega
      have hcnt : Sg.cnt n y = 2 := by unfold Sg.cnt; rw [if_pos (by omega), if_neg (by omega)]
      refine ⟨hcnt, ?_⟩
      rw [Sg.num_val hcnt h1.1.symm]; simp only [Sg.val, Nat.reduceEqDiff, reduceIte]; omega
    · by_cases c3 : c < 65536
      · have e : pb c = [224 + c / 4096, 128 + c / 64 % 64, 128 + c % 64] := by unfold pb; rw [if_neg c1, if_neg c2, if_pos c3]
        rw [e] at hn hy ⊢
        have y0 : y 0 = 224 + c / 4096 := hy 0 (by simp)
        have y1 : y 1 = 128 + c / 64 % 64 := hy 1 (by simp)
        have y2 : y 2 = 128 + c % 64 := hy 2 (by simp)
        have hs := Sg.sz_cases (y 0) (by omega)
        simp only [List.length_cons, List.length_nil] at hn ⊢
        have h1 : Sg.sz (y 0) = 3 ∧ Sg.lo (y 0) ≤ y 1 ∧ y 1 ≤ Sg.hi (y 0) := by omega
        have hcnt : Sg.cnt n y = 3 := by unfold Sg.cnt; rw [if_pos (by omega), if_pos (by omega), if_neg (by omega)]
        refine ⟨hcnt, ?_⟩
        rw [Sg.num_val hcnt h1.1.symm]; simp only [Sg.val, Nat.reduceEqDiff, reduceIte]; omega
      · have e : pb c = [240 + c / 262144, 128 + c / 4096 % 64, 128 + c / 64 % 64, 128 + c % 64] := by unfold pb; rw [if_neg c1, if_neg c2, if_neg c3]
        rw [e] at hn hy ⊢
        have y0 : y 0 = 240 + c / 262144 := hy 0 (by simp)
        have y1 : y 1 = 128 + c / 4096 % 64 := hy 1 (by simp)
        have y2 : y 2 = 128 + c / 64 % 64 := hy 2 (by simp)
        have y3 : y 3 = 128 + c % 64 := hy 3 (by simp)
        have hs := Sg.sz_cases (y 0) (by omega)
        simp only [List.length_cons, List.length_nil] at hn ⊢
        have h1 : Sg.sz (y 0) = 4 ∧ Sg.lo (y 0) ≤ y 1 ∧ y 1 ≤ Sg.hi (y 0) := by omega
        have hcnt : Sg.cnt n y = 4 := by unfold Sg.cnt; rw [if_pos (by omega), if_pos (by omega), if_pos (by omega)]
        refine ⟨hcnt, ?_⟩
        rw [Sg.num_val hcnt h1.1.symm]; simp only [Sg.val, Nat.reduceEqDiff, reduceIte]; omega
/-- numbers as bytes, one behind the other. -/
def txt (cs : List Nat) : List Nat := cs.flatMap pb
theorem txt_app (a b : List Nat) : txt (a ++ b) = txt a ++ txt b := by simp [txt]
/-- numbers as signs, from a place on. -/
def sgn : List Nat → Nat → List (Nat × Nat × Nat)
  | [], _ => []
  | c :: cs, p => (c, p, (pb c).length) :: sgn cs (p + (pb c).length)
theorem rs_sgn (cs : List Nat) : ∀ p, rs (sgn cs p) = cs := by
  induction cs with
  | nil => intro p; rfl
  | cons c cs ih => intro p; have := ih (p + (pb c).length); simp only [sgn, rs, List.map_cons] at *; rw [this]
theorem nth_append_left (a b : List Nat) (j : Nat) (h : j < a.length) : nth (a ++ b) j = nth a j := by
  unfold nth; rw [List.getD_eq_getElem?_getD, List.getD_eq_getElem?_getD, List.getElem?_append_left h]
theorem nth_append_right (a b : List Nat) (j : Nat) : nth (a ++ b) (a.length + j) = nth b j := by
  unfold nth; rw [List.getD_eq_getElem?_getD, List.getD_eq_getElem?_getD, List.getElem?_append_right (by omega), Nat.add_sub_cancel_left]
theorem rest_puts (N : Nat) (z : Nat → Nat) (cs : List Nat) : ∀ p, (∀ c ∈ cs, Right c) → p + (txt cs).length ≤ N → (∀ j, j < (txt cs).length → z (p + j) = nth (txt cs) j) →
    Sg.rest N z p = sgn cs p ++ Sg.rest N z (p + (txt cs).length) := by
  induction cs with
  | nil => intro p _ _ _; rfl
  | cons c cs ih =>
    intro p hr hN hz
    have hl := pb_len c
    have e : txt (c :: cs) = pb c ++ txt cs := rfl
    rw [e] at hN hz
    rw [List.length_append] at hN
    have hp : p < N := by omega
    obtain ⟨h1, h2⟩ := put_sign c (N - p) (fun j => z (p + j)) (hr c (by simp)) (by omega) (fun j hj => by
      show z (p + j) = _
      rw [hz j (by rw [List.length_append]; omega), nth_append_left _ _ _ hj])
    rw [Sg.rest_step N z p hp, h1, h2, ih (p + (pb c).length) (fun c' h => hr c' (by simp [h])) (by omega) (fun j hj => by
      rw [Nat.add_assoc, hz ((pb c).length + j) (by rw [List.length_append]; omega), nth_append_right])]
    rw [e, List.length_append]
    simp only [sgn, List.cons_append, Nat.add_assoc]
theorem sgs_txt {s : ByteArray} {cs : List Nat} (h : tl s = txt cs) (hr : ∀ c ∈ cs, Right c) : rs (sgs s) = cs := by
  have hs : s.size = (txt cs).length := by rw [← tl_len, h]
  unfold sgs Sg.all
  rw [rest_puts s.size (bx s) cs 0 hr (by omega) (fun j hj => by
    rw [Nat.zero_add]
    refine bx_tl s j _ ?_
    rw [h, List.getElem?_eq_getElem hj]
    unfold nth
    rw [List.getD_eq_getElem?_getD, List.getElem?_eq_getElem hj]
    rfl), Nat.zero_add, Sg.rest_end _ _ _ (by omega), List.append_nil, rs_sgn]
/-! ### a word out of letters and marks -/
def mkl (m : Nat) : List Nat := if m = 0 then [] else [m]
def rb : List Nat → List Nat → List Nat
  | c :: L, m :: M => mkl m ++ c :: rb L M
  | [], m :: _ => mkl m
  | _, [] => []
theorem raw_rb {mk : Nat → Bool} (h0 : mk 0 = false) : ∀ (L M : List Nat), M.length = L.length + 1 → (∀ c ∈ L, mk c = false) → (∀ m ∈ M, m = 0 ∨ mk m = true) → Pt.raw mk (rb L M) 0 = some (L, M)
  | [], [m], _, _, hM => by
    rcases hM m (by simp) with h | h
    · subst h; rfl
    · have hm : m ≠ 0 := fun e => by rw [e, h0] at h; cases h
      simp [rb, mkl, hm, Pt.raw, h]
  | [], [], h, _, _ => by simp at h
  | [], m :: m' :: M, h, _, _ => by simp at h
  | c :: L, [], h, _, _ => by simp at h
  | c :: L, m :: M, h, hL, hM => by
    have ih := raw_rb h0 L M (by simpa using h) (fun c' h' => hL c' (by simp [h'])) (fun m' h' => hM m' (by simp [h']))
    have hc := hL c (by simp)
    rcases hM m (by simp) with hm | hm
    · subst hm
      simp [rb, mkl, Pt.raw, hc, ih]
    · have hm0 : m ≠ 0 := fun e => by rw [e, h0] at hm; cases hm
      simp [rb, mkl, hm0, Pt.raw, hm, hc, ih]
theorem rb_raw {mk : Nat → Bool} (h0 : mk 0 = false) : ∀ (R : List Nat) (m : Nat) (L M : List Nat), Pt.raw mk R m = some (L, M) → mkl m ++ R = rb L M
  | [], m, L, M, h => by
    simp only [Pt.raw, Option.some.injEq, Prod.mk.injEq] at h
    obtain ⟨rfl, rfl⟩ := h
    simp [rb]
  | c :: cs, m, L, M, h => by
    simp only [Pt.raw] at h
    by_cases hc : mk c = true
    · rw [if_pos hc] at h
      split at h
      · cases h
      · rename_i hm
        have hm : m = 0 := by simpa using hm
        have hc0 : c ≠ 0 := fun e => by rw [e, h0] at hc; cases hc
        have := rb_raw h0 cs c L M h
        rw [← this, hm]
        simp [mkl, hc0]
    · rw [if_neg hc] at h
      cases hr : Pt.raw mk cs 0 with
      | none => rw [hr] at h; cases h
      | some r =>
        obtain ⟨L', M'⟩ := r
        rw [hr] at h
        simp only [Option.some.injEq, Prod.mk.injEq] at h
        obtain ⟨rfl, rfl⟩ := h
        have := rb_raw h0 cs 0 L' M' hr
        simp only [rb]
        rw [← this]
        simp [mkl]
theorem rb_mem : ∀ (L M : List Nat) (c : Nat), c ∈ rb L M → c ∈ L ∨ (c ∈ M ∧ c ≠ 0)
  | [], [], c, h => by simp [rb] at h
  | [], m :: M, c, h => by
    unfold rb mkl at h
    split at h
    · cases h
    · simp at h; subst h; exact Or.inr ⟨by simp, by assumption⟩
  | d :: L, [], c, h => by simp [rb] at h
  | d :: L, m :: M, c, h => by
    simp only [rb, List.mem_append, List.mem_cons] at h
    rcases h with h | h | h
    · unfold mkl at h
      split at h
      · cases h
      · simp at h; subst h; exact Or.inr ⟨by simp, by assumption⟩
    · exact Or.inl (by simp [h])
    · rcases rb_mem L M c h with h | ⟨h, h2⟩
      · exact Or.inl (by simp [h])
      · exact Or.inr ⟨by simp [h], h2⟩
theorem rb_sub : ∀ (L M : List Nat), L.length < M.length → ∀ c ∈ L, c ∈ rb L M
  | [], M, _, c, h => by cases h
  | d :: L, [], h, _, _ => by simp at h
  | d :: L, m :: M, h, c, hc => by
    simp only [rb, List.mem_append, List.mem_cons]
    rcases List.mem_cons.1 hc with rfl | hc
    · exact Or.inr (Or.inl rfl)
    · exact Or.inr (Or.inr (rb_sub L M (by simpa using h) c hc))
/-- a value as a mark. -/
def mv (td : Bool) (v : Nat) : Nat := if v = 0 then 0 else if td = true then 45 else 48 + v % 10
/-- a pattern as signs. -/
def wr (td : Bool) (p : Pt.Pat) : List Nat := rb p.letters (p.values.map (mv td))
theorem ends_mono {L M M' : List Nat} (hd : M.head? = some 0 → M'.head? = some 0) (hl : M[L.length]? = some 0 → M'[L.length]? = some 0) (h : Pt.ends L M = true) : Pt.ends L M' = true := by
  unfold Pt.ends at h ⊢
  by_cases h1 : L.head? = some 46
  · rw [if_pos h1] at h ⊢
    by_cases h2 : M.head? = some 0
    · rw [if_pos h2] at h
      rw [if_pos (hd h2)]
      simp only at h ⊢
      by_cases h3 : L.tail.getLast? = some 46
      · rw [if_pos h3] at h ⊢
        by_cases h4 : M[L.length]? = some 0
        · rw [if_pos h4] at h
          rw [if_pos (hl h4)]
          exact h
        · rw [if_neg h4] at h; cases h
      · rw [if_neg h3] at h ⊢
        exact h
    · rw [if_neg h2] at h; cases h
  · rw [if_neg h1] at h ⊢
    simp only at h ⊢
    by_cases h3 : L.getLast? = some 46
    · rw [if_pos h3] at h ⊢
      by_cases h4 : M[L.length]? = some 0
      · rw [if_pos h4] at h
        rw [if_pos (hl h4)]
        exact h
      · rw [if_neg h4] at h; cases h
    · rw [if_neg h3] at h ⊢
      exact h
theorem parted_raw {mk : Nat → Bool} {R L M : List Nat} (h : Pt.parted mk R = some (L, M)) : Pt.raw mk R 0 = some (L, M) ∧ ¬ (L.length = 0 ∨ 24 < L.length ∨ 65533 ∈ L) := by
  unfold Pt.parted at h
  cases hr : Pt.raw mk R 0 with
  | none => rw [hr] at h; cases h
  | some r =>
    obtain ⟨L', M'⟩ := r
    rw [hr] at h
    simp only at h
    split at h
    · cases h
    · rename_i hn
      simp only [Option.some.injEq, Prod.mk.injEq] at h
      obtain ⟨rfl, rfl⟩ := h
      exact ⟨rfl, hn⟩
/-- what a pattern that was read is like. -/
structure Fit (td : Bool) (p : Pt.Pat) : Prop where
  len : p.values.length = p.letters.length + 1
  pos : 0 < p.letters.length
  ok : ∀ c ∈ wr td p, Pt.isBl c = false ∧ Right c
  letter : ∀ c ∈ p.letters, Right c
  val : ∀ v ∈ p.values, v ≤ 9
  back : if td = true then 45 ∈ wr td p ∧ Pt.told (wr td p) = some p else 45 ∉ wr td p ∧ Pt.patt (wr td p) = some p
theorem mem_map_mv {td : Bool} {V : List Nat} {m : Nat} (h : m ∈ V.map (mv td)) (h0 : m ≠ 0) : m = 45 ∨ (48 ≤ m ∧ m ≤ 57) := by
  obtain ⟨v, _, rfl⟩ := List.mem_map.1 h
  unfold mv at h0 ⊢
  split
  · rename_i e; rw [if_pos e] at h0; exact absurd rfl h0
  · split
    · exact Or.inl rfl
    · right; omega
theorem dval_mv {v : Nat} (h : v ≤ 9) : Pt.dval (mv false v) = v := by
  unfold Pt.dval mv
  by_cases e : v = 0
  · subst e; rfl
  · simp [e]
    omega
theorem fit_patt {R : List Nat} {p : Pt.Pat} (h : Pt.patt R = some p) (h45 : 45 ∉ R) (hR : ∀ c ∈ R, Pt.isBl c = false ∧ Right c) : Fit false p := by
  unfold Pt.patt at h
  cases hp : Pt.parted Pt.isDg R with
  | none => rw [hp] at h; cases h
  | some r =>
    obtain ⟨L, M⟩ := r
    rw [hp] at h
    simp only at h
    split at h
    · rename_i he
      injection h with h
      subst h
      obtain ⟨hr, hn⟩ := parted_raw hp
      have h0 : Pt.isDg 0 = false := rfl
      obtain ⟨l1, l2, l3⟩ := Pt.raw_len h0 R 0 L M hr
      have hm := raw_marks R 0 L M hr (Or.inl rfl)
      have eR : R = rb L M := by have := rb_raw h0 R 0 L M hr; simpa [mkl] using this
      have hLR : ∀ c ∈ L, c ∈ R := fun c hc => by rw [eR]; exact rb_sub L M (by omega) c hc
      have hvals : ∀ v ∈ M.map Pt.dval, v ≤ 9 := fun v hv => by
        obtain ⟨m, hmm, rfl⟩ := List.mem_map.1 hv
        unfold Pt.dval
        rcases hm m hmm with e | e
        · rw [e]; simp
        · unfold Pt.isDg at e
          simp at e
          split <;> omega
      obtain ⟨M', hM'⟩ : ∃ M', M' = (M.map Pt.dval).map (mv false) := ⟨_, rfl⟩
      have hlen' : M'.length = L.length + 1 := by rw [hM']; simp [l1]
      have hmk' : ∀ m ∈ M', m = 0 ∨ Pt.isDg m = true := fun m hmm => by
        by_cases e : m = 0
        · exact Or.inl e
        · right
          rw [hM'] at hmm
          obtain ⟨v, _, rfl⟩ := List.mem_map.1 hmm
          unfold mv at e ⊢
          split
          · rename_i e2; rw [if_pos e2] at e; exact absurd rfl e
          · simp [Pt.isDg]; omega
      have hd' : M'.map Pt.dval = M.map Pt.dval := by
        rw [hM', List.map_map]
        refine (List.map_congr_left (fun v hv => ?_)).trans (List.map_id _)
        exact dval_mv (hvals v hv)
      have hz : ∀ i : Nat, M[i]? = some 0 → M'[i]? = some 0 := fun i hi => by
        rw [hM', List.getElem?_map, List.getElem?_map, hi]
        rfl
      have hhd : M.head? = some 0 → M'.head? = some 0 := fun hi => by
        rw [List.head?_eq_getElem?] at hi ⊢
        exact hz 0 hi
      have hraw : Pt.raw Pt.isDg (rb L M') 0 = some (L, M') := raw_rb h0 L M' hlen' l3 hmk'
      have hpart : Pt.parted Pt.isDg (rb L M') = some (L, M') := by
        unfold Pt.parted
        rw [hraw]
        simp only
        rw [if_neg hn]
      have hn45 : 45 ∉ rb L M' := fun hc => by
        rcases rb_mem L M' 45 hc with h | ⟨h, _⟩
        · exact h45 (hLR _ h)
        · rcases hmk' _ h with e | e
          · cases e
          · cases e
      have ew : wr false ⟨L, M.map Pt.dval⟩ = rb L M' := by unfold wr; rw [hM']
      refine ⟨by simp [l1], by show 0 < L.length; omega, fun c hc => ?_, fun c hc => (hR c (hLR c hc)).2, hvals, ?_⟩
      · rw [ew] at hc
        rcases rb_mem L M' c hc with h | ⟨h, h2⟩
        · exact hR c (hLR c h)
        · rw [hM'] at h
          rcases mem_map_mv h h2 with e | e
          · subst e; exact ⟨rfl, Or.inl (by omega)⟩
          · exact ⟨bl_no (by omega), Or.inl (by omega)⟩
      · rw [if_neg (by simp), ew]
        refine ⟨hn45, ?_⟩
        unfold Pt.patt
        rw [hpart]
        simp only
        rw [if_pos (ends_mono hhd (hz _) he), hd']
    · cases h
theorem fit_told {R : List Nat} {p : Pt.Pat} (h : Pt.told R = some p) (h45 : 45 ∈ R) (hR : ∀ c ∈ R, Pt.isBl c = false ∧ Right c) : Fit true p := by
  have hwr : wr true p = R ∧ p.values.length = p.letters.length + 1 ∧ 0 < p.letters.length ∧ (∀ c ∈ p.letters, c ∈ R) ∧ ∀ v ∈ p.values, v ≤ 9 := by
    unfold Pt.told at h
    cases hp : Pt.parted Pt.isHy R with
    | none => rw [hp] at h; cases h
    | some r =>
      obtain ⟨L, M⟩ := r
      rw [hp] at h
      simp only at h
      split at h
      · cases h
      · injection h with h
        subst h
        obtain ⟨hr, hn⟩ := parted_raw hp
        have h0 : Pt.isHy 0 = false := rfl
        obtain ⟨l1, l2, l3⟩ := Pt.raw_len h0 R 0 L M hr
        have hm := raw_marks R 0 L M hr (Or.inl rfl)
        have eR : R = rb L M := by have := rb_raw h0 R 0 L M hr; simpa [mkl] using this
        have eM : (M.map Pt.hval).map (mv true) = M := by
          rw [List.map_map]
          refine (List.map_congr_left (fun m hmm => ?_)).trans (List.map_id _)
          rcases hm m hmm with e | e
          · rw [e]; rfl
          · have : m = 45 := by simpa [Pt.isHy] using e
            rw [this]; rfl
        refine ⟨by unfold wr; simp only; rw [eM, eR], by simp [l1], by show 0 < L.length; omega, fun c hc => by rw [eR]; exact rb_sub L M (by omega) c hc, fun v hv => ?_⟩
        obtain ⟨m, _, rfl⟩ := List.mem_map.1 hv
        unfold Pt.hval
        split <;> omega
  obtain ⟨e, h1, h2, h3, h4⟩ := hwr
  exact ⟨h1, h2, fun c hc => by rw [e] at hc; exact hR c hc, fun c hc => (hR c (h3 c hc)).2, h4, by rw [if_pos rfl, e]; exact ⟨h45, h⟩⟩
end Go.Proofs.YtjgbfpemkjpikaaDoor
