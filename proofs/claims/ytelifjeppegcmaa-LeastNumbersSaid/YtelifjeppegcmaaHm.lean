/-
  States that nothing tells apart: groups that are split until nothing changes; the least automaton is one alone. No program in it.
-/
namespace Go.Proofs.Ytelifjeppegcmaa
set_option linter.unusedVariables false
set_option linter.unusedSimpArgs false
namespace Hm
/-- two states (of two automata) tell the same behind every row of classes. -/
def Eqx (k : Nat) (d : Nat → Nat → Nat) (o : Nat → Nat) (d' : Nat → Nat → Nat) (o' : Nat → Nat) (s t : Nat) : Prop := ∀ w : List Nat, (∀ c ∈ w, c < k) → o (w.foldl d s) = o' (w.foldl d' t)
abbrev Eqv (k : Nat) (d : Nat → Nat → Nat) (o : Nat → Nat) (s t : Nat) : Prop := Eqx k d o d o s t
theorem Eqx.out {k : Nat} {d d' : Nat → Nat → Nat} {o o' : Nat → Nat} {s t : Nat} (h : Eqx k d o d' o' s t) : o s = o' t := h [] (by simp)
theorem Eqx.step {k : Nat} {d d' : Nat → Nat → Nat} {o o' : Nat → Nat} {s t c : Nat} (h : Eqx k d o d' o' s t) (hc : c < k) : Eqx k d o d' o' (d s c) (d' t c) := fun w hw => h (c :: w) (fun x hx => by rcases List.mem_cons.1 hx with rfl | hx; exact hc; exact hw x hx)
theorem Eqx.symm {k : Nat} {d d' : Nat → Nat → Nat} {o o' : Nat → Nat} {s t : Nat} (h : Eqx k d o d' o' s t) : Eqx k d' o' d o t s := fun w hw => (h w hw).symm
theorem Eqx.trans {k : Nat} {d d' d2 : Nat → Nat → Nat} {o o' o2 : Nat → Nat} {s t u : Nat} (h : Eqx k d o d' o' s t) (g : Eqx k d' o' d2 o2 t u) : Eqx k d o d2 o2 s u := fun w hw => (h w hw).trans (g w hw)
theorem Eqx.refl {k : Nat} {d : Nat → Nat → Nat} {o : Nat → Nat} (s : Nat) : Eqv k d o s s := fun w hw => rfl
/-- what leads to a set of groups is alike in each group. -/
def Stab (n k : Nat) (d : Nat → Nat → Nat) (g : Nat → Nat) (T : Nat → Prop) : Prop := ∀ s t c, s < n → t < n → c < k → g s = g t → (T (g (d s c)) ↔ T (g (d t c)))
/-- groups parted by a set of states. -/
structure Split (n : Nat) (g : Nat → Nat) (K : Nat) (D : Nat → Prop) (g' : Nat → Nat) (K' : Nat) : Prop where
  le : K ≤ K'
  lt : ∀ s, s < n → g' s < K'
  new : ∀ s, s < n → g' s = g s ∨ K ≤ g' s
  iff : ∀ s t, s < n → t < n → (g' s = g' t ↔ g s = g t ∧ (D s ↔ D t))
/-- each number that was looked at is, with greater ones, a set that groups are alike to. -/
def Inv (n k : Nat) (d : Nat → Nat → Nat) (g : Nat → Nat) (K i : Nat) : Prop := ∀ j, j < i → ∃ T : Nat → Prop, T j ∧ (∀ t, T t → t < K → j ≤ t) ∧ Stab n k d g T
theorem Inv.split {n k : Nat} {d : Nat → Nat → Nat} {g g' : Nat → Nat} {K K' i : Nat} {D : Nat → Prop} (hd : ∀ s c, s < n → c < k → d s c < n) (hiK : i ≤ K) (h : Inv n k d g K i) (hs : Split n g K D g' K') : Inv n k d g' K' i := fun j hj => by
  obtain ⟨T, h1, h2, h3⟩ := h j hj
  have key : ∀ x, x < n → ((T (g' x) ∧ g' x < K ∨ ∃ y, y < n ∧ g' y = g' x ∧ T (g y)) ↔ T (g x)) := fun x hx => by
    constructor
    · rintro (⟨a, b⟩ | ⟨y, hy, e, hT⟩)
      · rcases hs.new x hx with e | e
        · rw [← e]; exact a
        · omega
      · rw [← ((hs.iff y x hy hx).1 e).1]; exact hT
    · exact fun a => Or.inr ⟨x, hx, rfl, a⟩
  refine ⟨fun t => T t ∧ t < K ∨ ∃ y, y < n ∧ g' y = t ∧ T (g y), Or.inl ⟨h1, by omega⟩, ?_, ?_⟩
  · rintro t (⟨a, b⟩ | ⟨y, hy, e, hT⟩) ht
    · exact h2 t a b
    · rcases hs.new y hy with e2 | e2
      · have hl : g y < K ∨ K ≤ g y := by omega
        rcases hl with hl | hl
        · have := h2 _ hT hl; omega
        · omega
      · omega
  · intro s t c hsn htn hc e
    exact ((key _ (hd s c hsn hc)).trans (h3 s t c hsn htn hc ((hs.iff s t hsn htn).1 e).1)).trans (key _ (hd t c htn hc)).symm
/-- states that tell the same are in one group. -/
def Sound (n k : Nat) (d : Nat → Nat → Nat) (o g : Nat → Nat) : Prop := ∀ s t, s < n → t < n → Eqv k d o s t → g s = g t
theorem Sound.split {n k : Nat} {d : Nat → Nat → Nat} {o g g' : Nat → Nat} {K K' : Nat} {D : Nat → Prop} (h : Sound n k d o g) (hs : Split n g K D g' K') (hD : ∀ s t, s < n → t < n → Eqv k d o s t → (D s ↔ D t)) : Sound n k d o g' :=
  fun s t a b e => (hs.iff s t a b).2 ⟨h s t a b e, hD s t a b e⟩
theorem stab_one {n k : Nat} {d : Nat → Nat → Nat} {g : Nat → Nat} {K : Nat} (hd : ∀ s c, s < n → c < k → d s c < n) (hg : ∀ s, s < n → g s < K) (h : Inv n k d g K K) : ∀ m j, K - j ≤ m → j < K → ∀ s t c, s < n → t < n → c < k → g s = g t → g (d s c) = j → g (d t c) = j := by
  intro m
  induction m with
  | zero => intro j h1 h2; omega
  | succ m ih =>
    intro j h1 h2 s t c hs ht hc e hj
    obtain ⟨T, a, b, st⟩ := h j h2
    have hT : T (g (d t c)) := (st s t c hs ht hc e).1 (by rw [hj]; exact a)
    have hlt := hg _ (hd t c ht hc)
    have hle := b _ hT hlt
    by_cases heq : g (d t c) = j
    · exact heq
    · have := ih (g (d t c)) (by omega) hlt t s c ht hs hc e.symm rfl
      omega
/-- at the end groups are the states that tell the same. -/
theorem done {n k : Nat} {d : Nat → Nat → Nat} {o g : Nat → Nat} {K : Nat} (hd : ∀ s c, s < n → c < k → d s c < n) (hg : ∀ s, s < n → g s < K) (h : Inv n k d g K K) (ho : ∀ s t, s < n → t < n → g s = g t → o s = o t) : ∀ (w : List Nat), (∀ c ∈ w, c < k) → ∀ s t, s < n → t < n → g s = g t → o (w.foldl d s) = o (w.foldl d t)
  | [], _, s, t, hs, ht, e => ho s t hs ht e
  | c :: w, hw, s, t, hs, ht, e => by
    have hc := hw c (by simp)
    have := stab_one hd hg h (K - g (d s c)) (g (d s c)) (by omega) (hg _ (hd s c hs hc)) s t c hs ht hc e rfl
    exact done hd hg h ho w (fun x hx => hw x (by simp [hx])) (d s c) (d t c) (hd s c hs hc) (hd t c ht hc) this.symm
/-- groups, while group i is looked at: by so many classes. -/
structure At (n k : Nat) (d : Nat → Nat → Nat) (g0 : Nat → Nat) (K0 i : Nat) (c0 : Nat) (g : Nat → Nat) (K : Nat) : Prop where
  le : K0 ≤ K
  fine : ∀ s t, s < n → t < n → g s = g t → g0 s = g0 t
  new : ∀ s, s < n → g s = g0 s ∨ K0 ≤ g s
  by' : ∀ c, c < c0 → ∀ s t, s < n → t < n → g s = g t → (g0 (d s c) = i ↔ g0 (d t c) = i)
theorem At.start {n k : Nat} {d : Nat → Nat → Nat} (g0 : Nat → Nat) (K0 i : Nat) : At n k d g0 K0 i 0 g0 K0 := ⟨Nat.le_refl _, fun _ _ _ _ e => e, fun _ _ => Or.inl rfl, fun c h => by omega⟩
theorem At.next {n k : Nat} {d : Nat → Nat → Nat} {g0 g g' : Nat → Nat} {K0 i c0 K K' : Nat} (h : At n k d g0 K0 i c0 g K) (hs : Split n g K (fun s => g0 (d s c0) = i) g' K') : At n k d g0 K0 i (c0 + 1) g' K' := by
  refine ⟨Nat.le_trans h.le hs.le, fun s t a b e => h.fine s t a b ((hs.iff s t a b).1 e).1, fun s a => ?_, fun c hc s t a b e => ?_⟩
  · rcases hs.new s a with e | e
    · rw [e]; exact h.new s a
    · exact Or.inr (Nat.le_trans h.le e)
  · have e2 := (hs.iff s t a b).1 e
    by_cases hcc : c = c0
    · subst hcc; exact e2.2
    · exact h.by' c (by omega) s t a b e2.1
theorem At.done {n k : Nat} {d : Nat → Nat → Nat} {g0 g : Nat → Nat} {K0 i K : Nat} (hd : ∀ s c, s < n → c < k → d s c < n) (h : At n k d g0 K0 i k g K) (hi : i < K0) (hI : Inv n k d g K i) : Inv n k d g K (i + 1) := fun j hj => by
  by_cases e : j = i
  · subst e
    have key : ∀ x, x < n → ((g x = j ∨ ∃ y, y < n ∧ g y = g x ∧ g0 y = j) ↔ g0 x = j) := fun x hx => by
      constructor
      · rintro (e | ⟨y, hy, e, e2⟩)
        · rcases h.new x hx with e3 | e3 <;> omega
        · rw [← h.fine y x hy hx e]; exact e2
      · exact fun e => Or.inr ⟨x, hx, rfl, e⟩
    refine ⟨fun t => t = j ∨ ∃ y, y < n ∧ g y = t ∧ g0 y = j, Or.inl rfl, ?_, ?_⟩
    · rintro t (e | ⟨y, hy, e, e2⟩) ht
      · omega
      · rcases h.new y hy with e3 | e3 <;> omega
    · intro s t c hs ht hc e
      exact ((key _ (hd s c hs hc)).trans (h.by' c hc s t hs ht e)).trans (key _ (hd t c ht hc)).symm
  · exact hI j (by omega)
/-! ### numbers, as states are come to -/
/-- numbers, each known or the next one: from m known on to M. -/
def Ord : List Nat → Nat → Nat → Prop
  | [], m, M => m = M
  | j :: F, m, M => (j < m ∧ Ord F m M) ∨ (j = m ∧ Ord F (m + 1) M)
def OrdRows : List (List Nat) → Nat → Nat → Nat → Prop
  | [], i, m, M => m = M ∧ i = M
  | row :: rows, i, m, M => i < m ∧ ∃ m', Ord row m m' ∧ OrdRows rows (i + 1) m' M
/-- the least automaton. -/
structure Lst (n k : Nat) (d : Nat → Nat → Nat) (o : Nat → Nat) (nx : List (List Nat)) (out r : List Nat) : Prop where
  zero : r[0]? = some 0
  len : r.length = nx.length
  olen : out.length = nx.length
  st : ∀ i s : Nat, r[i]? = some s → s < n ∧ out[i]? = some (o s)
  row : ∀ i s : Nat, r[i]? = some s → ∃ row, nx[i]? = some row ∧ row.length = k ∧ ∀ c j : Nat, row[c]? = some j → ∃ t, r[j]? = some t ∧ Eqv k d o t (d s c)
  one : ∀ i j s t : Nat, r[i]? = some s → r[j]? = some t → Eqv k d o s t → i = j
  ord : OrdRows nx 0 1 nx.length
theorem ord_le : ∀ (F : List Nat) (m M : Nat), Ord F m M → m ≤ M
  | [], m, M, h => by unfold Ord at h; omega
  | j :: F, m, M, h => by
    unfold Ord at h
    rcases h with ⟨_, h⟩ | ⟨_, h⟩
    · exact ord_le F m M h
    · have := ord_le F (m + 1) M h; omega
/-- one row of both. -/
theorem row_same {k n n' : Nat} {d d' : Nat → Nat → Nat} {o o' : Nat → Nat} {nx nx' : List (List Nat)} {out out' r r' : List Nat} (h : Lst n k d o nx out r) (h' : Lst n' k d' o' nx' out' r') {s s' : Nat} (hs : Eqx k d o d' o' s s') :
    ∀ (F F' : List Nat) (c m m1 m1' : Nat), F.length = F'.length → c + F.length ≤ k → Ord F m m1 → Ord F' m m1' → m1 ≤ r.length → m1' ≤ r'.length → (∀ x j : Nat, F[x]? = some j → ∃ t, r[j]? = some t ∧ Eqv k d o t (d s (c + x))) → (∀ x j : Nat, F'[x]? = some j → ∃ t, r'[j]? = some t ∧ Eqv k d' o' t (d' s' (c + x))) →
      (∀ j t t' : Nat, j < m → r[j]? = some t → r'[j]? = some t' → Eqx k d o d' o' t t') → F = F' ∧ m1 = m1' ∧ (∀ j t t' : Nat, j < m1 → r[j]? = some t → r'[j]? = some t' → Eqx k d o d' o' t t')
  | [], [], c, m, m1, m1', _, _, g, g', _, _, _, _, hm => by
    unfold Ord at g g'
    exact ⟨rfl, by omega, fun j t t' a => hm j t t' (by omega)⟩
  | [], _ :: _, _, _, _, _, hl, _, _, _, _, _, _, _, _ => by simp at hl
  | _ :: _, [], _, _, _, _, hl, _, _, _, _, _, _, _, _ => by simp at hl
  | j :: F, j' :: F', c, m, m1, m1', hl, hk, g, g', hr, hr', hF, hF', hm => by
    simp only [List.length_cons] at hl hk
    obtain ⟨t, ht, et⟩ := hF 0 j rfl
    obtain ⟨t', ht', et'⟩ := hF' 0 j' rfl
    rw [Nat.add_zero] at et et'
    have hst : Eqx k d o d' o' t t' := (et.trans (hs.step (by omega))).trans et'.symm
    have go : ∀ m2, Ord F m2 m1 → Ord F' m2 m1' → (∀ j t t' : Nat, j < m2 → r[j]? = some t → r'[j]? = some t' → Eqx k d o d' o' t t') → F = F' ∧ m1 = m1' ∧ (∀ j t t' : Nat, j < m1 → r[j]? = some t → r'[j]? = some t' → Eqx k d o d' o' t t') := fun m2 a a' hm2 =>
      row_same h h' hs F F' (c + 1) m2 m1 m1' (by omega) (by omega) a a' hr hr' (fun x i hx => by have := hF (x + 1) i (by simpa using hx); rw [show c + 1 + x = c + (x + 1) by omega]; exact this) (fun x i hx => by have := hF' (x + 1) i (by simpa using hx); rw [show c + 1 + x = c + (x + 1) by omega]; exact this) hm2
    unfold Ord at g g'
    have up : m ≤ m1 := by rcases g with ⟨_, g⟩ | ⟨_, g⟩ <;> have := ord_le _ _ _ g <;> omega
    have up' : m ≤ m1' := by rcases g' with ⟨_, g⟩ | ⟨_, g⟩ <;> have := ord_le _ _ _ g <;> omega
    have e : j = j' := by
      rcases g with ⟨a, g⟩ | ⟨a, g⟩
      · -- j is known: r'[j] tells what r[j] tells
        obtain ⟨u', hu'⟩ : ∃ u', r'[j]? = some u' := ⟨_, List.getElem?_eq_getElem (by omega)⟩
        have := hm j t u' a ht hu'
        exact h'.one j j' u' t' hu' ht' ((this.symm.trans hst))
      · rcases g' with ⟨b, g'⟩ | ⟨b, g'⟩
        · obtain ⟨u, hu⟩ : ∃ u, r[j']? = some u := ⟨_, List.getElem?_eq_getElem (by omega)⟩
          have := hm j' u t' b hu ht'
          exact h.one j j' t u ht hu (hst.trans this.symm)
        · omega
    subst e
    rcases g with ⟨a, g⟩ | ⟨a, g⟩
    · rcases g' with ⟨b, g'⟩ | ⟨b, g'⟩
      · obtain ⟨x, y, z⟩ := go m g g' hm
        exact ⟨by rw [x], y, z⟩
      · omega
    · rcases g' with ⟨b, g'⟩ | ⟨b, g'⟩
      · omega
      · obtain ⟨x, y, z⟩ := go (m + 1) g g' (fun i u u' hi hu hu' => by
          by_cases e : i = m
          · subst e
            subst a
            rw [ht] at hu
            rw [ht'] at hu'
            injection hu with hu
            injection hu' with hu'
            subst hu
            subst hu'
            exact hst
          · exact hm i u u' (by omega) hu hu')
        exact ⟨by rw [x], y, z⟩
theorem ordRows_le : ∀ (rows : List (List Nat)) (i m M : Nat), OrdRows rows i m M → m ≤ M
  | [], i, m, M, h => by unfold OrdRows at h; omega
  | row :: rows, i, m, M, h => by
    unfold OrdRows at h
    obtain ⟨_, m', h1, h2⟩ := h
    have := ord_le _ _ _ h1
    have := ordRows_le rows _ _ _ h2
    omega
theorem rows_same {k n n' : Nat} {d d' : Nat → Nat → Nat} {o o' : Nat → Nat} {nx nx' : List (List Nat)} {out out' r r' : List Nat} (h : Lst n k d o nx out r) (h' : Lst n' k d' o' nx' out' r') :
    ∀ (R R' : List (List Nat)) (i m : Nat), nx.drop i = R → nx'.drop i = R' → OrdRows R i m nx.length → OrdRows R' i m nx'.length → (∀ j t t' : Nat, j < m → r[j]? = some t → r'[j]? = some t' → Eqx k d o d' o' t t') →
      R = R' ∧ (∀ j t t' : Nat, j < nx.length → r[j]? = some t → r'[j]? = some t' → Eqx k d o d' o' t t')
  | [], [], i, m, _, _, g, g', hm => by
    unfold OrdRows at g g'
    exact ⟨rfl, fun j t t' a => hm j t t' (by omega)⟩
  | [], row :: R', i, m, _, _, g, g', hm => by
    unfold OrdRows at g g'
    obtain ⟨a, _⟩ := g'
    omega
  | row :: R, [], i, m, _, _, g, g', hm => by
    unfold OrdRows at g g'
    obtain ⟨a, _⟩ := g
    omega
  | row :: R, row' :: R', i, m, hR, hR', g, g', hm => by
    have hlen := h.len
    have hlen' := h'.len
    unfold OrdRows at g g'
    obtain ⟨a, m1, b, g2⟩ := g
    obtain ⟨a', m1', b', g2'⟩ := g'
    have l1 := ordRows_le _ _ _ _ g2
    have l1' := ordRows_le _ _ _ _ g2'
    have ei : nx[i]? = some row := by
      have : (nx.drop i)[0]? = nx[i + 0]? := List.getElem?_drop
      rw [hR] at this
      exact this.symm
    have ei' : nx'[i]? = some row' := by
      have : (nx'.drop i)[0]? = nx'[i + 0]? := List.getElem?_drop
      rw [hR'] at this
      exact this.symm
    have il := (List.getElem?_eq_some_iff.1 ei).1
    have il' := (List.getElem?_eq_some_iff.1 ei').1
    obtain ⟨s, hs⟩ : ∃ s, r[i]? = some s := ⟨_, List.getElem?_eq_getElem (by omega)⟩
    obtain ⟨s', hs'⟩ : ∃ s', r'[i]? = some s' := ⟨_, List.getElem?_eq_getElem (by omega)⟩
    obtain ⟨x, hx, hxk, hxr⟩ := h.row i s hs
    obtain ⟨x', hx', hxk', hxr'⟩ := h'.row i s' hs'
    rw [ei] at hx
    rw [ei'] at hx'
    injection hx with hx
    injection hx' with hx'
    subst hx
    subst hx'
    obtain ⟨e1, e2, e3⟩ := row_same h h' (hm i s s' a hs hs') row row' 0 m m1 m1' (by omega) (by omega) b b' (by omega) (by omega) (fun x j hj => by rw [Nat.zero_add]; exact hxr x j hj) (fun x j hj => by rw [Nat.zero_add]; exact hxr' x j hj) hm
    subst e2
    have n1 : nx.drop (i + 1) = R := by
      have : nx.drop (i + 1) = (nx.drop i).drop 1 := by rw [List.drop_drop]
      rw [this, hR]; rfl
    have n1' : nx'.drop (i + 1) = R' := by
      have : nx'.drop (i + 1) = (nx'.drop i).drop 1 := by rw [List.drop_drop]
      rw [this, hR']; rfl
    obtain ⟨q1, q2⟩ := rows_same h h' R R' (i + 1) m1 n1 n1' g2 g2' e3
    exact ⟨by rw [e1, q1], q2⟩
/-- automata that tell the same from 0 on have one least automaton. -/
theorem lst_one {k n n' : Nat} {d d' : Nat → Nat → Nat} {o o' : Nat → Nat} {nx nx' : List (List Nat)} {out out' r r' : List Nat} (h : Lst n k d o nx out r) (h' : Lst n' k d' o' nx' out' r') (h0 : Eqx k d o d' o' 0 0) : nx = nx' ∧ out = out' := by
  obtain ⟨e1, e2⟩ := rows_same h h' nx nx' 0 1 rfl rfl h.ord h'.ord (fun j t t' hj ht ht' => by
    obtain rfl : j = 0 := by omega
    rw [h.zero] at ht
    rw [h'.zero] at ht'
    injection ht with ht
    injection ht' with ht'
    subst ht
    subst ht'
    exact h0)
  subst e1
  refine ⟨rfl, List.ext_getElem? (fun i => ?_)⟩
  have l1 := h.len
  have l2 := h'.len
  have l3 := h.olen
  have l4 := h'.olen
  by_cases hi : i < nx.length
  · obtain ⟨s, hs⟩ : ∃ s, r[i]? = some s := ⟨_, List.getElem?_eq_getElem (by omega)⟩
    obtain ⟨s', hs'⟩ : ∃ s', r'[i]? = some s' := ⟨_, List.getElem?_eq_getElem (by omega)⟩
    rw [(h.st i s hs).2, (h'.st i s' hs').2, (e2 i s s' hi hs hs').out]
  · rw [List.getElem?_eq_none (by omega), List.getElem?_eq_none (by omega)]
end Hm
end Go.Proofs.Ytelifjeppegcmaa
