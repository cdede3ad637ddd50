/-
  Patterns that were read, written again, are read as the same; no walk in it.
-/
import Derived.Test.YtjgbfpemkjpikaaDoorBk0
namespace Go.Proofs.YtjgbfpemkjpikaaDoor
set_option linter.unusedVariables false
set_option linter.unusedSimpArgs false
/-- what stands between blanks bears no blank. -/
theorem cuts_nobl (X : List Nat) : ∀ (R : List Nat) (i f : Nat), X.drop i = R → f ≤ i → (∀ j, f ≤ j → j < i → ∀ c, X[j]? = some c → Pt.isBl c = false) → ∀ p ∈ cuts R i f, ∀ j, p.1 ≤ j → j < p.2 → ∀ c, X[j]? = some c → Pt.isBl c = false
  | [], i, f, hR, hf, hn, p, hp, j, h1, h2, c, hc => by
    unfold cuts at hp
    split at hp
    · simp at hp
      subst hp
      exact hn j h1 h2 c hc
    · cases hp
  | d :: R, i, f, hR, hf, hn, p, hp, j, h1, h2, c, hc => by
    have hd : X.drop (i + 1) = R := by
      have : X.drop (i + 1) = (X.drop i).drop 1 := by rw [List.drop_drop]
      rw [this, hR]
      rfl
    have hdi : X[i]? = some d := by
      have : (X.drop i)[0]? = X[i + 0]? := List.getElem?_drop
      rw [hR] at this
      exact this.symm
    have none : ∀ j, i + 1 ≤ j → j < i + 1 → ∀ c, X[j]? = some c → Pt.isBl c = false := fun j a b => by omega
    unfold cuts at hp
    split at hp
    · split at hp
      · rcases List.mem_cons.1 hp with rfl | hp
        · exact hn j h1 h2 c hc
        · exact cuts_nobl X R (i + 1) (i + 1) hd (Nat.le_refl _) none p hp j h1 h2 c hc
      · exact cuts_nobl X R (i + 1) (i + 1) hd (Nat.le_refl _) none p hp j h1 h2 c hc
    · rename_i hb
      refine cuts_nobl X R (i + 1) f hd (by omega) (fun j a b c' hc' => ?_) p hp j h1 h2 c hc
      by_cases e : j = i
      · subst e
        rw [hdi] at hc'
        injection hc' with hc'
        subst hc'
        simpa using hb
      · exact hn j a (by omega) c' hc'
theorem rs_word (S : List (Nat × Nat × Nat)) (p : Nat × Nat) : rs (wordOf S p) = ((rs S).drop p.1).take (p.2 - p.1) := by
  unfold rs wordOf
  rw [List.map_take, List.map_drop]
theorem wds_fine (S : List (Nat × Nat × Nat)) : ∀ x ∈ wds S, ∀ c ∈ x.1, Pt.isBl c = false ∧ c ∈ rs S := fun x hx c hc => by
  unfold wds at hx
  obtain ⟨p, hp, rfl⟩ := List.mem_map.1 hx
  simp only at hc
  rw [rs_word] at hc
  obtain ⟨j, hj⟩ := List.getElem?_of_mem hc
  rw [List.getElem?_take] at hj
  split at hj
  · rename_i hlt
    rw [List.getElem?_drop] at hj
    exact ⟨cuts_nobl (rs S) (rs S) 0 0 rfl (Nat.le_refl _) (fun j a b => by omega) p hp (p.1 + j) (by omega) (by omega) c hj, List.mem_of_getElem? hj⟩
  · cases hj
/-- lists that were read. -/
structure Gd (P Q : List Pt.Pat) : Prop where
  p : ∀ x ∈ P, Fit false x
  q : ∀ x ∈ Q, Fit true x
  one : Q.Pairwise (fun x y => x.letters ≠ y.letters)
theorem wrun_good : ∀ (l : List (List Nat × Nat)) (P Q : List Pt.Pat), (∀ x ∈ l, ∀ c ∈ x.1, Pt.isBl c = false ∧ Right c) → Gd P Q → (wrun l P Q).1 = 0 → Gd (wrun l P Q).2.2.1 (wrun l P Q).2.2.2
  | [], P, Q, _, h, _ => h
  | x :: l, P, Q, hl, h, h0 => by
    simp only [wrun] at h0 ⊢
    by_cases hz : (addR x.1 P Q).1 = 0
    · rw [if_pos hz] at h0 ⊢
      refine wrun_good l _ _ (fun y hy => hl y (by simp [hy])) ?_ h0
      unfold addR at hz ⊢
      split at hz
      · cases hz
      · rename_i hf
        rw [if_neg hf]
        split at hz
        · rename_i h45
          rw [if_pos h45]
          cases ht : Pt.told x.1 with
          | none => rw [ht] at hz; cases hz
          | some p =>
            rw [ht] at hz
            simp only at hz ⊢
            split at hz
            · cases hz
            · rename_i hq
              rw [if_neg hq]
              refine ⟨h.p, fun y hy => ?_, ?_⟩
              · rcases List.mem_append.1 hy with hy | hy
                · exact h.q y hy
                · simp at hy
                  subst hy
                  exact fit_told ht h45 (hl x (by simp))
              · refine List.pairwise_append.2 ⟨h.one, List.pairwise_singleton _ _, fun a ha b hb => ?_⟩
                simp at hb
                subst hb
                intro e
                exact hq (List.any_eq_true.2 ⟨a, ha, by unfold tq; simpa using e⟩)
        · rename_i h45
          rw [if_neg h45]
          cases ht : Pt.patt x.1 with
          | none => rw [ht] at hz; cases hz
          | some p =>
            refine ⟨fun y hy => ?_, h.q, h.one⟩
            rcases List.mem_append.1 hy with hy | hy
            · exact h.p y hy
            · simp at hy
              subst hy
              exact fit_patt ht h45 (hl x (by simp))
    · rw [if_neg hz] at h0
      exact absurd h0 hz
theorem parse_good {s : ByteArray} (h : (parseR s).1 = 0) : Gd (parseR s).2.2.1 (parseR s).2.2.2 := by
  have hs : s.size ≤ 4096 := by
    by_cases hb : 4096 < s.size
    · unfold parseR at h
      rw [if_pos hb] at h
      cases h
    · omega
  rw [parse_wrun hs] at h ⊢
  refine wrun_good _ _ _ (fun x hx c hc => ?_) ⟨fun x h => (by cases h), fun x h => (by cases h), List.Pairwise.nil⟩ h
  obtain ⟨h1, h2⟩ := wds_fine _ x hx c hc
  refine ⟨h1, ?_⟩
  unfold rs at h2
  obtain ⟨y, hy, rfl⟩ := List.mem_map.1 h2
  exact Sg.rest_right s.size (bx s) (fun j => bx_lt s j) s.size 0 (by omega) y hy
/-- words of signs alone. -/
def wl0 (X : List Nat) : List (List Nat) := (cuts X 0 0).map (fun p => (X.drop p.1).take (p.2 - p.1))
theorem wl0_wds (S : List (Nat × Nat × Nat)) : (wds S).map (·.1) = wl0 (rs S) := by
  unfold wds wl0
  rw [List.map_map]
  exact List.map_congr_left (fun p _ => rs_word S p)
theorem wl0_sep (A B : List Nat) {r : Nat} (hr : Pt.isBl r = true) : wl0 (A ++ r :: B) = wl0 A ++ wl0 B := by
  have e : ∀ X : List Nat, rs (X.map (fun c => (c, 0, 0))) = X := fun X => by unfold rs; rw [List.map_map]; exact List.map_id _
  have h := wds_sep (A.map (fun c => (c, 0, 0))) (B.map (fun c => (c, 0, 0))) (r := r) (a := 0) (c := 0) hr
  have h2 := congrArg (List.map (·.1)) h
  rw [List.map_append, wl0_wds, wl0_wds, wl0_wds, e, e] at h2
  have e2 : rs (A.map (fun c => (c, 0, 0)) ++ (r, 0, 0) :: B.map (fun c => (c, 0, 0))) = A ++ r :: B := by
    rw [← List.map_cons (f := fun c => ((c, 0, 0) : Nat × Nat × Nat)), ← List.map_append, e]
  rw [e2] at h2
  exact h2
theorem cuts_word : ∀ (A : List Nat) (i f : Nat), (∀ c ∈ A, Pt.isBl c = false) → f < i + A.length → cuts A i f = [(f, i + A.length)]
  | [], i, f, _, h => by
    unfold cuts
    rw [if_pos (by simpa using h)]
    rfl
  | c :: A, i, f, hb, h => by
    unfold cuts
    rw [if_neg (by rw [hb c (by simp)]; simp)]
    by_cases hA : A = []
    · subst hA
      unfold cuts
      simp at h
      rw [if_pos (by omega)]
      rfl
    · have hpos : 0 < A.length := List.length_pos_iff.2 hA
      rw [List.length_cons] at h ⊢
      rw [cuts_word A (i + 1) f (fun c' h' => hb c' (by simp [h'])) (by omega), show i + 1 + A.length = i + (A.length + 1) by omega]
theorem wl0_word {A : List Nat} (h : ∀ c ∈ A, Pt.isBl c = false) (h0 : 0 < A.length) : wl0 A = [A] := by
  unfold wl0
  rw [cuts_word A 0 0 h (by omega)]
  simp
/-- a list written. -/
def tws (td : Bool) (b : Nat) (P : List Pt.Pat) : List Nat := P.flatMap (fun p => wr td p ++ [b])
theorem tws_cons (td : Bool) (b : Nat) (p : Pt.Pat) (P : List Pt.Pat) (B : List Nat) : tws td b (p :: P) ++ B = wr td p ++ b :: (tws td b P ++ B) := by
  unfold tws
  simp
theorem Fit.wpos {td : Bool} {p : Pt.Pat} (h : Fit td p) : 0 < (wr td p).length := by
  cases hL : p.letters with
  | nil => have := h.pos; rw [hL] at this; simp at this
  | cons c L =>
    have : c ∈ wr td p := by
      unfold wr
      exact rb_sub _ _ (by rw [List.length_map, h.len]; omega) c (by rw [hL]; simp)
    exact List.length_pos_of_mem this
theorem wl0_tws (td : Bool) {b : Nat} (hb : Pt.isBl b = true) (B : List Nat) : ∀ P : List Pt.Pat, (∀ p ∈ P, Fit td p) → wl0 (tws td b P ++ B) = P.map (wr td) ++ wl0 B
  | [], _ => rfl
  | p :: P, h => by
    rw [tws_cons, wl0_sep _ _ hb, wl0_word (fun c hc => ((h p (by simp)).ok c hc).1) (h p (by simp)).wpos, wl0_tws td hb B P (fun q hq => h q (by simp [hq]))]
    rfl
theorem wrun_fst : ∀ (l l' : List (List Nat × Nat)) (P Q : List Pt.Pat), l.map (·.1) = l'.map (·.1) → (wrun l P Q).1 = (wrun l' P Q).1 ∧ (wrun l P Q).2.2 = (wrun l' P Q).2.2
  | [], [], P, Q, _ => ⟨rfl, rfl⟩
  | [], y :: l', P, Q, h => by simp at h
  | x :: l, [], P, Q, h => by simp at h
  | x :: l, y :: l', P, Q, h => by
    simp only [List.map_cons, List.cons.injEq] at h
    simp only [wrun]
    rw [h.1]
    by_cases h0 : (addR y.1 P Q).1 = 0
    · rw [if_pos h0, if_pos h0]
      exact wrun_fst l l' _ _ h.2
    · rw [if_neg h0, if_neg h0]
      exact ⟨rfl, rfl⟩
theorem wrun_pats (Q : List Pt.Pat) : ∀ (P1 A : List Pt.Pat), (∀ p ∈ P1, Fit false p) → A.length + P1.length + Q.length ≤ 256 → wrun (P1.map (fun p => (wr false p, 0))) A Q = (0, 0, A ++ P1, Q)
  | [], A, _, _ => by simp [wrun]
  | p :: P1, A, h, hl => by
    simp only [List.length_cons] at hl
    have hp := (h p (by simp)).back
    rw [if_neg (by simp)] at hp
    have e : addR (wr false p) A Q = (0, A ++ [p], Q) := by
      unfold addR
      rw [if_neg (by omega), if_neg hp.1, hp.2]
    simp only [List.map_cons, wrun]
    rw [e, if_pos rfl, wrun_pats Q P1 (A ++ [p]) (fun q hq => h q (by simp [hq])) (by simp; omega)]
    simp
theorem wrun_tolds (P : List Pt.Pat) : ∀ (Q1 B : List Pt.Pat), (∀ p ∈ Q1, Fit true p) → (B ++ Q1).Pairwise (fun x y => x.letters ≠ y.letters) → P.length + B.length + Q1.length ≤ 256 → wrun (Q1.map (fun p => (wr true p, 0))) P B = (0, 0, P, B ++ Q1)
  | [], B, _, _, _ => by simp [wrun]
  | p :: Q1, B, h, hpw, hl => by
    simp only [List.length_cons] at hl
    have hp := (h p (by simp)).back
    rw [if_pos rfl] at hp
    have hno : ¬ B.any (tq p.letters) = true := fun hc => by
      obtain ⟨q, hq, e⟩ := List.any_eq_true.1 hc
      unfold tq at e
      exact (List.pairwise_append.1 hpw).2.2 q hq p (by simp) (by simpa using e)
    have e : addR (wr true p) P B = (0, P, B ++ [p]) := by
      unfold addR
      rw [if_neg (by omega), if_pos hp.1, hp.2]
      simp only
      rw [if_neg hno]
    simp only [List.map_cons, wrun]
    rw [e, if_pos rfl, wrun_tolds P Q1 (B ++ [p]) (fun q hq => h q (by simp [hq])) (by simpa using hpw) (by simp; omega)]
    simp
/-- written again, all is read as the same. -/
theorem parse_back {t : ByteArray} {P Q : List Pt.Pat} (hG : Gd P Q) (hl : P.length + Q.length ≤ 256) (ht : tl t = txt (tws false 10 P ++ tws true 32 Q)) (hs : t.size ≤ 4096) : (parseR t).1 = 0 ∧ (parseR t).2.2 = (P, Q) := by
  have hr : ∀ c ∈ tws false 10 P ++ tws true 32 Q, Right c := fun c hc => by
    unfold tws at hc
    rcases List.mem_append.1 hc with hc | hc
    · obtain ⟨p, hp, hc⟩ := List.mem_flatMap.1 hc
      rcases List.mem_append.1 hc with hc | hc
      · exact ((hG.p p hp).ok c hc).2
      · simp at hc; subst hc; exact Or.inl (by omega)
    · obtain ⟨p, hp, hc⟩ := List.mem_flatMap.1 hc
      rcases List.mem_append.1 hc with hc | hc
      · exact ((hG.q p hp).ok c hc).2
      · simp at hc; subst hc; exact Or.inl (by omega)
  have hrs := sgs_txt ht hr
  have hw : (wds (sgs t)).map (·.1) = P.map (wr false) ++ Q.map (wr true) := by
    rw [wl0_wds, hrs, wl0_tws false (by decide) _ P hG.p]
    have := wl0_tws true (b := 32) (by decide) [] Q hG.q
    rw [List.append_nil] at this
    rw [this]
    show P.map (wr false) ++ (Q.map (wr true) ++ []) = _
    rw [List.append_nil]
  have h2 := wrun_fst (wds (sgs t)) (P.map (fun p => (wr false p, 0)) ++ Q.map (fun p => (wr true p, 0))) [] [] (by rw [hw, List.map_append, List.map_map, List.map_map]; rfl)
  have h3 : wrun (P.map (fun p => (wr false p, 0)) ++ Q.map (fun p => (wr true p, 0))) [] [] = (0, 0, P, Q) := by
    rw [wrun_app, wrun_pats [] P [] hG.p (by simp; omega)]
    rw [if_pos rfl]
    exact wrun_tolds P Q [] hG.q hG.one (by simp; omega)
  rw [h3] at h2
  rw [parse_wrun hs]
  exact h2
end Go.Proofs.YtjgbfpemkjpikaaDoor
