/-
  Words of a text that is two texts with a blank between; what is read of both together.
-/
import Derived.Test.YtjgbfpemkjpikaaDoorL12
import Derived.Test.YtjgbfpemkjpikaaDoorJn0
namespace Go.Proofs.YtjgbfpemkjpikaaDoor
set_option linter.unusedVariables false
set_option linter.unusedSimpArgs false
theorem cuts_sep {r : Nat} (hr : Pt.isBl r = true) (B : List Nat) : ∀ (A : List Nat) (i f : Nat), f ≤ i → cuts (A ++ r :: B) i f = cuts A i f ++ cuts B (i + A.length + 1) (i + A.length + 1)
  | [], i, f, h => by
    simp only [List.nil_append, cuts, hr, if_true, List.length_nil, Nat.add_zero]
    split <;> simp
  | c :: A, i, f, h => by
    have e : i + 1 + A.length + 1 = i + (A.length + 1) + 1 := by omega
    simp only [List.cons_append, cuts, List.length_cons]
    split
    · split
      · rw [cuts_sep hr B A (i + 1) (i + 1) (Nat.le_refl _), e]
        rfl
      · rw [cuts_sep hr B A (i + 1) (i + 1) (Nat.le_refl _), e]
    · rw [cuts_sep hr B A (i + 1) f (by omega), e]
theorem cuts_shift (d : Nat) : ∀ (A : List Nat) (i f : Nat), cuts A (d + i) (d + f) = (cuts A i f).map (fun p => (d + p.1, d + p.2))
  | [], i, f => by
    simp only [cuts]
    by_cases h : f < i
    · rw [if_pos h, if_pos (by omega)]; rfl
    · rw [if_neg h, if_neg (by omega)]; rfl
  | c :: A, i, f => by
    simp only [cuts]
    have e := cuts_shift d A (i + 1) (i + 1)
    rw [← Nat.add_assoc] at e
    by_cases hb : Pt.isBl c = true
    · rw [if_pos hb, if_pos hb]
      by_cases h : f < i
      · rw [if_pos h, if_pos (by omega), e]; rfl
      · rw [if_neg h, if_neg (by omega), e]
    · rw [if_neg hb, if_neg hb]
      have e2 := cuts_shift d A (i + 1) f
      rw [← Nat.add_assoc] at e2
      rw [e2]
/-- a text's words, and where they begin. -/
def wds (S : List (Nat × Nat × Nat)) : List (List Nat × Nat) := (cuts (rs S) 0 0).map (fun p => (rs (wordOf S p), atOf S p))
/-- words, one behind the other. -/
def wrun : List (List Nat × Nat) → List Pt.Pat → List Pt.Pat → Nat × Nat × List Pt.Pat × List Pt.Pat
  | [], P, Q => (0, 0, P, Q)
  | x :: l, P, Q => if (addR x.1 P Q).1 = 0 then wrun l (addR x.1 P Q).2.1 (addR x.1 P Q).2.2 else ((addR x.1 P Q).1, x.2, [], [])
theorem runs_wrun (S : List (Nat × Nat × Nat)) : ∀ (C : List (Nat × Nat)) (P Q : List Pt.Pat), runs S C P Q = wrun (C.map (fun p => (rs (wordOf S p), atOf S p))) P Q
  | [], P, Q => rfl
  | p :: C, P, Q => by
    simp only [runs, List.map_cons, wrun]
    rw [runs_wrun S C]
theorem rs_len (S : List (Nat × Nat × Nat)) : (rs S).length = S.length := by unfold rs; simp
theorem parse_wrun {s : ByteArray} (h : s.size ≤ 4096) : parseR s = wrun (wds (sgs s)) [] [] := by
  unfold parseR
  rw [if_neg (by omega), runs_wrun]
  rfl
theorem wordOf_left (A B : List (Nat × Nat × Nat)) {p : Nat × Nat} (h : p.2 ≤ A.length) (h2 : p.1 < p.2) : wordOf (A ++ B) p = wordOf A p ∧ atOf (A ++ B) p = atOf A p := by
  constructor
  · unfold wordOf
    rw [List.drop_append_of_le_length (by omega), List.take_append_of_le_length (by rw [List.length_drop]; omega)]
  · unfold atOf
    rw [List.getElem?_append_left (by omega)]
theorem wordOf_right (A B : List (Nat × Nat × Nat)) {d : Nat} (hd : d = A.length) (p : Nat × Nat) : wordOf (A ++ B) (d + p.1, d + p.2) = wordOf B p ∧ atOf (A ++ B) (d + p.1, d + p.2) = atOf B p := by
  subst hd
  constructor
  · unfold wordOf
    simp only []
    rw [List.drop_append, show A.length + p.2 - (A.length + p.1) = p.2 - p.1 by omega, List.drop_eq_nil_of_le (by omega : A.length ≤ A.length + p.1), Nat.add_sub_cancel_left]
    rfl
  · unfold atOf
    simp only []
    rw [List.getElem?_append_right (by omega), Nat.add_sub_cancel_left]
theorem wds_sep (A B : List (Nat × Nat × Nat)) {r a c : Nat} (hr : Pt.isBl r = true) : wds (A ++ (r, a, c) :: B) = wds A ++ wds B := by
  unfold wds
  have e : rs (A ++ (r, a, c) :: B) = rs A ++ r :: rs B := by unfold rs; simp
  rw [e, cuts_sep hr _ _ 0 0 (Nat.le_refl _), List.map_append]
  congr 1
  · refine List.map_congr_left (fun p hp => ?_)
    have hk := cuts_ok (rs A) 0 0 (Nat.le_refl _) p hp
    rw [rs_len] at hk
    obtain ⟨e1, e2⟩ := wordOf_left A ((r, a, c) :: B) (p := p) (by omega) hk.1
    rw [e1, e2]
  · have hs := cuts_shift (A.length + 1) (rs B) 0 0
    rw [Nat.add_zero] at hs
    rw [rs_len, Nat.zero_add, hs, List.map_map]
    refine List.map_congr_left (fun p hp => ?_)
    simp only [Function.comp]
    have e3 : A ++ (r, a, c) :: B = (A ++ [(r, a, c)]) ++ B := by simp
    obtain ⟨e1, e2⟩ := wordOf_right (A ++ [(r, a, c)]) B (d := A.length + 1) (by simp) p
    rw [e3, e1, e2]
theorem rs_map (S : List (Nat × Nat × Nat)) (M : Nat) : rs (S.map (fun s => (s.1, s.2.1 + M, s.2.2))) = rs S := by
  unfold rs
  rw [List.map_map]
  rfl
theorem wds_map (S : List (Nat × Nat × Nat)) (M : Nat) : wds (S.map (fun s => (s.1, s.2.1 + M, s.2.2))) = (wds S).map (fun x => (x.1, x.2 + M)) := by
  unfold wds
  rw [rs_map, List.map_map]
  refine List.map_congr_left (fun p hp => ?_)
  have hk := cuts_ok (rs S) 0 0 (Nat.le_refl _) p hp
  rw [rs_len] at hk
  simp only [Function.comp]
  have e1 : wordOf (S.map (fun s => (s.1, s.2.1 + M, s.2.2))) p = (wordOf S p).map (fun s => (s.1, s.2.1 + M, s.2.2)) := by
    unfold wordOf
    rw [List.map_take, List.map_drop]
  have e2 : atOf (S.map (fun s => (s.1, s.2.1 + M, s.2.2))) p = atOf S p + M := by
    unfold atOf
    rw [List.getElem?_map, List.getElem?_eq_getElem (by omega)]
    rfl
  rw [e1, e2, rs_map]
theorem bx_app (a b : ByteArray) (j : Nat) : bx (a ++ b) j = if j < a.size then bx a j else bx b (j - a.size) := by
  unfold bx
  rw [ByteArray.data_append]
  by_cases h : j < a.size
  · rw [if_pos h, Array.getElem?_append_left h]
  · rw [if_neg h, Array.getElem?_append_right (by have : a.size = a.data.size := rfl; omega)]
    rfl
/-- signs of two texts, a byte below 128 between. -/
theorem sgs_sep (a b c : ByteArray) (hc : c.size = 1) (h : bx c 0 < 128) : sgs (a ++ c ++ b) = sgs a ++ (bx c 0, a.size, 1) :: (sgs b).map (fun s => (s.1, s.2.1 + (a.size + 1), s.2.2)) := by
  have hac : (a ++ c).size = a.size + 1 := by rw [ByteArray.size_append, hc]
  have e1 : bx (a ++ c ++ b) a.size = bx c 0 := by
    rw [bx_app, if_pos (by omega), bx_app, if_neg (by omega), Nat.sub_self]
  have := Sg.rest_sep a.size b.size (bx a) (bx (a ++ c ++ b)) (bx b) (fun j hj => by rw [bx_app, if_pos (by omega), bx_app, if_pos hj]) (by rw [e1]; exact h) (fun j => by rw [bx_app, if_neg (by omega), hac, Nat.add_sub_cancel_left]) a.size 0 (by omega) (by omega)
  unfold sgs Sg.all
  rw [ByteArray.size_append, hac, this, e1]
theorem wrun_app : ∀ (l1 l2 : List (List Nat × Nat)) (P Q : List Pt.Pat), wrun (l1 ++ l2) P Q = if (wrun l1 P Q).1 = 0 then wrun l2 (wrun l1 P Q).2.2.1 (wrun l1 P Q).2.2.2 else wrun l1 P Q
  | [], l2, P, Q => by simp [wrun]
  | x :: l1, l2, P, Q => by
    simp only [List.cons_append, wrun]
    by_cases h : (addR x.1 P Q).1 = 0
    · simp only [if_pos h]
      exact wrun_app l1 l2 _ _
    · simp only [if_neg h]
theorem addR_code (R : List Nat) (P Q : List Pt.Pat) : (addR R P Q).1 = 0 ∨ (addR R P Q).1 = 23 ∨ (addR R P Q).1 = 24 ∨ (addR R P Q).1 = 30 := by
  unfold addR
  split
  · simp
  · split
    · split
      · simp
      · split <;> simp
    · split <;> simp
/-- what is read stands behind what was read. -/
theorem wrun_more : ∀ (l : List (List Nat × Nat)) (P Q : List Pt.Pat), (wrun l P Q).1 = 0 → ∃ X Y, (wrun l P Q).2.2.1 = P ++ X ∧ (wrun l P Q).2.2.2 = Q ++ Y
  | [], P, Q, _ => ⟨[], [], by simp [wrun], by simp [wrun]⟩
  | x :: l, P, Q, h => by
    simp only [wrun] at h ⊢
    by_cases h0 : (addR x.1 P Q).1 = 0
    · rw [if_pos h0] at h ⊢
      obtain ⟨X, Y, e1, e2⟩ := wrun_more l _ _ h
      rw [e1, e2]
      unfold addR at h0 ⊢
      split at h0
      · cases h0
      · rename_i hf
        rw [if_neg hf]
        split at h0
        · rename_i h45
          rw [if_pos h45]
          cases ht : Pt.told x.1 with
          | none => rw [ht] at h0; cases h0
          | some p =>
            rw [ht] at h0
            simp only at h0 ⊢
            split at h0
            · cases h0
            · rename_i hq
              rw [if_neg hq]
              exact ⟨X, p :: Y, rfl, by simp⟩
        · rename_i h45
          rw [if_neg h45]
          cases ht : Pt.patt x.1 with
          | none => rw [ht] at h0; cases h0
          | some p => exact ⟨p :: X, Y, by simp, rfl⟩
    · rw [if_neg h0] at h
      exact absurd h h0
/-- behind others: the same, or a word stands in both, or there are too many. -/
theorem wrun_join (P Q : List Pt.Pat) : ∀ (l : List (List Nat × Nat)) (A B : List Pt.Pat), (wrun l A B).1 = 0 →
    wrun l (P ++ A) (Q ++ B) = (0, 0, P ++ (wrun l A B).2.2.1, Q ++ (wrun l A B).2.2.2) ∨
    ((wrun l (P ++ A) (Q ++ B)).1 = 23 ∧ 0 < Q.length ∧ 0 < (wrun l A B).2.2.2.length ∧ ∃ x ∈ l, (wrun l (P ++ A) (Q ++ B)).2.1 = x.2) ∨ (wrun l (P ++ A) (Q ++ B)).1 = 24
  | [], A, B, _ => Or.inl (by simp [wrun])
  | x :: l, A, B, h => by
    simp only [wrun] at h ⊢
    by_cases h0 : (addR x.1 A B).1 = 0
    · rw [if_pos h0] at h
      rw [if_pos h0]
      by_cases hf : (P ++ A).length + (Q ++ B).length = 256
      · right; right
        have e : (addR x.1 (P ++ A) (Q ++ B)).1 = 24 := by unfold addR; rw [if_pos hf]
        rw [if_neg (by rw [e]; omega)]
        exact e
      · unfold addR at h0
        split at h0
        · cases h0
        · rename_i hf2
          split at h0
          · rename_i h45
            cases ht : Pt.told x.1 with
            | none => rw [ht] at h0; cases h0
            | some p =>
              rw [ht] at h0
              simp only at h0
              split at h0
              · cases h0
              · rename_i hq
                have eA : addR x.1 A B = (0, A, B ++ [p]) := by unfold addR; rw [if_neg hf2, if_pos h45, ht]; simp only; rw [if_neg hq]
                rw [eA] at h ⊢
                by_cases hQ : (Q ++ B).any (tq p.letters) = true
                · have e : addR x.1 (P ++ A) (Q ++ B) = (23, P ++ A, Q ++ B) := by unfold addR; rw [if_neg hf, if_pos h45, ht]; simp only; rw [if_pos hQ]
                  rw [e]
                  right; left
                  refine ⟨rfl, ?_, ?_, x, by simp, rfl⟩
                  · rw [List.any_append] at hQ
                    cases Q with
                    | nil => simp at hQ; exact absurd (by simpa using hQ) hq
                    | cons q Q => simp
                  · obtain ⟨X, Y, _, e2⟩ := wrun_more l _ _ h
                    rw [e2]
                    simp
                    omega
                · have e : addR x.1 (P ++ A) (Q ++ B) = (0, P ++ A, Q ++ (B ++ [p])) := by unfold addR; rw [if_neg hf, if_pos h45, ht]; simp only; rw [if_neg hQ, List.append_assoc]
                  rw [e]
                  simp only [if_true]
                  rcases wrun_join P Q l A (B ++ [p]) h with h1 | ⟨h1, h2, h3, y, h4, h5⟩ | h1
                  · exact Or.inl h1
                  · exact Or.inr (Or.inl ⟨h1, h2, h3, y, by simp [h4], h5⟩)
                  · exact Or.inr (Or.inr h1)
          · rename_i h45
            cases ht : Pt.patt x.1 with
            | none => rw [ht] at h0; cases h0
            | some p =>
              have eA : addR x.1 A B = (0, A ++ [p], B) := by unfold addR; rw [if_neg hf2, if_neg h45, ht]
              have e : addR x.1 (P ++ A) (Q ++ B) = (0, P ++ (A ++ [p]), Q ++ B) := by unfold addR; rw [if_neg hf, if_neg h45, ht]; simp only; rw [List.append_assoc]
              rw [eA] at h ⊢
              rw [e]
              simp only [if_true]
              rcases wrun_join P Q l (A ++ [p]) B h with h1 | ⟨h1, h2, h3, y, h4, h5⟩ | h1
              · exact Or.inl h1
              · exact Or.inr (Or.inl ⟨h1, h2, h3, y, by simp [h4], h5⟩)
              · exact Or.inr (Or.inr h1)
    · rw [if_neg h0] at h
      exact absurd h h0
/-- a blank. -/
def sp1 : ByteArray := ⟨#[32]⟩
theorem wrun_at0 : ∀ (l : List (List Nat × Nat)) (P Q : List Pt.Pat), (wrun l P Q).1 = 0 → (wrun l P Q).2.1 = 0
  | [], P, Q, _ => rfl
  | x :: l, P, Q, h => by
    simp only [wrun] at h ⊢
    by_cases h0 : (addR x.1 P Q).1 = 0
    · rw [if_pos h0] at h ⊢
      exact wrun_at0 l _ _ h
    · rw [if_neg h0] at h
      exact absurd h h0
theorem wrun_map (M : Nat) : ∀ (l : List (List Nat × Nat)) (P Q : List Pt.Pat), (wrun (l.map (fun x => (x.1, x.2 + M))) P Q).1 = (wrun l P Q).1 ∧ (wrun (l.map (fun x => (x.1, x.2 + M))) P Q).2.2 = (wrun l P Q).2.2
  | [], P, Q => ⟨rfl, rfl⟩
  | x :: l, P, Q => by
    simp only [List.map_cons, wrun]
    by_cases h0 : (addR x.1 P Q).1 = 0
    · rw [if_pos h0, if_pos h0]
      exact wrun_map M l _ _
    · rw [if_neg h0, if_neg h0]
      exact ⟨rfl, rfl⟩
/-- two texts without faults, a blank between. -/
theorem parse_join (a b : ByteArray) (hs : a.size + b.size < 4096) (ha : (parseR a).1 = 0) (hb : (parseR b).1 = 0) :
    parseR (a ++ sp1 ++ b) = (0, 0, (parseR a).2.2.1 ++ (parseR b).2.2.1, (parseR a).2.2.2 ++ (parseR b).2.2.2) ∨
    ((parseR (a ++ sp1 ++ b)).1 = 23 ∧ 0 < (parseR a).2.2.2.length ∧ 0 < (parseR b).2.2.2.length ∧ a.size < (parseR (a ++ sp1 ++ b)).2.1) ∨ (parseR (a ++ sp1 ++ b)).1 = 24 := by
  have h1 : sp1.size = 1 := rfl
  have hsz : (a ++ sp1 ++ b).size ≤ 4096 := by rw [ByteArray.size_append, ByteArray.size_append, h1]; omega
  rw [parse_wrun hsz, sgs_sep a b sp1 rfl (by decide), wds_sep _ _ (by decide), wds_map, wrun_app]
  rw [parse_wrun (s := a) (by omega)] at ha ⊢
  rw [parse_wrun (s := b) (by omega)] at hb ⊢
  rw [if_pos ha]
  obtain ⟨e1, e2⟩ := wrun_map (a.size + 1) (wds (sgs b)) [] []
  have hj := wrun_join (wrun (wds (sgs a)) [] []).2.2.1 (wrun (wds (sgs a)) [] []).2.2.2 ((wds (sgs b)).map (fun x => (x.1, x.2 + (a.size + 1)))) [] [] (by rw [e1]; exact hb)
  rw [List.append_nil, List.append_nil, e2] at hj
  rcases hj with h | ⟨h, h2, h3, x, hx, h4⟩ | h
  · exact Or.inl h
  · refine Or.inr (Or.inl ⟨h, h2, h3, ?_⟩)
    rw [h4]
    obtain ⟨y, _, rfl⟩ := List.mem_map.1 hx
    simp only
    omega
  · exact Or.inr (Or.inr h)
end Go.Proofs.YtjgbfpemkjpikaaDoor
