/-
  Spots of bytes, bytes of spots: what layer 17's statements ask, in plain words; no walk in it. (For layers 17, 21.)
-/
import Derived.Test.YteejgjapghccnaaPl
namespace Go.Proofs.Yteejgjapghccnaa
set_option linter.unusedVariables false
set_option linter.unusedSimpArgs false
namespace Lv
theorem clu_spec {C : List Ct} (hC : Ctg C) (q : Nat) : ∀ i, i ≤ C.length → C.length - i ≤ clu C q i ∧ clu C q i ≤ C.length ∧ (clu C q i < C.length → q < It.sum (C.take (clu C q i + 1))) ∧ ∀ j, C.length - i ≤ j → j < clu C q i → It.sum (C.take (j + 1)) ≤ q
  | 0, _ => ⟨Nat.sub_le _ _, Nat.le_refl _, fun h => absurd h (Nat.lt_irrefl _), fun j h1 h2 => absurd h2 (by show ¬ j < C.length; omega)⟩
  | i + 1, hi => by
    obtain ⟨h1, h2, h3, h4⟩ := clu_spec hC q i (by omega)
    by_cases e : q < It.sum (C.take (C.length - i))
    · have e2 : clu C q (i + 1) = C.length - (i + 1) := if_pos e
      rw [e2]
      refine ⟨Nat.le_refl _, Nat.sub_le _ _, fun _ => ?_, fun j q1 q2 => by omega⟩
      rw [show C.length - (i + 1) + 1 = C.length - i by omega]
      exact e
    · have e2 : clu C q (i + 1) = clu C q i := if_neg e
      rw [e2]
      refine ⟨by omega, h2, h3, fun j q1 q2 => ?_⟩
      by_cases g : C.length - i ≤ j
      · exact h4 j g q2
      · rw [show j + 1 = C.length - i by omega]
        omega
theorem sum_mono {C : List Ct} (hC : Ctg C) {a b : Nat} (h : a ≤ b) (hb : b ≤ C.length) : It.sum (C.take a) ≤ It.sum (C.take b) := by
  rcases Nat.eq_or_lt_of_le h with e | e
  · rw [e]; exact Nat.le_refl _
  · exact Nat.le_of_lt (sum_rise hC e hb)
/-- the cluster of a byte, and what it says. -/
theorem clu_at {C : List Ct} (hC : Ctg C) (q : Nat) : clu C q C.length ≤ C.length ∧ (clu C q C.length < C.length → q < It.sum (C.take (clu C q C.length + 1))) ∧ It.sum (C.take (clu C q C.length)) ≤ q := by
  obtain ⟨h1, h2, h3, h4⟩ := clu_spec hC q C.length (Nat.le_refl _)
  refine ⟨h2, h3, ?_⟩
  cases e : clu C q C.length with
  | zero => rw [List.take_zero]; exact Nat.zero_le _
  | succ j =>
    rw [e] at h4
    exact h4 j (by omega) (by omega)
theorem clu_iff {C : List Ct} (hC : Ctg C) {q k : Nat} (h1 : k ≤ C.length) (h2 : It.sum (C.take k) ≤ q) (h3 : k < C.length → q < It.sum (C.take (k + 1))) : clu C q C.length = k := by
  obtain ⟨g1, g2, g3⟩ := clu_at hC q
  rcases Nat.lt_trichotomy (clu C q C.length) k with h | h | h
  · have := sum_mono hC (show clu C q C.length + 1 ≤ k by omega) h1
    have := g2 (by omega)
    omega
  · exact h
  · have := sum_mono hC (show k + 1 ≤ clu C q C.length by omega) g1
    have := h3 (by omega)
    omega
theorem clu_own {C : List Ct} (hC : Ctg C) {k : Nat} (h : k ≤ C.length) : clu C (It.sum (C.take k)) C.length = k := clu_iff hC h (Nat.le_refl _) (fun hk => sum_rise hC (Nat.lt_succ_self k) hk)
theorem clu_mono {C : List Ct} (hC : Ctg C) {q r : Nat} (h : q ≤ r) : clu C q C.length ≤ clu C r C.length := by
  obtain ⟨g1, g2, g3⟩ := clu_at hC q
  obtain ⟨f1, f2, f3⟩ := clu_at hC r
  rcases Nat.lt_or_ge (clu C r C.length) (clu C q C.length) with e | e
  · have := sum_mono hC (show clu C r C.length + 1 ≤ clu C q C.length by omega) g1
    have := f2 (by omega)
    omega
  · exact e
/-- the spot of a cluster: its row, its column; with back, at a row's beginning, the end of the row ahead. -/
def spt (C : List Ct) (t : Nat) (L : List Ln) (back : Bool) (k : Nat) : Nat × Nat :=
  let r := rwF L k
  let r' := if back = true ∧ 0 < r ∧ (L.getD r ⟨0, 0, 0, 0⟩).a = k then r - 1 else r
  (r', Sp.col C t (L.getD r' ⟨0, 0, 0, 0⟩).a (k - (L.getD r' ⟨0, 0, 0, 0⟩).a))
theorem getD_at {L : List Ln} {i : Nat} {l : Ln} (h : L[i]? = some l) : L.getD i ⟨0, 0, 0, 0⟩ = l := by rw [List.getD_eq_getElem?_getD, h]; rfl
theorem spt_plain {C : List Ct} {t : Nat} {L : List Ln} {k : Nat} {l : Ln} (h : L[rwF L k]? = some l) : spt C t L false k = (rwF L k, Sp.col C t l.a (k - l.a)) := by
  unfold spt
  simp only [Bool.false_eq_true, false_and, if_false]
  rw [getD_at h]
/-- without back: the row that has the cluster. -/
theorem spt_in {C : List Ct} {t b i k : Nat} {L : List Ln} {l : Ln} (h : Chn 0 b L) (hl : L[i]? = some l) (h1 : l.a ≤ k) (h2 : k < l.b) : spt C t L false k = (i, Sp.col C t l.a (k - l.a)) := by
  have e := rw_uniq h hl h1 h2
  have := spt_plain (C := C) (t := t) (L := L) (k := k) (by rw [e]; exact hl)
  rw [this, e]
/-- of the end: the last row. -/
theorem spt_end {C : List Ct} {t b i : Nat} {L : List Ln} {l : Ln} (h : Chn 0 b L) (hl : L[i]? = some l) (hi : i + 1 = L.length) : spt C t L false b = (i, Sp.col C t l.a (b - l.a)) := by
  have hn : L ≠ [] := fun e => by rw [e] at hl; simp at hl
  have e := rw_end h hn
  have e2 : rwF L b = i := by omega
  have := spt_plain (C := C) (t := t) (L := L) (k := b) (by rw [e2]; exact hl)
  rw [this, e2]
/-- with back, at a row's end that isn't the last one: that end. -/
theorem spt_back {C : List Ct} {t b i : Nat} {L : List Ln} {l m : Ln} (h : Chn 0 b L) (hl : L[i]? = some l) (hm : L[i + 1]? = some m) : spt C t L true l.b = (i, Sp.col C t l.a (l.b - l.a)) := by
  have e1 := chn_next h hl hm
  have e2 := chn_at h hm
  have e := rw_uniq h hm (Nat.le_of_eq e1) (show l.b < m.b by omega)
  unfold spt
  simp only
  rw [e, getD_at hm, if_pos ⟨trivial, Nat.succ_pos _, e1⟩, Nat.add_sub_cancel, getD_at hl]
/-- with back elsewhere: as without. -/
theorem spt_same {C : List Ct} {t k : Nat} {L : List Ln} (h : ¬ (0 < rwF L k ∧ (L.getD (rwF L k) ⟨0, 0, 0, 0⟩).a = k)) : spt C t L true k = spt C t L false k := by
  unfold spt
  simp only [Bool.false_eq_true, false_and, if_false]
  rw [if_neg (fun q => h q.2)]
/-- spots rise. -/
theorem spt_rise {C : List Ct} {t b j k : Nat} {L : List Ln} (ht : 0 < t) (h : Chn 0 b L) (hn : L ≠ []) (hj : j ≤ k) (hk : k ≤ b) : (spt C t L false j).1 < (spt C t L false k).1 ∨ ((spt C t L false j).1 = (spt C t L false k).1 ∧ (spt C t L false j).2 ≤ (spt C t L false k).2) := by
  obtain ⟨l, h1, h2, -, -⟩ := rw_spec (k := j) h hn (Nat.zero_le _) (by omega)
  obtain ⟨m, g1, g2, -, -⟩ := rw_spec (k := k) h hn (Nat.zero_le _) hk
  rw [spt_plain h1, spt_plain g1]
  have hm := rw_mono hj L
  rcases Nat.eq_or_lt_of_le hm with e | e
  · rw [e] at h1
    rw [h1] at g1
    injection g1 with g1
    subst g1
    exact Or.inr ⟨e, Sp.col_mono C ht _ (by omega)⟩
  · exact Or.inl e
/-- with back: at most one row earlier. -/
theorem spt_rows (C : List Ct) (t : Nat) (L : List Ln) (k : Nat) : (spt C t L true k).1 ≤ (spt C t L false k).1 ∧ (spt C t L false k).1 ≤ (spt C t L true k).1 + 1 ∧ ((spt C t L true k).1 = (spt C t L false k).1 → spt C t L true k = spt C t L false k) := by
  by_cases h : 0 < rwF L k ∧ (L.getD (rwF L k) ⟨0, 0, 0, 0⟩).a = k
  · have e : (spt C t L true k).1 = rwF L k - 1 := by
      unfold spt
      simp only
      rw [if_pos ⟨trivial, h.1, h.2⟩]
    have e2 : (spt C t L false k).1 = rwF L k := by
      unfold spt
      simp only [Bool.false_eq_true, false_and, if_false]
    rw [e, e2]
    have := h.1
    exact ⟨by omega, by omega, fun q => by omega⟩
  · rw [spt_same h]
    exact ⟨Nat.le_refl _, Nat.le_succ _, fun _ => rfl⟩
/-- the cluster's boundary that a column of a row leads to. -/
def byt (C : List Ct) (t : Nat) (l : Ln) (c : Nat) : Nat := l.a + bi C t l.a c (l.b - l.a + 1)
theorem byt_in (C : List Ct) {t : Nat} (ht : 0 < t) (l : Ln) (h : l.a ≤ l.b) (c : Nat) : l.a ≤ byt C t l c ∧ byt C t l c ≤ l.b := by
  have := (bi_spec C ht l.a c (l.b - l.a)).1
  unfold byt
  omega
theorem byt_mono (C : List Ct) {t : Nat} (ht : 0 < t) (l : Ln) {c d : Nat} (h : c ≤ d) : byt C t l c ≤ byt C t l d := Nat.add_le_add_left (bi_mono C ht l.a _ h) _
theorem byt_far (C : List Ct) {t : Nat} (ht : 0 < t) (l : Ln) (hl : l.a ≤ l.b) {c : Nat} (h : Sp.col C t l.a (l.b - l.a) < c) : byt C t l c = l.b := by
  unfold byt
  rw [bi_far C ht l.a _ h]
  omega
theorem byt_col (C : List Ct) {t : Nat} (ht : 0 < t) (l : Ln) (c : Nat) : Sp.col C t l.a (byt C t l c - l.a) ≤ c := by
  obtain ⟨_, h⟩ := bi_spec C ht l.a c (l.b - l.a)
  unfold byt
  rw [Nat.add_sub_cancel_left]
  rcases h with ⟨h, _⟩ | ⟨h, _⟩ <;> omega
/-- a cluster's own spot leads back to the first one of its column; where each has cells, to itself. -/
theorem byt_own (C : List Ct) {t : Nat} (ht : 0 < t) (l : Ln) {k : Nat} (h1 : l.a ≤ k) (h2 : k ≤ l.b) : byt C t l (Sp.col C t l.a (k - l.a)) ≤ k ∧ Sp.col C t l.a (byt C t l (Sp.col C t l.a (k - l.a)) - l.a) = Sp.col C t l.a (k - l.a) := by
  obtain ⟨q1, q2⟩ := bi_own C ht l.a (l.b - l.a) (show k - l.a ≤ l.b - l.a by omega)
  unfold byt
  rw [Nat.add_sub_cancel_left]
  exact ⟨by omega, q2⟩
theorem byt_self (C : List Ct) {t : Nat} (ht : 0 < t) (l : Ln) (hb : l.b ≤ C.length) (hr : ∀ i, l.a ≤ i → i < C.length → (Sp.at' C i).kind = 2 ∨ 1 ≤ (Sp.at' C i).cells) {k : Nat} (h1 : l.a ≤ k) (h2 : k ≤ l.b) : byt C t l (Sp.col C t l.a (k - l.a)) = k := by
  obtain ⟨q1, q2⟩ := byt_own C ht l h1 h2
  have q3 := (byt_in C ht l (by omega) (Sp.col C t l.a (k - l.a))).1
  rcases Nat.lt_or_ge (byt C t l (Sp.col C t l.a (k - l.a))) k with g | g
  · have := col_rise C ht l.a hr (show byt C t l (Sp.col C t l.a (k - l.a)) - l.a < k - l.a by omega) (by omega)
    omega
  · omega
end Lv
end Go.Proofs.Yteejgjapghccnaa
