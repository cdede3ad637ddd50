/-
  Bytes as rows and columns, and back: in plain words; no walk in it. (For layers 17, 21.)
-/
import Derived.Test.YteejgjapghccnaaLg
namespace Go.Proofs.Yteejgjapghccnaa
set_option linter.unusedVariables false
set_option linter.unusedSimpArgs false
namespace Lv
/-- the row of a cluster: the first one that ends behind it, else the last one. -/
def rwF : List Ln → Nat → Nat
  | [], _ => 0
  | [_], _ => 0
  | l :: m :: L, k => if k < l.b then 0 else 1 + rwF (m :: L) k
theorem rwF_lt : ∀ (L : List Ln) (k : Nat), L ≠ [] → rwF L k < L.length
  | [], _, h => absurd rfl h
  | [_], _, _ => Nat.zero_lt_one
  | l :: m :: L, k, _ => by
    show (if k < l.b then 0 else 1 + rwF (m :: L) k) < _
    have := rwF_lt (m :: L) k (by simp)
    split
    · simp
    · rw [List.length_cons]; omega
theorem rw_spec {b : Nat} : ∀ {a : Nat} {L : List Ln} {k : Nat}, Chn a b L → L ≠ [] → a ≤ k → k ≤ b → ∃ l, L[rwF L k]? = some l ∧ l.a ≤ k ∧ l.a < l.b ∧ (k < l.b ∨ (k = b ∧ l.b = b ∧ rwF L k + 1 = L.length))
  | a, [], k, h, hn, _, _ => absurd rfl hn
  | a, [l], k, h, hn, h1, h2 => by
    have e : l.b = b := h.2.2
    refine ⟨l, rfl, by rw [h.1]; exact h1, by rw [h.1]; exact h.2.1, ?_⟩
    by_cases q : k < l.b
    · exact Or.inl q
    · exact Or.inr ⟨by omega, e, rfl⟩
  | a, l :: m :: L, k, h, hn, h1, h2 => by
    by_cases q : k < l.b
    · have e : rwF (l :: m :: L) k = 0 := if_pos q
      rw [e]
      exact ⟨l, rfl, by rw [h.1]; exact h1, by rw [h.1]; exact h.2.1, Or.inl q⟩
    · have e : rwF (l :: m :: L) k = 1 + rwF (m :: L) k := if_neg q
      obtain ⟨x, e1, e2, e3, e4⟩ := rw_spec (k := k) h.2.2 (by simp) (by omega) h2
      refine ⟨x, ?_, e2, e3, ?_⟩
      · rw [e, Nat.add_comm, List.getElem?_cons_succ]
        exact e1
      · rcases e4 with e4 | ⟨e4, e5, e6⟩
        · exact Or.inl e4
        · exact Or.inr ⟨e4, e5, by rw [e, List.length_cons]; omega⟩
theorem rw_mono {j k : Nat} (h : j ≤ k) : ∀ (L : List Ln), rwF L j ≤ rwF L k
  | [] => Nat.le_refl _
  | [_] => Nat.le_refl _
  | l :: m :: L => by
    show (if j < l.b then 0 else 1 + rwF (m :: L) j) ≤ (if k < l.b then 0 else 1 + rwF (m :: L) k)
    have := rw_mono h (m :: L)
    split
    · exact Nat.zero_le _
    · rw [if_neg (by omega)]; omega
/-- lines of a row of lines, by their places. -/
theorem chn_at {b : Nat} : ∀ {a : Nat} {L : List Ln} {i : Nat} {l : Ln}, Chn a b L → L[i]? = some l → a ≤ l.a ∧ l.a < l.b ∧ l.b ≤ b ∧ (i = 0 → l.a = a) ∧ (i + 1 = L.length ↔ l.b = b)
  | a, [], i, l, h, hl => by simp at hl
  | a, x :: L, 0, l, h, hl => by
    simp at hl
    subst hl
    refine ⟨Nat.le_of_eq h.1.symm, by rw [h.1]; exact h.2.1, h.2.2.le, fun _ => h.1, ?_⟩
    cases L with
    | nil => exact ⟨fun _ => h.2.2, fun _ => rfl⟩
    | cons y M => exact ⟨fun e => by simp at e, fun e => absurd h.2.2.2.2.le (by have := h.2.2.2.1; omega)⟩
  | a, x :: L, i + 1, l, h, hl => by
    obtain ⟨h1, h2, h3, -, h5⟩ := chn_at h.2.2 (show L[i]? = some l by simpa using hl)
    have := h.2.1
    refine ⟨by omega, h2, h3, fun e => by omega, ?_⟩
    rw [List.length_cons, ← h5]
    constructor <;> intro e <;> omega
theorem chn_next {b : Nat} : ∀ {a : Nat} {L : List Ln} {i : Nat} {l m : Ln}, Chn a b L → L[i]? = some l → L[i + 1]? = some m → m.a = l.b
  | a, [], i, l, m, h, hl, _ => by simp at hl
  | a, x :: L, 0, l, m, h, hl, hm => by
    simp at hl
    subst hl
    cases L with
    | nil => simp at hm
    | cons y M =>
      simp at hm
      subst hm
      exact h.2.2.1
  | a, x :: L, i + 1, l, m, h, hl, hm => chn_next h.2.2 (show L[i]? = some l by simpa using hl) (show L[i + 1]? = some m by simpa using hm)
theorem rw_uniq {b : Nat} : ∀ {a : Nat} {L : List Ln} {i k : Nat} {l : Ln}, Chn a b L → L[i]? = some l → l.a ≤ k → k < l.b → rwF L k = i
  | a, [], i, k, l, h, hl, _, _ => by simp at hl
  | a, [x], i, k, l, h, hl, _, _ => by
    cases i with
    | zero => rfl
    | succ i => simp at hl
  | a, x :: y :: L, 0, k, l, h, hl, h1, h2 => by
    simp at hl
    subst hl
    exact if_pos h2
  | a, x :: y :: L, i + 1, k, l, h, hl, h1, h2 => by
    have hl' : (y :: L)[i]? = some l := by simpa using hl
    have ha := (chn_at h.2.2 hl').1
    have e : rwF (x :: y :: L) k = 1 + rwF (y :: L) k := if_neg (by omega)
    rw [e, rw_uniq h.2.2 hl' h1 h2]
    omega
/-- the end is in the last row. -/
theorem rw_end {a b : Nat} {L : List Ln} (h : Chn a b L) (hn : L ≠ []) : rwF L b + 1 = L.length := by
  obtain ⟨l, h1, h2, h3, h4⟩ := rw_spec h hn h.le (Nat.le_refl _)
  rcases h4 with h4 | ⟨_, _, h4⟩
  · exact absurd (chn_at h h1).2.2.1 (by omega)
  · exact h4
/-- the cluster of a byte. -/
def clu (C : List Ct) (at' : Nat) : Nat → Nat
  | 0 => C.length
  | i + 1 => if at' < It.sum (C.take (C.length - i)) then C.length - (i + 1) else clu C at' i
/-- the greatest column not behind one, the first of like ones if it is there. -/
def bi (C : List Ct) (t a c : Nat) : Nat → Nat
  | 0 => 0
  | j + 1 => if Sp.col C t a j < c ∨ (Sp.col C t a j = c ∧ (Sp.col C t a (bi C t a c j) < c ∨ j = 0)) then j else bi C t a c j
theorem bi_spec (C : List Ct) {t : Nat} (ht : 0 < t) (a c : Nat) : ∀ m, bi C t a c (m + 1) ≤ m ∧ ((Sp.col C t a (bi C t a c (m + 1)) = c ∧ ∀ i, i < bi C t a c (m + 1) → Sp.col C t a i < c) ∨ (Sp.col C t a (bi C t a c (m + 1)) < c ∧ ∀ i, bi C t a c (m + 1) < i → i ≤ m → c < Sp.col C t a i))
  | 0 => by
    have e : bi C t a c 1 = 0 := by
      show (if _ then 0 else 0) = 0
      split <;> rfl
    have e0 : Sp.col C t a 0 = 0 := rfl
    rw [e]
    refine ⟨Nat.le_refl _, ?_⟩
    rcases Nat.eq_zero_or_pos c with h | h
    · exact Or.inl ⟨by rw [e0, h], fun i hi => by omega⟩
    · exact Or.inr ⟨by rw [e0]; exact h, fun i h1 h2 => by omega⟩
  | m + 1 => by
    obtain ⟨h1, h2⟩ := bi_spec C ht a c m
    by_cases hc : Sp.col C t a (m + 1) < c ∨ (Sp.col C t a (m + 1) = c ∧ (Sp.col C t a (bi C t a c (m + 1)) < c ∨ m + 1 = 0))
    · have e : bi C t a c (m + 1 + 1) = m + 1 := if_pos hc
      rw [e]
      refine ⟨Nat.le_refl _, ?_⟩
      rcases hc with hc | ⟨hc, hc2⟩
      · exact Or.inr ⟨hc, fun i h3 h4 => by omega⟩
      · refine Or.inl ⟨hc, fun i hi => ?_⟩
        have hb : Sp.col C t a (bi C t a c (m + 1)) < c := by
          rcases hc2 with q | q
          · exact q
          · omega
        rcases h2 with ⟨q, _⟩ | ⟨_, q⟩
        · omega
        · by_cases g : bi C t a c (m + 1) < i
          · have h5 := q i g (by omega)
            have := Sp.col_mono C ht a (show i ≤ m + 1 by omega)
            omega
          · have := Sp.col_mono C ht a (show i ≤ bi C t a c (m + 1) by omega)
            omega
    · have e : bi C t a c (m + 1 + 1) = bi C t a c (m + 1) := if_neg hc
      rw [e]
      refine ⟨by omega, ?_⟩
      rcases h2 with h2 | ⟨h2, h3⟩
      · exact Or.inl h2
      · refine Or.inr ⟨h2, fun i h4 h5 => ?_⟩
        by_cases g : i ≤ m
        · exact h3 i h4 g
        · have e2 : i = m + 1 := by omega
          subst e2
          have q1 : ¬ Sp.col C t a (m + 1) < c := fun q => hc (Or.inl q)
          have q2 : ¬ Sp.col C t a (m + 1) = c := fun q => hc (Or.inr ⟨q, Or.inl h2⟩)
          omega
/-- a further column leads no further back. -/
theorem bi_mono (C : List Ct) {t : Nat} (ht : 0 < t) (a m : Nat) {c d : Nat} (h : c ≤ d) : bi C t a c (m + 1) ≤ bi C t a d (m + 1) := by
  obtain ⟨h1, h2⟩ := bi_spec C ht a c m
  obtain ⟨g1, g2⟩ := bi_spec C ht a d m
  rcases Nat.lt_or_ge (bi C t a d (m + 1)) (bi C t a c (m + 1)) with g | g
  · have hm := Sp.col_mono C ht a (show bi C t a d (m + 1) ≤ bi C t a c (m + 1) by omega)
    rcases g2 with ⟨q1, q2⟩ | ⟨q1, q2⟩
    · rcases h2 with ⟨p1, p2⟩ | ⟨p1, p2⟩
      · have := p2 _ g
        omega
      · omega
    · have := q2 _ g h1
      rcases h2 with ⟨p1, p2⟩ | ⟨p1, p2⟩ <;> omega
  · exact g
/-- behind the row's end it is the row's end. -/
theorem bi_far (C : List Ct) {t : Nat} (ht : 0 < t) (a m : Nat) {c : Nat} (h : Sp.col C t a m < c) : bi C t a c (m + 1) = m := by
  obtain ⟨h1, h2⟩ := bi_spec C ht a c m
  rcases Nat.lt_or_ge (bi C t a c (m + 1)) m with g | g
  · rcases h2 with ⟨p1, _⟩ | ⟨_, p2⟩
    · have := Sp.col_mono C ht a h1
      omega
    · have := p2 m g (Nat.le_refl _)
      omega
  · omega
/-- at a cluster's own column: the first one of that column. -/
theorem bi_own (C : List Ct) {t : Nat} (ht : 0 < t) (a m : Nat) {j : Nat} (hj : j ≤ m) : bi C t a (Sp.col C t a j) (m + 1) ≤ j ∧ Sp.col C t a (bi C t a (Sp.col C t a j) (m + 1)) = Sp.col C t a j := by
  obtain ⟨h1, h2⟩ := bi_spec C ht a (Sp.col C t a j) m
  rcases h2 with ⟨p1, p2⟩ | ⟨p1, p2⟩
  · refine ⟨?_, p1⟩
    rcases Nat.lt_or_ge j (bi C t a (Sp.col C t a j) (m + 1)) with g | g
    · exact absurd (p2 j g) (Nat.lt_irrefl _)
    · exact g
  · rcases Nat.lt_or_ge (bi C t a (Sp.col C t a j) (m + 1)) j with g | g
    · exact absurd (p2 j g hj) (Nat.lt_irrefl _)
    · have := Sp.col_mono C ht a g
      omega
/-- where each cluster has cells columns rise. -/
theorem col_rise (C : List Ct) {t : Nat} (ht : 0 < t) (a : Nat) (h : ∀ i, a ≤ i → i < C.length → (Sp.at' C i).kind = 2 ∨ 1 ≤ (Sp.at' C i).cells) {j : Nat} : ∀ {k : Nat}, j < k → a + k ≤ C.length → Sp.col C t a j < Sp.col C t a k
  | 0, h1, _ => by omega
  | k + 1, h1, h2 => by
    have hs : Sp.col C t a k < Sp.col C t a (k + 1) := by
      show _ < Sp.nx (Sp.at' C (a + k)) t (Sp.col C t a k)
      unfold Sp.nx
      split
      · have := (Sp.tab_gt (c := Sp.col C t a k) ht).1
        omega
      · rename_i hk
        rcases h (a + k) (by omega) (by omega) with q | q
        · exact absurd q hk
        · omega
    by_cases e : j < k
    · have := col_rise C ht a h e (by omega)
      omega
    · have e2 : j = k := by omega
      subst e2
      exact hs
end Lv
end Go.Proofs.Yteejgjapghccnaa
