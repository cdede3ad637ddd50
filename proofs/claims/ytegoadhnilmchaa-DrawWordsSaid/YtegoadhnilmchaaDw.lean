/-
  Rows as they are seen, in plain words; no walk in it. (For layer 22.)
-/
import Derived.Test.YtegoadhnilmchaaSj
namespace Go.Proofs.Ytegoadhnilmchaa
set_option linter.unusedVariables false
set_option linter.unusedSimpArgs false
namespace Dw
/-- what is seen of cluster i: its bytes, or so many blanks. -/
def one (C : List Ct) (tx : List Nat) (a : Nat) (n : Nat → Nat) (i : Nat) : List Nat :=
  if (Sp.at' C (a + i)).kind = 0 then (tx.drop (Sp.at' C (a + i)).pl).take (Sp.at' C (a + i)).len else List.replicate (n i) 32
/-- what is seen of k clusters. -/
def pic (C : List Ct) (tx : List Nat) (a : Nat) (n : Nat → Nat) : Nat → List Nat
  | 0 => []
  | k + 1 => pic C tx a n k ++ one C tx a n k
/-- how wide what isn't Plain is: full or not. -/
def wds (C : List Ct) (t W a b e : Nat) (full : Bool) : Nat → Nat := Sd.wj C t a (if full then Sd.mre C t W a b e else [])
/-- a line as it is seen. -/
def row (C : List Ct) (tx : List Nat) (t W a b e : Nat) (full : Bool) : List Nat := pic C tx a (wds C t W a b e full) (Sp.tr C a (b - a) - a) ++ (if e = 3 then [45] else [])
/-- without what is spread a cluster is as wide as its columns say. -/
theorem wj_nil (C : List Ct) (t a i : Nat) : Sd.wj C t a [] i = Sp.col C t a (i + 1) - Sp.col C t a i := by
  unfold Sd.wj
  split <;> rfl
theorem pic_len (C : List Ct) (tx : List Nat) (a : Nat) (n : Nat → Nat) (h : ∀ i, (Sp.at' C (a + i)).kind = 0 → (one C tx a n i).length = n i) : ∀ k, (pic C tx a n k).length = Sd.sum ((List.range k).map n)
  | 0 => rfl
  | k + 1 => by
    have ih := pic_len C tx a n h k
    rw [List.range_succ, List.map_append, Sd.sum_append, ← ih]
    show (pic C tx a n k ++ one C tx a n k).length = _ + (n k + 0)
    rw [List.length_append]
    by_cases e : (Sp.at' C (a + k)).kind = 0
    · rw [h k e]; omega
    · have : one C tx a n k = List.replicate (n k) 32 := if_neg e
      rw [this, List.length_replicate]; omega
/-- as many bytes as cells, where each cluster has as many cells as bytes. -/
theorem row_len (C : List Ct) (tx : List Nat) {t : Nat} (ht : 0 < t) {W a b e : Nat} (full : Bool) (h : ∀ i, (Sp.at' C (a + i)).kind = 0 → i < Sp.tr C a (b - a) - a → ((tx.drop (Sp.at' C (a + i)).pl).take (Sp.at' C (a + i)).len).length = (Sp.at' C (a + i)).cells.toNat) :
    (row C tx t W a b e full).length = Sp.wd C t a (b - a) + Sd.sum ((if full then Sd.mre C t W a b e else []).take (Sp.gp C a (b - a))) + (if e = 3 then 1 else 0) := by
  have hp : ∀ k, k ≤ Sp.tr C a (b - a) - a → (pic C tx a (wds C t W a b e full) k).length = Sd.sum ((List.range k).map (wds C t W a b e full)) := by
    intro k
    induction k with
    | zero => intro _; rfl
    | succ k ih =>
      intro hk
      have ih := ih (by omega)
      rw [List.range_succ, List.map_append, Sd.sum_append, ← ih]
      show (pic C tx a _ k ++ one C tx a _ k).length = _ + (wds C t W a b e full k + 0)
      rw [List.length_append]
      by_cases e0 : (Sp.at' C (a + k)).kind = 0
      · have e1 : one C tx a (wds C t W a b e full) k = (tx.drop (Sp.at' C (a + k)).pl).take (Sp.at' C (a + k)).len := if_pos e0
        rw [e1, h k e0 (by omega)]
        have e2 : wds C t W a b e full k = (Sp.at' C (a + k)).cells.toNat := by
          unfold wds
          rw [Sd.wj_plain C t a _ k (by rw [e0]; decide), if_neg (by rw [e0]; decide)]
          rfl
        rw [e2]
        omega
      · have : one C tx a (wds C t W a b e full) k = List.replicate (wds C t W a b e full k) 32 := if_neg e0
        rw [this, List.length_replicate]
        omega
  unfold row
  rw [List.length_append, hp _ (Nat.le_refl _)]
  have e1 : Sd.sum ((List.range (Sp.tr C a (b - a) - a)).map (wds C t W a b e full)) = Sp.wd C t a (b - a) + Sd.sum ((if full then Sd.mre C t W a b e else []).take (Sp.gp C a (b - a))) := Sd.wj_sum C ht a _ _
  rw [e1]
  by_cases e3 : e = 3
  · rw [if_pos e3, if_pos e3]; rfl
  · rw [if_neg e3, if_neg e3]; rfl
/-- a row that isn't full has as many bytes as cells .. -/
theorem row_plain (C : List Ct) (tx : List Nat) {t : Nat} (ht : 0 < t) {W a b e : Nat} (h : ∀ i, (Sp.at' C (a + i)).kind = 0 → i < Sp.tr C a (b - a) - a → ((tx.drop (Sp.at' C (a + i)).pl).take (Sp.at' C (a + i)).len).length = (Sp.at' C (a + i)).cells.toNat) : (row C tx t W a b e false).length = Sp.wde C t a b e := by
  rw [row_len C tx ht false h]
  show _ + Sd.sum (([] : List Nat).take _) + _ = _
  rw [List.take_nil]
  rfl
/-- .. a full one, that may be filled, as many as the width. -/
theorem row_full (C : List Ct) (tx : List Nat) {t : Nat} (ht : 0 < t) {W a b e : Nat} (hW : W ≤ 1048576) (hg : Sp.gp C a (b - a) ≤ 4096) (h : ∀ i, (Sp.at' C (a + i)).kind = 0 → i < Sp.tr C a (b - a) - a → ((tx.drop (Sp.at' C (a + i)).pl).take (Sp.at' C (a + i)).len).length = (Sp.at' C (a + i)).cells.toNat) : (row C tx t W a b e true).length = if e ≠ 2 ∧ e ≠ 4 ∧ 0 < Sp.gp C a (b - a) ∧ Sp.wde C t a b e ≤ W then W else Sp.wde C t a b e := by
  rw [row_len C tx ht true h, ← Sd.wid_fills C ht hW hg]
  have e1 : Sd.sum (Sd.wid C t W a b e) = Sp.wd C t a (b - a) + Sd.sum ((Sd.mre C t W a b e).take (Sp.gp C a (b - a))) := Sd.wj_sum C ht a _ _
  rw [e1]
  rfl
/-- without blanks and hyphens: the Plain clusters' bytes. -/
def wrd (C : List Ct) (tx : List Nat) (a : Nat) : Nat → List Nat
  | 0 => []
  | k + 1 => wrd C tx a k ++ (if (Sp.at' C (a + k)).kind = 0 then (tx.drop (Sp.at' C (a + k)).pl).take (Sp.at' C (a + k)).len else [])
theorem pic_words (C : List Ct) (tx : List Nat) (a : Nat) (n : Nat → Nat) (h : ∀ x ∈ tx, x ≠ 32 ∧ x ≠ 45) : ∀ k, (pic C tx a n k).filter (fun y => y != 32 && y != 45) = wrd C tx a k
  | 0 => rfl
  | k + 1 => by
    show (pic C tx a n k ++ one C tx a n k).filter _ = wrd C tx a k ++ _
    rw [List.filter_append, pic_words C tx a n h k]
    congr 1
    by_cases e : (Sp.at' C (a + k)).kind = 0
    · have e1 : one C tx a n k = (tx.drop (Sp.at' C (a + k)).pl).take (Sp.at' C (a + k)).len := if_pos e
      rw [e1, if_pos e, List.filter_eq_self]
      intro x hx
      have := h x (List.mem_of_mem_drop (List.mem_of_mem_take hx))
      simp [this.1, this.2]
    · have e1 : one C tx a n k = List.replicate (n k) 32 := if_neg e
      rw [e1, if_neg e, List.filter_eq_nil_iff]
      intro x hx
      rw [List.eq_of_mem_replicate hx]
      decide
theorem row_words (C : List Ct) (tx : List Nat) (t W a b e : Nat) (full : Bool) (h : ∀ x ∈ tx, x ≠ 32 ∧ x ≠ 45) : (row C tx t W a b e full).filter (fun y => y != 32 && y != 45) = wrd C tx a (Sp.tr C a (b - a) - a) := by
  unfold row
  rw [List.filter_append, pic_words C tx a _ h]
  by_cases e3 : e = 3
  · rw [if_pos e3]; exact List.append_nil _
  · rw [if_neg e3]; exact List.append_nil _
/-- by Must or Cut: the same, full or not. -/
theorem row_same (C : List Ct) (tx : List Nat) (t W a b e : Nat) (h : e = 2 ∨ e = 4) : row C tx t W a b e true = row C tx t W a b e false := by
  have em : Sd.mre C t W a b e = [] := if_pos h
  unfold row wds
  rw [em]
  rfl
theorem pic_le (C : List Ct) (tx : List Nat) (a : Nat) (n m : Nat → Nat) (h : ∀ i, n i ≤ m i) : ∀ k, (pic C tx a n k).length ≤ (pic C tx a m k).length
  | 0 => Nat.le_refl _
  | k + 1 => by
    have ih := pic_le C tx a n m h k
    show (pic C tx a n k ++ one C tx a n k).length ≤ (pic C tx a m k ++ one C tx a m k).length
    rw [List.length_append, List.length_append]
    by_cases e : (Sp.at' C (a + k)).kind = 0
    · have e1 : one C tx a n k = one C tx a m k := by unfold one; rw [if_pos e, if_pos e]
      rw [e1]; omega
    · have e1 : one C tx a n k = List.replicate (n k) 32 := if_neg e
      have e2 : one C tx a m k = List.replicate (m k) 32 := if_neg e
      rw [e1, e2, List.length_replicate, List.length_replicate]
      have := h k
      omega
/-- full, a row is no shorter. -/
theorem row_le (C : List Ct) (tx : List Nat) (t W a b e : Nat) : (row C tx t W a b e false).length ≤ (row C tx t W a b e true).length := by
  unfold row
  rw [List.length_append, List.length_append]
  refine Nat.add_le_add_right (pic_le C tx a _ _ (fun i => ?_) _) _
  unfold wds
  show Sd.wj C t a [] i ≤ Sd.wj C t a (Sd.mre C t W a b e) i
  rw [wj_nil]
  unfold Sd.wj
  omega
end Dw
end Go.Proofs.Ytegoadhnilmchaa
