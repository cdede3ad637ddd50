/-
  How wide the clusters of a line that fills its width are, in plain words; no walk in it. (For layers 18, 22.)
-/
import Derived.Test.YtegoadhnilmchaaSd
import Derived.Test.YtegoadhnilmchaaSr
namespace Go.Proofs.Ytegoadhnilmchaa
set_option linter.unusedVariables false
set_option linter.unusedSimpArgs false
namespace Sd
/-- room over gaps, as it is told: none, if room or gaps are out of bounds. -/
def spr (room : Int) (g : Nat) : List Nat := if 0 ≤ room ∧ room ≤ 1048576 ∧ 1 ≤ g ∧ g ≤ 4096 then all room.toNat g else []
/-- what the spaces of a line get more. -/
def mre (C : List Ct) (t W a b e : Nat) : List Nat := if e = 2 ∨ e = 4 then [] else spr ((W : Int) - (Sp.wde C t a b e : Int)) (Sp.gp C a (b - a))
/-- how wide cluster i of a line is. -/
def wj (C : List Ct) (t a : Nat) (M : List Nat) (i : Nat) : Nat := Sp.col C t a (i + 1) - Sp.col C t a i + (if (Sp.at' C (a + i)).kind = 1 then M.getD (Sp.sps C a i) 0 else 0)
/-- .. and all of them. -/
def wid (C : List Ct) (t W a b e : Nat) : List Nat := (List.range (Sp.tr C a (b - a) - a)).map (wj C t a (mre C t W a b e))
theorem wid_len (C : List Ct) (t W a b e : Nat) : (wid C t W a b e).length = Sp.tr C a (b - a) - a := by simp [wid]
theorem take_next (M : List Nat) (j : Nat) : sum (M.take (j + 1)) = sum (M.take j) + M.getD j 0 := by
  rw [List.take_add_one, sum_append, List.getD_eq_getElem?_getD]
  cases M[j]? with
  | none => rfl
  | some x => show _ + (x + 0) = _ + x; omega
theorem wj_sum (C : List Ct) {t : Nat} (ht : 0 < t) (a : Nat) (M : List Nat) : ∀ k, sum ((List.range k).map (wj C t a M)) = Sp.col C t a k + sum (M.take (Sp.sps C a k))
  | 0 => by
    show 0 = 0 + sum (M.take 0)
    rw [List.take_zero]
    rfl
  | k + 1 => by
    have ih := wj_sum C ht a M k
    have hm := Sp.col_step C ht a k
    rw [List.range_succ, List.map_append, sum_append, ih]
    show _ + (wj C t a M k + 0) = _
    unfold wj
    have es : Sp.sps C a (k + 1) = Sp.sps C a k + (if (Sp.at' C (a + k)).kind = 1 then 1 else 0) := rfl
    rw [es]
    by_cases h : (Sp.at' C (a + k)).kind = 1
    · rw [if_pos h, if_pos h, take_next]
      omega
    · rw [if_neg h, if_neg h]
      simp only [Nat.add_zero]
      omega
/-- a cluster that is no tab is as wide as its cells, a space by so much more. -/
theorem wj_plain (C : List Ct) (t a : Nat) (M : List Nat) (i : Nat) (h2 : (Sp.at' C (a + i)).kind ≠ 2) : wj C t a M i = (Sp.at' C (a + i)).cells.toNat + (if (Sp.at' C (a + i)).kind = 1 then M.getD (Sp.sps C a i) 0 else 0) := by
  have e : Sp.col C t a (i + 1) = Sp.col C t a i + (Sp.at' C (a + i)).cells.toNat := by
    show Sp.nx (Sp.at' C (a + i)) t (Sp.col C t a i) = _
    unfold Sp.nx
    rw [if_neg h2]
  unfold wj
  rw [e]
  omega
/-- a line that fills its width, with its hyphen; others are as wide as they are. -/
theorem wid_fills (C : List Ct) {t : Nat} (ht : 0 < t) {W a b e : Nat} (hW : W ≤ 1048576) (hg : Sp.gp C a (b - a) ≤ 4096) : sum (wid C t W a b e) + (if e = 3 then 1 else 0) = if e ≠ 2 ∧ e ≠ 4 ∧ 0 < Sp.gp C a (b - a) ∧ Sp.wde C t a b e ≤ W then W else Sp.wde C t a b e := by
  have h1 : sum (wid C t W a b e) = Sp.wd C t a (b - a) + sum ((mre C t W a b e).take (Sp.gp C a (b - a))) := wj_sum C ht a _ _
  have h2 : Sp.wde C t a b e = Sp.wd C t a (b - a) + (if e = 3 then 1 else 0) := rfl
  rw [h1, h2]
  generalize (if e = 3 then 1 else 0) = z at h2 ⊢
  by_cases he : e = 2 ∨ e = 4
  · have em : mre C t W a b e = [] := if_pos he
    rw [em, if_neg (by omega), List.take_nil]
    show _ + 0 + _ = _
    omega
  · have em : mre C t W a b e = spr ((W : Int) - (Sp.wde C t a b e : Int)) (Sp.gp C a (b - a)) := if_neg he
    rw [em]
    by_cases hc : 0 < Sp.gp C a (b - a) ∧ Sp.wde C t a b e ≤ W
    · have hc1 := hc.1
      have hc2 := hc.2
      have es : spr ((W : Int) - (Sp.wde C t a b e : Int)) (Sp.gp C a (b - a)) = all ((W : Int) - (Sp.wde C t a b e : Int)).toNat (Sp.gp C a (b - a)) := if_pos (by omega)
      rw [es, if_pos ⟨by omega, by omega, hc1, by omega⟩, List.take_of_length_le (by rw [all_len]; exact Nat.le_refl _), sum_all hc.1]
      omega
    · have es : sum ((spr ((W : Int) - (Sp.wde C t a b e : Int)) (Sp.gp C a (b - a))).take (Sp.gp C a (b - a))) = 0 := by
        unfold spr
        rw [if_neg (by intro q; exact hc ⟨q.2.2.1, by have := q.1; omega⟩), List.take_nil]
        rfl
      rw [es, if_neg (by intro q; exact hc ⟨q.2.2.1, by rw [h2]; exact q.2.2.2⟩)]
      omega
end Sd
end Go.Proofs.Ytegoadhnilmchaa
