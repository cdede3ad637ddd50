/-
  Rows of numbers that are filled one by one, in plain words. (For layer 18.)
-/
import Derived.Test.YtegoadhnilmchaaSj
import Derived.Test.YtegoadhnilmchaaSa7
namespace Go.Proofs.Ytegoadhnilmchaa
open Go.RowKit Go.Maps
set_option linter.unusedVariables false
set_option linter.unusedSimpArgs false
namespace Sd
/-- the first i are done. -/
def mix (f1 f0 : Nat → Nat) (n i : Nat) : List Nat := (List.range n).map fun j => if j < i then f1 j else f0 j
theorem mix_len (f1 f0 : Nat → Nat) (n i : Nat) : (mix f1 f0 n i).length = n := by simp [mix]
theorem mix_at {f1 f0 : Nat → Nat} {n i j : Nat} (h : j < n) : (mix f1 f0 n i)[j]? = some (if j < i then f1 j else f0 j) := by
  unfold mix
  rw [List.getElem?_map, List.getElem?_range h]
  rfl
theorem mix_this {f1 f0 : Nat → Nat} {n i : Nat} (h : i < n) : (mix f1 f0 n i)[i]? = some (f0 i) := by rw [mix_at h, if_neg (by omega)]
theorem mix_set {f1 f0 : Nat → Nat} {n i : Nat} (h : i < n) : (mix f1 f0 n i).set i (f1 i) = mix f1 f0 n (i + 1) := by
  apply List.ext_getElem?
  intro j
  by_cases hj : j < n
  · rw [mix_at hj, List.getElem?_set]
    by_cases e : i = j
    · subst e
      rw [if_pos rfl, if_pos (by rw [mix_len]; exact h), if_pos (by omega)]
    · rw [if_neg e, mix_at hj]
      by_cases q : j < i
      · rw [if_pos q, if_pos (by omega)]
      · rw [if_neg q, if_neg (by omega)]
  · rw [List.getElem?_eq_none (by rw [List.length_set, mix_len]; omega), List.getElem?_eq_none (by rw [mix_len]; omega)]
theorem mix_full (f1 f0 : Nat → Nat) (n : Nat) : mix f1 f0 n n = (List.range n).map f1 := by
  apply List.ext_getElem?
  intro j
  by_cases hj : j < n
  · rw [mix_at hj, if_pos hj, List.getElem?_map, List.getElem?_range hj]
    rfl
  · rw [List.getElem?_eq_none (by rw [mix_len]; omega), List.getElem?_eq_none (by simp; omega)]
theorem mix_none (f1 f0 : Nat → Nat) (n : Nat) : mix f1 f0 n 0 = (List.range n).map f0 := by
  unfold mix
  simp
theorem made_mix (f1 : Nat → Nat) (n : Nat) : madeCells #[.int .i64 0] n = nums (mix f1 (fun _ => 0) n 0) := by
  apply Array.ext_getElem?
  intro j
  by_cases hj : j < n
  · rw [Array.getElem?_eq_getElem (by rw [size_madeCells]; exact hj), nums_at, mix_at hj]
    simp [madeCells, Nat.mod_one]
  · rw [Array.getElem?_eq_none (by rw [size_madeCells]; omega), Array.getElem?_eq_none (by rw [nums_size, mix_len]; omega)]
theorem all_eq (r g : Nat) : all r g = (List.range g).map (sp r g) := rfl
theorem all_at {r g i : Nat} (h : i < g) : (all r g)[i]? = some (sp r g i) := by
  rw [all_eq, List.getElem?_map, List.getElem?_range h]
  rfl
theorem spr_in {r g : Nat} (hr : r ≤ 1048576) (h1 : 1 ≤ g) (hg : g ≤ 4096) : spr (r : Int) g = all r g := by
  unfold spr
  rw [if_pos ⟨by omega, by omega, h1, hg⟩, Int.toNat_natCast]
theorem spr_out {room : Int} {g : Nat} (h : room < 0 ∨ 1048576 < room ∨ g < 1 ∨ 4096 < g) : spr room g = [] := by
  unfold spr
  rw [if_neg (by omega)]
/-- what is spread up to a gap is no more than all. -/
theorem upto_le {r g i : Nat} (h0 : 0 < g) (h : i ≤ g) : r * i / g ≤ r := by
  have h1 := mono r (g := g) h
  rw [Nat.mul_div_cancel _ h0] at h1
  exact h1
theorem sp_le {r g i : Nat} (h0 : 0 < g) (h : i < g) : sp r g i ≤ r := by
  unfold sp
  exact Nat.le_trans (Nat.sub_le _ _) (upto_le (r := r) (g := g) (i := i + 1) h0 h)
end Sd
end Go.Proofs.Ytegoadhnilmchaa
