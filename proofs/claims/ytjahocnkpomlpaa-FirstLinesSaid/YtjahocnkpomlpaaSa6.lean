/-
  Gaps, and the document's; Ends.
-/
import Derived.Test.YtjahocnkpomlpaaSa5
namespace Go.Proofs.Ytjahocnkpomlpaa
open Go.RowKit Go.Maps
set_option linter.unusedVariables false
set_option linter.unusedSimpArgs false
theorem sps_yes {C : List Ct} {x k : Nat} (h : (Sp.at' C (x + k)).kind = 1) : Sp.sps C x (k + 1) = Sp.sps C x k + 1 := by
  show Sp.sps C x k + (if (Sp.at' C (x + k)).kind = 1 then 1 else 0) = _
  rw [if_pos h]
theorem sps_no {C : List Ct} {x k : Nat} (h : (Sp.at' C (x + k)).kind ≠ 1) : Sp.sps C x (k + 1) = Sp.sps C x k := by
  show Sp.sps C x k + (if (Sp.at' C (x + k)).kind = 1 then 1 else 0) = _
  rw [if_neg h]; rfl
theorem sps_le (C : List Ct) (x : Nat) : ∀ k, Sp.sps C x k ≤ k
  | 0 => Nat.le_refl _
  | k + 1 => by
    have := sps_le C x k
    show Sp.sps C x k + (if (Sp.at' C (x + k)).kind = 1 then 1 else 0) ≤ _
    split <;> omega
set_option maxRecDepth 100000 in
set_option maxHeartbeats 4000000 in
theorem ends_any (C : List Ct) (O : List Nat) (n m : Nat) (aC aO : Option Addr) (cC cO y e : Nat) (w : World) (hP : Pv w C O n m aC aO cC cO) (hy : y < m) (hO : O[y]? = some e) :
    Calls Try.prog 26 #[.agg #[.slice aC n cC, .slice aO m cO], .int .i64 (y : Int)] w fun r w' => r = .returned (.tuple #[.int .u8 (e : Int), .bool (decide (e ≠ 0))]) ∧ Only (fun _ => False) w w' := by
  have h1 := hP.fewO
  have he8 : e < 256 := hP.oO e (List.mem_of_getElem? hO)
  have t1 : decide ((m : Int) ≤ (y : Int)) = false := decide_eq_false (by omega)
  have t3 : (y : Int) < (m : Int) := by omega
  obtain ⟨bo, oo, rfl, hb, hc⟩ := hP.vO.cells (by rw [u8s_len, ← hP.hm]; omega)
  have c0 := keep0 ((Only.refl _ _).alloc (.cells #[.slice aC n cC, .slice (some ⟨bo, oo, none⟩) m cO] 31)) (hc y _ (u8s_at hO))
  clear hc hO hP
  by_cases he0 : e = 0
  · subst he0
    go_enter Try.func26, Try.ntmps26
    go_wp2_with fail
    go_ret2
    exact ⟨rfl, (Only.refl _ _).alloc _⟩
  · have t2 : ((e : Int) != 0) = true := by simp; exact he0
    rw [decide_eq_true he0]
    clear he0
    go_enter Try.func26, Try.ntmps26
    go_wp2_with fail
    go_ret2
    exact ⟨rfl, (Only.refl _ _).alloc _⟩
end Go.Proofs.Ytjahocnkpomlpaa

