/-
  What (*auto.places).begin does.
-/
import Derived.Test.YtfbcijnacbfjpaaEnd
namespace Go.Proofs.Ytfbcijnacbfjpaa
open Go.RowKit Go.Maps
set_option linter.unusedVariables false
set_option linter.unusedSimpArgs false
theorem results_row1 {P : Program} {fn : Func} {p u : Tmp} {ty : TypeId} (h : fn.results = #[.cell p ty, .tmp u]) (tmps : Array Value) (w : World) (g : Nat) (t : TypeId) (cs : Array Value) (fr : Nat × Nat) (d : TypeDesc)
    (hp : tmps.getD p undef = .pointer (some ⟨g, 0, none⟩)) (hg : w.heap[g]? = some (.cells cs t fr)) (hu : P.underlying ty = some d) (hd : (match d with | .struct _ | .array _ _ => true | _ => false) = true) (hi : (P.info? ty).map (·.size) = some cs.size)
    {y : Value} (hy : tmps.getD u undef = y) : (results fn tmps).run P w = .ok (.tuple #[.agg cs, y]) w := by
  have hp' : tmps[p]?.getD undef = .pointer (some ⟨g, 0, none⟩) := by simpa using hp
  have hy' : tmps[u]?.getD undef = y := by simpa using hy
  simp [results, h, hp', hy', asAddr, run_loadVar_row w g t ty cs fr d hg hu hd hi]
set_option maxRecDepth 100000 in
set_option maxHeartbeats 4000000 in
theorem begin2 (g : Nat) (set : Int) (a : Option Addr) (m c : Nat) (w : World) :
    Calls Try.prog 56 #[.pointer (some ⟨g, 0, none⟩), .agg #[.int .u8 2, .int .u32 set, .slice a m c]] w fun e w' => e = .returned (.tuple #[fmV 2 a m c ⟨true, 0, 0⟩, .bool true]) ∧ Only (fun _ => False) w w' := by
  go_enter Try.func56, Try.ntmps56
  go_wp2_with fail
  refine bodyPost_ret (v := .tuple #[fmV 2 a m c ⟨true, 0, 0⟩, .bool true]) (by simp [results, Try.results56, go_sem, fmV, fmC, wd_zero]) rfl ⟨rfl, ?_⟩
  exact (((Only.refl _ _).alloc _).alloc _).alloc _
set_option maxRecDepth 100000 in
set_option maxHeartbeats 4000000 in
theorem begin3 (g : Nat) (set : Int) (a : Option Addr) (m c : Nat) (w : World) :
    Calls Try.prog 56 #[.pointer (some ⟨g, 0, none⟩), .agg #[.int .u8 3, .int .u32 set, .slice a m c]] w fun e w' => e = .returned (.tuple #[fmV 3 a m c ⟨false, 0, 0⟩, .bool true]) ∧ Only (fun _ => False) w w' := by
  go_enter Try.func56, Try.ntmps56
  go_wp2_with fail
  refine bodyPost_ret (v := .tuple #[fmV 3 a m c ⟨false, 0, 0⟩, .bool true]) (by simp [results, Try.results56, go_sem, fmV, fmC, wd_zero]) rfl ⟨rfl, ?_⟩
  exact (((Only.refl _ _).alloc _).alloc _).alloc _
set_option maxRecDepth 100000 in
set_option maxHeartbeats 4000000 in
theorem beginO (g : Nat) (op : Int) (set : Int) (a : Option Addr) (m c : Nat) (w : World) (h : op < 1 ∨ 6 < op) :
    Calls Try.prog 56 #[.pointer (some ⟨g, 0, none⟩), .agg #[.int .u8 op, .int .u32 set, .slice a m c]] w fun e w' => e = .returned (.tuple #[fmV op none 0 0 ⟨true, 0, 0⟩, .bool true]) ∧ Only (fun _ => False) w w' := by
  have q1 : (op == 1) = false := by simp; omega
  have q2 : (op == 2) = false := by simp; omega
  have q3 : (op == 3) = false := by simp; omega
  have q4 : (op == 4) = false := by simp; omega
  have q5 : (op == 5) = false := by simp; omega
  have q6 : (op == 6) = false := by simp; omega
  clear h
  go_enter Try.func56, Try.ntmps56
  go_wp2_with fail
  refine bodyPost_ret (v := .tuple #[fmV op none 0 0 ⟨true, 0, 0⟩, .bool true]) (by simp [results, Try.results56, go_sem, fmV, fmC, wd_zero]) rfl ⟨rfl, ?_⟩
  exact (((Only.refl _ _).alloc _).alloc _).alloc _
end Go.Proofs.Ytfbcijnacbfjpaa
