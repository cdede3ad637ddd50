/-
  Make of what is no automaton.
-/
import Derived.Test.YtelifjeppegcmaaCk2
import Derived.Test.YtelifjeppegcmaaGr0
namespace Go.Proofs.Ytelifjeppegcmaa
open Go.RowKit Go.Maps
set_option linter.unusedVariables false
set_option linter.unusedSimpArgs false
theorem results_row1 {P : Program} {fn : Func} {p u : Tmp} {ty : TypeId} (h : fn.results = #[.cell p ty, .tmp u]) (tmps : Array Value) (w : World) (g : Nat) (t : TypeId) (cs : Array Value) (fr : Nat × Nat) (d : TypeDesc)
    (hp : tmps.getD p undef = .pointer (some ⟨g, 0, none⟩)) (hg : w.heap[g]? = some (.cells cs t fr)) (hu : P.underlying ty = some d) (hd : (match d with | .struct _ | .array _ _ => true | _ => false) = true) (hi : (P.info? ty).map (·.size) = some cs.size)
    {y : Value} (hy : tmps.getD u undef = y) : (results fn tmps).run P w = .ok (.tuple #[.agg cs, y]) w := by
  have hp' : tmps[p]?.getD undef = .pointer (some ⟨g, 0, none⟩) := by simpa using hp
  have hy' : tmps[u]?.getD undef = y := by simpa using hy
  simp [results, h, hp', hy', asAddr, run_loadVar_row w g t ty cs fr d hg hu hd hi]
theorem sz27 : (Try.prog.info? 27).map (·.size) = some 2 := by kernel_rfl
set_option maxRecDepth 100000 in
set_option maxHeartbeats 4000000 in
theorem make_bad (aN aO : Option Addr) (n cN nO cO : Nat) (w : World) (hC : ∀ W, Only (fun _ => False) w W → Calls Try.prog 10 #[.agg #[.slice aN n cN, .slice aO nO cO]] W fun e w' => e = .returned (.bool false) ∧ Only (fun _ => False) W w') :
    Calls Try.prog 12 #[.agg #[.slice aN n cN, .slice aO nO cO]] w fun e w' => e = .returned (.tuple #[.agg #[.slice none 0 0, .slice none 0 0], .int .i64 2]) ∧ Only (fun _ => False) w w' := by
  have HC : Hid (∀ W, Only (fun _ => False) w W → Calls Try.prog 10 #[.agg #[.slice aN n cN, .slice aO nO cO]] W fun e w' => e = .returned (.bool false) ∧ Only (fun _ => False) W w') := hC
  clear hC
  have HT : Hid _ := two_at w (.cells #[.slice aN n cN, .slice aO nO cO] 27) (.cells #[.slice none 0 0, .slice none 0 0] 27)
  go_enter Try.func12, Try.ntmps12
  go_wp2_with (first | (go_at_call 10; refine (HC.out _ HT.out.2.2.1).mono ?_; rintro e w1 ⟨rfl, ho1⟩; have e2 := (ho1.block (w.heap.size + 1) (by rw [HT.out.2.2.2]; omega) (fun h => h)).trans HT.out.2.1; have f2 : ∀ x, w1.frozen? ⟨w.heap.size + 1, x, none⟩ = false := (fun x => fz_blk e2 x); have d0 : w1.cell? ⟨w.heap.size + 1, 0, none⟩ = some (.slice none 0 0) := cell_blk e2; have d1 : w1.cell? ⟨w.heap.size + 1, 1, none⟩ = some (.slice none 0 0) := cell_blk e2; have lw := World.block_lt_of_cell? w1 _ d0; have HO1 : Hid (Only (fun _ => False) w w1 ∧ w1.heap[w.heap.size + 1]? = some (.cells #[.slice none 0 0, .slice none 0 0] 27 (0, 0))) := ⟨HT.out.2.2.1.trans ho1, e2⟩; clear ho1 e2))
  refine bodyPost_ret (v := .tuple #[.agg #[.slice none 0 0, .slice none 0 0], .int .i64 2]) (results_row1 (p := 2) (u := 3) rfl _ _ (w.heap.size + 1) 27 #[.slice none 0 0, .slice none 0 0] (0, 0) _ rfl (heap_setCell_at (heap_setCell_at HO1.out.2 _) _) Try.underlying27 rfl sz27 rfl) rfl ⟨rfl, ?_⟩
  exact ((HO1.out.1.setNew (p := ⟨w.heap.size + 1, 0, none⟩) (by show w.heap.size ≤ w.heap.size + 1; omega) _).setNew (p := ⟨w.heap.size + 1, 1, none⟩) (by show w.heap.size ≤ w.heap.size + 1; omega) _)
end Go.Proofs.Ytelifjeppegcmaa
