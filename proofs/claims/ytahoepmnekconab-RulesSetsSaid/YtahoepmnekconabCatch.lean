/-
  Parse's deferred closure: what it does with a fault that was thrown, and where nothing was.
-/
import Derived.Test.YtahoepmnekconabKinds
import Derived.Recover
import Derived.Laws.Pointers
namespace Go.Proofs.Ytahoepmnekconab
open Go.RowKit Go.Maps
set_option linter.unusedVariables false
set_option linter.unusedSimpArgs false

theorem catch_idle (p q : Addr) (w : World) :
    CallsD Try.prog 7 #[.pointer (some p), .pointer (some q)] .returning w fun e u' w' => e = .returned (.tuple #[]) ∧ u' = .returning ∧ w' = w := by
  refine callsD_of_wpS Try.func7 rfl fun c₀ cs hu => ?_
  apply wpS_seq
  apply wpS_region
  simp [wpOpsS, go_sem, recoverD, hu, Try.ntmps7, Exit.thenS]
  refine wpS_of_wp ?_
  go_wp2
  cases c₀
  simp_all [bodyPostS, results, Try.results7]

set_option maxRecDepth 100000 in
set_option maxHeartbeats 4000000 in
theorem catch_thrown (ob fb : Nat) (c i : Int) (v0 v1 v2 v3 v4 u0 u1 : Value) (older : List PanicEntry) (w : World) (hO : w.heap[ob]? = some (.cells #[v0, v1, v2, v3, v4] 30 (0, 0))) (hF : w.heap[fb]? = some (.cells #[u0, u1] 33 (0, 0))) (hne : ob ≠ fb) :
    CallsD Try.prog 7 #[.pointer (some ⟨ob, 0, none⟩), .pointer (some ⟨fb, 0, none⟩)] (.panicking ({ v := .iface 33 (.agg #[.int .i64 c, .int .i64 i]), recovered := false } :: older)) w fun e u' w' =>
      e = .returned (.tuple #[]) ∧ u' = .panicking ({ v := .iface 33 (.agg #[.int .i64 c, .int .i64 i]), recovered := true } :: older) ∧ w'.heap[ob]? = some (.cells #[.slice none 0 0, .int .u32 0, .int .u32 0, .slice none 0 0, .slice none 0 0] 30 (0, 0)) ∧ w'.heap[fb]? = some (.cells #[.int .i64 c, .int .i64 i] 33 (0, 0)) ∧ Only (fun b => b = ob ∨ b = fb) w w' := by
  have a0 : w.cell? ⟨ob, 0, none⟩ = some v0 := (cell_of_row _ _ _ _ _ _ hO).trans rfl
  have a1 : w.cell? ⟨ob, 1, none⟩ = some v1 := (cell_of_row _ _ _ _ _ _ hO).trans rfl
  have a2 : w.cell? ⟨ob, 2, none⟩ = some v2 := (cell_of_row _ _ _ _ _ _ hO).trans rfl
  have a3 : w.cell? ⟨ob, 3, none⟩ = some v3 := (cell_of_row _ _ _ _ _ _ hO).trans rfl
  have a4 : w.cell? ⟨ob, 4, none⟩ = some v4 := (cell_of_row _ _ _ _ _ _ hO).trans rfl
  have b0 : w.cell? ⟨fb, 0, none⟩ = some u0 := (cell_of_row _ _ _ _ _ _ hF).trans rfl
  have b1 : w.cell? ⟨fb, 1, none⟩ = some u1 := (cell_of_row _ _ _ _ _ _ hF).trans rfl
  have fo : ∀ k, w.frozen? ⟨ob, k, none⟩ = false := fun k => by simp [World.frozen?, hO]
  have ff : ∀ k, w.frozen? ⟨fb, k, none⟩ = false := fun k => by simp [World.frozen?, hF]
  have o0 := fo 0
  have o1 := fo 1
  have o2 := fo 2
  have o3 := fo 3
  have o4 := fo 4
  have g0 := ff 0
  have g1 := ff 1
  have hne' : fb ≠ ob := fun e => hne e.symm
  have HO : Hid (w.heap[ob]? = some (.cells #[v0, v1, v2, v3, v4] 30 (0, 0))) := hO
  have HF : Hid (w.heap[fb]? = some (.cells #[u0, u1] 33 (0, 0))) := hF
  clear hO hF fo ff
  refine callsD_of_wpS Try.func7 rfl fun c₀ cs hu => ?_
  apply wpS_seq
  apply wpS_region
  simp [wpOpsS, go_sem, recoverD, hu, Try.ntmps7, Exit.thenS]
  refine wpS_of_wp ?_
  have hta : ∀ w, (Instr.typeAssert (.iface 33 (.agg #[.int .i64 c, .int .i64 i])) 20 33 false).run Try.prog w = .ok (.agg #[.int .i64 c, .int .i64 i]) w := fun w => by kernel_rfl
  go_wp2
  go_region
  all_goals
    have hob : (((((w.setCell ⟨ob, 0, none⟩ (Value.slice none 0 0)).setCell ⟨ob, 1, none⟩ (Value.int .u32 0)).setCell ⟨ob, 2, none⟩ (Value.int .u32 0)).setCell ⟨ob, 3, none⟩ (Value.slice none 0 0)).setCell ⟨ob, 4, none⟩ (Value.slice none 0 0)).heap[ob]? = some (.cells #[.slice none 0 0, .int .u32 0, .int .u32 0, .slice none 0 0, .slice none 0 0] 30 (0, 0)) := heap_setCell_at (heap_setCell_at (heap_setCell_at (heap_setCell_at (heap_setCell_at HO.out _) _) _) _) _
    have hon : Only (fun b => b = ob ∨ b = fb) w (((((w.setCell ⟨ob, 0, none⟩ (Value.slice none 0 0)).setCell ⟨ob, 1, none⟩ (Value.int .u32 0)).setCell ⟨ob, 2, none⟩ (Value.int .u32 0)).setCell ⟨ob, 3, none⟩ (Value.slice none 0 0)).setCell ⟨ob, 4, none⟩ (Value.slice none 0 0)) := (((((Only.refl (fun b => b = ob ∨ b = fb) w).setCell (p := ⟨ob, 0, none⟩) (Or.inl rfl) _).setCell (p := ⟨ob, 1, none⟩) (Or.inl rfl) _).setCell (p := ⟨ob, 2, none⟩) (Or.inl rfl) _).setCell (p := ⟨ob, 3, none⟩) (Or.inl rfl) _).setCell (p := ⟨ob, 4, none⟩) (Or.inl rfl) _
    have hfb : (((((w.setCell ⟨ob, 0, none⟩ (Value.slice none 0 0)).setCell ⟨ob, 1, none⟩ (Value.int .u32 0)).setCell ⟨ob, 2, none⟩ (Value.int .u32 0)).setCell ⟨ob, 3, none⟩ (Value.slice none 0 0)).setCell ⟨ob, 4, none⟩ (Value.slice none 0 0)).heap[fb]? = some (.cells #[u0, u1] 33 (0, 0)) := (Below.heap_setCell _ _ _ _ hne').trans ((Below.heap_setCell _ _ _ _ hne').trans ((Below.heap_setCell _ _ _ _ hne').trans ((Below.heap_setCell _ _ _ _ hne').trans ((Below.heap_setCell _ _ _ _ hne').trans HF.out))))
    generalize (((((w.setCell ⟨ob, 0, none⟩ (Value.slice none 0 0)).setCell ⟨ob, 1, none⟩ (Value.int .u32 0)).setCell ⟨ob, 2, none⟩ (Value.int .u32 0)).setCell ⟨ob, 3, none⟩ (Value.slice none 0 0)).setCell ⟨ob, 4, none⟩ (Value.slice none 0 0)) = W5 at hob hfb hon ⊢
    refine ⟨rfl, _, rfl, .tuple #[], by simp [results, Try.results7], rfl, rfl, ?_, ?_, ?_⟩
    · exact (Below.heap_setCell _ _ _ _ hne).trans ((Below.heap_setCell _ _ _ _ hne).trans hob)
    · exact heap_setCell_at (heap_setCell_at hfb _) _
    · exact ((hon.setCell (p := ⟨fb, 0, none⟩) (Or.inr rfl) _).setCell (p := ⟨fb, 1, none⟩) (Or.inr rfl) _).drew
end Go.Proofs.Ytahoepmnekconab
