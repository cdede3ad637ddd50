/-
  Layer 10's Awake.
-/
import Derived.Test.YtlcpfheocenjfaaMko
namespace Go.Proofs.Ytlcpfheocenjfaa
open Go.RowKit Go.Maps
set_option linter.unusedVariables false
set_option linter.unusedSimpArgs false
def aL : List Rg := [⟨32, 126, 1⟩]
def aS : List Sn := [⟨97, 0, 1⟩, ⟨769, 1, 2⟩, ⟨32, 3, 1⟩]
def aM : List Nat := [0, 0, 1, 2]
theorem vw_blk {w : World} {b : Nat} {xs : List Value} {t : TypeId} (h : w.heap[b]? = some (.cells xs.toArray t (0, 0))) : Vw w (some ⟨b, 0, none⟩) xs := Or.inr ⟨b, 0, rfl, fun j u hj => by rw [Nat.zero_add, cell_blk h]; simpa using hj⟩
theorem aFits : Fits aS := fun s hs => by
  unfold aS at hs
  simp at hs
  rcases hs with rfl | rfl | rfl <;> decide
theorem aCls : Ce.cls (Pr.of aL) aS aM = [⟨0, 3, 1, 0⟩, ⟨3, 1, 1, 1⟩] := by rfl
theorem aStarts : Ce.starts aM aS.length = [0, 2, 3] := by rfl
set_option maxRecDepth 100000 in
set_option maxHeartbeats 4000000 in
theorem awake10_any (w : World) : Calls Try.prog 13 #[] w fun e w' => e = .returned (.bool true) ∧ Only (fun _ => False) w w' := by
  have HM : Hid (Calls Try.prog 15 #[.slice (some ⟨w.heap.size, 0, none⟩) 1 1, .int .i64 3] (w.alloc (.cells #[.int .i32 32, .int .i32 126, .int .i64 1] 45)) (tbP aL (w.alloc (.cells #[.int .i32 32, .int .i32 126, .int .i64 1] 45)))) := table_any aL 3 (some ⟨w.heap.size, 0, none⟩) w.heap.size 0 1 _ (sees_row (L := aL) (heap_alloc_new w _) (Nat.le_refl _)) (by decide) (by decide)
  go_enter Try.func13, Try.ntmps13
  go_wp2_with fail
  refine Calls.mono HM.out ?_
  rintro e w1 ⟨T, rfl, hT, ho1⟩
  have H1 : Hid (Tab w1 (w.alloc (.cells #[.int .i32 32, .int .i32 126, .int .i64 1] 45)).heap.size T aL ∧ Only (fun _ => False) w w1) := ⟨hT, ((Only.refl _ w).alloc _).trans ho1⟩
  clear hT ho1
  go_wp2_with fail
  obtain ⟨W2, hW2⟩ : ∃ Z, Z = (w1.alloc (.cells #[.int .i32 97, .int .i64 0, .int .i64 1, .int .i32 769, .int .i64 1, .int .i64 2, .int .i32 32, .int .i64 3, .int .i64 1] 50)).alloc (.cells #[.int .u8 0, .int .u8 0, .int .u8 1, .int .u8 2] 54) := ⟨_, rfl⟩
  rw [← hW2]
  have hC : Calls Try.prog 18 #[.slice (some ⟨w1.heap.size, 0, none⟩) 3 3, .slice (some ⟨w1.heap.size + 1, 0, none⟩) 4 4, .pointer (some ⟨T, 0, none⟩)] W2 (ceP (Pr.of aL) aS aM W2) := cells_any 3 aL _ T aS aM (some ⟨w1.heap.size, 0, none⟩) (some ⟨w1.heap.size + 1, 0, none⟩) 3 4 W2 (by rw [hW2]; exact H1.out.1.keep (((Only.refl _ _).alloc _).alloc _)) (by decide) (by rw [hW2]; exact vw_blk (xs := snC aS) (bx_made w1 _ _)) aFits (by rw [hW2]; exact vw_blk (xs := u8s aM) (heap_alloc2_new w1 _ _)) (by decide) (by decide) (by decide) (by decide) (by decide)
  have HO2 : Hid (Only (fun _ => False) w W2) := by
    rw [hW2]
    exact (H1.out.2.alloc _).alloc _
  refine Calls.mono hC ?_
  rintro e w3 ⟨aC, aP, cC, cP, rfl, hcl, hst, ho3⟩
  clear hC hW2
  rw [aCls, aStarts] at *
  obtain ⟨g1, cap1, ev1, _, lg1, _, hc1⟩ := row_form hcl (by decide)
  obtain ⟨g2, cap2, ev2, _, lg2, _, hc2⟩ := row_form hst (by decide)
  have ea1 : aC = some ⟨g1, 0, none⟩ := by injection ev1
  have ea2 : aP = some ⟨g2, 0, none⟩ := by injection ev2
  subst ea1 ea2
  have d0 : w3.cell? ⟨g1, 0, none⟩ = some (.int .i64 0) := hc1 0 (by decide)
  have d1 : w3.cell? ⟨g1, 1, none⟩ = some (.int .i64 3) := hc1 1 (by decide)
  have d2 : w3.cell? ⟨g1, 2, none⟩ = some (.int .i64 1) := hc1 2 (by decide)
  have d3 : w3.cell? ⟨g1, 3, none⟩ = some (.int .u8 0) := hc1 3 (by decide)
  have d4 : w3.cell? ⟨g1, 4, none⟩ = some (.int .i64 3) := hc1 4 (by decide)
  have d5 : w3.cell? ⟨g1, 5, none⟩ = some (.int .i64 1) := hc1 5 (by decide)
  have d6 : w3.cell? ⟨g1, 6, none⟩ = some (.int .i64 1) := hc1 6 (by decide)
  have d7 : w3.cell? ⟨g1, 7, none⟩ = some (.int .u8 1) := hc1 7 (by decide)
  have f1 : w3.cell? ⟨g2, 1, none⟩ = some (.int .i64 2) := hc2 1 (by decide)
  have HO3 : Hid (Only (fun _ => False) w w3) := HO2.out.trans ho3
  clear hcl hst ev1 ev2 hc1 hc2 ho3
  go_wp2_with fail
  go_ret
  exact ⟨rfl, HO3.out⟩
end Go.Proofs.Ytlcpfheocenjfaa
