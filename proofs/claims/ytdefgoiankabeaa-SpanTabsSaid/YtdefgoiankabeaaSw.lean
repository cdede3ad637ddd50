/-
  Layer 13's Awake; two boundaries of a text.
-/
import Derived.Test.YtdefgoiankabeaaPb
import Derived.Test.YtdefgoiankabeaaSa7
namespace Go.Proofs.Ytdefgoiankabeaa
open Go.RowKit Go.Maps
set_option linter.unusedVariables false
set_option linter.unusedSimpArgs false
def wL : List Bt := [⟨1, 0, 0, 0⟩, ⟨0, 2, 0, 0⟩, ⟨1, 0, 0, 0⟩, ⟨1, 1, 0, 0⟩]
set_option maxRecDepth 100000 in
set_option maxHeartbeats 4000000 in
theorem awake_any (w : World) : Calls Try.prog 9 #[] w fun e w' => e = .returned (.bool true) ∧ Only (fun _ => False) w w' := by
  go_enter Try.func9, Try.ntmps9
  go_wp2_with fail
  obtain ⟨w0, hw0⟩ : ∃ Z, Z = w.alloc (.cells #[.int .u8 1, .int .u8 0, .int .u8 0, .int .u8 0, .int .u8 0, .int .u8 2, .int .u8 0, .int .u8 0, .int .u8 1, .int .u8 0, .int .u8 0, .int .u8 0, .int .u8 1, .int .u8 1, .int .u8 0, .int .u8 0] 56) := ⟨_, rfl⟩
  rw [← hw0]
  have ho0 : Only (fun _ => False) w w0 := by rw [hw0]; exact (Only.refl _ _).alloc _
  have hb0 : w0.heap[w.heap.size]? = some (.cells (btC wL).toArray 56 (0, 0)) := by rw [hw0]; exact heap_alloc_new w _
  have hP := para_pv wL 4 (some ⟨w.heap.size, 0, none⟩) 4 w0 rfl (vw_blk hb0) (by decide) (by decide)
  have HO0 : Hid (Only (fun _ => False) w w0) := ho0
  clear hb0 hw0 ho0
  refine Calls.mono hP ?_
  rintro e w1 ⟨k, aC, aO, cC, cO, rfl, hk, hs, hPv, ho1⟩
  have hk4 : k = 4 := by
    rcases hs with h | h
    · exact h
    · have := cts_sum (wL.take k) 0
      have h2 : (wL.take k).length ≤ 4 := by rw [List.length_take]; exact Nat.le_trans (Nat.min_le_left _ _) hk
      omega
  subst hk4
  have HP1 : Hid (Pv w1 (Pa.cts (wL.take 4) 0) (Pa.ops wL 4 ++ [2]) 4 (4 + 1) aC aO cC cO ∧ Only (fun _ => False) w w1) := ⟨hPv, HO0.out.trans ho1⟩
  clear hP hs hPv ho1 hk
  go_wp2_with fail
  obtain ⟨R, w2, hw2, hR, H2, r0, r1, lR⟩ := box2 w1 (.slice aC 4 cC) (.slice aO 5 cO) 33
  rw [hw2, hR]
  clear hw2 hR
  have HPv : Hid (∀ W, Only (fun _ => False) w2 W → Pv W (Pa.cts (wL.take 4) 0) (Pa.ops wL 4 ++ [2]) 4 5 aC aO cC cO) := fun W ho => HP1.out.1.keep (H2.out.2.trans ho)
  have HS : Hid (∀ W', Only (fun _ => False) w2 W' → W'.cell? ⟨R, 0, none⟩ = some (.slice aC 4 cC) ∧ W'.cell? ⟨R, 1, none⟩ = some (.slice aO 5 cO) ∧ R < W'.heap.size) := fun W' ho => blk_two (blk_keep ho H2.out.1)
  clear r0 r1 lR
  refine Calls.mono (columns_any _ _ 4 5 aC aO cC cO 0 4 4 w2 (HPv.out _ (Only.refl _ _)) (by decide) (by decide) (by decide) (by decide)) ?_
  rintro e w3 ⟨a, c, rfl, hown, ho3⟩
  have ev : Sp.cols (Pa.cts (wL.take 4) 0) 4 0 (4 - 0) = [0, 1, 4, 5, 6] := by decide
  rw [ev] at hown ⊢
  obtain ⟨g, off, rfl, hg, hc⟩ := (own_vw hown).cells (by decide)
  have c2 : w3.cell? ⟨g, off + 2, none⟩ = some (.int .i64 4) := hc 2 _ rfl
  have c4 : w3.cell? ⟨g, off + 4, none⟩ = some (.int .i64 6) := hc 4 _ rfl
  obtain ⟨s0, s1, lS⟩ := HS.out _ ho3
  have H3 : Hid (Only (fun _ => False) w2 w3) := ho3
  clear hown hc ho3
  have e1 : Sp.tr (Pa.cts (wL.take 4) 0) 0 (4 - 0) = 3 := by decide
  have e2 : Sp.cel (Pa.cts (wL.take 4) 0) 4 0 (4 - 0) 3 = 6 := by decide
  have e3 : Sp.gp (Pa.cts (wL.take 4) 0) 0 (4 - 0) = 0 := by decide
  have HE : Hid (Sp.tr (Pa.cts (wL.take 4) 0) 0 (4 - 0) = 3 ∧ Sp.cel (Pa.cts (wL.take 4) 0) 4 0 (4 - 0) 3 = 6 ∧ Sp.gp (Pa.cts (wL.take 4) 0) 0 (4 - 0) = 0) := ⟨e1, e2, e3⟩
  clear e1 e2 e3
  go_wp2_with fail
  refine Calls.mono (trim_any _ _ 4 5 aC aO cC cO 0 4 w3 (HPv.out _ H3.out) (by decide) (by decide)) ?_
  rw [HE.out.1]
  rintro e w4 ⟨rfl, ho4⟩
  have H4 : Hid (Only (fun _ => False) w2 w4) := H3.out.trans ho4
  obtain ⟨u0, u1, lU⟩ := HS.out _ H4.out
  clear ho4 s0 s1 lS c2 c4
  go_wp2_with fail
  refine Calls.mono (cells_any _ _ 4 5 aC aO cC cO 0 4 4 3 w4 (HPv.out _ H4.out) (by decide) (by decide) (by decide) (by decide) (by decide)) ?_
  rw [HE.out.2.1]
  rintro e w5 ⟨rfl, ho5⟩
  have H5 : Hid (Only (fun _ => False) w2 w5) := H4.out.trans ho5
  obtain ⟨v0, v1, lV⟩ := HS.out _ H5.out
  clear ho5 u0 u1 lU
  go_wp2_with fail
  refine Calls.mono (gaps_any _ _ 4 5 aC aO cC cO 0 4 w5 (HPv.out _ H5.out) (by decide) (by decide)) ?_
  rw [HE.out.2.2]
  rintro e w6 ⟨rfl, ho6⟩
  have H6 : Hid (Only (fun _ => False) w2 w6) := H5.out.trans ho6
  clear ho6 v0 v1 lV
  go_wp2_with fail
  go_ret
  exact ⟨rfl, HP1.out.2.trans (H2.out.2.trans H6.out)⟩
end Go.Proofs.Ytdefgoiankabeaa
