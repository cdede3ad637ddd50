/-
  stanzalaw17.PlaceNil: its walk.
-/
import Derived.Test.YteejgjapghccnaaYm
namespace Go.Proofs.Yteejgjapghccnaa.placeNil
open Go.RowKit Go.Maps
set_option linter.unusedVariables false
set_option linter.unusedSimpArgs false
set_option maxRecDepth 100000 in
set_option maxHeartbeats 4000000 in
theorem walk (q : Int) (back : Bool) (r c : Int) (w : World) (hq : -9223372036854775808 ≤ q ∧ q ≤ 9223372036854775807) (hr : -9223372036854775808 ≤ r ∧ r ≤ 9223372036854775807) (hc : -9223372036854775808 ≤ c ∧ c ≤ 9223372036854775807) :
    Calls Try.prog 8 #[.int .i64 q, .bool back, .agg #[.int .i64 r, .int .i64 c]] w fun e w' => e = .returned (.bool true) ∧ Only (fun _ => False) w w' := by
  go_enter Try.func8, Try.ntmps8
  go_wp2_with fail
  obtain ⟨R, w0, hw0, hR, H0, -, -, -⟩ := box2 w (.int .i64 r) (.int .i64 c) 39
  rw [hw0, hR]
  clear hw0 hR
  refine Calls.mono (awake17_any _) ?_
  rintro e w1 ⟨rfl, ho1⟩
  have H1 : Hid (w1.heap[R]? = some (.cells #[.int .i64 r, .int .i64 c] 39 (0, 0)) ∧ Only (fun _ => False) w w1) := ⟨blk_keep ho1 H0.out.1, H0.out.2.trans ho1⟩
  clear ho1 H0
  go_wp2_with fail
  refine Calls.mono (spot_nil q back _) ?_
  rintro e w2 ⟨rfl, ho2⟩
  have H2 : Hid (w2.heap[R]? = some (.cells #[.int .i64 r, .int .i64 c] 39 (0, 0)) ∧ Only (fun _ => False) w w2) := ⟨blk_keep ho2 H1.out.1, H1.out.2.trans ho2⟩
  clear ho2 H1
  go_upto_region 5 with fail
  obtain ⟨B, w3, hw3, hB, H3, -, -, -⟩ := box2 w2 (.int .i64 0) (.int .i64 0) 39
  rw [hw3, hB]
  clear hw3 hB
  obtain ⟨x0, x1, lx⟩ := blk_two (blk_keep H3.out.2 H2.out.1)
  go_wp2_with fail
  refine Calls.mono (byte_nil r c _) ?_
  rintro e w4 ⟨rfl, ho4⟩
  have H4 : Hid (w4.heap[B]? = some (.cells #[.int .i64 0, .int .i64 0] 39 (0, 0)) ∧ Only (fun _ => False) w w4) := ⟨blk_keep ho4 H3.out.1, H2.out.2.trans (H3.out.2.trans ho4)⟩
  clear ho4 H2 H3 x0 x1 lx
  go_wp2_with fail
  refine Calls.mono (nrows_nil _) ?_
  rintro e w5 ⟨rfl, rfl⟩
  obtain ⟨x0, x1, lx⟩ := blk_two H4.out.1
  go_wp2_with fail
  go_ret
  exact ⟨rfl, H4.out.2⟩
end Go.Proofs.Yteejgjapghccnaa.placeNil
