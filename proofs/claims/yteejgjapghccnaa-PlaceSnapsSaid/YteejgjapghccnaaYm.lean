/-
  Layer 17's Awake.
-/
import Derived.Test.YteejgjapghccnaaYj
namespace Go.Proofs.Yteejgjapghccnaa
open Go.RowKit Go.Maps
set_option linter.unusedVariables false
set_option linter.unusedSimpArgs false
def L17 : List Bt := [⟨1, 0, 0, 0⟩, ⟨1, 0, 0, 1⟩, ⟨1, 0, 0, 0⟩]
def C17 : List Ct := Pa.cts L17 0
def O17 : List Nat := Pa.ops L17 3 ++ [2]
def A17 : List Ln := [⟨0, 2, 2, 1⟩, ⟨2, 3, 1, 2⟩]
set_option maxRecDepth 100000 in
theorem spt17 : Lv.spt C17 8 (Lv.rof A17) false (Lv.clu C17 2 3) = (1, 0) ∧ Lv.spt C17 8 (Lv.rof A17) true (Lv.clu C17 2 3) = (0, 2) ∧ It.sum (C17.take (Lv.byt C17 8 ⟨0, 2, 2, 1⟩ 9)) = 2 := ⟨by kernel_rfl, by kernel_rfl, by kernel_rfl⟩
theorem para3 (W : World) (g : Nat) (hg : W.heap[g]? = some (.cells #[.int .u8 1, .int .u8 0, .int .u8 0, .int .u8 0, .int .u8 1, .int .u8 0, .int .u8 0, .int .u8 1, .int .u8 1, .int .u8 0, .int .u8 0, .int .u8 0] 65 (0, 0))) : Calls Try.prog 18 #[.slice (some ⟨g, 0, none⟩) 3 3] W fun e w' => ∃ aC aO cC cO, e = .returned (.agg #[.slice aC 3 cC, .slice aO 4 cO]) ∧ Pv w' C17 O17 3 4 aC aO cC cO ∧ Only (fun _ => False) W w' := by
  refine (para_pv L17 3 (some ⟨g, 0, none⟩) 3 W rfl (Or.inr ⟨_, _, rfl, fun j u hj => ?_⟩) (by decide) (by decide)).mono ?_
  · rw [Nat.zero_add, cell_blk hg, ← Array.getElem?_toList]
    exact hj
  · rintro e w' ⟨k, aC, aO, cC, cO, he, hk, hs, hP, ho⟩
    have hk2 : k = 3 := by
      rcases hs with h | h
      · exact h
      · have h1 := cts_sum (L17.take k) 0
        have h2 : (L17.take k).length ≤ 3 := by rw [List.length_take]; exact Nat.le_trans (Nat.min_le_right _ _) (Nat.le_refl 3)
        omega
    subst hk2
    exact ⟨aC, aO, cC, cO, he, hP, ho⟩
theorem make17 (W : World) (aC aO : Option Addr) (cC cO g : Nat) (hP : Pv W C17 O17 3 4 aC aO cC cO) (hg : W.heap[g]? = some (.cells #[.int .i64 0, .int .i64 2, .int .i64 2, .int .u8 1, .int .i64 2, .int .i64 3, .int .i64 1, .int .u8 2] 59 (0, 0))) : Calls Try.prog 19 #[.agg #[.slice aC 3 cC, .slice aO 4 cO], .slice (some ⟨g, 0, none⟩) 2 2, .int .i64 8] W fun e w' => ∃ M, e = .returned (.pointer (some ⟨M, 0, none⟩)) ∧ Mpp w' M 3 C17 8 (Lv.rof A17) ∧ Only (fun _ => False) W w' := by
  refine make_map C17 O17 3 4 aC aO cC cO 8 A17 2 (some ⟨g, 0, none⟩) 2 W hP (Lv.ctg_pa L17) (by decide) ⟨rfl, by decide, rfl, by decide, rfl⟩ (Or.inr ⟨_, _, rfl, fun j u hj => ?_⟩) rfl (by decide) (by decide) (by decide)
  rw [Nat.zero_add, cell_blk hg, ← Array.getElem?_toList]
  exact hj
theorem spot17f (W : World) (M : Nat) (h : Mpp W M 3 C17 8 (Lv.rof A17)) : Calls Try.prog 12 #[.pointer (some ⟨M, 0, none⟩), .int .i64 2, .bool false] W fun e w' => e = .returned (.tuple #[.agg #[.int .i64 1, .int .i64 0], .int .i64 0]) ∧ Only (fun _ => False) W w' := by
  refine (spot_any M 3 C17 8 (Lv.rof A17) 2 false W h (by decide)).mono ?_
  rintro e w' ⟨r, c, h1, he, ho⟩
  rw [spt17.1] at h1
  injection h1 with h1 h2
  subst h1 h2
  exact ⟨he, ho⟩
theorem spot17t (W : World) (M : Nat) (h : Mpp W M 3 C17 8 (Lv.rof A17)) : Calls Try.prog 12 #[.pointer (some ⟨M, 0, none⟩), .int .i64 2, .bool true] W fun e w' => e = .returned (.tuple #[.agg #[.int .i64 0, .int .i64 2], .int .i64 0]) ∧ Only (fun _ => False) W w' := by
  refine (spot_any M 3 C17 8 (Lv.rof A17) 2 true W h (by decide)).mono ?_
  rintro e w' ⟨r, c, h1, he, ho⟩
  rw [spt17.2.1] at h1
  injection h1 with h1 h2
  subst h1 h2
  exact ⟨he, ho⟩
theorem byte17 (W : World) (M : Nat) (h : Mpp W M 3 C17 8 (Lv.rof A17)) : Calls Try.prog 15 #[.pointer (some ⟨M, 0, none⟩), .agg #[.int .i64 0, .int .i64 9]] W fun e w' => e = .returned (.tuple #[.int .i64 2, .int .i64 0]) ∧ Only (fun _ => False) W w' := by
  have hb := byte_any M 3 C17 8 (Lv.rof A17) 0 9 ⟨0, 2, 2, 1⟩ W h rfl
  rw [spt17.2.2] at hb
  exact hb
set_option maxRecDepth 100000 in
set_option maxHeartbeats 4000000 in
theorem awake17_any (w : World) : Calls Try.prog 10 #[] w fun e w' => e = .returned (.bool true) ∧ Only (fun _ => False) w w' := by
  go_enter Try.func10, Try.ntmps10
  go_wp2_with fail
  obtain ⟨g, w0, hw0, hg, H0⟩ : ∃ g w0, w0 = w.alloc (.cells #[.int .u8 1, .int .u8 0, .int .u8 0, .int .u8 0, .int .u8 1, .int .u8 0, .int .u8 0, .int .u8 1, .int .u8 1, .int .u8 0, .int .u8 0, .int .u8 0] 65) ∧ g = w.heap.size ∧ Hid (w0.heap[g]? = some (.cells #[.int .u8 1, .int .u8 0, .int .u8 0, .int .u8 0, .int .u8 1, .int .u8 0, .int .u8 0, .int .u8 1, .int .u8 1, .int .u8 0, .int .u8 0, .int .u8 0] 65 (0, 0)) ∧ Only (fun _ => False) w w0) := ⟨_, _, rfl, rfl, ⟨heap_alloc_new w _, (Only.refl _ _).alloc _⟩⟩
  rw [← hw0, ← hg]
  clear hw0 hg
  refine Calls.mono (para3 _ _ H0.out.1) ?_
  rintro e w1 ⟨aC, aO, cC, cO, rfl, hP, ho1⟩
  have H1 : Hid (Pv w1 C17 O17 3 4 aC aO cC cO ∧ Only (fun _ => False) w w1) := ⟨hP, H0.out.2.trans ho1⟩
  clear hP ho1 H0
  go_upto_region 2 with fail
  obtain ⟨R, w2, hw2, hR, H2, r0, r1, lR⟩ := box2 w1 (.slice aC 3 cC) (.slice aO 4 cO) 31
  rw [hw2, hR]
  clear hw2 hR
  go_wp2_with fail
  obtain ⟨g, w3, hw3, hg, H3⟩ : ∃ g w3, w3 = w2.alloc (.cells #[.int .i64 0, .int .i64 2, .int .i64 2, .int .u8 1, .int .i64 2, .int .i64 3, .int .i64 1, .int .u8 2] 59) ∧ g = w2.heap.size ∧ Hid (w3.heap[g]? = some (.cells #[.int .i64 0, .int .i64 2, .int .i64 2, .int .u8 1, .int .i64 2, .int .i64 3, .int .i64 1, .int .u8 2] 59 (0, 0)) ∧ Only (fun _ => False) w w3 ∧ Pv w3 C17 O17 3 4 aC aO cC cO) := ⟨_, _, rfl, rfl, ⟨heap_alloc_new w2 _, (H1.out.2.trans H2.out.2).alloc _, H1.out.1.keep (H2.out.2.alloc _)⟩⟩
  rw [← hw3, ← hg]
  clear hw3 hg r0 r1 lR H2 H1
  refine Calls.mono (make17 _ _ _ _ _ _ H3.out.2.2 H3.out.1) ?_
  rintro e w4 ⟨M, rfl, hM, ho4⟩
  have H4 : Hid (Mpp w4 M 3 C17 8 (Lv.rof A17) ∧ Only (fun _ => False) w w4) := ⟨hM, H3.out.2.1.trans ho4⟩
  clear hM ho4 H3
  go_wp2_with fail
  refine Calls.mono (spot17f _ _ H4.out.1) ?_
  rintro e w5 ⟨rfl, ho5⟩
  have H5 : Hid (Mpp w5 M 3 C17 8 (Lv.rof A17) ∧ Only (fun _ => False) w w5) := ⟨H4.out.1.keep ho5, H4.out.2.trans ho5⟩
  clear ho5 H4
  go_upto_region 4 with fail
  obtain ⟨B3, w6, hw6, hB3, H6, b0, b1, lB⟩ := box2 w5 (.int .i64 1) (.int .i64 0) 39
  rw [hw6, hB3]
  clear hw6 hB3
  go_wp2_with fail
  refine Calls.mono (spot17t _ _ (H5.out.1.keep H6.out.2)) ?_
  rintro e w7 ⟨rfl, ho7⟩
  have H7 : Hid (Mpp w7 M 3 C17 8 (Lv.rof A17) ∧ Only (fun _ => False) w w7 ∧ w7.heap[B3]? = some (.cells #[.int .i64 1, .int .i64 0] 39 (0, 0))) := ⟨(H5.out.1.keep H6.out.2).keep ho7, H5.out.2.trans (H6.out.2.trans ho7), blk_keep ho7 H6.out.1⟩
  clear ho7 H5 H6 b0 b1 lB
  go_upto_region 5 with fail
  obtain ⟨B5, w8, hw8, hB5, H8, b0, b1, lB⟩ := box2 w7 (.int .i64 0) (.int .i64 2) 39
  rw [hw8, hB5]
  clear hw8 hB5
  go_wp2_with fail
  refine Calls.mono (byte17 _ _ (H7.out.1.keep H8.out.2)) ?_
  rintro e w9 ⟨rfl, ho9⟩
  have H9 : Hid (Mpp w9 M 3 C17 8 (Lv.rof A17) ∧ Only (fun _ => False) w w9 ∧ w9.heap[B3]? = some (.cells #[.int .i64 1, .int .i64 0] 39 (0, 0)) ∧ w9.heap[B5]? = some (.cells #[.int .i64 0, .int .i64 2] 39 (0, 0))) := ⟨(H7.out.1.keep H8.out.2).keep ho9, H7.out.2.1.trans (H8.out.2.trans ho9), blk_keep ho9 (blk_keep H8.out.2 H7.out.2.2), blk_keep ho9 H8.out.1⟩
  clear ho9 H7 H8 b0 b1 lB
  obtain ⟨x0, x1, lx⟩ := blk_two H9.out.2.2.1
  obtain ⟨y0, y1, ly⟩ := blk_two H9.out.2.2.2
  go_wp2_with fail
  refine Calls.mono (nrows_any M 3 C17 8 (Lv.rof A17) 2 _ H9.out.1 rfl) ?_
  rintro e w10 ⟨rfl, rfl⟩
  go_wp2_with fail
  go_ret
  exact ⟨rfl, H9.out.2.1⟩
end Go.Proofs.Yteejgjapghccnaa
