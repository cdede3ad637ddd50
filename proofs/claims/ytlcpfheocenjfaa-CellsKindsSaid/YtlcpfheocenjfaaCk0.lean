/-
  stanzalaw10.CellsKinds: its walk.
-/
import Derived.Test.YtlcpfheocenjfaaAw0
namespace Go.Proofs.Ytlcpfheocenjfaa.cellsKinds
open Go.RowKit Go.Maps
set_option linter.unusedVariables false
set_option linter.unusedSimpArgs false
def kd (r : Int) : Nat := if r = 32 then 1 else if r = 9 then 2 else 0
set_option maxRecDepth 100000 in
set_option maxHeartbeats 4000000 in
theorem kind_any (r : Int) (w : World) : Calls Try.prog 24 #[.int .i32 r] w fun e w' => e = .returned (.int .u8 (kd r : Int)) ∧ w' = w := by
  by_cases h1 : r = 32
  · have HE : Hid ((1 : Int) = (kd r : Int)) := (by unfold kd; rw [if_pos h1]; rfl : (1 : Int) = (kd r : Int))
    have t1 : (r == 32) = true := by rw [beq_iff_eq]; exact h1
    clear h1
    go_enter Try.func24, Try.ntmps24
    go_wp2_with fail
    go_ret
    exact ⟨ret_u8 HE.out, rfl⟩
  · have t1 : (r == 32) = false := by rw [beq_eq_false_iff_ne]; exact h1
    by_cases h2 : r = 9
    · have HE : Hid ((2 : Int) = (kd r : Int)) := (by unfold kd; rw [if_neg h1, if_pos h2]; rfl : (2 : Int) = (kd r : Int))
      have t2 : (r == 9) = true := by rw [beq_iff_eq]; exact h2
      clear h1 h2
      go_enter Try.func24, Try.ntmps24
      go_wp2_with fail
      go_ret
      exact ⟨ret_u8 HE.out, rfl⟩
    · have HE : Hid ((0 : Int) = (kd r : Int)) := (by unfold kd; rw [if_neg h1, if_neg h2]; rfl : (0 : Int) = (kd r : Int))
      have t2 : (r == 9) = false := by rw [beq_eq_false_iff_ne]; exact h2
      go_enter Try.func24, Try.ntmps24
      go_wp2_with fail
      go_ret
      exact ⟨ret_u8 HE.out, rfl⟩
def kS (r o : Int) : List Sn := [⟨r, 0, 1⟩, ⟨o, 1, 1⟩]
theorem kFits {r o : Int} (hr : -2147483648 ≤ r ∧ r ≤ 2147483647) (ho : -2147483648 ≤ o ∧ o ≤ 2147483647) : Fits (kS r o) := fun s hs => by
  unfold kS at hs
  simp at hs
  rcases hs with rfl | rfl
  · exact ⟨hr.1, hr.2, by show 0 ≤ 1000000000; omega, by show 1 ≤ 4; omega⟩
  · exact ⟨ho.1, ho.2, by show 1 ≤ 1000000000; omega, by show 1 ≤ 4; omega⟩
theorem kCls1 (r o : Int) : Ce.cls (Pr.of []) (kS r o) [1, 0, 1] = [⟨0, 2, 0, 0⟩] := by rfl
theorem kCls2 (r o : Int) : Ce.cls (Pr.of []) (kS r o) [1, 1, 1] = [⟨0, 1, 0, kd r⟩, ⟨1, 1, 0, kd o⟩] := by rfl
set_option maxRecDepth 100000 in
set_option maxHeartbeats 4000000 in
theorem walk1 (r o : Int) (w : World) (hr : -2147483648 ≤ r ∧ r ≤ 2147483647) (ho : -2147483648 ≤ o ∧ o ≤ 2147483647) : Calls Try.prog 5 #[.int .i32 r, .int .i32 o, .bool true] w fun e w' => e = .returned (.bool true) ∧ Only (fun _ => False) w w' := by
  have HM : Hid (∀ W, Calls Try.prog 15 #[.slice none 0 0, .int .i64 1] W (tbP [] W)) := fun W => table_any [] 1 none 0 0 0 W (sees_nil W) (by decide) (by decide)
  have HF : Hid (Fits (kS r o)) := kFits hr ho
  clear hr ho
  go_enter Try.func5, Try.ntmps5
  go_wp2_with (first | (go_at_call 13; refine (awake10_any _).mono ?_; rintro e w1 ⟨rfl, ho1⟩; have HO1 : Hid (Only (fun _ => False) w w1) := ho1; clear ho1) | (go_at_call 15; refine Calls.mono (HM.out _) ?_; rintro e w2 ⟨T, rfl, hT, ho2⟩; have H2 : Hid (Tab w2 w1.heap.size T [] ∧ Only (fun _ => False) w w2) := ⟨hT, HO1.out.trans ho2⟩; clear hT ho2) | fail)
  obtain ⟨W2, hW2⟩ : ∃ Z, Z = (w2.alloc (.cells #[.int .u8 1, .int .u8 0, .int .u8 1] 54)).alloc (.cells #[.int .i32 r, .int .i64 0, .int .i64 1, .int .i32 o, .int .i64 1, .int .i64 1] 50) := ⟨_, rfl⟩
  rw [← hW2]
  have hC : Calls Try.prog 18 #[.slice (some ⟨w2.heap.size + 1, 0, none⟩) 2 2, .slice (some ⟨w2.heap.size, 0, none⟩) 3 3, .pointer (some ⟨T, 0, none⟩)] W2 (ceP (Pr.of []) (kS r o) [1, 0, 1] W2) := cells_any 1 [] _ T (kS r o) [1, 0, 1] (some ⟨w2.heap.size + 1, 0, none⟩) (some ⟨w2.heap.size, 0, none⟩) 2 3 W2 (by rw [hW2]; exact H2.out.1.keep (((Only.refl _ _).alloc _).alloc _)) (by decide) (by rw [hW2]; exact vw_blk (xs := snC (kS r o)) (heap_alloc2_new w2 _ _)) HF.out (by rw [hW2]; exact vw_blk (xs := u8s [1, 0, 1]) (bx_made w2 _ _)) (by decide) (Nat.le_trans (Nat.le_refl 2) (by decide)) (by decide) (Nat.le_refl 2) (by decide)
  have HO2 : Hid (Only (fun _ => False) w W2) := by
    rw [hW2]
    exact (H2.out.2.alloc _).alloc _
  refine Calls.mono hC ?_
  rintro e w3 ⟨aC, aP, cC, cP, rfl, hcl, hst, ho3⟩
  clear hC hW2
  rw [kCls1] at *
  obtain ⟨g1, cap1, ev1, _, lg1, _, hc1⟩ := row_form hcl (by decide)
  have ea1 : aC = some ⟨g1, 0, none⟩ := by injection ev1
  subst ea1
  have d1 : w3.cell? ⟨g1, 1, none⟩ = some (.int .i64 2) := hc1 1 (by decide)
  have d3 : w3.cell? ⟨g1, 3, none⟩ = some (.int .u8 0) := hc1 3 (by decide)
  have HO3 : Hid (Only (fun _ => False) w w3) := HO2.out.trans ho3
  clear hcl hst ev1 hc1 ho3
  go_wp2_with fail
  go_ret
  exact ⟨rfl, HO3.out⟩
set_option maxRecDepth 100000 in
set_option maxHeartbeats 4000000 in
theorem walk2 (r o : Int) (w : World) (hr : -2147483648 ≤ r ∧ r ≤ 2147483647) (ho : -2147483648 ≤ o ∧ o ≤ 2147483647) : Calls Try.prog 5 #[.int .i32 r, .int .i32 o, .bool false] w fun e w' => e = .returned (.bool true) ∧ Only (fun _ => False) w w' := by
  have HM : Hid (∀ W, Calls Try.prog 15 #[.slice none 0 0, .int .i64 1] W (tbP [] W)) := fun W => table_any [] 1 none 0 0 0 W (sees_nil W) (by decide) (by decide)
  have HF : Hid (Fits (kS r o)) := kFits hr ho
  clear hr ho
  go_enter Try.func5, Try.ntmps5
  go_wp2_with (first | (go_at_call 13; refine (awake10_any _).mono ?_; rintro e w1 ⟨rfl, ho1⟩; have HO1 : Hid (Only (fun _ => False) w w1) := ho1; clear ho1) | (go_at_call 15; refine Calls.mono (HM.out _) ?_; rintro e w2 ⟨T, rfl, hT, ho2⟩; have H2 : Hid (Tab w2 w1.heap.size T [] ∧ Only (fun _ => False) w w2) := ⟨hT, HO1.out.trans ho2⟩; clear hT ho2) | fail)
  obtain ⟨W2, hW2⟩ : ∃ Z, Z = (w2.alloc (.cells #[.int .u8 1, .int .u8 1, .int .u8 1] 54)).alloc (.cells #[.int .i32 r, .int .i64 0, .int .i64 1, .int .i32 o, .int .i64 1, .int .i64 1] 50) := ⟨_, rfl⟩
  rw [← hW2]
  have hC : Calls Try.prog 18 #[.slice (some ⟨w2.heap.size + 1, 0, none⟩) 2 2, .slice (some ⟨w2.heap.size, 0, none⟩) 3 3, .pointer (some ⟨T, 0, none⟩)] W2 (ceP (Pr.of []) (kS r o) [1, 1, 1] W2) := cells_any 1 [] _ T (kS r o) [1, 1, 1] (some ⟨w2.heap.size + 1, 0, none⟩) (some ⟨w2.heap.size, 0, none⟩) 2 3 W2 (by rw [hW2]; exact H2.out.1.keep (((Only.refl _ _).alloc _).alloc _)) (by decide) (by rw [hW2]; exact vw_blk (xs := snC (kS r o)) (heap_alloc2_new w2 _ _)) HF.out (by rw [hW2]; exact vw_blk (xs := u8s [1, 1, 1]) (bx_made w2 _ _)) (by decide) (Nat.le_trans (Nat.le_refl 2) (by decide)) (by decide) (Nat.le_refl 2) (by decide)
  have HO2 : Hid (Only (fun _ => False) w W2) := by
    rw [hW2]
    exact (H2.out.2.alloc _).alloc _
  refine Calls.mono hC ?_
  rintro e w3 ⟨aC, aP, cC, cP, rfl, hcl, hst, ho3⟩
  clear hC hW2
  rw [kCls2] at *
  obtain ⟨g1, cap1, ev1, _, lg1, _, hc1⟩ := row_form hcl (by show 0 < 2; omega)
  have ea1 : aC = some ⟨g1, 0, none⟩ := by injection ev1
  subst ea1
  obtain ⟨k1, hk1⟩ : ∃ k1, k1 = kd r := ⟨_, rfl⟩
  obtain ⟨k2, hk2⟩ : ∃ k2, k2 = kd o := ⟨_, rfl⟩
  have d3 : w3.cell? ⟨g1, 3, none⟩ = some (.int .u8 (k1 : Int)) := by rw [hk1]; exact hc1 3 (by show 3 < 8; omega)
  have d7 : w3.cell? ⟨g1, 7, none⟩ = some (.int .u8 (k2 : Int)) := by rw [hk2]; exact hc1 7 (by show 7 < 8; omega)
  have HK : Hid (∀ W, Calls Try.prog 24 #[.int .i32 r] W fun e w' => e = .returned (.int .u8 (k1 : Int)) ∧ w' = W) := fun W => by rw [hk1]; exact kind_any r W
  have HK2 : Hid (∀ W, Calls Try.prog 24 #[.int .i32 o] W fun e w' => e = .returned (.int .u8 (k2 : Int)) ∧ w' = W) := fun W => by rw [hk2]; exact kind_any o W
  clear hk1 hk2
  have HO3 : Hid (Only (fun _ => False) w w3) := HO2.out.trans ho3
  clear hcl hst ev1 hc1 ho3
  go_wp2_with fail
  go_quiet ((first | (go_at_call 24; exact Calls.quiet_of_same (HK.out _)) | (go_at_call 24; exact Calls.quiet_of_same (HK2.out _)) | fail))
  go_wp2_with fail
  go_ret
  exact ⟨rfl, HO3.out.drewN _⟩
end Go.Proofs.Ytlcpfheocenjfaa.cellsKinds
namespace Go.Proofs.Ytlcpfheocenjfaa.cellsKinds
open Go.RowKit Go.Maps
theorem walk (r o : Int) (b : Bool) (w : World) (hr : -2147483648 ≤ r ∧ r ≤ 2147483647) (ho : -2147483648 ≤ o ∧ o ≤ 2147483647) : Calls Try.prog 5 #[.int .i32 r, .int .i32 o, .bool b] w fun e w' => e = .returned (.bool true) ∧ Only (fun _ => False) w w' := by
  cases b with
  | true => exact walk1 r o w hr ho
  | false => exact walk2 r o w hr ho
end Go.Proofs.Ytlcpfheocenjfaa.cellsKinds
