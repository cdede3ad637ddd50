/-
  As many as may be, and one more: the walks.
-/
import Derived.Test.YtahoepmnekconaaLa
namespace Go.Proofs.Ytahoepmnekconaa
open Go.RowKit Go.Maps
set_option linter.unusedVariables false
set_option linter.unusedSimpArgs false
set_option maxRecDepth 100000 in
set_option maxHeartbeats 8000000 in
theorem lim00_walk (what over : Int) (w : World) (hw0 : 0 ≤ what) (hw1 : what < 256) (ho0 : 0 ≤ over) (ho1 : over < 256) (hc : what % 4 = 0) (hm : over % 2 = 0) :
    Calls Try.prog 8 #[.int .u8 what, .int .u8 over] w fun e w' => e = .returned (.bool true) ∧ Only (fun _ => False) w w' := by
  go_enter Try.func8, Try.ntmps8
  go_wp2_with (go_at_call 9; refine (awake_any _).mono ?_; rintro e w1 ⟨rfl, ho1'⟩)
  go_loopg [6, 8, 45] 24 (fun g t a i wr => ∃ (k : Nat) (W : World), W = wr ∧ g = 24 - k ∧ k ≤ 24 ∧ t = .string (bs (Rl.M0 k)) ∧ a = .int .i64 (if k = 0 then 0 else ((3 * k + 3 : Nat) : Int)) ∧ i = .int .i64 (k : Int) ∧ Only (fun _ => False) w W)
  case atStart => exact ⟨0, _, rfl, rfl, by omega, rfl, rfl, rfl, ho1'⟩
  case round =>
    obtain ⟨k, W, hW, rfl, hk, rfl, rfl, rfl, hOr⟩ := hrel
    subst hW
    by_cases hlt : k < 24
    · have t1 : (k : Int) < 24 := by omega
      have hsz : (bs (Rl.M0 k)).size = 3 * k + 5 := by rw [bs_size]; unfold Rl.M0; rw [List.length_append, Rl.cl_len]; show 5 + _ = _; omega
      have hcv := conv1 (97 + (k : Int)) W (by omega) (by omega)
      rw [show bs [(97 + (k : Int)).toNat.toUInt8] = bs (Rl.e1 k) by unfold Rl.e1; rw [show (97 + (k : Int)).toNat = 97 + k by omega]] at hcv
      have hcat : (⟨#[32, 99]⟩ : ByteArray) ++ bs (Rl.e1 k) = bs (Rl.el k) := bs_app [32, 99] (Rl.e1 k)
      have hsz1 : (bs (Rl.e1 k)).size = 1 := bs_size _
      have hsz3 : (bs (Rl.el k)).size = 3 := bs_size _
      go_wp2_with fail
      go_roundg (24 - (k + 1))
      case measure => omega
      case rel =>
        refine ⟨k + 1, _, rfl, rfl, by omega, ?_, ?_, by go_num, hOr.alloc _⟩
        · rw [bs_app]
          unfold Rl.M0 Rl.el
          rw [Rl.cl, List.append_assoc]
        · rw [if_neg (by omega)]
          first | done | (refine congrArg (Value.int .i64) ?_; omega)
    · obtain rfl : k = 24 := by omega
      have hS : bs (Rl.M0 24) ++ (⟨#[59]⟩ : ByteArray) = bs (Rl.L0 24) := bs_app' _ [59]
      clear hlt hk
      go_wp2_with (first | (go_at_call 12; obtain ⟨sk, hsk⟩ := lim00; refine (parse_o hsk (of_decide_eq_true (by kernel_rfl)) _).mono ?_; clear hsk; rintro e w2 ⟨aC, nC, cC, aT, nT, cT, aL, nL, cL, j, a, rfl, ho2⟩) | (go_at_call 10; refine (told_any _ _).mono ?_; rintro e w3 ⟨rfl, ho3⟩))
      go_ret
      exact ⟨rfl, (((hOr.trans ho2).alloc _).alloc _).trans ho3⟩
set_option maxRecDepth 100000 in
set_option maxHeartbeats 8000000 in
theorem lim10_walk (what over : Int) (w : World) (hw0 : 0 ≤ what) (hw1 : what < 256) (ho0 : 0 ≤ over) (ho1 : over < 256) (hc : what % 4 = 1) (hm : over % 2 = 0) :
    Calls Try.prog 8 #[.int .u8 what, .int .u8 over] w fun e w' => e = .returned (.bool true) ∧ Only (fun _ => False) w w' := by
  go_enter Try.func8, Try.ntmps8
  go_wp2_with (go_at_call 9; refine (awake_any _).mono ?_; rintro e w1 ⟨rfl, ho1'⟩)
  go_loopg [6, 8, 68] 24 (fun g t a i wr => ∃ (k : Nat), g = 24 - k ∧ k ≤ 24 ∧ t = .string (bs (Rl.L1 k)) ∧ a = .int .i64 (if k = 0 then 0 else ((11 * k - 3 : Nat) : Int)) ∧ i = .int .i64 (k : Int) ∧ w1 = wr)
  case atStart => exact ⟨0, rfl, by omega, rfl, rfl, rfl, rfl⟩
  case round =>
    obtain ⟨k, rfl, hk, rfl, rfl, rfl, rfl⟩ := hrel
    by_cases hlt : k < 24
    · have t1 : (k : Int) < 24 := by omega
      have hsz : (bs (Rl.L1 k)).size = 11 * k + 8 := by rw [bs_size]; unfold Rl.L1; rw [List.length_append, Rl.rep_len]; show 8 + _ * 11 = _; omega
      go_wp2_with fail
      go_roundg (24 - (k + 1))
      case measure => omega
      case rel =>
        refine ⟨k + 1, rfl, by omega, ?_, ?_, by go_num, rfl⟩
        · show Value.string (bs (Rl.L1 k) ++ bs [107, 101, 101, 112, 32, 65, 32, 47, 32, 65, 59]) = _
          rw [bs_app]
          unfold Rl.L1
          rw [Rl.rep, List.append_assoc]
        · rw [if_neg (by omega)]
          first | done | (refine congrArg (Value.int .i64) ?_; omega)
    · obtain rfl : k = 24 := by omega
      clear hlt hk
      obtain ⟨sk, hsk⟩ := lim10
      have HSK : Hid (Rl.plain (Rl.L1 24) = .ok sk) := hsk
      clear hsk
      go_wp2_with (first | (go_at_call 12; refine (parse_o HSK.out (of_decide_eq_true (by kernel_rfl)) _).mono ?_; rintro e w2 ⟨aC, nC, cC, aT, nT, cT, aL, nL, cL, j, a, rfl, ho2⟩) | (go_at_call 10; refine (told_any _ _).mono ?_; rintro e w3 ⟨rfl, ho3⟩))
      go_ret
      exact ⟨rfl, (((ho1'.trans ho2).alloc _).alloc _).trans ho3⟩
end Go.Proofs.Ytahoepmnekconaa
namespace Go.Proofs.Ytahoepmnekconaa
open Go.RowKit Go.Maps
set_option linter.unusedVariables false
set_option linter.unusedSimpArgs false
set_option maxRecDepth 100000 in
set_option maxHeartbeats 8000000 in
theorem lim20_walk (what over : Int) (w : World) (hw0 : 0 ≤ what) (hw1 : what < 256) (ho0 : 0 ≤ over) (ho1 : over < 256) (hc : what % 4 = 2) (hm : over % 2 = 0) :
    Calls Try.prog 8 #[.int .u8 what, .int .u8 over] w fun e w' => e = .returned (.bool true) ∧ Only (fun _ => False) w w' := by
  go_enter Try.func8, Try.ntmps8
  go_wp2_with (go_at_call 9; refine (awake_any _).mono ?_; rintro e w1 ⟨rfl, ho1'⟩)
  go_loopg [6, 8, 81] 200 (fun g t a i wr => ∃ (k : Nat), g = 200 - k ∧ k ≤ 200 ∧ t = .string (bs (Rl.M2 k)) ∧ a = .int .i64 (if k = 0 then 0 else ((2 * k + 11 : Nat) : Int)) ∧ i = .int .i64 (k : Int) ∧ w1 = wr)
  case atStart => exact ⟨0, rfl, by omega, rfl, rfl, rfl, rfl⟩
  case round =>
    obtain ⟨k, rfl, hk, rfl, rfl, rfl, rfl⟩ := hrel
    by_cases hlt : k < 200
    · have t1 : (k : Int) < 200 := by omega
      have hsz : (bs (Rl.M2 k)).size = 2 * k + 13 := by rw [bs_size]; unfold Rl.M2; rw [List.length_append, Rl.rep_len]; show 13 + _ * 2 = _; omega
      go_wp2_with fail
      go_roundg (200 - (k + 1))
      case measure => omega
      case rel =>
        refine ⟨k + 1, rfl, by omega, ?_, ?_, by go_num, rfl⟩
        · show Value.string (bs (Rl.M2 k) ++ bs [65, 32]) = _
          rw [bs_app]
          unfold Rl.M2
          rw [Rl.rep, List.append_assoc]
        · rw [if_neg (by omega)]
          first | done | (refine congrArg (Value.int .i64) ?_; omega)
    · obtain rfl : k = 200 := by omega
      have hS : bs (Rl.M2 200) ++ (⟨#[47, 59]⟩ : ByteArray) = bs (Rl.L2 200) := bs_app' _ [47, 59]
      clear hlt hk
      obtain ⟨sk, hsk⟩ := lim20
      have HSK : Hid (Rl.plain (Rl.L2 200) = .ok sk) := hsk
      clear hsk
      go_wp2_with (first | (go_at_call 12; refine (parse_o HSK.out (of_decide_eq_true (by kernel_rfl)) _).mono ?_; rintro e w2 ⟨aC, nC, cC, aT, nT, cT, aL, nL, cL, j, a, rfl, ho2⟩) | (go_at_call 10; refine (told_any _ _).mono ?_; rintro e w3 ⟨rfl, ho3⟩))
      go_ret
      exact ⟨rfl, (((ho1'.trans ho2).alloc _).alloc _).trans ho3⟩
set_option maxRecDepth 100000 in
set_option maxHeartbeats 8000000 in
theorem lim30_walk (what over : Int) (w : World) (hw0 : 0 ≤ what) (hw1 : what < 256) (ho0 : 0 ≤ over) (ho1 : over < 256) (hc : what % 4 = 3) (hm : over % 2 = 0) :
    Calls Try.prog 8 #[.int .u8 what, .int .u8 over] w fun e w' => e = .returned (.bool true) ∧ Only (fun _ => False) w w' := by
  go_enter Try.func8, Try.ntmps8
  go_wp2_with (go_at_call 9; refine (awake_any _).mono ?_; rintro e w1 ⟨rfl, ho1'⟩)
  go_loopg [6, 8, 23] 16 (fun g t a i wr => ∃ (k : Nat), g = 16 - k ∧ k ≤ 16 ∧ t = .string (bs (Rl.M3 k)) ∧ a = .int .i64 (if k = 0 then 0 else ((k + 12 : Nat) : Int)) ∧ i = .int .i64 (k : Int) ∧ w1 = wr)
  case atStart => exact ⟨0, rfl, by omega, rfl, rfl, rfl, rfl⟩
  case round =>
    obtain ⟨k, rfl, hk, rfl, rfl, rfl, rfl⟩ := hrel
    by_cases hlt : k < 16
    · have t1 : (k : Int) < 16 := by omega
      have hsz : (bs (Rl.M3 k)).size = k + 13 := by rw [bs_size]; unfold Rl.M3; rw [List.length_append, Rl.rep_len]; show 13 + _ * 1 = _; omega
      go_wp2_with fail
      go_roundg (16 - (k + 1))
      case measure => omega
      case rel =>
        refine ⟨k + 1, rfl, by omega, ?_, ?_, by go_num, rfl⟩
        · show Value.string (bs (Rl.M3 k) ++ bs [40]) = _
          rw [bs_app]
          unfold Rl.M3
          rw [Rl.rep, List.append_assoc]
        · rw [if_neg (by omega)]
          first | done | (refine congrArg (Value.int .i64) ?_; omega)
    · obtain rfl : k = 16 := by omega
      have hS : bs (Rl.M3 16) ++ (⟨#[65]⟩ : ByteArray) = bs (Rl.M4 16 0) := (bs_app' _ [65]).trans (by unfold Rl.M3 Rl.M4; rw [Rl.rep, List.append_nil])
      clear hlt hk
      go_wp2_with fail
      go_loopg [6, 34] 16 (fun g t i wr => ∃ (k : Nat), g = 16 - k ∧ k ≤ 16 ∧ t = .string (bs (Rl.M4 16 k)) ∧ i = .int .i64 (k : Int) ∧ w1 = wr)
      case atStart => exact ⟨0, rfl, by omega, rfl, rfl, rfl⟩
      case round =>
        obtain ⟨k, rfl, hk, rfl, rfl, rfl⟩ := hrel
        clear hS
        by_cases hlt : k < 16
        · have t1 : (k : Int) < 16 := by omega
          have hsz : (bs (Rl.M4 16 k)).size = k + 30 := by rw [bs_size]; unfold Rl.M4; rw [List.length_append, Rl.rep_len]; show 30 + _ * 1 = _; omega
          go_wp2_with fail
          go_roundg (16 - (k + 1))
          case measure => omega
          case rel =>
            refine ⟨k + 1, rfl, by omega, ?_, by go_num, rfl⟩
            show Value.string (bs (Rl.M4 16 k) ++ bs [41]) = _
            rw [bs_app]
            unfold Rl.M4
            rw [show Rl.rep [41] (k + 1) = Rl.rep [41] k ++ [41] from rfl, List.append_assoc]
        · obtain rfl : k = 16 := by omega
          have hS : bs (Rl.M4 16 16) ++ (⟨#[47, 59]⟩ : ByteArray) = bs (Rl.L3 16) := bs_app' _ [47, 59]
          clear hlt hk
          obtain ⟨sk, hsk⟩ := lim30
          have HSK : Hid (Rl.plain (Rl.L3 16) = .ok sk) := hsk
          clear hsk
          go_wp2_with (first | (go_at_call 12; refine (parse_o HSK.out (of_decide_eq_true (by kernel_rfl)) _).mono ?_; rintro e w2 ⟨aC, nC, cC, aT, nT, cT, aL, nL, cL, j, a, rfl, ho2⟩) | (go_at_call 10; refine (told_any _ _).mono ?_; rintro e w3 ⟨rfl, ho3⟩))
          go_ret
          exact ⟨rfl, (((ho1'.trans ho2).alloc _).alloc _).trans ho3⟩
end Go.Proofs.Ytahoepmnekconaa
namespace Go.Proofs.Ytahoepmnekconaa
open Go.RowKit Go.Maps
set_option linter.unusedVariables false
set_option linter.unusedSimpArgs false
set_option maxRecDepth 100000 in
set_option maxHeartbeats 8000000 in
theorem lim01_walk (what over : Int) (w : World) (hw0 : 0 ≤ what) (hw1 : what < 256) (ho0 : 0 ≤ over) (ho1 : over < 256) (hc : what % 4 = 0) (hm : over % 2 = 1) :
    Calls Try.prog 8 #[.int .u8 what, .int .u8 over] w fun e w' => e = .returned (.bool true) ∧ Only (fun _ => False) w w' := by
  go_enter Try.func8, Try.ntmps8
  go_wp2_with (go_at_call 9; refine (awake_any _).mono ?_; rintro e w1 ⟨rfl, ho1'⟩)
  go_loopg [6, 8, 45] 25 (fun g t a i wr => ∃ (k : Nat) (W : World), W = wr ∧ g = 25 - k ∧ k ≤ 25 ∧ t = .string (bs (Rl.M0 k)) ∧ a = .int .i64 (if k = 0 then 0 else ((3 * k + 3 : Nat) : Int)) ∧ i = .int .i64 (k : Int) ∧ Only (fun _ => False) w W)
  case atStart => exact ⟨0, _, rfl, rfl, by omega, rfl, rfl, rfl, ho1'⟩
  case round =>
    obtain ⟨k, W, hW, rfl, hk, rfl, rfl, rfl, hOr⟩ := hrel
    subst hW
    by_cases hlt : k < 25
    · have t1 : (k : Int) < 25 := by omega
      have hsz : (bs (Rl.M0 k)).size = 3 * k + 5 := by rw [bs_size]; unfold Rl.M0; rw [List.length_append, Rl.cl_len]; show 5 + _ = _; omega
      have hcv := conv1 (97 + (k : Int)) W (by omega) (by omega)
      rw [show bs [(97 + (k : Int)).toNat.toUInt8] = bs (Rl.e1 k) by unfold Rl.e1; rw [show (97 + (k : Int)).toNat = 97 + k by omega]] at hcv
      have hcat : (⟨#[32, 99]⟩ : ByteArray) ++ bs (Rl.e1 k) = bs (Rl.el k) := bs_app [32, 99] (Rl.e1 k)
      have hsz1 : (bs (Rl.e1 k)).size = 1 := bs_size _
      have hsz3 : (bs (Rl.el k)).size = 3 := bs_size _
      go_wp2_with fail
      go_roundg (25 - (k + 1))
      case measure => omega
      case rel =>
        refine ⟨k + 1, _, rfl, rfl, by omega, ?_, ?_, by go_num, hOr.alloc _⟩
        · rw [bs_app]
          unfold Rl.M0 Rl.el
          rw [Rl.cl, List.append_assoc]
        · rw [if_neg (by omega)]
          first | done | (refine congrArg (Value.int .i64) ?_; omega)
    · obtain rfl : k = 25 := by omega
      have hS : bs (Rl.M0 25) ++ (⟨#[59]⟩ : ByteArray) = bs (Rl.L0 25) := bs_app' _ [59]
      clear hlt hk
      go_wp2_with (go_at_call 12; refine (parse_e lim01 (of_decide_eq_true (by kernel_rfl)) _).mono ?_; rintro e w2 ⟨rfl, ho2⟩)
      go_ret
      exact ⟨rfl, ((hOr.trans ho2).alloc _).alloc _⟩
set_option maxRecDepth 100000 in
set_option maxHeartbeats 8000000 in
theorem lim11_walk (what over : Int) (w : World) (hw0 : 0 ≤ what) (hw1 : what < 256) (ho0 : 0 ≤ over) (ho1 : over < 256) (hc : what % 4 = 1) (hm : over % 2 = 1) :
    Calls Try.prog 8 #[.int .u8 what, .int .u8 over] w fun e w' => e = .returned (.bool true) ∧ Only (fun _ => False) w w' := by
  go_enter Try.func8, Try.ntmps8
  go_wp2_with (go_at_call 9; refine (awake_any _).mono ?_; rintro e w1 ⟨rfl, ho1'⟩)
  go_loopg [6, 8, 68] 25 (fun g t a i wr => ∃ (k : Nat), g = 25 - k ∧ k ≤ 25 ∧ t = .string (bs (Rl.L1 k)) ∧ a = .int .i64 (if k = 0 then 0 else ((11 * k - 3 : Nat) : Int)) ∧ i = .int .i64 (k : Int) ∧ w1 = wr)
  case atStart => exact ⟨0, rfl, by omega, rfl, rfl, rfl, rfl⟩
  case round =>
    obtain ⟨k, rfl, hk, rfl, rfl, rfl, rfl⟩ := hrel
    by_cases hlt : k < 25
    · have t1 : (k : Int) < 25 := by omega
      have hsz : (bs (Rl.L1 k)).size = 11 * k + 8 := by rw [bs_size]; unfold Rl.L1; rw [List.length_append, Rl.rep_len]; show 8 + _ * 11 = _; omega
      go_wp2_with fail
      go_roundg (25 - (k + 1))
      case measure => omega
      case rel =>
        refine ⟨k + 1, rfl, by omega, ?_, ?_, by go_num, rfl⟩
        · show Value.string (bs (Rl.L1 k) ++ bs [107, 101, 101, 112, 32, 65, 32, 47, 32, 65, 59]) = _
          rw [bs_app]
          unfold Rl.L1
          rw [Rl.rep, List.append_assoc]
        · rw [if_neg (by omega)]
          first | done | (refine congrArg (Value.int .i64) ?_; omega)
    · obtain rfl : k = 25 := by omega
      clear hlt hk
      go_wp2_with (go_at_call 12; refine (parse_e lim11 (of_decide_eq_true (by kernel_rfl)) _).mono ?_; rintro e w2 ⟨rfl, ho2⟩)
      go_ret
      exact ⟨rfl, ((ho1'.trans ho2).alloc _).alloc _⟩
end Go.Proofs.Ytahoepmnekconaa
namespace Go.Proofs.Ytahoepmnekconaa
open Go.RowKit Go.Maps
set_option linter.unusedVariables false
set_option linter.unusedSimpArgs false
set_option maxRecDepth 100000 in
set_option maxHeartbeats 8000000 in
theorem lim21_walk (what over : Int) (w : World) (hw0 : 0 ≤ what) (hw1 : what < 256) (ho0 : 0 ≤ over) (ho1 : over < 256) (hc : what % 4 = 2) (hm : over % 2 = 1) :
    Calls Try.prog 8 #[.int .u8 what, .int .u8 over] w fun e w' => e = .returned (.bool true) ∧ Only (fun _ => False) w w' := by
  go_enter Try.func8, Try.ntmps8
  go_wp2_with (go_at_call 9; refine (awake_any _).mono ?_; rintro e w1 ⟨rfl, ho1'⟩)
  go_loopg [6, 8, 81] 201 (fun g t a i wr => ∃ (k : Nat), g = 201 - k ∧ k ≤ 201 ∧ t = .string (bs (Rl.M2 k)) ∧ a = .int .i64 (if k = 0 then 0 else ((2 * k + 11 : Nat) : Int)) ∧ i = .int .i64 (k : Int) ∧ w1 = wr)
  case atStart => exact ⟨0, rfl, by omega, rfl, rfl, rfl, rfl⟩
  case round =>
    obtain ⟨k, rfl, hk, rfl, rfl, rfl, rfl⟩ := hrel
    by_cases hlt : k < 201
    · have t1 : (k : Int) < 201 := by omega
      have hsz : (bs (Rl.M2 k)).size = 2 * k + 13 := by rw [bs_size]; unfold Rl.M2; rw [List.length_append, Rl.rep_len]; show 13 + _ * 2 = _; omega
      go_wp2_with fail
      go_roundg (201 - (k + 1))
      case measure => omega
      case rel =>
        refine ⟨k + 1, rfl, by omega, ?_, ?_, by go_num, rfl⟩
        · show Value.string (bs (Rl.M2 k) ++ bs [65, 32]) = _
          rw [bs_app]
          unfold Rl.M2
          rw [Rl.rep, List.append_assoc]
        · rw [if_neg (by omega)]
          first | done | (refine congrArg (Value.int .i64) ?_; omega)
    · obtain rfl : k = 201 := by omega
      have hS : bs (Rl.M2 201) ++ (⟨#[47, 59]⟩ : ByteArray) = bs (Rl.L2 201) := bs_app' _ [47, 59]
      clear hlt hk
      go_wp2_with (go_at_call 12; refine (parse_e lim21 (of_decide_eq_true (by kernel_rfl)) _).mono ?_; rintro e w2 ⟨rfl, ho2⟩)
      go_ret
      exact ⟨rfl, ((ho1'.trans ho2).alloc _).alloc _⟩
set_option maxRecDepth 100000 in
set_option maxHeartbeats 8000000 in
theorem lim31_walk (what over : Int) (w : World) (hw0 : 0 ≤ what) (hw1 : what < 256) (ho0 : 0 ≤ over) (ho1 : over < 256) (hc : what % 4 = 3) (hm : over % 2 = 1) :
    Calls Try.prog 8 #[.int .u8 what, .int .u8 over] w fun e w' => e = .returned (.bool true) ∧ Only (fun _ => False) w w' := by
  go_enter Try.func8, Try.ntmps8
  go_wp2_with (go_at_call 9; refine (awake_any _).mono ?_; rintro e w1 ⟨rfl, ho1'⟩)
  go_loopg [6, 8, 23] 17 (fun g t a i wr => ∃ (k : Nat), g = 17 - k ∧ k ≤ 17 ∧ t = .string (bs (Rl.M3 k)) ∧ a = .int .i64 (if k = 0 then 0 else ((k + 12 : Nat) : Int)) ∧ i = .int .i64 (k : Int) ∧ w1 = wr)
  case atStart => exact ⟨0, rfl, by omega, rfl, rfl, rfl, rfl⟩
  case round =>
    obtain ⟨k, rfl, hk, rfl, rfl, rfl, rfl⟩ := hrel
    by_cases hlt : k < 17
    · have t1 : (k : Int) < 17 := by omega
      have hsz : (bs (Rl.M3 k)).size = k + 13 := by rw [bs_size]; unfold Rl.M3; rw [List.length_append, Rl.rep_len]; show 13 + _ * 1 = _; omega
      go_wp2_with fail
      go_roundg (17 - (k + 1))
      case measure => omega
      case rel =>
        refine ⟨k + 1, rfl, by omega, ?_, ?_, by go_num, rfl⟩
        · show Value.string (bs (Rl.M3 k) ++ bs [40]) = _
          rw [bs_app]
          unfold Rl.M3
          rw [Rl.rep, List.append_assoc]
        · rw [if_neg (by omega)]
          first | done | (refine congrArg (Value.int .i64) ?_; omega)
    · obtain rfl : k = 17 := by omega
      have hS : bs (Rl.M3 17) ++ (⟨#[65]⟩ : ByteArray) = bs (Rl.M4 17 0) := (bs_app' _ [65]).trans (by unfold Rl.M3 Rl.M4; rw [Rl.rep, List.append_nil])
      clear hlt hk
      go_wp2_with fail
      go_loopg [6, 34] 17 (fun g t i wr => ∃ (k : Nat), g = 17 - k ∧ k ≤ 17 ∧ t = .string (bs (Rl.M4 17 k)) ∧ i = .int .i64 (k : Int) ∧ w1 = wr)
      case atStart => exact ⟨0, rfl, by omega, rfl, rfl, rfl⟩
      case round =>
        obtain ⟨k, rfl, hk, rfl, rfl, rfl⟩ := hrel
        clear hS
        by_cases hlt : k < 17
        · have t1 : (k : Int) < 17 := by omega
          have hsz : (bs (Rl.M4 17 k)).size = k + 31 := by rw [bs_size]; unfold Rl.M4; rw [List.length_append, Rl.rep_len]; show 31 + _ * 1 = _; omega
          go_wp2_with fail
          go_roundg (17 - (k + 1))
          case measure => omega
          case rel =>
            refine ⟨k + 1, rfl, by omega, ?_, by go_num, rfl⟩
            show Value.string (bs (Rl.M4 17 k) ++ bs [41]) = _
            rw [bs_app]
            unfold Rl.M4
            rw [show Rl.rep [41] (k + 1) = Rl.rep [41] k ++ [41] from rfl, List.append_assoc]
        · obtain rfl : k = 17 := by omega
          have hS : bs (Rl.M4 17 17) ++ (⟨#[47, 59]⟩ : ByteArray) = bs (Rl.L3 17) := bs_app' _ [47, 59]
          clear hlt hk
          go_wp2_with (go_at_call 12; refine (parse_e lim31 (of_decide_eq_true (by kernel_rfl)) _).mono ?_; rintro e w2 ⟨rfl, ho2⟩)
          go_ret
          exact ⟨rfl, ((ho1'.trans ho2).alloc _).alloc _⟩
end Go.Proofs.Ytahoepmnekconaa
