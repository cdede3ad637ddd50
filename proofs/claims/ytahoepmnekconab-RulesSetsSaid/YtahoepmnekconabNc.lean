/-
  RulesSets: its own maker of names.
-/
import Derived.Test.YtahoepmnekconabRvx
import Derived.Test.YtahoepmnekconabSe
namespace Go.Proofs.Ytahoepmnekconab
open Go.RowKit Go.Maps
set_option linter.unusedVariables false
set_option linter.unusedSimpArgs false
theorem bs_app (x y : Rl.Str) : bs x ++ bs y = bs (x ++ y) := by
  unfold bs
  apply ByteArray.ext
  simp
theorem bs_app' (x : Rl.Str) (y : Rl.Str) : bs x ++ (⟨y.toArray⟩ : ByteArray) = bs (x ++ y) := bs_app x y
theorem bs_lit (x : Rl.Str) (y : Rl.Str) : (⟨x.toArray⟩ : ByteArray) ++ bs y = bs (x ++ y) := bs_app x y
theorem sz (l : List UInt8) : ∃ m, (bs l).size = m ∧ m = l.length := ⟨_, rfl, bs_size l⟩
theorem conv1 (c : Int) (w : World) (h0 : 0 ≤ c) (h1 : c < 256) : (convert 23 9 (.slice (some ⟨w.heap.size, 0, none⟩) 1 1)).run Try.prog (w.alloc (.cells #[.int .u8 c] 5)) = .ok (.string (bs [c.toNat.toUInt8])) (w.alloc (.cells #[.int .u8 c] 5)) := by
  have h := run_convert_bytes_back (P := Try.prog) (w.alloc (.cells #[.int .u8 c] 5)) 23 9 5 ⟨w.heap.size, 0, none⟩ 1 [c.toNat.toUInt8] Try.underlying23 Try.underlying5 Try.underlying9
  have hc : (c.toNat.toUInt8.toNat : Int) = c := by
    rw [show c.toNat.toUInt8.toNat = c.toNat % 256 from rfl]
    omega
  exact h (by
    intro j hj
    obtain rfl : j = 0 := by simpa using hj
    have h2 : (w.alloc (.cells #[.int .u8 c] 5)).cell? ⟨w.heap.size, 0, none⟩ = some (.int .u8 c) := (cell_of_row _ _ _ _ _ _ (heap_alloc_new w _)).trans rfl
    rw [Addr.add_mid]
    simp only [List.getElem_cons_zero]
    rw [hc]
    exact h2)
def bitOk : Bool := (List.range 6).all fun k => (List.range 256).all fun b => (bits .and .u8 ((b : Int) / 2 ^ k) 1 == 1) == Hd.bit b k
theorem bitOk_true : bitOk = true := by kernel_rfl
theorem bit_q (b k : Nat) (hb : b ≤ 255) (hk : k < 6) : (bits .and .u8 ((b : Int) / 2 ^ k) 1 == 1) = Hd.bit b k := by
  have h := bitOk_true
  unfold bitOk at h
  rw [List.all_eq_true] at h
  have h := h k (List.mem_range.2 hk)
  rw [List.all_eq_true] at h
  have h := h b (List.mem_range.2 (by omega))
  simpa using h
set_option maxRecDepth 100000 in
set_option maxHeartbeats 4000000 in
theorem nc_any (b : Nat) (w : World) (hb : b ≤ 255) : Calls Try.prog 5 #[.int .u8 (b : Int)] w fun e w' => e = .returned (.string (bs (Hd.names 6 b 6))) ∧ Only (fun _ => False) w w' := by
  go_enter Try.func5, Try.ntmps5
  go_wp2_with fail
  go_loopg [3, 5] 6 (fun g t i wr => ∃ (k : Nat) (W : World), W = wr ∧ g = 6 - k ∧ k ≤ 6 ∧ t = .string (bs (Hd.names 6 b k)) ∧ i = .int .i64 (k : Int) ∧ Only (fun _ => False) w W)
  case atStart => exact ⟨0, _, rfl, rfl, by omega, rfl, rfl, Only.refl _ _⟩
  case round =>
    obtain ⟨k, W, hW, rfl, hk, rfl, rfl, hOr⟩ := hrel
    subst hW
    by_cases hlt : k < 6
    · have t1 : (k : Int) < 6 := by omega
      have hq := bit_q b k hb hlt
      obtain ⟨m, hsz, hm⟩ := sz (Hd.names 6 b k)
      have hm2 : m ≤ 12 := by have := Hd.names_len 6 b k; omega
      clear hm
      by_cases hbit : Hd.bit b k = true
      · rw [hbit] at hq
        have hcv := conv1 (65 + (k : Int)) W (by omega) (by omega)
        have hn1 : (65 + (k : Int)).toNat.toUInt8 = (65 + k % 6).toUInt8 := by rw [show (65 + (k : Int)).toNat = 65 + k % 6 by omega]
        rw [hn1, show [(65 + k % 6).toUInt8] = Hd.name 6 k from rfl] at hcv
        have hS1 : (⟨#[32]⟩ : ByteArray) ++ bs (Hd.name 6 k) = bs (32 :: Hd.name 6 k) := bs_lit [32] _
        have hsz1 : (bs (Hd.name 6 k)).size = 1 := bs_size _
        have hsz2 : (bs (32 :: Hd.name 6 k)).size = 2 := bs_size _
        have HS2 : Hid (bs (Hd.names 6 b k) ++ bs (32 :: Hd.name 6 k) = bs (Hd.names 6 b (k + 1))) := by
          show _ = _
          rw [bs_app, Hd.names, if_pos hbit]
        clear hbit hn1
        go_wp2_with fail
        go_roundg (6 - (k + 1))
        case measure => omega
        case rel => exact ⟨k + 1, _, rfl, rfl, by omega, by rw [HS2.out], by go_num, hOr.alloc _⟩
      · have hbit' : Hd.bit b k = false := by simpa using hbit
        rw [hbit'] at hq
        have HS2 : Hid (Hd.names 6 b k = Hd.names 6 b (k + 1)) := by
          show _ = _
          rw [Hd.names, if_neg hbit, List.append_nil]
        clear hbit hbit'
        go_wp2_with fail
        go_roundg (6 - (k + 1))
        case measure => omega
        case rel => exact ⟨k + 1, _, rfl, rfl, by omega, by rw [← HS2.out], by go_num, hOr⟩
    · have t2 : decide ((k : Int) < 6) = false := decide_eq_false (by omega)
      obtain rfl : k = 6 := by omega
      go_wp2_with fail
      go_ret
      exact ⟨rfl, hOr⟩
end Go.Proofs.Ytahoepmnekconab
