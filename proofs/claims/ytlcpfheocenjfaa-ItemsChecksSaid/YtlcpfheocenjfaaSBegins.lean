
/-
  What the reference's Begins returns of one byte or more: whether they begin a right sign; nothing in memory turns.
-/
import Derived.Test.YtlcpfheocenjfaaSLeaf
namespace Go.Proofs.Ytlcpfheocenjfaa
open Go.RowKit

theorem ret_b {a b : Bool} (h : a = b) : Ending.returned (.bool a) = .returned (.bool b) := by rw [h]

theorem end224 {c y : Nat} (h : ((c : Int) == 224) = true) (hy : 128 ≤ y ∧ y ≤ 191) : decide ((160 : Int) ≤ (y : Int)) = decide (Sg.lo c ≤ y ∧ y ≤ Sg.hi c) := by
  have e : c = 224 := by have := beq_iff_eq.1 h; omega
  subst e
  rw [decide_eq_decide, show Sg.lo 224 = 160 from rfl, show Sg.hi 224 = 191 from rfl]; omega
theorem end237 {c y : Nat} (h : ((c : Int) == 237) = true) (hy : 128 ≤ y ∧ y ≤ 191) : decide ((y : Int) < (160 : Int)) = decide (Sg.lo c ≤ y ∧ y ≤ Sg.hi c) := by
  have e : c = 237 := by have := beq_iff_eq.1 h; omega
  subst e
  rw [decide_eq_decide, show Sg.lo 237 = 128 from rfl, show Sg.hi 237 = 159 from rfl]; omega
theorem end240 {c y : Nat} (h : ((c : Int) == 240) = true) (hy : 128 ≤ y ∧ y ≤ 191) : decide ((144 : Int) ≤ (y : Int)) = decide (Sg.lo c ≤ y ∧ y ≤ Sg.hi c) := by
  have e : c = 240 := by have := beq_iff_eq.1 h; omega
  subst e
  rw [decide_eq_decide, show Sg.lo 240 = 144 from rfl, show Sg.hi 240 = 191 from rfl]; omega
theorem end244 {c y : Nat} (h : ((c : Int) == 244) = true) (hy : 128 ≤ y ∧ y ≤ 191) : decide ((y : Int) < (144 : Int)) = decide (Sg.lo c ≤ y ∧ y ≤ Sg.hi c) := by
  have e : c = 244 := by have := beq_iff_eq.1 h; omega
  subst e
  rw [decide_eq_decide, show Sg.lo 244 = 128 from rfl, show Sg.hi 244 = 143 from rfl]; omega
theorem endAny {c y : Nat} (hs : 1 < Sg.sz c) (h1 : ((c : Int) == 224) = false) (h2 : ((c : Int) == 237) = false) (h3 : ((c : Int) == 240) = false) (h4 : ((c : Int) == 244) = false) (hy : 128 ≤ y ∧ y ≤ 191) : true = decide (Sg.lo c ≤ y ∧ y ≤ Sg.hi c) := by
  rw [beq_eq_false_iff_ne] at h1 h2 h3 h4
  refine (decide_eq_true ?_).symm
  unfold Sg.sz at hs
  unfold Sg.lo Sg.hi
  (repeat' split at hs) <;> (repeat' split) <;> omega

set_option maxRecDepth 100000 in
set_option maxHeartbeats 1000000 in
theorem begins_any (n : Nat) (x : Nat → Nat) (b off cap : Nat) (w : World) (hn : 0 < n)
    (hc : ∀ j, j < n → w.cell? ⟨b, off + j, none⟩ = some (.int .u8 (x j : Nat))) :
    Calls Try.prog 47 #[.slice (some ⟨b, off, none⟩) n cap] w fun e w' => e = .returned (.bool (Sg.beg n x)) ∧ w = w' := by
  have hc0 : w.cell? ⟨b, off, none⟩ = some (.int .u8 (x 0 : Nat)) := hc 0 hn
  have hs := Sg.sz_le (x 0)
  have hn0 : ((n : Int) == 0) = false := beq_eq_false_iff_ne.2 (by omega)
  have hcH : Hid (∀ j, j < n → w.cell? ⟨b, off + j, none⟩ = some (.int .u8 (x j : Nat))) := hc
  clear hc
  by_cases hl : Sg.sz (x 0) < n
  · go_enter Try.func47, Try.ntmps47
    go_wp2_with (go_at_call 48; refine (length_any _ _).mono ?_; rintro e w' ⟨rfl, rfl⟩)
    go_ret
    exact ⟨ret_b (Sg.beg_long hl).symm, rfl⟩
  · go_enter Try.func47, Try.ntmps47
    go_wp2_with (go_at_call 48; refine (length_any _ _).mono ?_; rintro e w' ⟨rfl, rfl⟩)
    go_loop [3] (fun vi => ∃ i : Nat, 1 ≤ i ∧ i ≤ n ∧ vi = .int .i64 i ∧ ∀ j, 1 ≤ j → j < i → 128 ≤ x j ∧ x j ≤ 191) (fun vi => n - (intOf vi).toNat)
    case atStart => exact ⟨1, by omega, by omega, rfl, by intro j h1 h2; omega⟩
    case round =>
      obtain ⟨i, hi1, hi2, rfl, hcon⟩ := hrel
      have hK : Hid (∀ j, 1 ≤ j → j < i → 128 ≤ x j ∧ x j ≤ 191) := hcon
      clear hcon
      by_cases c2 : i < n
      · have hck : w.cell? ⟨b, off + i, none⟩ = some (.int .u8 (x i : Nat)) := hcH.out i c2
        by_cases c3 : x i < 128
        · go_wp2
          go_ret
          exact ⟨ret_b (Sg.beg_bad hi1 c2 (by omega) (Or.inl c3)).symm, rfl⟩
        · by_cases c4 : 191 < x i
          · go_wp2
            go_ret
            exact ⟨ret_b (Sg.beg_bad hi1 c2 (by omega) (Or.inr c4)).symm, rfl⟩
          · go_wp2
            go_round
            case rel => exact ⟨i + 1, by omega, by omega, by go_num, fun j h1 h2 => by
              by_cases e : j = i
              · subst e; omega
              · exact hK.out j h1 (by omega)⟩
            case measure => simp [intOf]; omega
      · by_cases c5 : n = 1
        · have c5' : ((n : Int) == 1) = true := beq_iff_eq.2 (by omega)
          have hr : Hid (Sg.beg n x = true) := Sg.beg_one c5 (by omega)
          have hC5 : Hid (n = 1) := c5
          clear c5
          go_wp2
          go_ret
          exact ⟨ret_b hr.out.symm, rfl⟩
        · have c5' : ((n : Int) == 1) = false := beq_eq_false_iff_ne.2 (by omega)
          have hc1 : w.cell? ⟨b, off + 1, none⟩ = some (.int .u8 (x 1 : Nat)) := hcH.out 1 (by omega)
          have hr : Hid (Sg.beg n x = decide (Sg.lo (x 0) ≤ x 1 ∧ x 1 ≤ Sg.hi (x 0))) := Sg.beg_end (by omega) (by omega) (fun j h1 h2 => hK.out j h1 (by omega))
          have hy : Hid (128 ≤ x 1 ∧ x 1 ≤ 191) := hK.out 1 (by omega) (by omega)
          have hz : Hid (1 < Sg.sz (x 0)) := (by omega : 1 < Sg.sz (x 0))
          go_wp2
          all_goals go_ret
          · exact ⟨ret_b (by rw [hr.out]; exact end224 ‹_› hy.out), rfl⟩
          · exact ⟨ret_b (by rw [hr.out]; exact end237 ‹_› hy.out), rfl⟩
          · exact ⟨ret_b (by rw [hr.out]; exact end240 ‹_› hy.out), rfl⟩
          · exact ⟨ret_b (by rw [hr.out]; exact end244 ‹_› hy.out), rfl⟩
          · exact ⟨ret_b (by rw [hr.out]; exact endAny hz.out ‹_› ‹_› ‹_› ‹_› hy.out), rfl⟩
end Go.Proofs.Ytlcpfheocenjfaa
