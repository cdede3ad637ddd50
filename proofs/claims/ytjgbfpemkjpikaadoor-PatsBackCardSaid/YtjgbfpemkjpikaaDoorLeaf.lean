/-
  What the leaves return: scal's lead and begun, the reference's length and Begins: each what the plain functions say of the bytes that they are handed; nothing in memory turns.
-/
import Derived.Test.YtjgbfpemkjpikaaDoorProg
import Derived.Test.YtjgbfpemkjpikaaDoorMath
import Derived.WalkKit
import Derived.WalkSpells
import Derived.WalkLawsBesides
namespace Go.Proofs.YtjgbfpemkjpikaaDoor
open Go.RowKit

theorem ret_i64 {a b : Int} (h : a = b) : Ending.returned (.int .i64 a) = .returned (.int .i64 b) := by rw [h]
theorem ret3 {a a' b b' c c' : Int} (h1 : a = a') (h2 : b = b') (h3 : c = c') : Ending.returned (.tuple #[.int .i64 a, .int .u8 b, .int .u8 c]) = .returned (.tuple #[.int .i64 a', .int .u8 b', .int .u8 c']) := by rw [h1, h2, h3]

set_option maxRecDepth 100000 in
set_option maxHeartbeats 400000 in
theorem lead_any (c : Nat) (w : World) :
    Calls Tryd.prog 46 #[.int .u8 c] w fun e w' => e = .returned (.tuple #[.int .i64 (Sg.sz c : Nat), .int .u8 (Sg.lo c : Nat), .int .u8 (Sg.hi c : Nat)]) ∧ w = w' := by
  go_enter Tryd.func46, Tryd.ntmps46
  go_wp2
  all_goals go_ret3
  all_goals
    refine ⟨ret3 ?_ ?_ ?_, rfl⟩
    all_goals (simp only [Sg.sz, Sg.lo, Sg.hi, beq_iff_eq, beq_eq_false_iff_ne, ne_eq] at *)
    all_goals ((repeat' split) <;> omega)

set_option maxRecDepth 100000 in
set_option maxHeartbeats 400000 in
theorem length_any (c : Nat) (w : World) :
    Calls Tryd.prog 45 #[.int .u8 c] w fun e w' => e = .returned (.int .i64 (Sg.sz c : Nat)) ∧ w = w' := by
  go_enter Tryd.func45, Tryd.ntmps45
  go_wp2
  all_goals go_ret
  all_goals
    refine ⟨ret_i64 ?_, rfl⟩
    simp only [Sg.sz]
    ((repeat' split) <;> omega)

theorem ret2b {a a' : Int} {b b' : Bool} (h1 : a = a') (h2 : b = b') : Ending.returned (.tuple #[.int .i64 a, .bool b]) = .returned (.tuple #[.int .i64 a', .bool b']) := by rw [h1, h2]
theorem bg_stop {n : Nat} {x : Nat → Nat} {f k a b r : Nat} (h : Sg.bg n x (f + 1) k a b = r) (hn : ¬ (k < Sg.sz (x 0) ∧ k < n ∧ a ≤ x k ∧ x k ≤ b)) : k = r := by
  simp only [Sg.bg] at h; rw [if_neg hn] at h; exact h
theorem bg_go {n : Nat} {x : Nat → Nat} {f k a b r : Nat} (h : Sg.bg n x (f + 1) k a b = r) (hn : k < Sg.sz (x 0) ∧ k < n ∧ a ≤ x k ∧ x k ≤ b) : Sg.bg n x f (k + 1) 128 191 = r := by
  simp only [Sg.bg] at h; rw [if_pos hn] at h; exact h
theorem whole_of {n : Nat} {x : Nat → Nat} {k : Nat} (h : k = Sg.cnt n x) : ((k : Int) == (Sg.sz (x 0) : Nat)) = Sg.whole n x := by
  unfold Sg.whole; rw [← h, Bool.eq_iff_iff]; simp only [beq_iff_eq]; omega

set_option maxRecDepth 100000 in
set_option maxHeartbeats 1000000 in
theorem begun_any (n : Nat) (x : Nat → Nat) (b off cap : Nat) (w : World) (hn : 0 < n)
    (hc : ∀ j, j < n → w.cell? ⟨b, off + j, none⟩ = some (.int .u8 (x j : Nat))) :
    Calls Tryd.prog 28 #[.slice (some ⟨b, off, none⟩) n cap] w fun e w' => e = .returned (.tuple #[.int .i64 (Sg.cnt n x : Nat), .bool (Sg.whole n x)]) ∧ w = w' := by
  have hc0 : w.cell? ⟨b, off, none⟩ = some (.int .u8 (x 0 : Nat)) := hc 0 hn
  have hs := Sg.sz_le (x 0)
  have H := Sg.bg_cnt n x
  have hH : Hid (Sg.bg n x 4 1 (Sg.lo (x 0)) (Sg.hi (x 0)) = Sg.cnt n x) := H
  clear H
  have hcH : Hid (∀ j, j < n → w.cell? ⟨b, off + j, none⟩ = some (.int .u8 (x j : Nat))) := hc
  clear hc
  go_enter Tryd.func28, Tryd.ntmps28
  go_wp2_with (go_at_call 46; refine (lead_any _ _).mono ?_; rintro e w' ⟨rfl, rfl⟩)
  go_loop [2, 5, 6] (fun vn vl vh => ∃ k a c f : Nat, 1 ≤ k ∧ f + k = 4 ∧ vn = .int .i64 k ∧ vl = .int .u8 a ∧ vh = .int .u8 c ∧ Sg.bg n x (f + 1) k a c = Sg.cnt n x) (fun vn _ _ => 5 - (intOf vn).toNat)
  case atStart => exact ⟨1, _, _, 3, by omega, rfl, rfl, rfl, rfl, hH.out⟩
  case round =>
    obtain ⟨k, a, c, f, hk1, hf, rfl, rfl, rfl, hbg⟩ := hrel
    have hB : Hid (Sg.bg n x (f + 1) k a c = Sg.cnt n x) := hbg
    clear hbg
    by_cases c1 : k < Sg.sz (x 0)
    · by_cases c2 : k < n
      · have hck : w.cell? ⟨b, off + k, none⟩ = some (.int .u8 (x k : Nat)) := hcH.out k c2
        by_cases c3 : a ≤ x k
        · by_cases c4 : x k ≤ c
          · obtain ⟨f', rfl⟩ : ∃ f', f = f' + 1 := ⟨f - 1, by omega⟩
            go_wp2
            go_round
            case rel => exact ⟨k + 1, 128, 191, f', by omega, by omega, by go_num, rfl, rfl, bg_go hB.out ⟨c1, c2, c3, c4⟩⟩
            case measure => simp [intOf]; omega
          · go_wp2
            go_ret2
            have e := bg_stop hB.out (fun h => c4 h.2.2.2)
            exact ⟨ret2b (by rw [e]) (whole_of e), rfl⟩
        · go_wp2
          go_ret2
          have e := bg_stop hB.out (fun h => c3 h.2.2.1)
          exact ⟨ret2b (by rw [e]) (whole_of e), rfl⟩
      · go_wp2
        go_ret2
        have e := bg_stop hB.out (fun h => c2 h.2.1)
        exact ⟨ret2b (by rw [e]) (whole_of e), rfl⟩
    · go_wp2
      go_ret2
      have e := bg_stop hB.out (fun h => c1 h.1)
      exact ⟨ret2b (by rw [e]) (whole_of e), rfl⟩
end Go.Proofs.YtjgbfpemkjpikaaDoor
