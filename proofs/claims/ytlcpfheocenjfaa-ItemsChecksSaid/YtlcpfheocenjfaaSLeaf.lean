
/-
  What the leaves return: scal's lead and begun, the reference's length and Begins: each what the plain functions say of the bytes that they are handed; nothing in memory turns.
-/
import Derived.Test.YtlcpfheocenjfaaProg
import Derived.Test.YtlcpfheocenjfaaSMath
import Derived.Test.YtlcpfheocenjfaaRef
import Derived.WalkKit
import Derived.WalkSpells
import Derived.WalkLawsBesides
namespace Go.Proofs.Ytlcpfheocenjfaa
open Go.RowKit

theorem ret3 {a a' b b' c c' : Int} (h1 : a = a') (h2 : b = b') (h3 : c = c') : Ending.returned (.tuple #[.int .i64 a, .int .u8 b, .int .u8 c]) = .returned (.tuple #[.int .i64 a', .int .u8 b', .int .u8 c']) := by rw [h1, h2, h3]

set_option maxRecDepth 100000 in
set_option maxHeartbeats 400000 in
theorem length_any (c : Nat) (w : World) :
    Calls Try.prog 48 #[.int .u8 c] w fun e w' => e = .returned (.int .i64 (Sg.sz c : Nat)) ∧ w = w' := by
  go_enter Try.func48, Try.ntmps48
  go_wp2
  all_goals go_ret
  all_goals
    refine ⟨ret_i64 ?_, rfl⟩
    simp only [Sg.sz]
    ((repeat' split) <;> omega)

theorem ret2b {a a' : Int} {b b' : Bool} (h1 : a = a') (h2 : b = b') : Ending.returned (.tuple #[.int .i64 a, .bool b]) = .returned (.tuple #[.int .i64 a', .bool b']) := by rw [h1, h2]
theorem bg_stop {n : Nat} {x : Nat → Nat} {f k a b r : Nat} (h : Sg.bg n x (f + 1) k a b = r) (hn : ¬ (k < Sg.sz (x 0) ∧ k < n ∧ a ≤ x k ∧ x k ≤ b)) : k = r := by
  simp only [Sg.bg] at h; rw [if_neg hn] at h; exact h
theorem bg_go {n : Nat} {x : Nat → Nat} {f k a b r : Nat} (h : Sg.bg n x (f + 1) k a b = r) (hn : k < Sg.sz (x 0) ∧ k < n ∧ a ≤ x k ∧ x k ≤ b) : Sg.bg n x f (k + 1) 128 191 = r := by
  simp only [Sg.bg] at h; rw [if_pos hn] at h; exact h
theorem whole_of {n : Nat} {x : Nat → Nat} {k : Nat} (h : k = Sg.cnt n x) : ((k : Int) == (Sg.sz (x 0) : Nat)) = Sg.whole n x := by
  unfold Sg.whole; rw [← h, Bool.eq_iff_iff]; simp only [beq_iff_eq]; omega

end Go.Proofs.Ytlcpfheocenjfaa
