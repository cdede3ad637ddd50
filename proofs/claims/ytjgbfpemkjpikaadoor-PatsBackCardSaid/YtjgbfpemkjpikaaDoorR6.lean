/-
  No answer has more than 256 patterns and words.
-/
import Derived.Test.YtjgbfpemkjpikaaDoorR5
namespace Go.Proofs.YtjgbfpemkjpikaaDoor
set_option linter.unusedVariables false
theorem runs_small (S : List (Nat × Nat × Nat)) : ∀ (C : List (Nat × Nat)) (P Q : List Pt.Pat), P.length + Q.length ≤ 256 → (runs S C P Q).2.2.1.length + (runs S C P Q).2.2.2.length ≤ 256
  | [], P, Q, h => by
    unfold runs
    exact h
  | p :: l, P, Q, h => by
    unfold runs
    split
    · exact runs_small S l _ _ (addR_small _ _ _ h)
    · simp
theorem parse_small (s : ByteArray) : (parseR s).2.2.1.length + (parseR s).2.2.2.length ≤ 256 := by
  unfold parseR
  split
  · simp
  · exact runs_small _ _ _ _ (by simp)
theorem told_all (s : ByteArray) (w : World) (hz : 2 ≤ w.heap.size) (hT : Lib.Utf8Tabs 0 1 w) : Calls Tryd.prog 9 #[.string s] w fun e w' => e = .returned (.bool true) ∧ Only (fun _ => False) w w' :=
  told_law s w hz hT (by have := parse_small s; omega)
end Go.Proofs.YtjgbfpemkjpikaaDoor
