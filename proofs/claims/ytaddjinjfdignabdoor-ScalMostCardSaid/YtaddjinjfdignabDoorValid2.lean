/-
  utf8.Valid of U+FFFD's three bytes: a bool; and of every sign that is Bad. Nothing that was there turns.
-/
import Derived.Test.YtaddjinjfdignabDoorValid
namespace Go.Proofs.YtaddjinjfdignabDoor
open Go.RowKit
set_option linter.unusedVariables false

/-- how long a slice is. -/
def lenOf : Value → Nat
  | .slice _ l _ => l
  | _ => 0
set_option maxRecDepth 100000 in
set_option maxHeartbeats 4000000 in
theorem validFFFD (b off cap : Nat) (w : World) (hz : 2 ≤ w.heap.size) (hLc : 3 ≤ cap) (hcap : cap ≤ 9223372036854775807) (hb : b < w.heap.size) (hc0 : w.cell? ⟨b, off, none⟩ = some (.int .u8 239)) (hc1 : w.cell? ⟨b, off + 1, none⟩ = some (.int .u8 191)) (hc2 : w.cell? ⟨b, off + 2, none⟩ = some (.int .u8 189))
    (hF : w.cell? ⟨0, 239, none⟩ = some (.int .u8 3)) (hlo : w.cell? ⟨1, 0, none⟩ = some (.int .u8 128)) (hhi : w.cell? ⟨1, 1, none⟩ = some (.int .u8 191)) :
    Calls Tryd.prog 9 #[.slice (some ⟨b, off, none⟩) 3 cap] w fun e w' => ∃ r, e = .returned (.bool r) ∧ Below w.heap.size w w' := by
  go_enter Tryd.func9, Tryd.ntmps9
  go_wp2_with fail
  go_loopw [0] (fun v wr => (v = .slice (some ⟨b, off, none⟩) 3 3 ∧ w = wr) ∨ ∃ a' c', v = .slice a' 0 c' ∧ Below w.heap.size w wr) (fun v _ => lenOf v)
  case atStart => exact Or.inl ⟨rfl, rfl⟩
  case round =>
    rcases hrel with ⟨rfl, rfl⟩ | ⟨a', c', rfl, hb'⟩
    · go_wp2_with fail
      go_quiet (fail)
      go_wp2
      go_roundw
      case rel => exact Or.inr ⟨_, _, rfl, below_drewN ((Below.refl _ _).alloc (Nat.le_refl _) _) _⟩
      case measure => simp [lenOf]
    · have hB : Hid (Below w.heap.size w wr) := hb'
      clear hb'
      go_wp2
      go_ret
      exact ⟨_, rfl, hB.out⟩
end Go.Proofs.YtaddjinjfdignabDoor
