/-
  utf8.Valid of a beginning that is no whole sign: false; of U+FFFD's three bytes: a bool. Nothing that was there turns.
-/
import Derived.Test.YtaddjinjfdignabDoorFull
namespace Go.Proofs.YtaddjinjfdignabDoor
open Go.RowKit
set_option linter.unusedVariables false

set_option maxRecDepth 100000 in
set_option maxHeartbeats 2000000 in
theorem valid241 (L c : Nat) (b off cap : Nat) (w : World) (hz : 2 ≤ w.heap.size) (hL : 0 < L) (hLc : L ≤ cap) (hcap : cap ≤ 9223372036854775807) (hb : b < w.heap.size) (hcc : c < 256) (hc8 : 128 ≤ c) (hc0 : w.cell? ⟨b, off, none⟩ = some (.int .u8 (c : Nat))) (hF : w.cell? ⟨0, c, none⟩ = some (.int .u8 241)) (hlo : w.cell? ⟨1, 30, none⟩ = some (.int .u8 0)) (hhi : w.cell? ⟨1, 31, none⟩ = some (.int .u8 0)) :
    Calls Tryd.prog 9 #[.slice (some ⟨b, off, none⟩) L cap] w fun e w' => ∃ r, e = .returned (.bool r) ∧ Below w.heap.size w w' := by
  go_enter Tryd.func9, Tryd.ntmps9
  go_wp2_with fail
  go_loopw [0] (fun v wr => v = .slice (some ⟨b, off, none⟩) L L ∧ w = wr) (fun _ _ => 0)
  case atStart => exact ⟨rfl, rfl⟩
  case round =>
    obtain ⟨rfl, rfl⟩ := hrel
    go_wp2
    go_ret
    exact ⟨_, rfl, (Below.refl _ _).alloc (Nat.le_refl _) _⟩
set_option maxRecDepth 100000 in
set_option maxHeartbeats 2000000 in
theorem valid2 (L c : Nat) (b off cap : Nat) (w : World) (hz : 2 ≤ w.heap.size) (hL : 0 < L) (hLc : L ≤ cap) (hcap : cap ≤ 9223372036854775807) (hb : b < w.heap.size) (hcc : c < 256) (hc8 : 128 ≤ c) (hc0 : w.cell? ⟨b, off, none⟩ = some (.int .u8 (c : Nat))) (hS : L < 2) (hF : w.cell? ⟨0, c, none⟩ = some (.int .u8 2)) (hlo : w.cell? ⟨1, 0, none⟩ = some (.int .u8 128)) (hhi : w.cell? ⟨1, 1, none⟩ = some (.int .u8 191)) :
    Calls Tryd.prog 9 #[.slice (some ⟨b, off, none⟩) L cap] w fun e w' => ∃ r, e = .returned (.bool r) ∧ Below w.heap.size w w' := by
  go_enter Tryd.func9, Tryd.ntmps9
  go_wp2_with fail
  go_loopw [0] (fun v wr => v = .slice (some ⟨b, off, none⟩) L L ∧ w = wr) (fun _ _ => 0)
  case atStart => exact ⟨rfl, rfl⟩
  case round =>
    obtain ⟨rfl, rfl⟩ := hrel
    have hS' : decide ((L : Int) < 2) = true := decide_eq_true (by omega)
    have hSI : (L : Int) < 2 := by omega
    go_wp2_with fail
    go_quiet (fail)
    go_wp2
    go_ret
    exact ⟨_, rfl, below_drewN ((Below.refl _ _).alloc (Nat.le_refl _) _) _⟩
set_option maxRecDepth 100000 in
set_option maxHeartbeats 2000000 in
theorem valid19 (L c : Nat) (b off cap : Nat) (w : World) (hz : 2 ≤ w.heap.size) (hL : 0 < L) (hLc : L ≤ cap) (hcap : cap ≤ 9223372036854775807) (hb : b < w.heap.size) (hcc : c < 256) (hc8 : 128 ≤ c) (hc0 : w.cell? ⟨b, off, none⟩ = some (.int .u8 (c : Nat))) (hS : L < 3) (hF : w.cell? ⟨0, c, none⟩ = some (.int .u8 19)) (hlo : w.cell? ⟨1, 2, none⟩ = some (.int .u8 160)) (hhi : w.cell? ⟨1, 3, none⟩ = some (.int .u8 191)) :
    Calls Tryd.prog 9 #[.slice (some ⟨b, off, none⟩) L cap] w fun e w' => ∃ r, e = .returned (.bool r) ∧ Below w.heap.size w w' := by
  go_enter Tryd.func9, Tryd.ntmps9
  go_wp2_with fail
  go_loopw [0] (fun v wr => v = .slice (some ⟨b, off, none⟩) L L ∧ w = wr) (fun _ _ => 0)
  case atStart => exact ⟨rfl, rfl⟩
  case round =>
    obtain ⟨rfl, rfl⟩ := hrel
    have hS' : decide ((L : Int) < 3) = true := decide_eq_true (by omega)
    have hSI : (L : Int) < 3 := by omega
    go_wp2_with fail
    go_quiet (fail)
    go_wp2
    go_ret
    exact ⟨_, rfl, below_drewN ((Below.refl _ _).alloc (Nat.le_refl _) _) _⟩
set_option maxRecDepth 100000 in
set_option maxHeartbeats 2000000 in
theorem valid3 (L c : Nat) (b off cap : Nat) (w : World) (hz : 2 ≤ w.heap.size) (hL : 0 < L) (hLc : L ≤ cap) (hcap : cap ≤ 9223372036854775807) (hb : b < w.heap.size) (hcc : c < 256) (hc8 : 128 ≤ c) (hc0 : w.cell? ⟨b, off, none⟩ = some (.int .u8 (c : Nat))) (hS : L < 3) (hF : w.cell? ⟨0, c, none⟩ = some (.int .u8 3)) (hlo : w.cell? ⟨1, 0, none⟩ = some (.int .u8 128)) (hhi : w.cell? ⟨1, 1, none⟩ = some (.int .u8 191)) :
    Calls Tryd.prog 9 #[.slice (some ⟨b, off, none⟩) L cap] w fun e w' => ∃ r, e = .returned (.bool r) ∧ Below w.heap.size w w' := by
  go_enter Tryd.func9, Tryd.ntmps9
  go_wp2_with fail
  go_loopw [0] (fun v wr => v = .slice (some ⟨b, off, none⟩) L L ∧ w = wr) (fun _ _ => 0)
  case atStart => exact ⟨rfl, rfl⟩
  case round =>
    obtain ⟨rfl, rfl⟩ := hrel
    have hS' : decide ((L : Int) < 3) = true := decide_eq_true (by omega)
    have hSI : (L : Int) < 3 := by omega
    go_wp2_with fail
    go_quiet (fail)
    go_wp2
    go_ret
    exact ⟨_, rfl, below_drewN ((Below.refl _ _).alloc (Nat.le_refl _) _) _⟩
set_option maxRecDepth 100000 in
set_option maxHeartbeats 2000000 in
theorem valid35 (L c : Nat) (b off cap : Nat) (w : World) (hz : 2 ≤ w.heap.size) (hL : 0 < L) (hLc : L ≤ cap) (hcap : cap ≤ 9223372036854775807) (hb : b < w.heap.size) (hcc : c < 256) (hc8 : 128 ≤ c) (hc0 : w.cell? ⟨b, off, none⟩ = some (.int .u8 (c : Nat))) (hS : L < 3) (hF : w.cell? ⟨0, c, none⟩ = some (.int .u8 35)) (hlo : w.cell? ⟨1, 4, none⟩ = some (.int .u8 128)) (hhi : w.cell? ⟨1, 5, none⟩ = some (.int .u8 159)) :
    Calls Tryd.prog 9 #[.slice (some ⟨b, off, none⟩) L cap] w fun e w' => ∃ r, e = .returned (.bool r) ∧ Below w.heap.size w w' := by
  go_enter Tryd.func9, Tryd.ntmps9
  go_wp2_with fail
  go_loopw [0] (fun v wr => v = .slice (some ⟨b, off, none⟩) L L ∧ w = wr) (fun _ _ => 0)
  case atStart => exact ⟨rfl, rfl⟩
  case round =>
    obtain ⟨rfl, rfl⟩ := hrel
    have hS' : decide ((L : Int) < 3) = true := decide_eq_true (by omega)
    have hSI : (L : Int) < 3 := by omega
    go_wp2_with fail
    go_quiet (fail)
    go_wp2
    go_ret
    exact ⟨_, rfl, below_drewN ((Below.refl _ _).alloc (Nat.le_refl _) _) _⟩
set_option maxRecDepth 100000 in
set_option maxHeartbeats 2000000 in
theorem valid52 (L c : Nat) (b off cap : Nat) (w : World) (hz : 2 ≤ w.heap.size) (hL : 0 < L) (hLc : L ≤ cap) (hcap : cap ≤ 9223372036854775807) (hb : b < w.heap.size) (hcc : c < 256) (hc8 : 128 ≤ c) (hc0 : w.cell? ⟨b, off, none⟩ = some (.int .u8 (c : Nat))) (hS : L < 4) (hF : w.cell? ⟨0, c, none⟩ = some (.int .u8 52)) (hlo : w.cell? ⟨1, 6, none⟩ = some (.int .u8 144)) (hhi : w.cell? ⟨1, 7, none⟩ = some (.int .u8 191)) :
    Calls Tryd.prog 9 #[.slice (some ⟨b, off, none⟩) L cap] w fun e w' => ∃ r, e = .returned (.bool r) ∧ Below w.heap.size w w' := by
  go_enter Tryd.func9, Tryd.ntmps9
  go_wp2_with fail
  go_loopw [0] (fun v wr => v = .slice (some ⟨b, off, none⟩) L L ∧ w = wr) (fun _ _ => 0)
  case atStart => exact ⟨rfl, rfl⟩
  case round =>
    obtain ⟨rfl, rfl⟩ := hrel
    have hS' : decide ((L : Int) < 4) = true := decide_eq_true (by omega)
    have hSI : (L : Int) < 4 := by omega
    go_wp2_with fail
    go_quiet (fail)
    go_wp2
    go_ret
    exact ⟨_, rfl, below_drewN ((Below.refl _ _).alloc (Nat.le_refl _) _) _⟩
set_option maxRecDepth 100000 in
set_option maxHeartbeats 2000000 in
theorem valid4 (L c : Nat) (b off cap : Nat) (w : World) (hz : 2 ≤ w.heap.size) (hL : 0 < L) (hLc : L ≤ cap) (hcap : cap ≤ 9223372036854775807) (hb : b < w.heap.size) (hcc : c < 256) (hc8 : 128 ≤ c) (hc0 : w.cell? ⟨b, off, none⟩ = some (.int .u8 (c : Nat))) (hS : L < 4) (hF : w.cell? ⟨0, c, none⟩ = some (.int .u8 4)) (hlo : w.cell? ⟨1, 0, none⟩ = some (.int .u8 128)) (hhi : w.cell? ⟨1, 1, none⟩ = some (.int .u8 191)) :
    Calls Tryd.prog 9 #[.slice (some ⟨b, off, none⟩) L cap] w fun e w' => ∃ r, e = .returned (.bool r) ∧ Below w.heap.size w w' := by
  go_enter Tryd.func9, Tryd.ntmps9
  go_wp2_with fail
  go_loopw [0] (fun v wr => v = .slice (some ⟨b, off, none⟩) L L ∧ w = wr) (fun _ _ => 0)
  case atStart => exact ⟨rfl, rfl⟩
  case round =>
    obtain ⟨rfl, rfl⟩ := hrel
    have hS' : decide ((L : Int) < 4) = true := decide_eq_true (by omega)
    have hSI : (L : Int) < 4 := by omega
    go_wp2_with fail
    go_quiet (fail)
    go_wp2
    go_ret
    exact ⟨_, rfl, below_drewN ((Below.refl _ _).alloc (Nat.le_refl _) _) _⟩
set_option maxRecDepth 100000 in
set_option maxHeartbeats 2000000 in
theorem valid68 (L c : Nat) (b off cap : Nat) (w : World) (hz : 2 ≤ w.heap.size) (hL : 0 < L) (hLc : L ≤ cap) (hcap : cap ≤ 9223372036854775807) (hb : b < w.heap.size) (hcc : c < 256) (hc8 : 128 ≤ c) (hc0 : w.cell? ⟨b, off, none⟩ = some (.int .u8 (c : Nat))) (hS : L < 4) (hF : w.cell? ⟨0, c, none⟩ = some (.int .u8 68)) (hlo : w.cell? ⟨1, 8, none⟩ = some (.int .u8 128)) (hhi : w.cell? ⟨1, 9, none⟩ = some (.int .u8 143)) :
    Calls Tryd.prog 9 #[.slice (some ⟨b, off, none⟩) L cap] w fun e w' => ∃ r, e = .returned (.bool r) ∧ Below w.heap.size w w' := by
  go_enter Tryd.func9, Tryd.ntmps9
  go_wp2_with fail
  go_loopw [0] (fun v wr => v = .slice (some ⟨b, off, none⟩) L L ∧ w = wr) (fun _ _ => 0)
  case atStart => exact ⟨rfl, rfl⟩
  case round =>
    obtain ⟨rfl, rfl⟩ := hrel
    have hS' : decide ((L : Int) < 4) = true := decide_eq_true (by omega)
    have hSI : (L : Int) < 4 := by omega
    go_wp2_with fail
    go_quiet (fail)
    go_wp2
    go_ret
    exact ⟨_, rfl, below_drewN ((Below.refl _ _).alloc (Nat.le_refl _) _) _⟩
end Go.Proofs.YtaddjinjfdignabDoor
