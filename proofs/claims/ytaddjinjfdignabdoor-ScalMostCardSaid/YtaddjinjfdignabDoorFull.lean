/-
  utf8.FullRune returns a bool, and turns nothing that was there; utf8.Valid of a beginning that is no whole sign, and of U+FFFD's three bytes.
-/
import Derived.Test.YtaddjinjfdignabDoorLists
namespace Go.Proofs.YtaddjinjfdignabDoor
open Go.RowKit
set_option linter.unusedVariables false

set_option maxRecDepth 100000 in
set_option maxHeartbeats 2000000 in
theorem full240 (m : Nat) (y : Nat → Nat) (b off cap : Nat) (w : World) (hz : 2 ≤ w.heap.size) (hm : 0 < m) (hb : b < w.heap.size) (hy : ∀ j, y j < 256) (hc : ∀ j, j < m → w.cell? ⟨b, off + j, none⟩ = some (.int .u8 (y j : Nat))) (hF : w.cell? ⟨0, y 0, none⟩ = some (.int .u8 240)) :
    Calls Tryd.prog 8 #[.slice (some ⟨b, off, none⟩) m cap] w fun e w' => ∃ r, e = .returned (.bool r) ∧ Below w.heap.size w w' := by
  have hm0 : ((m : Int) == 0) = false := beq_eq_false_iff_ne.2 (by omega)
  have hc0 : w.cell? ⟨b, off, none⟩ = some (.int .u8 (y 0 : Nat)) := hc 0 hm
  have hcc := hy 0
  have hcH : Hid (∀ j, j < m → w.cell? ⟨b, off + j, none⟩ = some (.int .u8 (y j : Nat))) := hc
  clear hc hy
  go_enter Tryd.func8, Tryd.ntmps8
  go_wp2
  go_ret
  exact ⟨true, rfl, Below.refl _ _⟩
set_option maxRecDepth 100000 in
set_option maxHeartbeats 2000000 in
theorem full241 (m : Nat) (y : Nat → Nat) (b off cap : Nat) (w : World) (hz : 2 ≤ w.heap.size) (hm : 0 < m) (hb : b < w.heap.size) (hy : ∀ j, y j < 256) (hc : ∀ j, j < m → w.cell? ⟨b, off + j, none⟩ = some (.int .u8 (y j : Nat))) (hF : w.cell? ⟨0, y 0, none⟩ = some (.int .u8 241)) :
    Calls Tryd.prog 8 #[.slice (some ⟨b, off, none⟩) m cap] w fun e w' => ∃ r, e = .returned (.bool r) ∧ Below w.heap.size w w' := by
  have hm0 : ((m : Int) == 0) = false := beq_eq_false_iff_ne.2 (by omega)
  have hc0 : w.cell? ⟨b, off, none⟩ = some (.int .u8 (y 0 : Nat)) := hc 0 hm
  have hcc := hy 0
  have hcH : Hid (∀ j, j < m → w.cell? ⟨b, off + j, none⟩ = some (.int .u8 (y j : Nat))) := hc
  clear hc hy
  go_enter Tryd.func8, Tryd.ntmps8
  go_wp2
  go_ret
  exact ⟨true, rfl, Below.refl _ _⟩
set_option maxRecDepth 100000 in
set_option maxHeartbeats 2000000 in
theorem full2 (m : Nat) (y : Nat → Nat) (b off cap : Nat) (w : World) (hz : 2 ≤ w.heap.size) (hm : 0 < m) (hb : b < w.heap.size) (hy : ∀ j, y j < 256) (hc : ∀ j, j < m → w.cell? ⟨b, off + j, none⟩ = some (.int .u8 (y j : Nat))) (hF : w.cell? ⟨0, y 0, none⟩ = some (.int .u8 2)) (hlo : w.cell? ⟨1, 0, none⟩ = some (.int .u8 128)) (hhi : w.cell? ⟨1, 1, none⟩ = some (.int .u8 191)) :
    Calls Tryd.prog 8 #[.slice (some ⟨b, off, none⟩) m cap] w fun e w' => ∃ r, e = .returned (.bool r) ∧ Below w.heap.size w w' := by
  have hm0 : ((m : Int) == 0) = false := beq_eq_false_iff_ne.2 (by omega)
  have hc0 : w.cell? ⟨b, off, none⟩ = some (.int .u8 (y 0 : Nat)) := hc 0 hm
  have hcc := hy 0
  have hcH : Hid (∀ j, j < m → w.cell? ⟨b, off + j, none⟩ = some (.int .u8 (y j : Nat))) := hc
  clear hc hy
  by_cases hS : (2 : Int) ≤ (m : Int)
  · go_enter Tryd.func8, Tryd.ntmps8
    go_wp2
    go_ret
    exact ⟨true, rfl, Below.refl _ _⟩
  · have hS' : decide ((2 : Int) ≤ (m : Int)) = false := decide_eq_false hS
    by_cases h1 : (1 : Int) < (m : Int)
    · exfalso; omega
    · have h1' : decide ((1 : Int) < (m : Int)) = false := decide_eq_false h1
      have h4 : decide ((2 : Int) < (m : Int)) = false := decide_eq_false (by omega)
      go_enter Tryd.func8, Tryd.ntmps8
      go_wp2_with fail
      go_quiet (fail)
      go_wp2
      all_goals go_ret
      all_goals first | exact ⟨_, rfl, below_drewN ((Below.refl _ _).alloc (Nat.le_refl _) _) _⟩ | exact ⟨Or.inl rfl, below_drewN ((Below.refl _ _).alloc (Nat.le_refl _) _) _⟩ | exact ⟨Or.inr rfl, below_drewN ((Below.refl _ _).alloc (Nat.le_refl _) _) _⟩
set_option maxRecDepth 100000 in
set_option maxHeartbeats 2000000 in
theorem full19 (m : Nat) (y : Nat → Nat) (b off cap : Nat) (w : World) (hz : 2 ≤ w.heap.size) (hm : 0 < m) (hb : b < w.heap.size) (hy : ∀ j, y j < 256) (hc : ∀ j, j < m → w.cell? ⟨b, off + j, none⟩ = some (.int .u8 (y j : Nat))) (hF : w.cell? ⟨0, y 0, none⟩ = some (.int .u8 19)) (hlo : w.cell? ⟨1, 2, none⟩ = some (.int .u8 160)) (hhi : w.cell? ⟨1, 3, none⟩ = some (.int .u8 191)) :
    Calls Tryd.prog 8 #[.slice (some ⟨b, off, none⟩) m cap] w fun e w' => ∃ r, e = .returned (.bool r) ∧ Below w.heap.size w w' := by
  have hm0 : ((m : Int) == 0) = false := beq_eq_false_iff_ne.2 (by omega)
  have hc0 : w.cell? ⟨b, off, none⟩ = some (.int .u8 (y 0 : Nat)) := hc 0 hm
  have hcc := hy 0
  have hcH : Hid (∀ j, j < m → w.cell? ⟨b, off + j, none⟩ = some (.int .u8 (y j : Nat))) := hc
  clear hc hy
  by_cases hS : (3 : Int) ≤ (m : Int)
  · go_enter Tryd.func8, Tryd.ntmps8
    go_wp2
    go_ret
    exact ⟨true, rfl, Below.refl _ _⟩
  · have hS' : decide ((3 : Int) ≤ (m : Int)) = false := decide_eq_false hS
    by_cases h1 : (1 : Int) < (m : Int)
    · have hc1 : w.cell? ⟨b, off + 1, none⟩ = some (.int .u8 (y 1 : Nat)) := hcH.out 1 (by omega)
      by_cases h2 : ((y 1 : Nat) : Int) < 160
      · have h2' : decide (((y 1 : Nat) : Int) < 160) = true := decide_eq_true h2
        go_enter Tryd.func8, Tryd.ntmps8
        go_wp2_with fail
        go_quiet (fail)
        go_wp2
        all_goals go_ret
        all_goals first | exact ⟨_, rfl, below_drewN ((Below.refl _ _).alloc (Nat.le_refl _) _) _⟩ | exact ⟨Or.inl rfl, below_drewN ((Below.refl _ _).alloc (Nat.le_refl _) _) _⟩ | exact ⟨Or.inr rfl, below_drewN ((Below.refl _ _).alloc (Nat.le_refl _) _) _⟩
      · have h2' : decide (((y 1 : Nat) : Int) < 160) = false := decide_eq_false h2
        by_cases h3 : (191 : Int) < ((y 1 : Nat) : Int)
        · have h3' : decide ((191 : Int) < ((y 1 : Nat) : Int)) = true := decide_eq_true h3
          go_enter Tryd.func8, Tryd.ntmps8
          go_wp2_with fail
          go_quiet (fail)
          go_wp2
          all_goals go_ret
          all_goals first | exact ⟨_, rfl, below_drewN ((Below.refl _ _).alloc (Nat.le_refl _) _) _⟩ | exact ⟨Or.inl rfl, below_drewN ((Below.refl _ _).alloc (Nat.le_refl _) _) _⟩ | exact ⟨Or.inr rfl, below_drewN ((Below.refl _ _).alloc (Nat.le_refl _) _) _⟩
        · have h3' : decide ((191 : Int) < ((y 1 : Nat) : Int)) = false := decide_eq_false h3
          have h4 : decide ((2 : Int) < (m : Int)) = false := decide_eq_false (by omega)
          go_enter Tryd.func8, Tryd.ntmps8
          go_wp2_with fail
          go_quiet (fail)
          go_wp2
          all_goals go_ret
          all_goals first | exact ⟨_, rfl, below_drewN ((Below.refl _ _).alloc (Nat.le_refl _) _) _⟩ | exact ⟨Or.inl rfl, below_drewN ((Below.refl _ _).alloc (Nat.le_refl _) _) _⟩ | exact ⟨Or.inr rfl, below_drewN ((Below.refl _ _).alloc (Nat.le_refl _) _) _⟩
    · have h1' : decide ((1 : Int) < (m : Int)) = false := decide_eq_false h1
      have h4 : decide ((2 : Int) < (m : Int)) = false := decide_eq_false (by omega)
      go_enter Tryd.func8, Tryd.ntmps8
      go_wp2_with fail
      go_quiet (fail)
      go_wp2
      all_goals go_ret
      all_goals first | exact ⟨_, rfl, below_drewN ((Below.refl _ _).alloc (Nat.le_refl _) _) _⟩ | exact ⟨Or.inl rfl, below_drewN ((Below.refl _ _).alloc (Nat.le_refl _) _) _⟩ | exact ⟨Or.inr rfl, below_drewN ((Below.refl _ _).alloc (Nat.le_refl _) _) _⟩
set_option maxRecDepth 100000 in
set_option maxHeartbeats 2000000 in
theorem full3 (m : Nat) (y : Nat → Nat) (b off cap : Nat) (w : World) (hz : 2 ≤ w.heap.size) (hm : 0 < m) (hb : b < w.heap.size) (hy : ∀ j, y j < 256) (hc : ∀ j, j < m → w.cell? ⟨b, off + j, none⟩ = some (.int .u8 (y j : Nat))) (hF : w.cell? ⟨0, y 0, none⟩ = some (.int .u8 3)) (hlo : w.cell? ⟨1, 0, none⟩ = some (.int .u8 128)) (hhi : w.cell? ⟨1, 1, none⟩ = some (.int .u8 191)) :
    Calls Tryd.prog 8 #[.slice (some ⟨b, off, none⟩) m cap] w fun e w' => ∃ r, e = .returned (.bool r) ∧ Below w.heap.size w w' := by
  have hm0 : ((m : Int) == 0) = false := beq_eq_false_iff_ne.2 (by omega)
  have hc0 : w.cell? ⟨b, off, none⟩ = some (.int .u8 (y 0 : Nat)) := hc 0 hm
  have hcc := hy 0
  have hcH : Hid (∀ j, j < m → w.cell? ⟨b, off + j, none⟩ = some (.int .u8 (y j : Nat))) := hc
  clear hc hy
  by_cases hS : (3 : Int) ≤ (m : Int)
  · go_enter Tryd.func8, Tryd.ntmps8
    go_wp2
    go_ret
    exact ⟨true, rfl, Below.refl _ _⟩
  · have hS' : decide ((3 : Int) ≤ (m : Int)) = false := decide_eq_false hS
    by_cases h1 : (1 : Int) < (m : Int)
    · have hc1 : w.cell? ⟨b, off + 1, none⟩ = some (.int .u8 (y 1 : Nat)) := hcH.out 1 (by omega)
      by_cases h2 : ((y 1 : Nat) : Int) < 128
      · have h2' : decide (((y 1 : Nat) : Int) < 128) = true := decide_eq_true h2
        go_enter Tryd.func8, Tryd.ntmps8
        go_wp2_with fail
        go_quiet (fail)
        go_wp2
        all_goals go_ret
        all_goals first | exact ⟨_, rfl, below_drewN ((Below.refl _ _).alloc (Nat.le_refl _) _) _⟩ | exact ⟨Or.inl rfl, below_drewN ((Below.refl _ _).alloc (Nat.le_refl _) _) _⟩ | exact ⟨Or.inr rfl, below_drewN ((Below.refl _ _).alloc (Nat.le_refl _) _) _⟩
      · have h2' : decide (((y 1 : Nat) : Int) < 128) = false := decide_eq_false h2
        by_cases h3 : (191 : Int) < ((y 1 : Nat) : Int)
        · have h3' : decide ((191 : Int) < ((y 1 : Nat) : Int)) = true := decide_eq_true h3
          go_enter Tryd.func8, Tryd.ntmps8
          go_wp2_with fail
          go_quiet (fail)
          go_wp2
          all_goals go_ret
          all_goals first | exact ⟨_, rfl, below_drewN ((Below.refl _ _).alloc (Nat.le_refl _) _) _⟩ | exact ⟨Or.inl rfl, below_drewN ((Below.refl _ _).alloc (Nat.le_refl _) _) _⟩ | exact ⟨Or.inr rfl, below_drewN ((Below.refl _ _).alloc (Nat.le_refl _) _) _⟩
        · have h3' : decide ((191 : Int) < ((y 1 : Nat) : Int)) = false := decide_eq_false h3
          have h4 : decide ((2 : Int) < (m : Int)) = false := decide_eq_false (by omega)
          go_enter Tryd.func8, Tryd.ntmps8
          go_wp2_with fail
          go_quiet (fail)
          go_wp2
          all_goals go_ret
          all_goals first | exact ⟨_, rfl, below_drewN ((Below.refl _ _).alloc (Nat.le_refl _) _) _⟩ | exact ⟨Or.inl rfl, below_drewN ((Below.refl _ _).alloc (Nat.le_refl _) _) _⟩ | exact ⟨Or.inr rfl, below_drewN ((Below.refl _ _).alloc (Nat.le_refl _) _) _⟩
    · have h1' : decide ((1 : Int) < (m : Int)) = false := decide_eq_false h1
      have h4 : decide ((2 : Int) < (m : Int)) = false := decide_eq_false (by omega)
      go_enter Tryd.func8, Tryd.ntmps8
      go_wp2_with fail
      go_quiet (fail)
      go_wp2
      all_goals go_ret
      all_goals first | exact ⟨_, rfl, below_drewN ((Below.refl _ _).alloc (Nat.le_refl _) _) _⟩ | exact ⟨Or.inl rfl, below_drewN ((Below.refl _ _).alloc (Nat.le_refl _) _) _⟩ | exact ⟨Or.inr rfl, below_drewN ((Below.refl _ _).alloc (Nat.le_refl _) _) _⟩
set_option maxRecDepth 100000 in
set_option maxHeartbeats 2000000 in
theorem full35 (m : Nat) (y : Nat → Nat) (b off cap : Nat) (w : World) (hz : 2 ≤ w.heap.size) (hm : 0 < m) (hb : b < w.heap.size) (hy : ∀ j, y j < 256) (hc : ∀ j, j < m → w.cell? ⟨b, off + j, none⟩ = some (.int .u8 (y j : Nat))) (hF : w.cell? ⟨0, y 0, none⟩ = some (.int .u8 35)) (hlo : w.cell? ⟨1, 4, none⟩ = some (.int .u8 128)) (hhi : w.cell? ⟨1, 5, none⟩ = some (.int .u8 159)) :
    Calls Tryd.prog 8 #[.slice (some ⟨b, off, none⟩) m cap] w fun e w' => ∃ r, e = .returned (.bool r) ∧ Below w.heap.size w w' := by
  have hm0 : ((m : Int) == 0) = false := beq_eq_false_iff_ne.2 (by omega)
  have hc0 : w.cell? ⟨b, off, none⟩ = some (.int .u8 (y 0 : Nat)) := hc 0 hm
  have hcc := hy 0
  have hcH : Hid (∀ j, j < m → w.cell? ⟨b, off + j, none⟩ = some (.int .u8 (y j : Nat))) := hc
  clear hc hy
  by_cases hS : (3 : Int) ≤ (m : Int)
  · go_enter Tryd.func8, Tryd.ntmps8
    go_wp2
    go_ret
    exact ⟨true, rfl, Below.refl _ _⟩
  · have hS' : decide ((3 : Int) ≤ (m : Int)) = false := decide_eq_false hS
    by_cases h1 : (1 : Int) < (m : Int)
    · have hc1 : w.cell? ⟨b, off + 1, none⟩ = some (.int .u8 (y 1 : Nat)) := hcH.out 1 (by omega)
      by_cases h2 : ((y 1 : Nat) : Int) < 128
      · have h2' : decide (((y 1 : Nat) : Int) < 128) = true := decide_eq_true h2
        go_enter Tryd.func8, Tryd.ntmps8
        go_wp2_with fail
        go_quiet (fail)
        go_wp2
        all_goals go_ret
        all_goals first | exact ⟨_, rfl, below_drewN ((Below.refl _ _).alloc (Nat.le_refl _) _) _⟩ | exact ⟨Or.inl rfl, below_drewN ((Below.refl _ _).alloc (Nat.le_refl _) _) _⟩ | exact ⟨Or.inr rfl, below_drewN ((Below.refl _ _).alloc (Nat.le_refl _) _) _⟩
      · have h2' : decide (((y 1 : Nat) : Int) < 128) = false := decide_eq_false h2
        by_cases h3 : (159 : Int) < ((y 1 : Nat) : Int)
        · have h3' : decide ((159 : Int) < ((y 1 : Nat) : Int)) = true := decide_eq_true h3
          go_enter Tryd.func8, Tryd.ntmps8
          go_wp2_with fail
          go_quiet (fail)
          go_wp2
          all_goals go_ret
          all_goals first | exact ⟨_, rfl, below_drewN ((Below.refl _ _).alloc (Nat.le_refl _) _) _⟩ | exact ⟨Or.inl rfl, below_drewN ((Below.refl _ _).alloc (Nat.le_refl _) _) _⟩ | exact ⟨Or.inr rfl, below_drewN ((Below.refl _ _).alloc (Nat.le_refl _) _) _⟩
        · have h3' : decide ((159 : Int) < ((y 1 : Nat) : Int)) = false := decide_eq_false h3
          have h4 : decide ((2 : Int) < (m : Int)) = false := decide_eq_false (by omega)
          go_enter Tryd.func8, Tryd.ntmps8
          go_wp2_with fail
          go_quiet (fail)
          go_wp2
          all_goals go_ret
          all_goals first | exact ⟨_, rfl, below_drewN ((Below.refl _ _).alloc (Nat.le_refl _) _) _⟩ | exact ⟨Or.inl rfl, below_drewN ((Below.refl _ _).alloc (Nat.le_refl _) _) _⟩ | exact ⟨Or.inr rfl, below_drewN ((Below.refl _ _).alloc (Nat.le_refl _) _) _⟩
    · have h1' : decide ((1 : Int) < (m : Int)) = false := decide_eq_false h1
      have h4 : decide ((2 : Int) < (m : Int)) = false := decide_eq_false (by omega)
      go_enter Tryd.func8, Tryd.ntmps8
      go_wp2_with fail
      go_quiet (fail)
      go_wp2
      all_goals go_ret
      all_goals first | exact ⟨_, rfl, below_drewN ((Below.refl _ _).alloc (Nat.le_refl _) _) _⟩ | exact ⟨Or.inl rfl, below_drewN ((Below.refl _ _).alloc (Nat.le_refl _) _) _⟩ | exact ⟨Or.inr rfl, below_drewN ((Below.refl _ _).alloc (Nat.le_refl _) _) _⟩
set_option maxRecDepth 100000 in
set_option maxHeartbeats 2000000 in
theorem full52 (m : Nat) (y : Nat → Nat) (b off cap : Nat) (w : World) (hz : 2 ≤ w.heap.size) (hm : 0 < m) (hb : b < w.heap.size) (hy : ∀ j, y j < 256) (hc : ∀ j, j < m → w.cell? ⟨b, off + j, none⟩ = some (.int .u8 (y j : Nat))) (hF : w.cell? ⟨0, y 0, none⟩ = some (.int .u8 52)) (hlo : w.cell? ⟨1, 6, none⟩ = some (.int .u8 144)) (hhi : w.cell? ⟨1, 7, none⟩ = some (.int .u8 191)) :
    Calls Tryd.prog 8 #[.slice (some ⟨b, off, none⟩) m cap] w fun e w' => ∃ r, e = .returned (.bool r) ∧ Below w.heap.size w w' := by
  have hm0 : ((m : Int) == 0) = false := beq_eq_false_iff_ne.2 (by omega)
  have hc0 : w.cell? ⟨b, off, none⟩ = some (.int .u8 (y 0 : Nat)) := hc 0 hm
  have hcc := hy 0
  have hcH : Hid (∀ j, j < m → w.cell? ⟨b, off + j, none⟩ = some (.int .u8 (y j : Nat))) := hc
  clear hc hy
  by_cases hS : (4 : Int) ≤ (m : Int)
  · go_enter Tryd.func8, Tryd.ntmps8
    go_wp2
    go_ret
    exact ⟨true, rfl, Below.refl _ _⟩
  · have hS' : decide ((4 : Int) ≤ (m : Int)) = false := decide_eq_false hS
    by_cases h1 : (1 : Int) < (m : Int)
    · have hc1 : w.cell? ⟨b, off + 1, none⟩ = some (.int .u8 (y 1 : Nat)) := hcH.out 1 (by omega)
      by_cases h2 : ((y 1 : Nat) : Int) < 144
      · have h2' : decide (((y 1 : Nat) : Int) < 144) = true := decide_eq_true h2
        go_enter Tryd.func8, Tryd.ntmps8
        go_wp2_with fail
        go_quiet (fail)
        go_wp2
        all_goals go_ret
        all_goals first | exact ⟨_, rfl, below_drewN ((Below.refl _ _).alloc (Nat.le_refl _) _) _⟩ | exact ⟨Or.inl rfl, below_drewN ((Below.refl _ _).alloc (Nat.le_refl _) _) _⟩ | exact ⟨Or.inr rfl, below_drewN ((Below.refl _ _).alloc (Nat.le_refl _) _) _⟩
      · have h2' : decide (((y 1 : Nat) : Int) < 144) = false := decide_eq_false h2
        by_cases h3 : (191 : Int) < ((y 1 : Nat) : Int)
        · have h3' : decide ((191 : Int) < ((y 1 : Nat) : Int)) = true := decide_eq_true h3
          go_enter Tryd.func8, Tryd.ntmps8
          go_wp2_with fail
          go_quiet (fail)
          go_wp2
          all_goals go_ret
          all_goals first | exact ⟨_, rfl, below_drewN ((Below.refl _ _).alloc (Nat.le_refl _) _) _⟩ | exact ⟨Or.inl rfl, below_drewN ((Below.refl _ _).alloc (Nat.le_refl _) _) _⟩ | exact ⟨Or.inr rfl, below_drewN ((Below.refl _ _).alloc (Nat.le_refl _) _) _⟩
        · have h3' : decide ((191 : Int) < ((y 1 : Nat) : Int)) = false := decide_eq_false h3
          by_cases h4 : (2 : Int) < (m : Int)
          · have hc2 : w.cell? ⟨b, off + 2, none⟩ = some (.int .u8 (y 2 : Nat)) := hcH.out 2 (by omega)
            go_enter Tryd.func8, Tryd.ntmps8
            go_wp2_with fail
            go_quiet (fail)
            go_wp2
            all_goals go_ret
            all_goals first | exact ⟨_, rfl, below_drewN ((Below.refl _ _).alloc (Nat.le_refl _) _) _⟩ | exact ⟨Or.inl rfl, below_drewN ((Below.refl _ _).alloc (Nat.le_refl _) _) _⟩ | exact ⟨Or.inr rfl, below_drewN ((Below.refl _ _).alloc (Nat.le_refl _) _) _⟩
          · have h4' : decide ((2 : Int) < (m : Int)) = false := decide_eq_false h4
            go_enter Tryd.func8, Tryd.ntmps8
            go_wp2_with fail
            go_quiet (fail)
            go_wp2
            all_goals go_ret
            all_goals first | exact ⟨_, rfl, below_drewN ((Below.refl _ _).alloc (Nat.le_refl _) _) _⟩ | exact ⟨Or.inl rfl, below_drewN ((Below.refl _ _).alloc (Nat.le_refl _) _) _⟩ | exact ⟨Or.inr rfl, below_drewN ((Below.refl _ _).alloc (Nat.le_refl _) _) _⟩
    · have h1' : decide ((1 : Int) < (m : Int)) = false := decide_eq_false h1
      have h4 : decide ((2 : Int) < (m : Int)) = false := decide_eq_false (by omega)
      go_enter Tryd.func8, Tryd.ntmps8
      go_wp2_with fail
      go_quiet (fail)
      go_wp2
      all_goals go_ret
      all_goals first | exact ⟨_, rfl, below_drewN ((Below.refl _ _).alloc (Nat.le_refl _) _) _⟩ | exact ⟨Or.inl rfl, below_drewN ((Below.refl _ _).alloc (Nat.le_refl _) _) _⟩ | exact ⟨Or.inr rfl, below_drewN ((Below.refl _ _).alloc (Nat.le_refl _) _) _⟩
set_option maxRecDepth 100000 in
set_option maxHeartbeats 2000000 in
theorem full4 (m : Nat) (y : Nat → Nat) (b off cap : Nat) (w : World) (hz : 2 ≤ w.heap.size) (hm : 0 < m) (hb : b < w.heap.size) (hy : ∀ j, y j < 256) (hc : ∀ j, j < m → w.cell? ⟨b, off + j, none⟩ = some (.int .u8 (y j : Nat))) (hF : w.cell? ⟨0, y 0, none⟩ = some (.int .u8 4)) (hlo : w.cell? ⟨1, 0, none⟩ = some (.int .u8 128)) (hhi : w.cell? ⟨1, 1, none⟩ = some (.int .u8 191)) :
    Calls Tryd.prog 8 #[.slice (some ⟨b, off, none⟩) m cap] w fun e w' => ∃ r, e = .returned (.bool r) ∧ Below w.heap.size w w' := by
  have hm0 : ((m : Int) == 0) = false := beq_eq_false_iff_ne.2 (by omega)
  have hc0 : w.cell? ⟨b, off, none⟩ = some (.int .u8 (y 0 : Nat)) := hc 0 hm
  have hcc := hy 0
  have hcH : Hid (∀ j, j < m → w.cell? ⟨b, off + j, none⟩ = some (.int .u8 (y j : Nat))) := hc
  clear hc hy
  by_cases hS : (4 : Int) ≤ (m : Int)
  · go_enter Tryd.func8, Tryd.ntmps8
    go_wp2
    go_ret
    exact ⟨true, rfl, Below.refl _ _⟩
  · have hS' : decide ((4 : Int) ≤ (m : Int)) = false := decide_eq_false hS
    by_cases h1 : (1 : Int) < (m : Int)
    · have hc1 : w.cell? ⟨b, off + 1, none⟩ = some (.int .u8 (y 1 : Nat)) := hcH.out 1 (by omega)
      by_cases h2 : ((y 1 : Nat) : Int) < 128
      · have h2' : decide (((y 1 : Nat) : Int) < 128) = true := decide_eq_true h2
        go_enter Tryd.func8, Tryd.ntmps8
        go_wp2_with fail
        go_quiet (fail)
        go_wp2
        all_goals go_ret
        all_goals first | exact ⟨_, rfl, below_drewN ((Below.refl _ _).alloc (Nat.le_refl _) _) _⟩ | exact ⟨Or.inl rfl, below_drewN ((Below.refl _ _).alloc (Nat.le_refl _) _) _⟩ | exact ⟨Or.inr rfl, below_drewN ((Below.refl _ _).alloc (Nat.le_refl _) _) _⟩
      · have h2' : decide (((y 1 : Nat) : Int) < 128) = false := decide_eq_false h2
        by_cases h3 : (191 : Int) < ((y 1 : Nat) : Int)
        · have h3' : decide ((191 : Int) < ((y 1 : Nat) : Int)) = true := decide_eq_true h3
          go_enter Tryd.func8, Tryd.ntmps8
          go_wp2_with fail
          go_quiet (fail)
          go_wp2
          all_goals go_ret
          all_goals first | exact ⟨_, rfl, below_drewN ((Below.refl _ _).alloc (Nat.le_refl _) _) _⟩ | exact ⟨Or.inl rfl, below_drewN ((Below.refl _ _).alloc (Nat.le_refl _) _) _⟩ | exact ⟨Or.inr rfl, below_drewN ((Below.refl _ _).alloc (Nat.le_refl _) _) _⟩
        · have h3' : decide ((191 : Int) < ((y 1 : Nat) : Int)) = false := decide_eq_false h3
          by_cases h4 : (2 : Int) < (m : Int)
          · have hc2 : w.cell? ⟨b, off + 2, none⟩ = some (.int .u8 (y 2 : Nat)) := hcH.out 2 (by omega)
            go_enter Tryd.func8, Tryd.ntmps8
            go_wp2_with fail
            go_quiet (fail)
            go_wp2
            all_goals go_ret
            all_goals first | exact ⟨_, rfl, below_drewN ((Below.refl _ _).alloc (Nat.le_refl _) _) _⟩ | exact ⟨Or.inl rfl, below_drewN ((Below.refl _ _).alloc (Nat.le_refl _) _) _⟩ | exact ⟨Or.inr rfl, below_drewN ((Below.refl _ _).alloc (Nat.le_refl _) _) _⟩
          · have h4' : decide ((2 : Int) < (m : Int)) = false := decide_eq_false h4
            go_enter Tryd.func8, Tryd.ntmps8
            go_wp2_with fail
            go_quiet (fail)
            go_wp2
            all_goals go_ret
            all_goals first | exact ⟨_, rfl, below_drewN ((Below.refl _ _).alloc (Nat.le_refl _) _) _⟩ | exact ⟨Or.inl rfl, below_drewN ((Below.refl _ _).alloc (Nat.le_refl _) _) _⟩ | exact ⟨Or.inr rfl, below_drewN ((Below.refl _ _).alloc (Nat.le_refl _) _) _⟩
    · have h1' : decide ((1 : Int) < (m : Int)) = false := decide_eq_false h1
      have h4 : decide ((2 : Int) < (m : Int)) = false := decide_eq_false (by omega)
      go_enter Tryd.func8, Tryd.ntmps8
      go_wp2_with fail
      go_quiet (fail)
      go_wp2
      all_goals go_ret
      all_goals first | exact ⟨_, rfl, below_drewN ((Below.refl _ _).alloc (Nat.le_refl _) _) _⟩ | exact ⟨Or.inl rfl, below_drewN ((Below.refl _ _).alloc (Nat.le_refl _) _) _⟩ | exact ⟨Or.inr rfl, below_drewN ((Below.refl _ _).alloc (Nat.le_refl _) _) _⟩
set_option maxRecDepth 100000 in
set_option maxHeartbeats 2000000 in
theorem full68 (m : Nat) (y : Nat → Nat) (b off cap : Nat) (w : World) (hz : 2 ≤ w.heap.size) (hm : 0 < m) (hb : b < w.heap.size) (hy : ∀ j, y j < 256) (hc : ∀ j, j < m → w.cell? ⟨b, off + j, none⟩ = some (.int .u8 (y j : Nat))) (hF : w.cell? ⟨0, y 0, none⟩ = some (.int .u8 68)) (hlo : w.cell? ⟨1, 8, none⟩ = some (.int .u8 128)) (hhi : w.cell? ⟨1, 9, none⟩ = some (.int .u8 143)) :
    Calls Tryd.prog 8 #[.slice (some ⟨b, off, none⟩) m cap] w fun e w' => ∃ r, e = .returned (.bool r) ∧ Below w.heap.size w w' := by
  have hm0 : ((m : Int) == 0) = false := beq_eq_false_iff_ne.2 (by omega)
  have hc0 : w.cell? ⟨b, off, none⟩ = some (.int .u8 (y 0 : Nat)) := hc 0 hm
  have hcc := hy 0
  have hcH : Hid (∀ j, j < m → w.cell? ⟨b, off + j, none⟩ = some (.int .u8 (y j : Nat))) := hc
  clear hc hy
  by_cases hS : (4 : Int) ≤ (m : Int)
  · go_enter Tryd.func8, Tryd.ntmps8
    go_wp2
    go_ret
    exact ⟨true, rfl, Below.refl _ _⟩
  · have hS' : decide ((4 : Int) ≤ (m : Int)) = false := decide_eq_false hS
    by_cases h1 : (1 : Int) < (m : Int)
    · have hc1 : w.cell? ⟨b, off + 1, none⟩ = some (.int .u8 (y 1 : Nat)) := hcH.out 1 (by omega)
      by_cases h2 : ((y 1 : Nat) : Int) < 128
      · have h2' : decide (((y 1 : Nat) : Int) < 128) = true := decide_eq_true h2
        go_enter Tryd.func8, Tryd.ntmps8
        go_wp2_with fail
        go_quiet (fail)
        go_wp2
        all_goals go_ret
        all_goals first | exact ⟨_, rfl, below_drewN ((Below.refl _ _).alloc (Nat.le_refl _) _) _⟩ | exact ⟨Or.inl rfl, below_drewN ((Below.refl _ _).alloc (Nat.le_refl _) _) _⟩ | exact ⟨Or.inr rfl, below_drewN ((Below.refl _ _).alloc (Nat.le_refl _) _) _⟩
      · have h2' : decide (((y 1 : Nat) : Int) < 128) = false := decide_eq_false h2
        by_cases h3 : (143 : Int) < ((y 1 : Nat) : Int)
        · have h3' : decide ((143 : Int) < ((y 1 : Nat) : Int)) = true := decide_eq_true h3
          go_enter Tryd.func8, Tryd.ntmps8
          go_wp2_with fail
          go_quiet (fail)
          go_wp2
          all_goals go_ret
          all_goals first | exact ⟨_, rfl, below_drewN ((Below.refl _ _).alloc (Nat.le_refl _) _) _⟩ | exact ⟨Or.inl rfl, below_drewN ((Below.refl _ _).alloc (Nat.le_refl _) _) _⟩ | exact ⟨Or.inr rfl, below_drewN ((Below.refl _ _).alloc (Nat.le_refl _) _) _⟩
        · have h3' : decide ((143 : Int) < ((y 1 : Nat) : Int)) = false := decide_eq_false h3
          by_cases h4 : (2 : Int) < (m : Int)
          · have hc2 : w.cell? ⟨b, off + 2, none⟩ = some (.int .u8 (y 2 : Nat)) := hcH.out 2 (by omega)
            go_enter Tryd.func8, Tryd.ntmps8
            go_wp2_with fail
            go_quiet (fail)
            go_wp2
            all_goals go_ret
            all_goals first | exact ⟨_, rfl, below_drewN ((Below.refl _ _).alloc (Nat.le_refl _) _) _⟩ | exact ⟨Or.inl rfl, below_drewN ((Below.refl _ _).alloc (Nat.le_refl _) _) _⟩ | exact ⟨Or.inr rfl, below_drewN ((Below.refl _ _).alloc (Nat.le_refl _) _) _⟩
          · have h4' : decide ((2 : Int) < (m : Int)) = false := decide_eq_false h4
            go_enter Tryd.func8, Tryd.ntmps8
            go_wp2_with fail
            go_quiet (fail)
            go_wp2
            all_goals go_ret
            all_goals first | exact ⟨_, rfl, below_drewN ((Below.refl _ _).alloc (Nat.le_refl _) _) _⟩ | exact ⟨Or.inl rfl, below_drewN ((Below.refl _ _).alloc (Nat.le_refl _) _) _⟩ | exact ⟨Or.inr rfl, below_drewN ((Below.refl _ _).alloc (Nat.le_refl _) _) _⟩
    · have h1' : decide ((1 : Int) < (m : Int)) = false := decide_eq_false h1
      have h4 : decide ((2 : Int) < (m : Int)) = false := decide_eq_false (by omega)
      go_enter Tryd.func8, Tryd.ntmps8
      go_wp2_with fail
      go_quiet (fail)
      go_wp2
      all_goals go_ret
      all_goals first | exact ⟨_, rfl, below_drewN ((Below.refl _ _).alloc (Nat.le_refl _) _) _⟩ | exact ⟨Or.inl rfl, below_drewN ((Below.refl _ _).alloc (Nat.le_refl _) _) _⟩ | exact ⟨Or.inr rfl, below_drewN ((Below.refl _ _).alloc (Nat.le_refl _) _) _⟩
theorem full_any (m : Nat) (y : Nat → Nat) (b off cap : Nat) (w : World) (hz : 2 ≤ w.heap.size) (hm : 0 < m) (hb : b < w.heap.size) (hy : ∀ j, y j < 256) (hc : ∀ j, j < m → w.cell? ⟨b, off + j, none⟩ = some (.int .u8 (y j : Nat))) (hT : Lib.Utf8Tabs 0 1 w) :
    Calls Tryd.prog 8 #[.slice (some ⟨b, off, none⟩) m cap] w fun e w' => ∃ r, e = .returned (.bool r) ∧ Below w.heap.size w w' := by
  have hF := hT.1 (y 0) (hy 0)
  rcases Lib.firstT_cases (y 0) with h | h | h | h | h | h | h | h | h
  all_goals rw [h] at hF
  · exact full240 m y b off cap w hz hm hb hy hc hF
  · exact full241 m y b off cap w hz hm hb hy hc hF
  · exact full2 m y b off cap w hz hm hb hy hc hF (hT.2 0 (by omega)).1 (hT.2 0 (by omega)).2
  · exact full19 m y b off cap w hz hm hb hy hc hF (hT.2 1 (by omega)).1 (hT.2 1 (by omega)).2
  · exact full3 m y b off cap w hz hm hb hy hc hF (hT.2 0 (by omega)).1 (hT.2 0 (by omega)).2
  · exact full35 m y b off cap w hz hm hb hy hc hF (hT.2 2 (by omega)).1 (hT.2 2 (by omega)).2
  · exact full52 m y b off cap w hz hm hb hy hc hF (hT.2 3 (by omega)).1 (hT.2 3 (by omega)).2
  · exact full4 m y b off cap w hz hm hb hy hc hF (hT.2 0 (by omega)).1 (hT.2 0 (by omega)).2
  · exact full68 m y b off cap w hz hm hb hy hc hF (hT.2 4 (by omega)).1 (hT.2 4 (by omega)).2
end Go.Proofs.YtaddjinjfdignabDoor
