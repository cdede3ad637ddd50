/-
  What the reference's SameSigns returns of two lists that hold the same signs: true; nothing in memory turns.
-/
import Derived.Test.YtaddjinjfdignabDoorAwake
import Derived.Deep.QuietTactic
import Derived.BigQuiet
namespace Go.Proofs.YtaddjinjfdignabDoor
open Go.RowKit

theorem sgCells_at : ∀ (l : List (Nat × Nat × Nat)) (k : Nat) (s : Nat × Nat × Nat), l[k]? = some s → (sgCells l)[k * 3]? = some (.int .i32 (s.1 : Nat)) ∧ (sgCells l)[k * 3 + 1]? = some (.int .i64 (s.2.1 : Nat)) ∧ (sgCells l)[k * 3 + 2]? = some (.int .i64 (s.2.2 : Nat)) := by
  intro l
  induction l with
  | nil => intro k s h; simp at h
  | cons x l ih =>
    intro k s h
    have e : sgCells (x :: l) = [.int .i32 (x.1 : Nat), .int .i64 (x.2.1 : Nat), .int .i64 (x.2.2 : Nat)] ++ sgCells l := rfl
    rw [e]
    cases k with
    | zero => simp at h; subst h; exact ⟨rfl, rfl, rfl⟩
    | succ k =>
      have := ih k s (by simpa using h)
      rw [show (k + 1) * 3 = k * 3 + 3 by omega]
      exact ⟨this.1, this.2.1, this.2.2⟩

set_option maxRecDepth 100000 in
set_option maxHeartbeats 1000000 in
theorem same_any (l : List (Nat × Nat × Nat)) (a1 a2 : Option Addr) (g1 g2 c1 c2 n : Nat) (w : World) (hl : l.length = n) (h1 : 0 < n → a1 = some ⟨g1, 0, none⟩) (h2 : 0 < n → a2 = some ⟨g2, 0, none⟩) (hn : n ≤ 1000000)
    (hc1 : ∀ j, j < n * 3 → w.cell? ⟨g1, j, none⟩ = (sgCells l)[j]?) (hc2 : ∀ j, j < n * 3 → w.cell? ⟨g2, j, none⟩ = (sgCells l)[j]?) :
    Calls Tryd.prog 7 #[.slice a1 n c1, .slice a2 n c2] w fun e w' => e = .returned (.bool true) ∧ Below w.heap.size w w' := by
  go_enter Tryd.func7, Tryd.ntmps7
  go_wp2
  go_loopw [5] (fun i wr => ∃ k : Nat, k ≤ n ∧ i = .int .i64 k ∧ Below w.heap.size w wr ∧ ∀ p, wr.cell? p = w.cell? p) (fun i _ => n - (intOf i).toNat)
  case atStart => exact ⟨0, by omega, rfl, Below.refl _ _, fun _ => rfl⟩
  case round =>
    obtain ⟨k, hk, rfl, hbel, hcw⟩ := hrel
    by_cases hlt : k < n
    · obtain rfl := h1 (by omega)
      obtain rfl := h2 (by omega)
      obtain ⟨s, hs⟩ : ∃ s, l[k]? = some s := ⟨l[k]'(by omega), List.getElem?_eq_getElem (by omega)⟩
      obtain ⟨R, A, L⟩ := s
      have q := sgCells_at l k _ hs
      have d0 : wr.cell? ⟨g1, k * 3, none⟩ = some (.int .i32 (R : Nat)) := (hcw _).trans ((hc1 _ (by omega)).trans q.1)
      have d1 : wr.cell? ⟨g1, k * 3 + 1, none⟩ = some (.int .i64 (A : Nat)) := (hcw _).trans ((hc1 _ (by omega)).trans q.2.1)
      have d2 : wr.cell? ⟨g1, k * 3 + 2, none⟩ = some (.int .i64 (L : Nat)) := (hcw _).trans ((hc1 _ (by omega)).trans q.2.2)
      have e0 : wr.cell? ⟨g2, k * 3, none⟩ = some (.int .i32 (R : Nat)) := (hcw _).trans ((hc2 _ (by omega)).trans q.1)
      have e1 : wr.cell? ⟨g2, k * 3 + 1, none⟩ = some (.int .i64 (A : Nat)) := (hcw _).trans ((hc2 _ (by omega)).trans q.2.1)
      have e2 : wr.cell? ⟨g2, k * 3 + 2, none⟩ = some (.int .i64 (L : Nat)) := (hcw _).trans ((hc2 _ (by omega)).trans q.2.2)
      have hltI : (k : Int) < (n : Int) := by omega
      have hcwH : Hid (∀ p, wr.cell? p = w.cell? p) := hcw
      have hBH : Hid (Below w.heap.size w wr) := hbel
      clear hcw hc1 hc2 q hs hbel
      go_wp2_with fail
      go_quiet (fail)
      clear d0 d1 d2 e0 e1 e2
      go_wp2
      go_roundw
      case rel => exact ⟨k + 1, by omega, by go_num, below_drewN hBH.out _, fun p => hcwH.out p⟩
      case measure => simp [intOf]; omega
    · have hBH : Hid (Below w.heap.size w wr) := hbel
      clear hcw hc1 hc2 hbel
      go_wp2
      go_ret
      exact ⟨rfl, hBH.out⟩
end Go.Proofs.YtaddjinjfdignabDoor
