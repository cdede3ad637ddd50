/-
  prop.Make of right ranges, in plain words.
-/
import Derived.Test.YtlcpfheocenjfaaCe3
import Derived.Test.YtlcpfheocenjfaaRight
namespace Go.Proofs.Ytlcpfheocenjfaa
open Go.RowKit Go.Maps
set_option linter.unusedVariables false
set_option linter.unusedSimpArgs false
theorem sees_nil (w : World) : Sees w [] none 0 0 0 := ⟨Nat.le_refl _, fun h => absurd h (Nat.lt_irrefl _), fun h => absurd h (Nat.lt_irrefl _), fun j x hj => by simp at hj, fun j x hj => by simp at hj, fun j x hj => by simp at hj⟩
theorem sees_row {w : World} {g : Nat} {L : List Rg} {cap : Nat} (h : w.heap[g]? = some (.cells (rgCells L).toArray 45 (0, 0))) (hc : L.length ≤ cap) : Sees w L (some ⟨g, 0, none⟩) g 0 cap := by
  refine ⟨hc, fun _ => rfl, fun _ => (Array.getElem?_eq_some_iff.1 h).1, fun j x hj => ?_, fun j x hj => ?_, fun j x hj => ?_⟩
  · rw [Nat.zero_add, cell_of_row _ _ _ _ _ _ h]; simpa using (rgCells_at L j x hj).1
  · rw [Nat.zero_add, cell_of_row _ _ _ _ _ _ h]; simpa using (rgCells_at L j x hj).2.1
  · rw [Nat.zero_add, cell_of_row _ _ _ _ _ _ h]; simpa using (rgCells_at L j x hj).2.2
/-- where the ranges are right the table is made. -/
theorem make_ok (L : List Rg) (most : Int) (a : Option Addr) (b off cap : Nat) (w : World) (hS : Sees w L a b off cap) (hn : L.length ≤ 1000000) (hok : Pr.ok most L = true) :
    Calls Try.prog 15 #[.slice a L.length cap, .int .i64 most] w fun e w' => ∃ T, e = .returned (.tuple #[.pointer (some ⟨T, 0, none⟩), .int .i64 0]) ∧ Tab w' w.heap.size T L ∧ Below w.heap.size w w' := by
  refine (make_any L most a b off cap w hS hn).mono ?_
  rintro e w' ⟨hb, ⟨h, _⟩ | ⟨_, T, he, hT⟩⟩
  · rw [hok] at h; cases h
  · exact ⟨T, he, hT, hb⟩
theorem make_no (L : List Rg) (most : Int) (a : Option Addr) (b off cap : Nat) (w : World) (hS : Sees w L a b off cap) (hn : L.length ≤ 1000000) (hok : Pr.ok most L = false) :
    Calls Try.prog 15 #[.slice a L.length cap, .int .i64 most] w fun e w' => e = .returned (.tuple #[.pointer none, .int .i64 10]) ∧ Below w.heap.size w w' := by
  refine (make_any L most a b off cap w hS hn).mono ?_
  rintro e w' ⟨hb, ⟨_, h⟩ | ⟨h, _⟩⟩
  · exact ⟨h, hb⟩
  · rw [hok] at h; cases h
theorem ok_from {most : Int} {L : List Rg} (h : Pr.ok most L = true) : Pr.okFrom most (-1) L = true := by unfold Pr.ok at h; rw [Bool.and_eq_true] at h; exact h.2
theorem ok_len {most : Int} {L : List Rg} (h : Pr.ok most L = true) : L.length ≤ 256 := by unfold Pr.ok at h; rw [Bool.and_eq_true, decide_eq_true_eq] at h; exact h.1
theorem only_below {w w' : World} (h : Below w.heap.size w w') : Only (fun _ => False) w w' := ⟨h.os, h.tape, h.output, h.size, fun g hg _ => h.block g hg⟩
theorem below_only {w w' : World} (h : Only (fun _ => False) w w') : Below w.heap.size w w' := h.below (Nat.le_refl _) (fun _ h => h.elim)
theorem Tab.keep {w w' : World} {base T : Nat} {L : List Rg} (h : Tab w base T L) (ho : Only (fun _ => False) w w') : Tab w' base T L := h.kept (below_only ho)
theorem Sees.keep {w w' : World} {L : List Rg} {a : Option Addr} {b off cap : Nat} (h : Sees w L a b off cap) (ho : Only (fun _ => False) w w') : Sees w' L a b off cap := h.kept (below_only ho)
def tbP (L : List Rg) (w : World) (e : Ending) (w' : World) : Prop := ∃ T, e = .returned (.tuple #[.pointer (some ⟨T, 0, none⟩), .int .i64 0]) ∧ Tab w' w.heap.size T L ∧ Only (fun _ => False) w w'
theorem table_any (L : List Rg) (most : Int) (a : Option Addr) (b off cap : Nat) (w : World) (hS : Sees w L a b off cap) (hn : L.length ≤ 256) (hok : Pr.okFrom most (-1) L = true) : Calls Try.prog 15 #[.slice a L.length cap, .int .i64 most] w (tbP L w) := by
  refine (make_ok L most a b off cap w hS (by omega) (by unfold Pr.ok; rw [hok, Bool.and_true, decide_eq_true_eq]; exact hn)).mono ?_
  rintro e w' ⟨T, rfl, hT, hb⟩
  exact ⟨T, rfl, hT, only_below hb⟩
end Go.Proofs.Ytlcpfheocenjfaa
