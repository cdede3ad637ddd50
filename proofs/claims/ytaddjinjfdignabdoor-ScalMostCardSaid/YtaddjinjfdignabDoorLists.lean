/-
  Small facts on lists that the call itself made, and on bytes made into strings.
-/
import Derived.Test.YtaddjinjfdignabDoorSame
import Derived.Laws.AppendOwnNone
namespace Go.Proofs.YtaddjinjfdignabDoor
open Go.RowKit

theorem row_view {w : World} {base e size n : Nat} {v : Value} {xs : List Value} (h : w.ownsRow base e size v n xs) :
    ∃ (a : Option Addr) (g cap : Nat), v = .slice a n cap ∧ n ≤ cap ∧ (0 < n → a = some ⟨g, 0, none⟩) ∧ (0 < n → g < w.heap.size) ∧ (0 < n → base ≤ g) ∧ ∀ j, j < n * size → w.cell? ⟨g, j, none⟩ = xs[j]? := by
  by_cases hn : 0 < n
  · obtain ⟨g, cap, hv, h1, h2, h3, h4⟩ := row_form h hn
    exact ⟨_, g, cap, hv, h3, fun _ => rfl, fun _ => h2, fun _ => h1, h4⟩
  · obtain rfl : n = 0 := by omega
    obtain ⟨hl, ⟨hv, _⟩ | ⟨g, cap, cur, hv, _⟩⟩ := h
    · exact ⟨none, 0, 0, hv, Nat.le_refl _, fun h => absurd h hn, fun h => absurd h hn, fun h => absurd h hn, fun j hj => by omega⟩
    · exact ⟨_, g, cap, hv, Nat.zero_le _, fun h => absurd h hn, fun h => absurd h hn, fun h => absurd h hn, fun j hj => by omega⟩

/-- bytes as cells. -/
def byCells (n : Nat) (x : Nat → Nat) : List Value := (List.range n).map fun j => .int .u8 (x j : Nat)
theorem byCells_length (n : Nat) (x : Nat → Nat) : (byCells n x).length = n := by simp [byCells]
theorem byCells_at (n : Nat) (x : Nat → Nat) (j : Nat) (h : j < n) : (byCells n x)[j]? = some (.int .u8 (x j : Nat)) := by simp [byCells, h]
theorem byCells_one (n : Nat) (x : Nat → Nat) : ∀ u ∈ byCells n x, u.oneCell' = true := by
  intro u hu
  obtain ⟨j, _, rfl⟩ := List.mem_map.1 hu
  rfl
/-- bytes as a string. -/
def strOf (n : Nat) (x : Nat → Nat) : ByteArray := strOfNums ((List.range n).map fun j => (x j : Int))
theorem conv_bytes (w : World) (a : Option Addr) (n cap b off : Nat) (x : Nat → Nat) (ha : 0 < n → a = some ⟨b, off, none⟩) (hc : ∀ j, j < n → w.cell? ⟨b, off + j, none⟩ = some (.int .u8 (x j : Nat))) :
    (convert 22 9 (.slice a n cap)).run Tryd.prog w = .ok (.string (strOf n x)) w := by
  by_cases hn : 0 < n
  · rw [ha hn]
    refine run_convert_bytes_arg w 22 5 Tryd.underlying22 Tryd.underlying5 b off n cap ((List.range n).map fun j => (x j : Int)) (by simp) (fun i hi => ?_) 9 Tryd.underlying9
    rw [hc i hi]
    simp [hi]
  · obtain rfl : n = 0 := by omega
    cases a with
    | none => exact run_convert_bytes_nil w 22 5 Tryd.underlying22 Tryd.underlying5 0 cap 9 Tryd.underlying9
    | some ad =>
      have hl : (loadCells ad 0).run Tryd.prog w = .ok (([] : List Int).map (Value.int .u8)).toArray w := run_loadCells_list (P := Tryd.prog) w ad [] (fun j v hj => by simp at hj)
      rw [run_convert_bytes_string w 22 9 5 _ 0 cap Tryd.underlying22 Tryd.underlying5 Tryd.underlying9, run_bytesToString w ad 0 cap [] hl]
      rfl
theorem info5 : (Tryd.prog.info? 5).map (fun i => (i.zero, i.size, i.bytes)) = some (some (.int .u8 0), 1, 1) := by kernel_rfl
end Go.Proofs.YtaddjinjfdignabDoor
