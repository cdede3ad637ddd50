/-
  What a slice of bytes that came in holds, in the words of the walks; and two closed facts on the program.
-/
import Derived.Test.YtaddjinjfdignaaDoorTabs
import Derived.ProofKit
import Derived.OpenShut
import Derived.ShutString
import Derived.ChangeOld
import Derived.Below
namespace Go.Proofs.YtaddjinjfdignaaDoor
open Go.ChangeShapes Go.WideShapes Go.ChangeAt Go.RowKit

theorem own : ownKnob Tryd.prog.godebug = none := by kernel_rfl
theorem laidOut : laidOutB Tryd.prog = true := by kernel_rfl
theorem bytes_view {H : Type} {enc : TypeId × Value → H} {W : World} {a : Option Addr} {len cap : Nat} {d : DataW H} {p : List MemPlace}
    (h : DataW.Trod enc Tryd.prog W 0 (fun _ => true) true 22 (Value.slice a len cap) d p) :
    ∃ (x : Nat → Nat) (b off : Nat), len ≤ cap ∧ cap ≤ maxLen ∧ (0 < len → a = some ⟨b, off, none⟩) ∧ (0 < len → b < W.heap.size) ∧ (∀ j, x j < 256) ∧ ∀ j, j < len → W.cell? ⟨b, off + j, none⟩ = some (.int .u8 (x j : Nat)) := by
  obtain ⟨fuel, hf⟩ := h
  rcases open_ints Tryd.underlying22 Tryd.underlying5 (by kernel_rfl) hf with ⟨hcs, _⟩ | ⟨y, l, c, zs, hcs, _, hl, hm, hz, _, hcell, hwz⟩
  · simp [Value.cells] at hcs
    obtain ⟨rfl, rfl, rfl⟩ := hcs
    exact ⟨fun _ => 0, 0, 0, by omega, by simp [maxLen], fun h => by omega, fun h => by omega, fun _ => Nat.zero_lt_succ 255, fun j hj => by omega⟩
  · simp [Value.cells] at hcs
    obtain ⟨rfl, rfl, rfl⟩ := hcs
    have hz' : zs.length = cap := by simpa using hz
    have hb := range_u8 hwz
    by_cases h0 : 0 < len
    · obtain ⟨b, off, rfl, hcc⟩ := ints_at hcell (by omega)
      refine ⟨fun j => (zs[j]?.getD 0).toNat, b, off, hl, hm, fun _ => rfl, fun _ => World.block_lt_of_cell? W ⟨b, off + 0, none⟩ (hcc 0 (by omega)), fun j => ?_, fun j hj => ?_⟩
      · have := hb j
        show (zs[j]?.getD 0).toNat < 256
        omega
      · rw [hcc j (by omega), List.getD_eq_getElem?_getD]
        have := hb j
        have e : ((zs[j]?.getD 0).toNat : Int) = zs[j]?.getD 0 := by omega
        rw [e]
    · exact ⟨fun _ => 0, 0, 0, hl, hm, fun h => absurd h h0, fun h => absurd h h0, fun _ => Nat.zero_lt_succ 255, fun j hj => by omega⟩
theorem bytes_none {H : Type} {enc : TypeId × Value → H} {W : World} {a : Option Addr} {len cap : Nat} {d : DataW H} {p : List MemPlace}
    (h : DataW.Trod enc Tryd.prog W 0 (fun _ => true) true 22 (Value.slice a len cap) d p) (ha : a = none) : len = 0 ∧ cap = 0 := by
  subst ha
  obtain ⟨fuel, hf⟩ := h
  rcases open_ints Tryd.underlying22 Tryd.underlying5 (by kernel_rfl) hf with ⟨hcs, _⟩ | ⟨y, l, c, zs, hcs, _, hl, hm, hz, _, hcell, hwz⟩
  · simp [Value.cells] at hcs
    exact hcs
  · simp [Value.cells] at hcs
end Go.Proofs.YtaddjinjfdignaaDoor
