/-
  Arguments that came in: whole numbers.
-/
import Derived.Test.YtdepjmneoplicaaVg
namespace Go.Proofs.Ytdepjmneoplicaa
open Go.RowKit Go.Maps Go.ChangeShapes Go.WideShapes Go.ChangeAt
set_option linter.unusedVariables false
set_option linter.unusedSimpArgs false
/-- whole numbers as cells. -/
def intC (L : List Int) : List Value := L.map fun (x : Int) => .int .i64 x
theorem intC_len (L : List Int) : (intC L).length = L.length := by simp [intC]
theorem intC_at {L : List Int} {k : Nat} {x : Int} (h : L[k]? = some x) : (intC L)[k]? = some (.int .i64 x) := by
  unfold intC
  rw [List.getElem?_map, h]; rfl
set_option maxRecDepth 100000 in
theorem nums_cells {H : Type} {enc : TypeId × Value → H} {W : World} {fuel : Nat} {cs : List Value} {x : DataW H × List MemPlace}
    (hf : DataW.trod enc Try.prog W 0 (fun _ => true) true fuel 47 cs = some x) : ∃ (a : Option Addr) (cap : Nat) (L : List Int), cs = [.slice a L.length cap] ∧ Vw W a (intC L) ∧ L.length ≤ cap ∧ cap ≤ maxLen := by
  rcases open_ints Try.underlying47 Try.underlying3 (by kernel_rfl) hf with ⟨rfl, rfl⟩ | ⟨y, l, c, zs, rfl, _, hl, hm, hz, rfl, hcell, hwz⟩
  · exact ⟨none, 0, [], rfl, Vw.nil _ _, Nat.le_refl _, Nat.zero_le _⟩
  · have hz' : zs.length = c := by simpa using hz
    have hlen : ((List.range l).map (fun j => zs[j]?.getD 0)).length = l := by simp
    refine ⟨some y, c, (List.range l).map (fun j => zs[j]?.getD 0), by rw [hlen], ?_, by rw [hlen]; exact hl, hm⟩
    by_cases h0 : 0 < l
    · obtain ⟨b, off, rfl, hcc⟩ := ints_at hcell (by omega)
      refine Or.inr ⟨b, off, rfl, fun j u hj => ?_⟩
      have hj' := (List.getElem?_eq_some_iff.1 hj).1
      rw [intC_len, hlen] at hj'
      rw [intC_at (L := (List.range l).map (fun j => zs[j]?.getD 0)) (k := j) (x := zs[j]?.getD 0) (by rw [List.getElem?_map, List.getElem?_range hj']; rfl)] at hj
      injection hj with hj
      subst hj
      rw [hcc j (by omega), List.getD_eq_getElem?_getD]
    · obtain rfl : l = 0 := by omega
      exact Or.inl rfl
set_option maxRecDepth 100000 in
theorem nums_view {H : Type} {enc : TypeId × Value → H} {W : World} {v : Value} {d : DataW H} {p : List MemPlace} {b0 : Nat} (hv : Value.okWide Try.prog W .any b0 47 v)
    (h : DataW.Trod enc Try.prog W 0 (fun _ => true) true 47 v d p) : ∃ (a : Option Addr) (cap : Nat) (L : List Int), v = .slice a L.length cap ∧ Vw W a (intC L) ∧ L.length ≤ cap ∧ cap ≤ maxLen := by
  obtain ⟨a, len, cap, rfl⟩ := okWide_slice Try.underlying47 hv
  obtain ⟨fuel, hf⟩ := h
  obtain ⟨a', cap', L, e, h1, h2, h3⟩ := nums_cells hf
  have e2 : [Value.slice a len cap] = [Value.slice a' L.length cap'] := e
  injection e2 with e2
  rw [e2]
  exact ⟨a', cap', L, rfl, h1, h2, h3⟩
end Go.Proofs.Ytdepjmneoplicaa
