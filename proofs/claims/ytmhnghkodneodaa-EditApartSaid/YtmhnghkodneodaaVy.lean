/-
  Arguments that came in: bytes.
-/
import Derived.Test.YtmhnghkodneodaaVg
namespace Go.Proofs.Ytmhnghkodneodaa
open Go.RowKit Go.Maps Go.ChangeShapes Go.WideShapes Go.ChangeAt
set_option linter.unusedVariables false
set_option linter.unusedSimpArgs false
set_option maxRecDepth 100000 in
theorem bytes_cells {H : Type} {enc : TypeId × Value → H} {W : World} {fuel : Nat} {cs : List Value} {x : DataW H × List MemPlace}
    (hf : DataW.trod enc Try.prog W 0 (fun _ => true) true fuel 22 cs = some x) : ∃ (a : Option Addr) (cap : Nat) (L : List Nat), cs = [.slice a L.length cap] ∧ Vw W a (u8s L) ∧ (∀ x ∈ L, x < 256) ∧ L.length ≤ cap ∧ cap ≤ maxLen ∧ ((∀ n ∈ x.1.weights Try.prog 22, n ≤ reachBytes) → L.length ≤ 140737488351232) ∧ (a = none → L.length = 0 ∧ cap = 0) := by
  have hb5 : Try.prog.bytesOf 5 = 1 := by kernel_rfl
  rcases open_ints Try.underlying22 Try.underlying5 (by kernel_rfl) hf with ⟨rfl, rfl⟩ | ⟨y, l, c, zs, rfl, _, hl, hm, hz, rfl, hcell, hwz⟩
  · exact ⟨none, 0, [], rfl, Vw.nil _ _, fun x h => absurd h List.not_mem_nil, Nat.le_refl _, Nat.zero_le _, fun _ => Nat.zero_le _, fun _ => ⟨rfl, rfl⟩⟩
  · have hz' : zs.length = c := by simpa using hz
    have hb := range_u8 hwz
    have hlen : ((List.range l).map (fun j => (zs[j]?.getD 0).toNat)).length = l := by simp
    refine ⟨some y, c, (List.range l).map (fun j => (zs[j]?.getD 0).toNat), by rw [hlen], ?_, fun x hx => ?_, by rw [hlen]; exact hl, hm, fun hs => ?_, fun h => by cases h⟩
    · by_cases h0 : 0 < l
      · obtain ⟨b, off, rfl, hcc⟩ := ints_at hcell (by omega)
        refine Or.inr ⟨b, off, rfl, fun j u hj => ?_⟩
        have hj' := (List.getElem?_eq_some_iff.1 hj).1
        rw [u8s_len, hlen] at hj'
        rw [u8s_at (L := (List.range l).map (fun j => (zs[j]?.getD 0).toNat)) (k := j) (x := (zs[j]?.getD 0).toNat) (by rw [List.getElem?_map, List.getElem?_range hj']; rfl)] at hj
        injection hj with hj
        subst hj
        rw [hcc j (by omega), List.getD_eq_getElem?_getD]
        have := hb j
        have e : ((zs[j]?.getD 0).toNat : Int) = zs[j]?.getD 0 := by omega
        rw [e]
      · obtain rfl : l = 0 := by omega
        exact Or.inl rfl
    · obtain ⟨j, _, rfl⟩ := List.mem_map.1 hx
      have := hb j
      show (zs[j]?.getD 0).toNat < 256
      omega
    · have h1 := hs _ (by simp only [DataW.weights, Try.underlying22]; exact List.mem_cons_self)
      rw [hb5] at h1
      unfold reachBytes at h1
      simp [lits] at h1
      rw [hlen]
      omega
set_option maxRecDepth 100000 in
theorem bytes_view {H : Type} {enc : TypeId × Value → H} {W : World} {v : Value} {d : DataW H} {p : List MemPlace} {b0 : Nat} (hv : Value.okWide Try.prog W .any b0 22 v)
    (h : DataW.Trod enc Try.prog W 0 (fun _ => true) true 22 v d p) (hs : ∀ n ∈ d.weights Try.prog 22, n ≤ reachBytes) : ∃ (a : Option Addr) (cap : Nat) (L : List Nat), v = .slice a L.length cap ∧ Vw W a (u8s L) ∧ (∀ x ∈ L, x < 256) ∧ L.length ≤ cap ∧ cap ≤ maxLen ∧ L.length ≤ 140737488351232 ∧ (a = none → L.length = 0 ∧ cap = 0) := by
  obtain ⟨a, len, cap, rfl⟩ := okWide_slice Try.underlying22 hv
  obtain ⟨fuel, hf⟩ := h
  obtain ⟨a', cap', L, e, h1, h2, h3, h4, h5, h6⟩ := bytes_cells hf
  have e2 : [Value.slice a len cap] = [Value.slice a' L.length cap'] := e
  injection e2 with e2
  rw [e2]
  exact ⟨a', cap', L, rfl, h1, h2, h3, h4, h5 hs, h6⟩
end Go.Proofs.Ytmhnghkodneodaa
