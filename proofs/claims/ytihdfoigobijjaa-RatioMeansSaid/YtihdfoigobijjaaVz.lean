/-
  A []float64 that came in, as the walks want it.
-/
import Derived.Test.YtihdfoigobijjaaVv
import Derived.Deep.Slices
namespace Go.Proofs.Ytihdfoigobijjaa
open Go.RowKit Go.Maps Go.ChangeShapes Go.WideShapes Go.ChangeAt
set_option linter.unusedVariables false
set_option linter.unusedSimpArgs false
theorem trod_float {H : Type} {enc : TypeId × Value → H} {W : World} {base : Nat} {spare : Nat → Bool} {held : Bool} {fuel : Nat} {cs : List Value} {x : DataW H × List MemPlace} (h : DataW.trod enc Try.prog W base spare held fuel 22 cs = some x) : ∃ n, cs = [.float .f64 n] ∧ n < 18446744073709551616 := by
  cases fuel with
  | zero => simp [DataW.trod] at h
  | succ n =>
    unfold DataW.trod at h
    rw [Try.underlying22] at h
    split at h <;> simp_all
    rename_i heq
    subst heq
    exact wf_f64 h.1.2
set_option maxRecDepth 100000 in
theorem floats_cells {H : Type} {enc : TypeId × Value → H} {W : World} {fuel : Nat} {cs : List Value} {x : DataW H × List MemPlace}
    (hf : DataW.trod enc Try.prog W 0 (fun _ => true) true fuel 25 cs = some x) : ∃ (a : Option Addr) (cap : Nat) (L : List Nat), cs = [.slice a L.length cap] ∧ Vw W a (fls L) ∧ Wds L ∧ L.length ≤ cap ∧ cap ≤ maxLen := by
  have hc1 : Try.prog.cellsOf 22 = 1 := by kernel_rfl
  rcases DataW.trod_slice Try.underlying25 hf with ⟨rfl, _⟩ | ⟨ad, len, cap, elems, rest, n, _, rfl, rfl, hb, hl, hm, hlen, hel, _, _⟩
  · exact ⟨none, 0, [], rfl, Or.inl rfl, fun x hx => absurd hx List.not_mem_nil, Nat.le_refl _, Nat.zero_le _⟩
  · have each : ∀ i, i < len → ∃ b, W.cell? (ad.add i) = some (.float .f64 b) ∧ b < 18446744073709551616 := by
      intro i hi
      have h1 := hel i hi
      rw [hc1, Nat.mul_one] at h1
      have h2 : ∃ y, elems[i]? = some y := ⟨elems[i]'(by omega), List.getElem?_eq_getElem _⟩
      obtain ⟨y, hy⟩ := h2
      rw [hy, Option.bind_eq_some_iff] at h1
      obtain ⟨cs', hcs, hy'⟩ := h1
      obtain ⟨m, rfl, hw⟩ := trod_float hy'
      exact ⟨m, cell_of_cells?_one hcs, hw⟩
    obtain ⟨B, hB⟩ := Deep.choose_lt each
    refine ⟨some ad, cap, (List.range len).map B, by simp, ?_, ?_, by simpa using hl, hm⟩
    · by_cases h0 : 0 < len
      · obtain ⟨b, off, spot⟩ := ad
        have hspot : spot = none := by simpa [Addr.add] using World.cell?_spot (hB 0 h0).1
        subst hspot
        refine Or.inr ⟨b, off, rfl, fun j u hj => ?_⟩
        have hj' := (List.getElem?_eq_some_iff.1 hj).1
        rw [fls_len] at hj'
        simp at hj'
        rw [fls_at (L := (List.range len).map B) (k := j) (x := B j) (by rw [List.getElem?_map, List.getElem?_range hj']; rfl)] at hj
        injection hj with hj
        subst hj
        have := (hB j hj').1
        rw [Addr.add_mid] at this
        exact this
      · obtain rfl : len = 0 := by omega
        exact Or.inl rfl
    · intro x hx
      obtain ⟨j, hj, rfl⟩ := List.mem_map.1 hx
      exact (hB j (List.mem_range.1 hj)).2
theorem floats_view {H : Type} {enc : TypeId × Value → H} {W : World} {v : Value} {d : DataW H} {p : List MemPlace} {b0 : Nat} (hv : Value.okWide Try.prog W .any b0 25 v)
    (h : DataW.Trod enc Try.prog W 0 (fun _ => true) true 25 v d p) : ∃ (a : Option Addr) (cap : Nat) (L : List Nat), v = .slice a L.length cap ∧ Vw W a (fls L) ∧ Wds L ∧ L.length ≤ cap ∧ cap ≤ maxLen := by
  obtain ⟨a, len, cap, rfl⟩ := okWide_slice Try.underlying25 hv
  obtain ⟨fuel, hf⟩ := h
  obtain ⟨a', cap', L, e, h1, h2, h3, h4⟩ := floats_cells hf
  have e2 : [Value.slice a len cap] = [Value.slice a' L.length cap'] := e
  injection e2 with e2
  rw [e2]
  exact ⟨a', cap', L, rfl, h1, h2, h3, h4⟩
end Go.Proofs.Ytihdfoigobijjaa
