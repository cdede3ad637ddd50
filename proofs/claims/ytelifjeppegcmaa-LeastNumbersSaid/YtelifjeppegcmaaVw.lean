/-
  An automaton that came in, as its walk wants it.
-/
import Derived.Test.YtelifjeppegcmaaGm
import Derived.ChangeMaps5
import Derived.Deep.Strs
import Derived.OpenShut
import Derived.ProofKit
import Derived.WideShapes
import Derived.ChangeSame
namespace Go.Proofs.Ytelifjeppegcmaa
open Go.RowKit Go.Maps Go.ChangeShapes Go.WideShapes
set_option linter.unusedVariables false
set_option linter.unusedSimpArgs false
theorem laidOut : laidOutB Try.prog = true := by kernel_rfl
theorem map_get' {α : Type} {F : Nat → α} {len j : Nat} {x : α} (hj : ((List.range len).map F)[j]? = some x) : j < len ∧ x = F j := by
  have hl := (List.getElem?_eq_some_iff.1 hj).1
  simp at hl
  rw [List.getElem?_map, List.getElem?_range hl] at hj
  injection hj with hj
  exact ⟨hl, hj.symm⟩
theorem ints_cells {H : Type} {enc : TypeId × Value → H} {W : World} {fuel : Nat} {cs : List Value} {x : DataW H × List MemPlace}
    (hf : DataW.trod enc Try.prog W 0 (fun _ => true) true fuel 23 cs = some x) : ∃ (a : Option Addr) (len cap : Nat) (L : List Int), cs = [.slice a len cap] ∧ Iw W a len L ∧ len ≤ cap ∧ cap ≤ maxLen ∧ (a = none → len = 0 ∧ cap = 0) := by
  rcases Deep.open_slice Try.underlying23 hf with ⟨rfl, _⟩ | ⟨ad, len, cap, m, n, D, Pl, rfl, _, hl, hm, hmm, _, hx⟩
  · exact ⟨none, 0, 0, [], rfl, ⟨rfl, 0, 0, fun h => absurd h (by omega), fun j x hj => by simp at hj⟩, Nat.le_refl _, Nat.zero_le _, fun _ => ⟨rfl, rfl⟩⟩
  · have hlm : len ≤ m := by rw [hmm]; simpa using hl
    have each : ∀ i, i < len → ∃ x : Int, W.cell? (ad.add i) = some (.int .i64 x) := by
      intro i hi
      obtain ⟨cs', h1, h2⟩ := hx i (by omega)
      have ce : Try.prog.cellsOf 3 = 1 := by kernel_rfl
      rw [ce, Nat.mul_one] at h1
      obtain ⟨_, hlen, hcell⟩ := World.cells?_some h1
      match cs', hlen with
      | [v0], _ =>
        obtain ⟨n0, e0, _, w0⟩ := DataW.trod_int Try.underlying3 h2
        simp at e0
        subst e0
        have k0 := hcell 0 (by omega)
        rw [Deep.add_add] at k0
        exact ⟨n0, k0⟩
    obtain ⟨F, hF⟩ := Deep.choose_lt each
    by_cases h0 : 0 < len
    · obtain ⟨b, off, spot⟩ := ad
      have hspot : spot = none := by simpa [Addr.add] using World.cell?_spot (hF 0 h0)
      subst hspot
      refine ⟨some ⟨b, off, none⟩, len, cap, (List.range len).map F, rfl, ⟨by simp, b, off, fun _ => ⟨rfl, ?_⟩, fun j x hj => ?_⟩, hl, hm, (fun h => by cases h)⟩
      · have := hF 0 h0
        rw [Addr.add_mid] at this
        exact World.block_lt_of_cell? W _ this
      · obtain ⟨hj', rfl⟩ := map_get' hj
        have := hF j hj'
        rw [Addr.add_mid] at this
        exact this
    · exact ⟨some ad, len, cap, (List.range len).map F, rfl, ⟨by simp, 0, 0, fun h => absurd h h0, fun j x hj => absurd (map_get' hj).1 (by omega)⟩, hl, hm, (fun h => by cases h)⟩
set_option maxRecDepth 100000 in
theorem ints_view {H : Type} {enc : TypeId × Value → H} {W : World} {v : Value} {d : DataW H} {p : List MemPlace} {b0 : Nat} (hv : Value.okWide Try.prog W .any b0 23 v)
    (h : DataW.Trod enc Try.prog W 0 (fun _ => true) true 23 v d p) : ∃ (a : Option Addr) (len cap : Nat) (L : List Int), v = .slice a len cap ∧ Iw W a len L ∧ len ≤ maxLen ∧ (a = none → len = 0 ∧ cap = 0) := by
  obtain ⟨a, len, cap, rfl⟩ := okWide_slice Try.underlying23 hv
  obtain ⟨fuel, hf⟩ := h
  obtain ⟨a', len', cap', L, e, hI, hl, hm, hz⟩ := ints_cells hf
  have e2 : [Value.slice a len cap] = [Value.slice a' len' cap'] := e
  injection e2 with e2
  rw [e2]
  exact ⟨a', len', cap', L, rfl, hI, Nat.le_trans hl hm, hz⟩
theorem nexts_cells {H : Type} {enc : TypeId × Value → H} {W : World} {fuel : Nat} {cs : List Value} {x : DataW H × List MemPlace}
    (hf : DataW.trod enc Try.prog W 0 (fun _ => true) true fuel 25 cs = some x) : ∃ (a : Option Addr) (len cap : Nat) (ws : List Wy), cs = [.slice a len cap] ∧ Nw W a len ws ∧ len ≤ cap ∧ cap ≤ maxLen := by
  rcases Deep.open_slice Try.underlying25 hf with ⟨rfl, _⟩ | ⟨ad, len, cap, m, n, D, Pl, rfl, _, hl, hm, hmm, _, hx⟩
  · exact ⟨none, 0, 0, [], rfl, ⟨rfl, 0, 0, fun h => absurd h (by omega), fun j x hj => by simp at hj⟩, Nat.le_refl _, Nat.zero_le _⟩
  · have hlm : len ≤ m := by rw [hmm]; simpa using hl
    have each : ∀ i, i < len → ∃ x : Wy, (Iw W x.a x.n x.L ∧ x.n ≤ maxLen) ∧ W.cell? (ad.add i) = some (.slice x.a x.n x.c) := by
      intro i hi
      obtain ⟨cs', h1, h2⟩ := hx i (by omega)
      have ce : Try.prog.cellsOf 23 = 1 := by kernel_rfl
      rw [ce, Nat.mul_one] at h1
      obtain ⟨_, hlen, hcell⟩ := World.cells?_some h1
      match cs', hlen with
      | [v0], _ =>
        obtain ⟨a1, l1, p1, L1, e1, B1, q1, m1, _⟩ := ints_cells h2
        simp at e1
        subst e1
        have k0 := hcell 0 (by omega)
        rw [Deep.add_add] at k0
        exact ⟨⟨a1, l1, p1, L1⟩, ⟨B1, Nat.le_trans q1 m1⟩, k0⟩
    have hInh : Inhabited Wy := ⟨wy0⟩
    obtain ⟨F, hF⟩ := Deep.choose_lt each
    by_cases h0 : 0 < len
    · obtain ⟨b, off, spot⟩ := ad
      have hspot : spot = none := by simpa [Addr.add] using World.cell?_spot (hF 0 h0).2
      subst hspot
      refine ⟨some ⟨b, off, none⟩, len, cap, (List.range len).map F, rfl, ⟨by simp, b, off, fun _ => ⟨rfl, ?_⟩, fun j x hj => ?_⟩, hl, hm⟩
      · have := (hF 0 h0).2
        rw [Addr.add_mid] at this
        exact World.block_lt_of_cell? W _ this
      · obtain ⟨hj', rfl⟩ := map_get' hj
        obtain ⟨k, c0⟩ := hF j hj'
        rw [Addr.add_mid] at c0
        exact ⟨k.1, k.2, c0⟩
    · exact ⟨some ad, len, cap, (List.range len).map F, rfl, ⟨by simp, 0, 0, fun h => absurd h h0, fun j x hj => absurd (map_get' hj).1 (by omega)⟩, hl, hm⟩
theorem outs_cells {H : Type} {enc : TypeId × Value → H} {W : World} {fuel : Nat} {cs : List Value} {x : DataW H × List MemPlace}
    (hf : DataW.trod enc Try.prog W 0 (fun _ => true) true fuel 22 cs = some x) : ∃ (a : Option Addr) (len cap : Nat) (L : List Nat), cs = [.slice a len cap] ∧ Uw W a len L ∧ len ≤ cap ∧ cap ≤ maxLen := by
  rcases Deep.open_slice Try.underlying22 hf with ⟨rfl, _⟩ | ⟨ad, len, cap, m, n, D, Pl, rfl, _, hl, hm, hmm, _, hx⟩
  · exact ⟨none, 0, 0, [], rfl, ⟨rfl, 0, 0, fun h => absurd h (by omega), fun j x hj => by simp at hj⟩, Nat.le_refl _, Nat.zero_le _⟩
  · have hlm : len ≤ m := by rw [hmm]; simpa using hl
    have each : ∀ i, i < len → ∃ x : Nat, W.cell? (ad.add i) = some (.int .u32 (x : Int)) ∧ x < 4294967296 := by
      intro i hi
      obtain ⟨cs', h1, h2⟩ := hx i (by omega)
      have ce : Try.prog.cellsOf 38 = 1 := by kernel_rfl
      rw [ce, Nat.mul_one] at h1
      obtain ⟨_, hlen, hcell⟩ := World.cells?_some h1
      match cs', hlen with
      | [v0], _ =>
        obtain ⟨n0, e0, _, w0⟩ := DataW.trod_int Try.underlying38 h2
        simp at e0
        subst e0
        have k0 := hcell 0 (by omega)
        rw [Deep.add_add] at k0
        have w1 : (decide (IntKind.u32.min ≤ n0) && decide (n0 ≤ IntKind.u32.max)) = true := w0
        rw [Bool.and_eq_true, decide_eq_true_iff, decide_eq_true_iff] at w1
        have m0 : IntKind.u32.min = 0 := rfl
        have m1 : IntKind.u32.max = 4294967295 := rfl
        rw [m0, m1] at w1
        obtain ⟨q, rfl⟩ : ∃ q : Nat, n0 = (q : Int) := ⟨n0.toNat, by omega⟩
        exact ⟨q, k0, by omega⟩
    obtain ⟨F, hF⟩ := Deep.choose_lt each
    by_cases h0 : 0 < len
    · obtain ⟨b, off, spot⟩ := ad
      have hspot : spot = none := by simpa [Addr.add] using World.cell?_spot (hF 0 h0).1
      subst hspot
      refine ⟨some ⟨b, off, none⟩, len, cap, (List.range len).map F, rfl, ⟨by simp, b, off, fun _ => ⟨rfl, ?_⟩, fun j x hj => ?_⟩, hl, hm⟩
      · have := (hF 0 h0).1
        rw [Addr.add_mid] at this
        exact World.block_lt_of_cell? W _ this
      · obtain ⟨hj', rfl⟩ := map_get' hj
        have := hF j hj'
        rw [Addr.add_mid] at this
        exact this
    · exact ⟨some ad, len, cap, (List.range len).map F, rfl, ⟨by simp, 0, 0, fun h => absurd h h0, fun j x hj => absurd (map_get' hj).1 (by omega)⟩, hl, hm⟩
set_option maxRecDepth 100000 in
theorem outs_view {H : Type} {enc : TypeId × Value → H} {W : World} {v : Value} {d : DataW H} {p : List MemPlace} {b0 : Nat} (hv : Value.okWide Try.prog W .any b0 22 v)
    (h : DataW.Trod enc Try.prog W 0 (fun _ => true) true 22 v d p) : ∃ (a : Option Addr) (len cap : Nat) (L : List Nat), v = .slice a len cap ∧ Uw W a len L ∧ len ≤ maxLen := by
  obtain ⟨a, len, cap, rfl⟩ := okWide_slice Try.underlying22 hv
  obtain ⟨fuel, hf⟩ := h
  obtain ⟨a', len', cap', L, e, hI, hl, hm⟩ := outs_cells hf
  have e2 : [Value.slice a len cap] = [Value.slice a' len' cap'] := e
  injection e2 with e2
  rw [e2]
  exact ⟨a', len', cap', L, rfl, hI, Nat.le_trans hl hm⟩
set_option maxRecDepth 100000 in
theorem auto_view {H : Type} {enc : TypeId × Value → H} {W : World} {v : Value} {d : DataW H} {p : List MemPlace} {b0 : Nat} (hv : Value.okWide Try.prog W .any b0 27 v)
    (h : DataW.Trod enc Try.prog W 0 (fun _ => true) true 27 v d p) :
    ∃ (aN : Option Addr) (nN cN : Nat) (ws : List Wy) (aO : Option Addr) (nO cO : Nat) (U : List Nat), v = autV aN nN cN aO nO cO ∧ Nw W aN nN ws ∧ nN ≤ maxLen ∧ nO ≤ maxLen ∧ Uw W aO nO U := by
  obtain ⟨cs, rfl, hs⟩ := Go.WideShapes.okWide_struct Try.underlying27 hv
  obtain ⟨fuel, hf⟩ := h
  obtain ⟨xs, n, _, _, hl, hlen, hx⟩ := DataW.trod_struct Try.underlying27 hf
  have c27 : Try.prog.cellsOf 27 = 2 := by kernel_rfl
  have c30 : Try.prog.cellsOf 25 = 1 := by kernel_rfl
  have c31 : Try.prog.cellsOf 22 = 1 := by kernel_rfl
  rw [c27] at hs
  obtain ⟨l⟩ := cs
  simp at hs
  match l, hs with
  | [v0, v1], _ =>
    match xs, hlen with
    | [y0, y1], _ =>
      have g0 : DataW.trod enc Try.prog W 0 (fun _ => true) true n 25 (([v0, v1].drop 0).take (Try.prog.cellsOf 25)) = some y0 := hx 0 _ rfl
      have g1 : DataW.trod enc Try.prog W 0 (fun _ => true) true n 22 (([v0, v1].drop 1).take (Try.prog.cellsOf 22)) = some y1 := hx 1 _ rfl
      rw [c30] at g0
      rw [c31] at g1
      obtain ⟨a3, l3, p3, L3, e3, B3, q3, m3⟩ := nexts_cells g0
      obtain ⟨a4, l4, p4, U4, e4, B4, q4, m4⟩ := outs_cells g1
      simp at e3 e4
      subst e3 e4
      exact ⟨a3, l3, p3, L3, a4, l4, p4, U4, rfl, B3, Nat.le_trans q3 m3, Nat.le_trans q4 m4, B4⟩
end Go.Proofs.Ytelifjeppegcmaa
