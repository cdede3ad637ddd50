/-
  What is read while groups are parted.
-/
import Derived.Test.YtelifjeppegcmaaGr0
import Derived.Test.YtelifjeppegcmaaGr2
import Derived.Test.YtelifjeppegcmaaCl
namespace Go.Proofs.Ytelifjeppegcmaa
open Go.RowKit Go.Maps
set_option linter.unusedVariables false
set_option linter.unusedSimpArgs false
theorem Kp.own {base B1 base' e size m : Nat} {w Y : World} {v : Value} {xs : List Value} (h : Kp base B1 w Y) (ho : w.ownsRow base' e size v m xs) (hb : B1 ≤ base') (he : e ≠ 62) : Y.ownsRow base' e size v m xs := by
  obtain ⟨hl, ho | ⟨g, cap, cur, hv, h1, h2, h3⟩⟩ := ho
  · exact ⟨hl, Or.inl ho⟩
  · exact ⟨hl, Or.inr ⟨g, cap, cur, hv, h1, h.new g _ (by omega) h2 (fun cs z e2 => by injection e2 with _ e2; exact he e2), h3⟩⟩
theorem Ms.not {Y : World} {gb rb ab ob n base B1 b : Nat} {vY : Value} {row at' of : List Nat} {ls : List (Nat × Nat × Nat)} (hM : Ms Y gb rb ab ob n base B1 vY row at' of ls) {cs : Array Value} {t : Nat} (hb : Y.heap[b]? = some (.cells cs t (0, 0))) (ht : t ≠ 62) : vY.ownBlock ≠ some b := fun e => by
  obtain ⟨lb, cap, rfl, _, _, _, _, _, cur, hcur⟩ := hM.nl
  injection e with e
  have e2 : lb = b := e
  subst e2
  rw [hcur] at hb
  injection hb with hb
  injection hb with _ hb
  exact ht hb.symm
theorem rd_own {Y : World} {gb rb ab ob n base B1 base' m c : Nat} {a : Option Addr} {vY : Value} {row at' of D : List Nat} {ls : List (Nat × Nat × Nat)} (hM : Ms Y gb rb ab ob n base B1 vY row at' of ls) (ho : Y.ownsRow base' 3 1 (.slice a m c) m (nums D).toList) (hl : D.length = m) (hb : B1 ≤ base') : Rd Y B1 Y.heap.size vY a m D := by
  by_cases h0 : 0 < m
  · obtain ⟨g, cap, hv, h1, h2, h3, h4⟩ := row_form ho h0
    injection hv with hv1 hv2 hv3
    subst hv1
    obtain ⟨_, _, _, cur, hcur⟩ := own_blk ho
    refine ⟨hl, g, 0, fun _ => ⟨rfl, h2, by omega, h2, hM.not hcur (by decide)⟩, fun j x hj => ?_⟩
    have hjl := (List.getElem?_eq_some_iff.1 hj).1
    rw [Nat.zero_add, h4 j (by omega), Array.getElem?_toList, nums_at, hj]
    rfl
  · have : D = [] := List.length_eq_zero_iff.1 (by omega)
    exact ⟨hl, 0, 0, fun h => absurd h h0, fun j x hj => by rw [this] at hj; cases hj⟩
theorem bk_of {w3 Y : World} {gb rb ab ob n nc base B1 base3 bb c : Nat} {vs : Nat → Value} {nx : Nat → Nat → Nat} {vY : Value} {row at' of : List Nat} {ls : List (Nat × Nat × Nat)} (hM : Ms Y gb rb ab ob n base B1 vY row at' of ls) (hB : Bks w3 base3 n nc nc bb vs nx) (hb3 : B1 ≤ base3) (hK : Kp base B1 w3 Y) (hc : c < nc) (hn : n ≤ 100000) : ∃ bc, vs c = .slice (some ⟨bc, 0, none⟩) n n ∧ Bk Y B1 Y.heap.size n vY (some ⟨bc, 0, none⟩) (bkTo (fun s => nx s c) n) := by
  obtain ⟨bc, vt, e, hbc, hBw⟩ := hB.2 c hc
  have hblk := hK.new bc _ (by omega) hBw.blk (fun cs z e2 => by injection e2 with _ e2; cases e2)
  have hlt := (Array.getElem?_eq_some_iff.1 hblk).1
  refine ⟨bc, e, bc, 0, rfl, hlt, by omega, hlt, hM.not hblk (by decide), fun z hz => ?_⟩
  obtain ⟨a', c', ev⟩ := own_form (hBw.own z hz)
  have ho := hK.own (hBw.own z hz) hb3 (by decide)
  rw [ev] at ho
  refine ⟨a', _, c', ?_, rd_own hM ho rfl hb3, Nat.le_trans (bkTo_len _ _ _) hn⟩
  rw [Nat.zero_add, cell_blk hblk, rowOf_at _ hz, ev]
end Go.Proofs.Ytelifjeppegcmaa
