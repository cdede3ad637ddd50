/-
  Groups of states in memory; (*groups).swap.
-/
import Derived.Test.YtelifjeppegcmaaBs
namespace Go.Proofs.Ytelifjeppegcmaa
open Go.RowKit Go.Maps
set_option linter.unusedVariables false
set_option linter.unusedSimpArgs false
/-- the block of a *groups. -/
def gcell (rb ab ob n : Nat) (vL : Value) : Array Value := #[.slice (some ⟨rb, 0, none⟩) n n, .slice (some ⟨ab, 0, none⟩) n n, .slice (some ⟨ob, 0, none⟩) n n, vL]
def Gb (w : World) (gb rb ab ob n : Nat) (vL : Value) : Prop := w.heap[gb]? = some (.cells #[.slice (some ⟨rb, 0, none⟩) n n, .slice (some ⟨ab, 0, none⟩) n n, .slice (some ⟨ob, 0, none⟩) n n, vL] 58 (0, 0))
theorem Gb.lt {w : World} {gb rb ab ob n : Nat} {vL : Value} (h : Gb w gb rb ab ob n vL) : gb < w.heap.size := (Array.getElem?_eq_some_iff.1 h).1
theorem Gb.only {S : Nat → Prop} {w w' : World} {gb rb ab ob n : Nat} {vL : Value} (h : Gb w gb rb ab ob n vL) (ho : Only S w w') (hS : ¬ S gb) : Gb w' gb rb ab ob n vL := (ho.block gb h.lt hS).trans h
theorem Gb.off {w : World} {gb rb ab ob n c : Nat} {vL : Value} (h : Gb w gb rb ab ob n vL) (hn : gb ≠ c) (i : Nat) (v : Value) : Gb (w.setCell ⟨c, i, none⟩ v) gb rb ab ob n vL := (Below.heap_setCell _ _ _ _ hn).trans h
theorem Gb.ne {w : World} {gb rb ab ob n b : Nat} {vL : Value} {l : List Nat} (h : Gb w gb rb ab ob n vL) (k : Nb w b l) : gb ≠ b := fun e => by
  subst e
  unfold Gb at h
  unfold Nb at k
  rw [h] at k
  injection k with k
  injection k with _ k
  cases k
set_option maxRecDepth 100000 in
set_option maxHeartbeats 2000000 in
theorem swap_any (gb rb ab ob n : Nat) (vL : Value) (row at' : List Nat) (i j s t : Nat) (w : World) (hG : Gb w gb rb ab ob n vL) (hr : Nb w rb row) (ha : Nb w ab at') (hra : rb ≠ ab) (hi : i < n) (hj : j < n) (hs : row[i]? = some s) (ht : row[j]? = some t) (hsn : s < n) (htn : t < n) (hn : n ≤ 1000000) (hal : at'.length = n) :
    Calls Try.prog 36 #[.pointer (some ⟨gb, 0, none⟩), .int .i64 (i : Int), .int .i64 (j : Int)] w fun e w' => e = .returned (.tuple #[]) ∧ Nb w' rb ((row.set i t).set j s) ∧ Nb w' ab ((at'.set s j).set t i) ∧ Only (fun b => b = rb ∨ b = ab) w w' := by
  have HG : Hid (Gb w gb rb ab ob n vL) := hG
  have HR : Hid (Nb w rb row) := hr
  have HA : Hid (Nb w ab at') := ha
  have hgr : gb ≠ rb := hG.ne hr
  have hga : gb ≠ ab := hG.ne ha
  have l1 := hG.lt
  have l2 := hr.lt
  have l3 := ha.lt
  have k0 : w.cell? ⟨gb, 0, none⟩ = some (.slice (some ⟨rb, 0, none⟩) n n) := cell_blk hG
  have k1 : w.cell? ⟨gb, 1, none⟩ = some (.slice (some ⟨ab, 0, none⟩) n n) := cell_blk hG
  have c0 := hr.cell hs
  have c1 := hr.cell ht
  have i1 : (i : Int) < (n : Int) := by omega
  have i2 : (j : Int) < (n : Int) := by omega
  have i3 : (s : Int) < (n : Int) := by omega
  have i4 : (t : Int) < (n : Int) := by omega
  have f1 : ∀ x, w.frozen? ⟨rb, x, none⟩ = false := fun x => hr.fz x
  have f2 : ∀ x, w.frozen? ⟨ab, x, none⟩ = false := fun x => ha.fz x
  have hrl : row[j]? = some t := ht
  have HRM : Hid (∀ m, Nb (w.drewN m) rb row) := fun m => hr
  have HAM : Hid (∀ m, Nb (w.drewN m) ab at') := fun m => ha
  have e1 : ∀ m, ((w.drewN m).setCell ⟨rb, i, none⟩ (.int .i64 (t : Int))).cell? ⟨rb, j, none⟩ = some (.int .i64 (t : Int)) := fun m => ((HRM.out m).set i t).cell (by
    rw [List.getElem?_set]
    split
    · rename_i e
      rw [if_pos (by have := (List.getElem?_eq_some_iff.1 hs).1; omega)]
    · exact ht)
  have g1 : ∀ m x, ((w.drewN m).setCell ⟨rb, i, none⟩ (.int .i64 (t : Int))).frozen? ⟨rb, x, none⟩ = false := fun m x => ((HRM.out m).set i t).fz x
  have HAL : Hid (at'.length = n) := hal
  clear hG hr ha hs ht hrl hal
  go_enter Try.func36, Try.ntmps36
  go_wp2_with fail
  go_quiet (fail)
  go_wp2_with fail
  go_region
  obtain ⟨X, hX⟩ : ∃ X, X = ((w.drewN (nq + 1)).setCell ⟨rb, i, none⟩ (.int .i64 (t : Int))).setCell ⟨rb, j, none⟩ (.int .i64 (s : Int)) := ⟨_, rfl⟩
  have HXR : Hid (Nb X rb ((row.set i t).set j s)) := by rw [hX]; exact ((HRM.out _).set i t).set j s
  have HXA : Hid (Nb X ab at') := by rw [hX]; exact ((HAM.out _).off (Ne.symm hra) _ _).off (Ne.symm hra) _ _
  have HXG : Hid (Gb X gb rb ab ob n vL) := by rw [hX]; exact (Gb.off (w := w.drewN (nq + 1)) HG.out hgr _ _).off hgr _ _
  have HXO : Hid (Only (fun b => b = rb ∨ b = ab) w X) := by rw [hX]; exact (((Only.refl _ w).drewN _).setCell (Or.inl rfl) _).setCell (Or.inl rfl) _
  rw [← hX]
  clear hX e1 g1 k0 k1 c0 c1 f1 f2 l1 l2 l3
  have k1 : X.cell? ⟨gb, 1, none⟩ = some (.slice (some ⟨ab, 0, none⟩) n n) := cell_blk HXG.out
  have HXM : Hid (∀ m, Nb (X.drewN m) ab at') := fun m => HXA.out
  have f2 : ∀ x, X.frozen? ⟨ab, x, none⟩ = false := fun x => HXA.out.fz x
  have l1 := HXG.out.lt
  have l3 := HXA.out.lt
  obtain ⟨y1, hy1⟩ : ∃ y1, at'[s]? = some y1 := ⟨_, List.getElem?_eq_getElem (by have := HAL.out; omega)⟩
  obtain ⟨y2, hy2⟩ : ∃ y2, (at'.set s j)[t]? = some y2 := ⟨_, List.getElem?_eq_getElem (by rw [List.length_set]; have := HAL.out; omega)⟩
  have c2 := HXA.out.cell hy1
  have e2 : (X.setCell ⟨ab, s, none⟩ (.int .i64 (j : Int))).cell? ⟨ab, t, none⟩ = some (.int .i64 (y2 : Int)) := (HXA.out.set s j).cell hy2
  have g2 : ∀ x, (X.setCell ⟨ab, s, none⟩ (.int .i64 (j : Int))).frozen? ⟨ab, x, none⟩ = false := fun x => (HXA.out.set s j).fz x
  clear hy1 hy2
  go_wp2_with fail
  go_region
  go_wp2_with fail
  go_end0
  refine ⟨rfl, ?_, ?_, ?_⟩
  · exact (HXR.out.off hra _ _).off hra _ _
  · exact (HXA.out.set s j).set t i
  · exact ((HXO.out.setCell (Or.inr rfl) _).setCell (Or.inr rfl) _).drew
end Go.Proofs.Ytelifjeppegcmaa
