/-
  What the statements' own Awake returns, where unicode/utf8's two tables lie as Go lays them: true; nothing that was there turns.
-/
import Derived.Test.YtaddjinjfdignabDoorAll
import Derived.Lib.SlBytesConst
namespace Go.Proofs.YtaddjinjfdignabDoor
open Go.RowKit

theorem row_form {w : World} {base e size n : Nat} {v : Value} {xs : List Value} (h : w.ownsRow base e size v n xs) (hn : 0 < n) :
    ∃ g cap, v = .slice (some ⟨g, 0, none⟩) n cap ∧ base ≤ g ∧ g < w.heap.size ∧ n ≤ cap ∧ ∀ j, j < n * size → w.cell? ⟨g, j, none⟩ = xs[j]? := by
  obtain ⟨hl, h' | ⟨g, cap, cur, hv, hg, hh, h1, h2, h3, h4⟩⟩ := h
  · omega
  · subst hv
    refine ⟨g, cap, rfl, hg, ?_, h1, fun j hj => World.ownsRow.cellAt (w := w) (base := base) (e := e) (size := size) (cap := cap) ⟨hl, Or.inr ⟨g, cap, cur, rfl, hg, hh, h1, h2, h3, h4⟩⟩ j hj⟩
    by_cases hlt : g < w.heap.size
    · exact hlt
    · rw [Array.getElem?_eq_none (by omega)] at hh
      cases hh

/-- a list's bytes as a function. -/
def nth (l : List Nat) (j : Nat) : Nat := l.getD j 0
theorem nth_lt {l : List Nat} (h : l.all (· < 256) = true) (j : Nat) : nth l j < 256 := by
  unfold nth
  by_cases hj : j < l.length
  · rw [List.getD_eq_getElem?_getD, List.getElem?_eq_getElem hj]
    simpa using (List.all_eq_true.1 h) _ (List.getElem_mem hj)
  · rw [List.getD_eq_getElem?_getD, List.getElem?_eq_none (by omega)]; simp
theorem all1 : Sg.all 3 (nth [97, 195, 169]) = [(97, 0, 1), (233, 1, 2)] := by decide +kernel
theorem all2 : Sg.all 4 (nth [240, 159, 152, 65]) = [(65533, 0, 3), (65, 3, 1)] := by decide +kernel
theorem all3 : Sg.all 3 (nth [237, 160, 128]) = [(65533, 0, 1), (65533, 1, 1), (65533, 2, 1)] := by decide +kernel

theorem all_const (l : List Nat) (C : Array Value) (n : Nat) (fr : Nat × Nat) (w : World) (hz : 2 ≤ w.heap.size) (hT : Lib.Utf8Tabs 0 1 w) (hn : n ≤ 1000000) (hl : l.all (· < 256) = true)
    (hC : ∀ j, j < n → C[j]? = some (.int .u8 (nth l j : Nat))) :
    Calls Tryd.prog 6 #[.slice (some ⟨w.heap.size, 0, none⟩) n n] (w.alloc (.cells C 5 fr)) fun e w' => ∃ v, e = .returned v ∧ w'.ownsRow (w.heap.size + 1) 28 3 v (Sg.all n (nth l)).length (sgCells (Sg.all n (nth l))) ∧ Below w.heap.size w w' := by
  have h := all_any n (nth l) (some ⟨w.heap.size, 0, none⟩) w.heap.size 0 n (w.alloc (.cells C 5 fr)) (Nat.le_refl _) hn (fun _ => rfl) (fun _ => by simp) (by simp; omega) (nth_lt hl) (tabs_alloc hT hz _)
    (fun j hj => by rw [Nat.zero_add, World.cell?_alloc_mark]; exact hC j hj)
  refine h.mono ?_
  rintro e w' ⟨v, rfl, ho, hb⟩
  exact ⟨v, rfl, by simpa using ho, ((Below.refl _ w).alloc (Nat.le_refl _) _).trans (hb.mono (by simp))⟩

set_option maxRecDepth 100000 in
set_option maxHeartbeats 2000000 in
theorem awake_any (w : World) (hz : 2 ≤ w.heap.size) (hT : Lib.Utf8Tabs 0 1 w) :
    Calls Tryd.prog 5 #[] w fun e w' => e = .returned (.bool true) ∧ Below w.heap.size w w' := by
  have kc := fun (w : World) (C : Array Value) (n c : Nat) => Lib.run_convert_bytes_const (P := Tryd.prog) w 22 5 C n c Tryd.underlying22 Tryd.underlying5
  have hTH : Hid (Lib.Utf8Tabs 0 1 w) := hT
  clear hT
  go_enter Tryd.func5, Tryd.ntmps5
  go_wp2_with fail
  refine (all_const [97, 195, 169] _ 3 _ w hz hTH.out (by omega) (by decide) (fun j hj => by
    match j, hj with
    | 0, _ => rfl
    | 1, _ => rfl
    | 2, _ => rfl)).mono ?_
  rintro e w1 ⟨v1, rfl, ho1, hb1⟩
  rw [all1] at ho1
  obtain ⟨g1, p1, hv1, hg1, hg1', hp1, hc1⟩ := row_form ho1 (by decide)
  have hT1 : Hid (Lib.Utf8Tabs 0 1 w1) := tabs_below hTH.out hz hb1
  have hz1 := hb1.size
  have hB1 : Hid (Below w.heap.size w w1) := hb1
  have d1 : w1.cell? ⟨g1, 3, none⟩ = some (.int .i32 233) := hc1 3 (by decide)
  have d2 : w1.cell? ⟨g1, 4, none⟩ = some (.int .i64 1) := hc1 4 (by decide)
  have d3 : w1.cell? ⟨g1, 5, none⟩ = some (.int .i64 2) := hc1 5 (by decide)
  have hp1' : 2 ≤ p1 := hp1
  clear ho1 hc1 hb1 hp1
  rw [hv1]
  clear hv1
  go_wp2_with fail
  refine (all_const [240, 159, 152, 65] _ 4 _ w1 (by omega) hT1.out (by omega) (by decide) (fun j hj => by
    match j, hj with
    | 0, _ => rfl
    | 1, _ => rfl
    | 2, _ => rfl
    | 3, _ => rfl)).mono ?_
  rintro e w2 ⟨v2, rfl, ho2, hb2⟩
  rw [all2] at ho2
  obtain ⟨g2, p2, hv2, hg2, hg2', hp2, hc2⟩ := row_form ho2 (by decide)
  have hT2 : Hid (Lib.Utf8Tabs 0 1 w2) := tabs_below hT1.out (by omega) hb2
  have hz2 := hb2.size
  have hB2 : Hid (Below w.heap.size w w2) := hB1.out.trans (hb2.mono hz1)
  have e1 : w2.cell? ⟨g1, 3, none⟩ = some (.int .i32 233) := (hb2.cell (p := ⟨g1, 3, none⟩) hg1').trans d1
  have e2 : w2.cell? ⟨g1, 4, none⟩ = some (.int .i64 1) := (hb2.cell (p := ⟨g1, 4, none⟩) hg1').trans d2
  have e3 : w2.cell? ⟨g1, 5, none⟩ = some (.int .i64 2) := (hb2.cell (p := ⟨g1, 5, none⟩) hg1').trans d3
  have k1 : w2.cell? ⟨g2, 0, none⟩ = some (.int .i32 65533) := hc2 0 (by decide)
  have k2 : w2.cell? ⟨g2, 1, none⟩ = some (.int .i64 0) := hc2 1 (by decide)
  have k3 : w2.cell? ⟨g2, 2, none⟩ = some (.int .i64 3) := hc2 2 (by decide)
  have hp2' : 2 ≤ p2 := hp2
  clear ho2 hc2 hb2 d1 d2 d3 hp2
  rw [hv2]
  clear hv2
  go_wp2_with fail
  refine (all_const [237, 160, 128] _ 3 _ w2 (by omega) hT2.out (by omega) (by decide) (fun j hj => by
    match j, hj with
    | 0, _ => rfl
    | 1, _ => rfl
    | 2, _ => rfl)).mono ?_
  rintro e w3 ⟨v3, rfl, ho3, hb3⟩
  rw [all3] at ho3
  obtain ⟨g3, p3, hv3, hg3, hg3', hp3, hc3⟩ := row_form ho3 (by decide)
  have hB3 : Hid (Below w.heap.size w w3) := hB2.out.trans (hb3.mono (by omega))
  have a1 : w3.cell? ⟨g1, 3, none⟩ = some (.int .i32 233) := (hb3.cell (p := ⟨g1, 3, none⟩) (show g1 < _ by omega)).trans e1
  have a2 : w3.cell? ⟨g1, 3 + 1, none⟩ = some (.int .i64 1) := (hb3.cell (p := ⟨g1, 4, none⟩) (show g1 < _ by omega)).trans e2
  have a3 : w3.cell? ⟨g1, 3 + 2, none⟩ = some (.int .i64 2) := (hb3.cell (p := ⟨g1, 5, none⟩) (show g1 < _ by omega)).trans e3
  have b1 : w3.cell? ⟨g2, 0, none⟩ = some (.int .i32 65533) := (hb3.cell (p := ⟨g2, 0, none⟩) hg2').trans k1
  have b2 : w3.cell? ⟨g2, 1, none⟩ = some (.int .i64 0) := (hb3.cell (p := ⟨g2, 1, none⟩) hg2').trans k2
  have b3 : w3.cell? ⟨g2, 2, none⟩ = some (.int .i64 3) := (hb3.cell (p := ⟨g2, 2, none⟩) hg2').trans k3
  clear ho3 hc3 hb3 e1 e2 e3 k1 k2 k3 hp3
  rw [hv3]
  clear hv3
  go_wp2
  go_ret
  exact ⟨rfl, hB3.out⟩
end Go.Proofs.YtaddjinjfdignabDoor
