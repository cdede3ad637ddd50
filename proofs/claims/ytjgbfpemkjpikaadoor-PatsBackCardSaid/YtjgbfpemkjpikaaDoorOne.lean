/-
  What scal.One returns at a place of the text: the sign that the plain functions tell, where unicode/utf8's two tables lie as Go lays them; it makes memory of its own, and turns nothing that was there. And what both Ones return of a place that isn't there: zeros.
-/
import Derived.Test.YtjgbfpemkjpikaaDoorRefOne
import Derived.Test.YtjgbfpemkjpikaaDoorDecode
namespace Go.Proofs.YtjgbfpemkjpikaaDoor
open Go.RowKit

theorem bcell {W w1 : World} (hb : Below W.heap.size W w1) : (∀ b o, b < W.heap.size → w1.cell? ⟨b, o, none⟩ = W.cell? ⟨b, o, none⟩) ∧ (∀ b o, b < W.heap.size → w1.frozen? ⟨b, o, none⟩ = W.frozen? ⟨b, o, none⟩) :=
  ⟨fun b o h => hb.cell (p := ⟨b, o, none⟩) h, fun b o h => hb.frozen (p := ⟨b, o, none⟩) h⟩
theorem tabs_alloc {w : World} (h : Lib.Utf8Tabs 0 1 w) (hz : 2 ≤ w.heap.size) (o : Obj) : Lib.Utf8Tabs 0 1 (w.alloc o) :=
  ⟨fun c hc => (World.cell?_alloc_past o 0 c (by omega)).trans (h.1 c hc), fun i hi => ⟨(World.cell?_alloc_past o 1 _ (by omega)).trans (h.2 i hi).1, (World.cell?_alloc_past o 1 _ (by omega)).trans (h.2 i hi).2⟩⟩

/-- DecodeRune of a whole sign. -/
theorem decode_whole (m : Nat) (y : Nat → Nat) (b off cap : Nat) (w : World) (hm : 0 < m) (hy : ∀ j, y j < 256) (hw : Sg.whole m y = true) (hT : Lib.Utf8Tabs 0 1 w)
    (hc : ∀ j, j < m → w.cell? ⟨b, off + j, none⟩ = some (.int .u8 (y j : Nat))) :
    Calls Tryd.prog 29 #[.slice (some ⟨b, off, none⟩) m cap] w fun e w' => e = .returned (.tuple #[.int .i32 (Sg.num m y : Nat), .int .i64 (Sg.cnt m y : Nat)]) ∧ Below w.heap.size w w' := by
  have h := Tryd.utf8_DecodeRune (Sg.arr m y) b off cap w hT (fun j hj => by rw [Sg.arr_size] at hj; rw [Sg.arr_get m y hy j hj]; exact hc j hj)
  rw [Sg.arr_size, Sg.decode_arr m y hm hy, hw] at h
  have e : Sg.num m y = Sg.val y (Sg.cnt m y) := by unfold Sg.num; rw [hw]; rfl
  rw [e]
  exact h

set_option maxRecDepth 100000 in
set_option maxHeartbeats 2000000 in
theorem one_in (n : Nat) (x : Nat → Nat) (b off cap k : Nat) (w : World) (hk : k < n) (hcap : n ≤ cap)
    (hb : b < w.heap.size) (hz : 2 ≤ w.heap.size) (hx : ∀ j, x j < 256) (hT : Lib.Utf8Tabs 0 1 w)
    (hc : ∀ j, j < n → w.cell? ⟨b, off + j, none⟩ = some (.int .u8 (x j : Nat))) :
    Calls Tryd.prog 22 #[.slice (some ⟨b, off, none⟩) n cap, .int .i64 k] w fun e w' => e = .returned (.agg #[.int .i32 (Sg.num (n - k) (fun j => x (k + j)) : Nat), .int .i64 k, .int .i64 (Sg.cnt (n - k) (fun j => x (k + j)) : Nat)]) ∧ Below w.heap.size w w' := by
  have hcH : Hid (∀ o j, j < n → (w.alloc o).cell? ⟨b, off + j, none⟩ = some (.int .u8 (x j : Nat))) := fun o j hj => (World.cell?_alloc_past o b _ hb).trans (hc j hj)
  clear hc
  have hTH : Hid (∀ o, Lib.Utf8Tabs 0 1 (w.alloc o)) := fun o => tabs_alloc hT hz o
  clear hT
  have hxH : Hid (∀ j, x j < 256) := hx
  clear hx
  have g1 : decide ((k : Int) < 0) = false := decide_eq_false (by omega)
  have g2 : decide (n ≤ k) = false := decide_eq_false (by omega)
  cases hwh : Sg.whole (n - k) (fun j => x (k + j)) with
  | false =>
    have hbad : Hid (Sg.num (n - k) (fun j => x (k + j)) = 65533) := (by unfold Sg.num; rw [hwh]; rfl : Sg.num (n - k) (fun j => x (k + j)) = 65533)
    go_enter Tryd.func22, Tryd.ntmps22
    go_wp2_with (go_at_call 28; refine (begun_any (n - k) (fun j => x (k + j)) b (off + k) _ _ (by omega) (fun j hj => by rw [Nat.add_assoc]; exact hcH.out _ _ (by omega))).mono ?_; rintro e w' ⟨rfl, rfl⟩)
    exact bodyPost_ret (v := .agg #[.int .i32 65533, .int .i64 k, .int .i64 (Sg.cnt (n - k) (fun j => x (k + j)) : Nat)]) (by simp [results, Tryd.results22, go_sem]) rfl ⟨agg3 (by rw [hbad.out]; rfl) rfl rfl, (Below.refl _ _).alloc (Nat.le_refl _) _⟩
  | true =>
    have hwH : Hid (Sg.whole (n - k) (fun j => x (k + j)) = true) := hwh
    go_enter Tryd.func22, Tryd.ntmps22
    go_wp2_with (go_at_call 28; refine (begun_any (n - k) (fun j => x (k + j)) b (off + k) _ _ (by omega) (fun j hj => by rw [Nat.add_assoc]; exact hcH.out _ _ (by omega))).mono ?_; rintro e w' ⟨rfl, rfl⟩)
    refine (decode_whole (n - k) (fun j => x (k + j)) b (off + k) _ _ (by omega) (fun j => hxH.out _) hwH.out (hTH.out _) (fun j hj => by rw [Nat.add_assoc]; exact hcH.out _ _ (by omega))).mono ?_
    rintro e w1 ⟨rfl, hb1⟩
    have c0 : w1.cell? ⟨w.heap.size, 0, none⟩ = some (.int .i32 0) := (hb1.cell (p := ⟨w.heap.size, 0, none⟩) (by simp)).trans (by simp)
    have c1 : w1.cell? ⟨w.heap.size, 1, none⟩ = some (.int .i64 0) := (hb1.cell (p := ⟨w.heap.size, 1, none⟩) (by simp)).trans (by simp)
    have c2 : w1.cell? ⟨w.heap.size, 2, none⟩ = some (.int .i64 0) := (hb1.cell (p := ⟨w.heap.size, 2, none⟩) (by simp)).trans (by simp)
    have f0 : ∀ j, w1.frozen? ⟨w.heap.size, j, none⟩ = false := fun j => (hb1.frozen (p := ⟨w.heap.size, j, none⟩) (by simp)).trans (by simp)
    have hz1 : w.heap.size < w1.heap.size := by have := hb1.size; simp at this; omega
    have hB1 : Hid (Below w.heap.size w w1) := ((Below.refl _ w).alloc (Nat.le_refl _) _).trans (hb1.mono (by simp))
    clear hb1
    go_wp2
    exact bodyPost_ret (v := .agg #[.int .i32 (Sg.num (n - k) (fun j => x (k + j)) : Nat), .int .i64 k, .int .i64 (Sg.cnt (n - k) (fun j => x (k + j)) : Nat)]) (by simp [results, Tryd.results22, go_sem, c0, c1, c2]) rfl ⟨rfl, ((hB1.out.setCell (Nat.le_refl _) _).setCell (Nat.le_refl _) _).setCell (Nat.le_refl _) _⟩

set_option maxRecDepth 100000 in
set_option maxHeartbeats 400000 in
theorem one_out (a : Option Addr) (n cap : Nat) (k : Int) (w : World) (hk : k < 0 ∨ n ≤ k) :
    Calls Tryd.prog 22 #[.slice a n cap, .int .i64 k] w fun e w' => e = .returned (.agg #[.int .i32 0, .int .i64 0, .int .i64 0]) ∧ Below w.heap.size w w' := by
  by_cases h : k < 0
  · go_enter Tryd.func22, Tryd.ntmps22
    go_wp2
    exact bodyPost_ret (v := .agg #[.int .i32 0, .int .i64 0, .int .i64 0]) (by simp [results, Tryd.results22, go_sem]) rfl ⟨rfl, (Below.refl _ _).alloc (Nat.le_refl _) _⟩
  · have h' : (n : Int) ≤ k := by omega
    clear hk
    go_enter Tryd.func22, Tryd.ntmps22
    go_wp2
    exact bodyPost_ret (v := .agg #[.int .i32 0, .int .i64 0, .int .i64 0]) (by simp [results, Tryd.results22, go_sem]) rfl ⟨rfl, (Below.refl _ _).alloc (Nat.le_refl _) _⟩
set_option maxRecDepth 100000 in
set_option maxHeartbeats 400000 in
theorem refOne_out (a : Option Addr) (n cap : Nat) (k : Int) (w : World) (hk : k < 0 ∨ n ≤ k) :
    Calls Tryd.prog 27 #[.slice a n cap, .int .i64 k] w fun e w' => e = .returned (.agg #[.int .i32 0, .int .i64 0, .int .i64 0]) ∧ Below w.heap.size w w' := by
  by_cases h : k < 0
  · go_enter Tryd.func27, Tryd.ntmps27
    go_wp2
    exact bodyPost_ret (v := .agg #[.int .i32 0, .int .i64 0, .int .i64 0]) (by simp [results, Tryd.results27, go_sem]) rfl ⟨rfl, (Below.refl _ _).alloc (Nat.le_refl _) _⟩
  · have h' : (n : Int) ≤ k := by omega
    clear hk
    go_enter Tryd.func27, Tryd.ntmps27
    go_wp2
    exact bodyPost_ret (v := .agg #[.int .i32 0, .int .i64 0, .int .i64 0]) (by simp [results, Tryd.results27, go_sem]) rfl ⟨rfl, (Below.refl _ _).alloc (Nat.le_refl _) _⟩
end Go.Proofs.YtjgbfpemkjpikaaDoor
