/-
  The laws' own Awake returns true; nothing that was there turns.
-/
import Derived.Test.YtagkdboobfkmmaaLists
namespace Go.Proofs.Ytagkdboobfkmmaa
open Go.RowKit Go.Maps
set_option linter.unusedVariables false
set_option linter.unusedSimpArgs false

def L0 : List Rg := [⟨48, 57, 1⟩, ⟨65, 90, 2⟩]
theorem blk_nil (i : Nat) : Pr.blk [] i = Pr.zeros := rfl
theorem bs_nil : Pr.Bs [] [] := ⟨List.nodup_nil, fun x => ⟨fun h => absurd h List.not_mem_nil, fun ⟨h, i, _, e⟩ => absurd (e.trans (blk_nil i)) h⟩⟩
theorem L0_far {i : Nat} (h : 0 < i) : Pr.blk L0 i = Pr.zeros := by
  apply List.map_congr_left
  intro j _
  exact Pr.of_below (fun x hx => by
    simp [L0] at hx
    rcases hx with rfl | rfl <;> simp <;> omega)
theorem L0_near : Pr.blk L0 0 ≠ Pr.zeros := by
  intro h
  have h1 := Pr.blk_at L0 0 53 (by omega)
  rw [h] at h1
  unfold Pr.zeros at h1
  rw [List.getElem?_map, List.getElem?_range (by omega)] at h1
  have : (0 : Int) = Pr.of L0 (256 * (0 : Nat) + (53 : Nat)) := by injection h1
  revert this
  decide
theorem bs_L0 : Pr.Bs L0 [Pr.blk L0 0] := by
  refine ⟨by simp, fun x => ?_⟩
  rw [List.mem_singleton]
  constructor
  · rintro rfl
    exact ⟨L0_near, 0, by omega, rfl⟩
  · rintro ⟨h, i, hi, e⟩
    rcases Nat.eq_zero_or_pos i with h0 | h0
    · rw [e, h0]
    · exact absurd (e.trans (L0_far h0)) h
theorem sees_nil (w : World) : Sees w [] none 0 0 0 := ⟨Nat.le_refl _, fun h => absurd h (Nat.lt_irrefl _), fun h => absurd h (Nat.lt_irrefl _), fun j x hj => by simp at hj, fun j x hj => by simp at hj, fun j x hj => by simp at hj⟩
theorem sees_row {w : World} {g : Nat} {L : List Rg} {cap : Nat} (h : w.heap[g]? = some (.cells (rgCells L).toArray 33 (0, 0))) (hc : L.length ≤ cap) : Sees w L (some ⟨g, 0, none⟩) g 0 cap := by
  refine ⟨hc, fun _ => rfl, fun _ => (Array.getElem?_eq_some_iff.1 h).1, fun j x hj => ?_, fun j x hj => ?_, fun j x hj => ?_⟩
  · rw [Nat.zero_add, cell_of_row _ _ _ _ _ _ h]; simpa using (rgCells_at L j x hj).1
  · rw [Nat.zero_add, cell_of_row _ _ _ _ _ _ h]; simpa using (rgCells_at L j x hj).2.1
  · rw [Nat.zero_add, cell_of_row _ _ _ _ _ _ h]; simpa using (rgCells_at L j x hj).2.2
/-- where the ranges are right the table is made. -/
theorem make_ok (L : List Rg) (most : Int) (a : Option Addr) (b off cap : Nat) (w : World) (hS : Sees w L a b off cap) (hn : L.length ≤ 1000000) (hok : Pr.ok most L = true) :
    Calls Try.prog 11 #[.slice a L.length cap, .int .i64 most] w fun e w' => ∃ T, e = .returned (.tuple #[.pointer (some ⟨T, 0, none⟩), .int .i64 0]) ∧ Tab w' w.heap.size T L ∧ Below w.heap.size w w' := by
  refine (make_any L most a b off cap w hS hn).mono ?_
  rintro e w' ⟨hb, ⟨h, _⟩ | ⟨_, T, he, hT⟩⟩
  · rw [hok] at h; cases h
  · exact ⟨T, he, hT, hb⟩
theorem make_no (L : List Rg) (most : Int) (a : Option Addr) (b off cap : Nat) (w : World) (hS : Sees w L a b off cap) (hn : L.length ≤ 1000000) (hok : Pr.ok most L = false) :
    Calls Try.prog 11 #[.slice a L.length cap, .int .i64 most] w fun e w' => e = .returned (.tuple #[.pointer none, .int .i64 10]) ∧ Below w.heap.size w w' := by
  refine (make_any L most a b off cap w hS hn).mono ?_
  rintro e w' ⟨hb, ⟨_, h⟩ | ⟨h, _⟩⟩
  · exact ⟨h, hb⟩
  · rw [hok] at h; cases h
theorem ok_from {most : Int} {L : List Rg} (h : Pr.ok most L = true) : Pr.okFrom most (-1) L = true := by unfold Pr.ok at h; rw [Bool.and_eq_true] at h; exact h.2
theorem ok_len {most : Int} {L : List Rg} (h : Pr.ok most L = true) : L.length ≤ 256 := by unfold Pr.ok at h; rw [Bool.and_eq_true, decide_eq_true_eq] at h; exact h.1

set_option maxRecDepth 100000 in
set_option maxHeartbeats 2000000 in
theorem awake_any (w : World) : Calls Try.prog 9 #[] w fun e w' => e = .returned (.bool true) ∧ Below w.heap.size w w' := by
  have hm1 : Calls Try.prog 11 #[.slice (some ⟨w.heap.size, 0, none⟩) 2 2, .int .i64 3] (w.alloc (.cells #[.int .i32 48, .int .i32 57, .int .i64 1, .int .i32 65, .int .i32 90, .int .i64 2] 33)) fun e w' => ∃ T, e = .returned (.tuple #[.pointer (some ⟨T, 0, none⟩), .int .i64 0]) ∧ Tab w' (w.alloc (.cells #[.int .i32 48, .int .i32 57, .int .i64 1, .int .i32 65, .int .i32 90, .int .i64 2] 33)).heap.size T L0 ∧ Below (w.alloc (.cells #[.int .i32 48, .int .i32 57, .int .i64 1, .int .i32 65, .int .i32 90, .int .i64 2] 33)).heap.size (w.alloc (.cells #[.int .i32 48, .int .i32 57, .int .i64 1, .int .i32 65, .int .i32 90, .int .i64 2] 33)) w' := make_ok L0 3 (some ⟨w.heap.size, 0, none⟩) w.heap.size 0 2 (w.alloc (.cells (rgCells L0).toArray 33)) (sees_row (heap_alloc_new _ _) (by decide)) (by decide) (by decide)
  go_enter Try.func9, Try.ntmps9
  go_wp2_with fail
  refine hm1.mono ?_
  rintro e w1 ⟨T, rfl, hT, hb1⟩
  go_wp2_with fail
  refine (make_ok [] 1 none 0 0 0 w1 (sees_nil _) (by decide) (by decide)).mono ?_
  rintro e w2 ⟨U, rfl, hU, hb2⟩
  have hT2 := hT.kept hb2
  have h1 : Calls Try.prog 14 #[.pointer (some ⟨T, 0, none⟩), .int .i32 53] w2 fun e w' => e = .returned (.int .i64 1) ∧ w' = w2 := of_any 3 L0 53 _ T w2 hT2 (by decide) (by omega) (by omega)
  have h2 : Calls Try.prog 14 #[.pointer (some ⟨T, 0, none⟩), .int .i32 64] w2 fun e w' => e = .returned (.int .i64 0) ∧ w' = w2 := of_any 3 L0 64 _ T w2 hT2 (by decide) (by omega) (by omega)
  have h3 : Calls Try.prog 14 #[.pointer (some ⟨T, 0, none⟩), .int .i32 65] w2 fun e w' => e = .returned (.int .i64 2) ∧ w' = w2 := of_any 3 L0 65 _ T w2 hT2 (by decide) (by omega) (by omega)
  have h4 : Calls Try.prog 19 #[.pointer (some ⟨T, 0, none⟩)] w2 fun e w' => e = .returned (.int .i64 2) ∧ w' = w2 := (blocks_any L0 _ T w2 hT2).mono (by
    rintro e w' ⟨B, hB, rfl, _, rfl⟩
    rw [Pr.bs_length hB bs_L0 (fun _ _ => rfl)]
    exact ⟨rfl, rfl⟩)
  have h5 : Calls Try.prog 19 #[.pointer (some ⟨U, 0, none⟩)] w2 fun e w' => e = .returned (.int .i64 1) ∧ w' = w2 := (blocks_any [] _ U w2 hU).mono (by
    rintro e w' ⟨B, hB, rfl, _, rfl⟩
    rw [Pr.bs_length hB bs_nil (fun _ _ => rfl)]
    exact ⟨rfl, rfl⟩)
  have hB : Hid (Below w.heap.size w w2) := ((((Below.refl _ _).alloc (Nat.le_refl _) _).trans (hb1.mono (by simp))).trans (hb2.mono (by have := hb1.size; simp at this; omega)))
  clear hT hU hb1 hb2 hT2 hm1
  go_wp2_with fail
  refine h1.mono ?_
  rintro e w' ⟨rfl, rfl⟩
  go_wp2_with fail
  refine h2.mono ?_
  rintro e w' ⟨rfl, rfl⟩
  go_wp2_with fail
  refine h3.mono ?_
  rintro e w' ⟨rfl, rfl⟩
  go_wp2_with fail
  refine h4.mono ?_
  rintro e w' ⟨rfl, rfl⟩
  go_wp2_with fail
  refine h5.mono ?_
  rintro e w' ⟨rfl, rfl⟩
  go_wp2
  go_ret
  exact ⟨rfl, hB.out⟩
end Go.Proofs.Ytagkdboobfkmmaa
