/-
  stanzalaw02.PropLimits returns true at every two bytes; no condition.
-/
import Derived.Test.YtagkdboobfkmmaaRows
import Derived.Test.YtagkdboobfkmmaaRight
namespace Go.Proofs.Ytagkdboobfkmmaa.propLimits
open Go.ChangeShapes Go.WideShapes Go.ChangeAt Go.RowKit
set_option linter.unusedVariables false
set_option linter.unusedSimpArgs false

theorem sees_drew {w : World} {L : List Rg} {a : Option Addr} {b off cap : Nat} (h : Sees w L a b off cap) : Sees w.drew L a b off cap := ⟨h.cap, h.adr, h.blk, h.c0, h.c1, h.c2⟩
theorem tab_drew {w : World} {base T : Nat} {L : List Rg} (h : Tab w base T L) : Tab w.drew base T L := h
theorem lit_row (w : World) (x : Rg) : (w.alloc (.cells #[.int .i32 x.lo, .int .i32 x.hi, .int .i64 x.to] 33)).ownsRow w.heap.size 33 3 (.slice (some ⟨w.heap.size, 0, none⟩) 1 1) 1 (rgCells [x]) :=
  ⟨rfl, Or.inr ⟨w.heap.size, 1, _, rfl, Nat.le_refl _, heap_alloc_new _ _, Nat.le_refl _, by unfold maxLen; omega, rfl, rfl⟩⟩
/-- every second number. -/
def evens (k : Nat) : List Rg := (List.range k).map fun i : Nat => ⟨2 * i, 2 * i, 1⟩
theorem evens_succ (k : Nat) : evens (k + 1) = evens k ++ [⟨2 * k, 2 * k, 1⟩] := by
  unfold evens
  rw [List.range_succ, List.map_append]
  rfl
theorem evens_len (k : Nat) : (evens k).length = k := by simp [evens]
theorem evens_ok : ∀ k, k ≤ 1000 → Pr.okFrom 300 (-1) (evens k) = true ∧ lastHi (-1) (evens k) ≤ 2 * (k : Int) - 1
  | 0, _ => ⟨rfl, by show (-1 : Int) ≤ _; omega⟩
  | k + 1, h => by
    obtain ⟨h1, h2⟩ := evens_ok k (by omega)
    rw [evens_succ]
    refine ⟨ok_snoc h1 ⟨by show lastHi (-1) (evens k) < 2 * (k : Int); omega, Int.le_refl _, by show 2 * (k : Int) ≤ 1114111; omega, by show (0 : Int) ≤ 1; omega, by show (1 : Int) < 300; omega, by show (1 : Int) ≤ 255; omega⟩, ?_⟩
    rw [lastHi_snoc]
    show 2 * (k : Int) ≤ _
    omega
theorem evens_first (k : Nat) (h : 0 < k) : ∃ M, evens k = ⟨0, 0, 1⟩ :: M := by
  cases k with
  | zero => omega
  | succ k =>
    unfold evens
    rw [List.range_succ_eq_map, List.map_cons]
    exact ⟨_, rfl⟩
theorem wf_u8 {a : Int} (h : (Lit.int .u8 a).wf = true) : 0 ≤ a ∧ a ≤ 255 := by
  have e1 : IntKind.min .u8 = 0 := by decide
  have e2 : IntKind.max .u8 = 255 := by decide
  simp only [Lit.wf, e1, e2, Bool.and_eq_true, decide_eq_true_eq] at h
  exact h
theorem news2 (w1 : World) (x : Int) : ∀ j u, [Value.int .i32 x, Value.int .i32 9, Value.int .i64 2][j]? = some u → ((w1.alloc (.cells #[.int .i32 5, .int .i32 5, .int .i64 1] 33)).alloc (.cells #[.int .i32 x, .int .i32 9, .int .i64 2] 33)).cell? ((⟨w1.heap.size + 1, 0, none⟩ : Addr).add j) = some u := by
  intro j u hj
  rw [Addr.add_mid, Nat.zero_add, cell_of_row _ _ _ _ _ _ (heap_alloc2_new _ _ _)]
  simpa using hj

set_option maxRecDepth 100000 in
set_option maxHeartbeats 4000000 in
theorem case00 (a0 a1 : Int) (hw0 : 0 ≤ a0) (hw1 : a0 ≤ 255) (ho0 : 0 ≤ a1) (ho1 : a1 ≤ 255) (c1 : a0 % 5 = 0) (c2 : a0.tmod 5 = 0) (m1 : a1 % 2 = 0) (m2 : a1.tmod 2 = 0) (w : World) :
    Calls Try.prog 8 #[.int .u8 a0, .int .u8 a1] w fun e w' => e = .returned (.bool true) ∧ Below w.heap.size w w' := by
  obtain ⟨i0, hi, hz0, hz1, hz2⟩ := info_parts info33
  go_enter Try.func8, Try.ntmps8
  go_wp2_with (go_at_call 9; refine (awake_any _).mono ?_; rintro e w1 ⟨rfl, hb1⟩)
  obtain ⟨W0, hW0⟩ : ∃ W0, W0 = w1.alloc (.cells #[.int .i32 5, .int .i32 5, .int .i64 1] 33) := ⟨_, rfl⟩
  have hBW0 : Hid (Below w.heap.size w W0) := (by rw [hW0]; exact hb1.alloc hb1.size _ : Below w.heap.size w W0)
  rw [← hW0]
  clear hW0 hb1 c1 c2 m1 m2
  go_loopw [6, 31] (fun v i wr => ∃ (k : Nat) (vv : Value), vv = v ∧ k ≤ 256 ∧ i = .int .i64 k ∧ wr.ownsRow W0.heap.size 33 3 v k (rgCells (evens k)) ∧ Below W0.heap.size W0 wr) (fun _ i _ => 256 - (intOf i).toNat)
  case atStart => exact ⟨0, _, rfl, Nat.zero_le _, rfl, World.ownsRow_nil _ _ _ _, Below.refl _ _⟩
  case round =>
    obtain ⟨k, v, rfl, hk, rfl, hown, hbel⟩ := hrel
    by_cases hlt : k < 256
    · have hltI : (k : Int) < 256 := by omega
      have hsz := hbel.size
      have hOH : Hid (wr.ownsRow W0.heap.size 33 3 v k (rgCells (evens k))) := hown
      have hBH : Hid (Below W0.heap.size W0 wr) := hbel
      clear hown hbel
      go_wp2_with (at_builtin; refine wpList_append_own _ rfl _ _ 22 rfl W0.heap.size 33 i0 (.agg #[.int .i32 0, .int .i32 0, .int .i64 0]) 3 16 Try.underlying22 hi hz0 hz1 hz2 rfl (by decide) _ _ _ rfl (hOH.out.alloc _) ⟨wr.heap.size, 0, none⟩ 1 1 [.int .i32 (2 * (k : Int)), .int .i32 (2 * (k : Int)), .int .i64 1] rfl rfl (one_news _ _ _ _) (one_cells _ _ _) (by unfold maxLen; omega) (by omega) (by simp; omega) ?_; intro v' w5 hown5 hg5 _)
      have hB5 : Hid (Below W0.heap.size W0 w5) := (hBH.out.alloc hsz _).grown hg5 (by simp; omega) (fun g e => (hOH.out.lt g e).1)
      have hO5 : Hid (w5.ownsRow W0.heap.size 33 3 v' (k + 1) (rgCells (evens (k + 1)))) := (by rw [evens_succ, rgCells_append]; exact hown5 : w5.ownsRow W0.heap.size 33 3 v' (k + 1) (rgCells (evens (k + 1))))
      clear hown5 hg5
      go_wp2
      go_roundw
      case rel => exact ⟨k + 1, v', rfl, by omega, by go_num, hO5.out, hB5.out⟩
      case measure => simp [intOf]; omega
    · have hkn : k = 256 := by omega
      subst hkn
      have hown2' : wr.ownsRow W0.heap.size 33 3 v (evens 256).length (rgCells (evens 256)) := by rw [evens_len]; exact hown
      obtain ⟨a2, g2, cap2, rfl, hS2, hg2b, _⟩ := row_sees hown2'
      have hl : (evens 256).length ≤ 1000000 := by rw [evens_len]; omega
      have hSW : Hid (Sees wr (evens 256) a2 g2 0 cap2) := hS2
      have hBW : Hid (Below w.heap.size w wr) := hBW0.out.trans (hbel.mono hBW0.out.size)
      obtain rfl : a2 = some ⟨g2, 0, none⟩ := hS2.adr (by rw [evens_len]; omega)
      have hok : Hid (Pr.ok 300 (evens 256) = true) := (by unfold Pr.ok; rw [evens_len, (evens_ok 256 (by omega)).1]; rfl : Pr.ok 300 (evens 256) = true)
      clear hown hown2' hbel hS2
      rw [evens_len]
      go_wp2_with fail
      have hm := make_ok (evens 256) 300 (some ⟨g2, 0, none⟩) g2 0 cap2 wr hSW.out hl hok.out
      rw [evens_len] at hm
      refine hm.mono ?_
      rintro e w3 ⟨T, rfl, hT, hb3⟩
      have hS3 := hSW.out.kept hb3
      have hck := check_any (evens 256) 300 (some ⟨g2, 0, none⟩) g2 0 cap2 w3.drew (sees_drew hS3) hl
      rw [hok.out] at hck
      rw [evens_len] at hck
      have hB3 : Hid (Below w.heap.size w w3) := hBW.out.trans (hb3.mono hBW.out.size)
      have hTH : Hid (Tab w3.drew _ T (evens 256)) := tab_drew hT
      have hfirst : Hid ((evens 256)[0]? = some ⟨0, 0, 1⟩) := (by obtain ⟨M, hM⟩ := evens_first 256 (by omega); rw [hM]; rfl : (evens 256)[0]? = some ⟨0, 0, 1⟩)
      have hofv : Hid (∀ {base : Nat} (w4 : World), Tab w4 base T (evens 256) → Calls Try.prog 14 #[.pointer (some ⟨T, 0, none⟩), .int .i32 0] w4 (fun e w' => e = .returned (.int .i64 1) ∧ w' = w4)) := fun {base} w4 h4 => (of_any 300 (evens 256) 0 _ T w4 h4 (evens_ok 256 (by omega)).1 (by omega) (by omega)).mono (by
        rintro e w' ⟨rfl, rfl⟩
        obtain ⟨M, hM⟩ := evens_first 256 (by omega)
        rw [hM]
        exact ⟨rfl, rfl⟩)
      have k0 : w3.cell? ⟨g2, 0, none⟩ = some (.int .i32 0) := hS3.c0 0 ⟨0, 0, 1⟩ hfirst.out
      have k2 : w3.cell? ⟨g2, 2, none⟩ = some (.int .i64 1) := hS3.c2 0 ⟨0, 0, 1⟩ hfirst.out
      have hgl : Hid (g2 < w3.heap.size) := hS3.blk (by rw [evens_len]; omega)
      clear hm hb3 hT
      go_wp2_with fail
      go_region_held (fun w' => w'.cell? ⟨g2, 0, none⟩ = some (.int .i32 0) ∧ w'.cell? ⟨g2, 2, none⟩ = some (.int .i64 1)) ((first | exact ⟨k0, k2⟩ | exact ⟨j0.out, j2.out⟩)) ((first | (go_at_call 12; refine hck.mono ?_; rintro e w4 ⟨rfl, hb4⟩; have j0 : Hid (w4.cell? ⟨g2, 0, none⟩ = some (.int .i32 0)) := (hb4.cell (p := ⟨g2, 0, none⟩) hgl.out).trans k0; have j2 : Hid (w4.cell? ⟨g2, 2, none⟩ = some (.int .i64 1)) := (hb4.cell (p := ⟨g2, 2, none⟩) hgl.out).trans k2; have hB4 : Hid (Below w.heap.size w w4) := hB3.out.drew.trans (hb4.mono hB3.out.size); have hof : Calls Try.prog 14 #[.pointer (some ⟨T, 0, none⟩), .int .i32 0] w4 (fun e w' => e = .returned (.int .i64 1) ∧ w' = w4) := hofv.out w4 (hTH.out.kept hb4)) | (go_at_call 14; refine hof.mono ?_; rintro e w5 ⟨rfl, rfl⟩)))
      go_wp2
      go_ret
      exact ⟨rfl, hB4.out⟩

set_option maxRecDepth 100000 in
set_option maxHeartbeats 4000000 in
theorem case01 (a0 a1 : Int) (hw0 : 0 ≤ a0) (hw1 : a0 ≤ 255) (ho0 : 0 ≤ a1) (ho1 : a1 ≤ 255) (c1 : a0 % 5 = 0) (c2 : a0.tmod 5 = 0) (m1 : a1 % 2 = 1) (m2 : a1.tmod 2 = 1) (w : World) :
    Calls Try.prog 8 #[.int .u8 a0, .int .u8 a1] w fun e w' => e = .returned (.bool true) ∧ Below w.heap.size w w' := by
  obtain ⟨i0, hi, hz0, hz1, hz2⟩ := info_parts info33
  go_enter Try.func8, Try.ntmps8
  go_wp2_with (go_at_call 9; refine (awake_any _).mono ?_; rintro e w1 ⟨rfl, hb1⟩)
  obtain ⟨W0, hW0⟩ : ∃ W0, W0 = w1.alloc (.cells #[.int .i32 5, .int .i32 5, .int .i64 1] 33) := ⟨_, rfl⟩
  have hBW0 : Hid (Below w.heap.size w W0) := (by rw [hW0]; exact hb1.alloc hb1.size _ : Below w.heap.size w W0)
  rw [← hW0]
  clear hW0 hb1 c1 c2 m1 m2
  go_loopw [6, 31] (fun v i wr => ∃ (k : Nat) (vv : Value), vv = v ∧ k ≤ 257 ∧ i = .int .i64 k ∧ wr.ownsRow W0.heap.size 33 3 v k (rgCells (evens k)) ∧ Below W0.heap.size W0 wr) (fun _ i _ => 257 - (intOf i).toNat)
  case atStart => exact ⟨0, _, rfl, Nat.zero_le _, rfl, World.ownsRow_nil _ _ _ _, Below.refl _ _⟩
  case round =>
    obtain ⟨k, v, rfl, hk, rfl, hown, hbel⟩ := hrel
    by_cases hlt : k < 257
    · have hltI : (k : Int) < 257 := by omega
      have hsz := hbel.size
      have hOH : Hid (wr.ownsRow W0.heap.size 33 3 v k (rgCells (evens k))) := hown
      have hBH : Hid (Below W0.heap.size W0 wr) := hbel
      clear hown hbel
      go_wp2_with (at_builtin; refine wpList_append_own _ rfl _ _ 22 rfl W0.heap.size 33 i0 (.agg #[.int .i32 0, .int .i32 0, .int .i64 0]) 3 16 Try.underlying22 hi hz0 hz1 hz2 rfl (by decide) _ _ _ rfl (hOH.out.alloc _) ⟨wr.heap.size, 0, none⟩ 1 1 [.int .i32 (2 * (k : Int)), .int .i32 (2 * (k : Int)), .int .i64 1] rfl rfl (one_news _ _ _ _) (one_cells _ _ _) (by unfold maxLen; omega) (by omega) (by simp; omega) ?_; intro v' w5 hown5 hg5 _)
      have hB5 : Hid (Below W0.heap.size W0 w5) := (hBH.out.alloc hsz _).grown hg5 (by simp; omega) (fun g e => (hOH.out.lt g e).1)
      have hO5 : Hid (w5.ownsRow W0.heap.size 33 3 v' (k + 1) (rgCells (evens (k + 1)))) := (by rw [evens_succ, rgCells_append]; exact hown5 : w5.ownsRow W0.heap.size 33 3 v' (k + 1) (rgCells (evens (k + 1))))
      clear hown5 hg5
      go_wp2
      go_roundw
      case rel => exact ⟨k + 1, v', rfl, by omega, by go_num, hO5.out, hB5.out⟩
      case measure => simp [intOf]; omega
    · have hkn : k = 257 := by omega
      subst hkn
      have hown2' : wr.ownsRow W0.heap.size 33 3 v (evens 257).length (rgCells (evens 257)) := by rw [evens_len]; exact hown
      obtain ⟨a2, g2, cap2, rfl, hS2, hg2b, _⟩ := row_sees hown2'
      have hl : (evens 257).length ≤ 1000000 := by rw [evens_len]; omega
      have hSW : Hid (Sees wr (evens 257) a2 g2 0 cap2) := hS2
      have hBW : Hid (Below w.heap.size w wr) := hBW0.out.trans (hbel.mono hBW0.out.size)
      obtain rfl : a2 = some ⟨g2, 0, none⟩ := hS2.adr (by rw [evens_len]; omega)
      have hok : Hid (Pr.ok 300 (evens 257) = false) := (by unfold Pr.ok; rw [evens_len]; rfl : Pr.ok 300 (evens 257) = false)
      clear hown hown2' hbel hS2
      rw [evens_len]
      go_wp2_with fail
      have hm := make_no (evens 257) 300 (some ⟨g2, 0, none⟩) g2 0 cap2 wr hSW.out hl hok.out
      rw [evens_len] at hm
      refine hm.mono ?_
      rintro e w3 ⟨rfl, hb3⟩
      have hck := check_any (evens 257) 300 (some ⟨g2, 0, none⟩) g2 0 cap2 w3 (hSW.out.kept hb3) hl
      rw [hok.out] at hck
      rw [evens_len] at hck
      have hB3 : Hid (Below w.heap.size w w3) := hBW.out.trans (hb3.mono hBW.out.size)
      clear hm hb3
      go_wp2_with (go_at_call 12; refine hck.mono ?_; rintro e w4 ⟨rfl, hb4⟩)
      go_ret
      exact ⟨rfl, hB3.out.trans (hb4.mono hB3.out.size)⟩

set_option maxRecDepth 100000 in
set_option maxHeartbeats 4000000 in
theorem case10 (a0 a1 : Int) (hw0 : 0 ≤ a0) (hw1 : a0 ≤ 255) (ho0 : 0 ≤ a1) (ho1 : a1 ≤ 255) (c1 : a0 % 5 = 1) (c2 : a0.tmod 5 = 1) (m1 : a1 % 2 = 0) (m2 : a1.tmod 2 = 0) (w : World) :
    Calls Try.prog 8 #[.int .u8 a0, .int .u8 a1] w fun e w' => e = .returned (.bool true) ∧ Below w.heap.size w w' := by
  go_enter Try.func8, Try.ntmps8
  go_wp2_with (go_at_call 9; refine (awake_any _).mono ?_; rintro e w1 ⟨rfl, hb1⟩)
  have hl : [(⟨5, 1114111, 1⟩ : Rg)].length ≤ 1000000 := by decide
  have hSW : Hid (Sees (w1.alloc (.cells #[.int .i32 5, .int .i32 1114111, .int .i64 1] 33)) [(⟨5, 1114111, 1⟩ : Rg)] (some ⟨w1.heap.size, 0, none⟩) w1.heap.size 0 1) := sees_row (L := [(⟨5, 1114111, 1⟩ : Rg)]) (heap_alloc_new w1 _) (by decide)
  have hBW : Hid (Below w.heap.size w (w1.alloc (.cells #[.int .i32 5, .int .i32 1114111, .int .i64 1] 33))) := hb1.alloc hb1.size _
  clear hb1 c1 c2 m1 m2
  have hm := make_ok ([(⟨5, 1114111, 1⟩ : Rg)]) 300 (some ⟨w1.heap.size, 0, none⟩) w1.heap.size 0 1 (w1.alloc (.cells #[.int .i32 5, .int .i32 1114111, .int .i64 1] 33)) hSW.out hl (show Pr.ok 300 [(⟨5, 1114111, 1⟩ : Rg)] = true from by decide)
  change Calls Try.prog 11 #[.slice (some ⟨w1.heap.size, 0, none⟩) 1 1, .int .i64 300] _ _ at hm
  refine hm.mono ?_
  rintro e w3 ⟨T, rfl, hT, hb3⟩
  have hS3 := hSW.out.kept hb3
  have hck := check_any ([(⟨5, 1114111, 1⟩ : Rg)]) 300 (some ⟨w1.heap.size, 0, none⟩) w1.heap.size 0 1 w3.drew (sees_drew hS3) hl
  rw [(show Pr.ok 300 [(⟨5, 1114111, 1⟩ : Rg)] = true from by decide)] at hck
  change Calls Try.prog 12 #[.slice (some ⟨w1.heap.size, 0, none⟩) 1 1, .int .i64 300] _ _ at hck
  have hB3 : Hid (Below w.heap.size w w3) := hBW.out.trans (hb3.mono hBW.out.size)
  have hTH : Hid (Tab w3.drew _ T ([(⟨5, 1114111, 1⟩ : Rg)])) := tab_drew hT
  have k0 : w3.cell? ⟨w1.heap.size, 0, none⟩ = some (.int .i32 5) := hS3.c0 0 ⟨5, 1114111, 1⟩ rfl
  have k2 : w3.cell? ⟨w1.heap.size, 2, none⟩ = some (.int .i64 1) := hS3.c2 0 ⟨5, 1114111, 1⟩ rfl
  have hgl : Hid (w1.heap.size < w3.heap.size) := hS3.blk (by decide)
  clear hm hb3 hT
  go_wp2_with fail
  go_region_held (fun w' => w'.cell? ⟨w1.heap.size, 0, none⟩ = some (.int .i32 5) ∧ w'.cell? ⟨w1.heap.size, 2, none⟩ = some (.int .i64 1)) ((first | exact ⟨k0, k2⟩ | exact ⟨j0.out, j2.out⟩)) ((first | (go_at_call 12; refine hck.mono ?_; rintro e w4 ⟨rfl, hb4⟩; have j0 : Hid (w4.cell? ⟨w1.heap.size, 0, none⟩ = some (.int .i32 5)) := (hb4.cell (p := ⟨w1.heap.size, 0, none⟩) hgl.out).trans k0; have j2 : Hid (w4.cell? ⟨w1.heap.size, 2, none⟩ = some (.int .i64 1)) := (hb4.cell (p := ⟨w1.heap.size, 2, none⟩) hgl.out).trans k2; have hB4 : Hid (Below w.heap.size w w4) := hB3.out.drew.trans (hb4.mono hB3.out.size); have hof : Calls Try.prog 14 #[.pointer (some ⟨T, 0, none⟩), .int .i32 5] w4 (fun e w' => e = .returned (.int .i64 1) ∧ w' = w4) := of_any 300 [(⟨5, 1114111, 1⟩ : Rg)] 5 _ T w4 (hTH.out.kept hb4) (by decide) (by omega) (by omega)) | (go_at_call 14; refine hof.mono ?_; rintro e w5 ⟨rfl, rfl⟩)))
  go_wp2
  go_ret
  exact ⟨rfl, hB4.out⟩

set_option maxRecDepth 100000 in
set_option maxHeartbeats 4000000 in
theorem case11 (a0 a1 : Int) (hw0 : 0 ≤ a0) (hw1 : a0 ≤ 255) (ho0 : 0 ≤ a1) (ho1 : a1 ≤ 255) (c1 : a0 % 5 = 1) (c2 : a0.tmod 5 = 1) (m1 : a1 % 2 = 1) (m2 : a1.tmod 2 = 1) (w : World) :
    Calls Try.prog 8 #[.int .u8 a0, .int .u8 a1] w fun e w' => e = .returned (.bool true) ∧ Below w.heap.size w w' := by
  go_enter Try.func8, Try.ntmps8
  go_wp2_with (go_at_call 9; refine (awake_any _).mono ?_; rintro e w1 ⟨rfl, hb1⟩)
  have hl : [(⟨5, 1114112, 1⟩ : Rg)].length ≤ 1000000 := by decide
  have hSW : Hid (Sees (w1.alloc (.cells #[.int .i32 5, .int .i32 1114112, .int .i64 1] 33)) [(⟨5, 1114112, 1⟩ : Rg)] (some ⟨w1.heap.size, 0, none⟩) w1.heap.size 0 1) := sees_row (L := [(⟨5, 1114112, 1⟩ : Rg)]) (heap_alloc_new w1 _) (by decide)
  have hBW : Hid (Below w.heap.size w (w1.alloc (.cells #[.int .i32 5, .int .i32 1114112, .int .i64 1] 33))) := hb1.alloc hb1.size _
  clear hb1 c1 c2 m1 m2
  have hm := make_no ([(⟨5, 1114112, 1⟩ : Rg)]) 300 (some ⟨w1.heap.size, 0, none⟩) w1.heap.size 0 1 (w1.alloc (.cells #[.int .i32 5, .int .i32 1114112, .int .i64 1] 33)) hSW.out hl (show Pr.ok 300 [(⟨5, 1114112, 1⟩ : Rg)] = false from by decide)
  change Calls Try.prog 11 #[.slice (some ⟨w1.heap.size, 0, none⟩) 1 1, .int .i64 300] _ _ at hm
  refine hm.mono ?_
  rintro e w3 ⟨rfl, hb3⟩
  have hck := check_any ([(⟨5, 1114112, 1⟩ : Rg)]) 300 (some ⟨w1.heap.size, 0, none⟩) w1.heap.size 0 1 w3 (hSW.out.kept hb3) hl
  rw [(show Pr.ok 300 [(⟨5, 1114112, 1⟩ : Rg)] = false from by decide)] at hck
  change Calls Try.prog 12 #[.slice (some ⟨w1.heap.size, 0, none⟩) 1 1, .int .i64 300] _ _ at hck
  have hB3 : Hid (Below w.heap.size w w3) := hBW.out.trans (hb3.mono hBW.out.size)
  clear hm hb3
  go_wp2_with (go_at_call 12; refine hck.mono ?_; rintro e w4 ⟨rfl, hb4⟩)
  go_ret
  exact ⟨rfl, hB3.out.trans (hb4.mono hB3.out.size)⟩

set_option maxRecDepth 100000 in
set_option maxHeartbeats 4000000 in
theorem case20 (a0 a1 : Int) (hw0 : 0 ≤ a0) (hw1 : a0 ≤ 255) (ho0 : 0 ≤ a1) (ho1 : a1 ≤ 255) (c1 : a0 % 5 = 2) (c2 : a0.tmod 5 = 2) (m1 : a1 % 2 = 0) (m2 : a1.tmod 2 = 0) (w : World) :
    Calls Try.prog 8 #[.int .u8 a0, .int .u8 a1] w fun e w' => e = .returned (.bool true) ∧ Below w.heap.size w w' := by
  go_enter Try.func8, Try.ntmps8
  go_wp2_with (go_at_call 9; refine (awake_any _).mono ?_; rintro e w1 ⟨rfl, hb1⟩)
  have hl : [(⟨5, 5, 255⟩ : Rg)].length ≤ 1000000 := by decide
  have hSW : Hid (Sees (w1.alloc (.cells #[.int .i32 5, .int .i32 5, .int .i64 255] 33)) [(⟨5, 5, 255⟩ : Rg)] (some ⟨w1.heap.size, 0, none⟩) w1.heap.size 0 1) := sees_row (L := [(⟨5, 5, 255⟩ : Rg)]) (heap_alloc_new w1 _) (by decide)
  have hBW : Hid (Below w.heap.size w (w1.alloc (.cells #[.int .i32 5, .int .i32 5, .int .i64 255] 33))) := hb1.alloc hb1.size _
  clear hb1 c1 c2 m1 m2
  have hm := make_ok ([(⟨5, 5, 255⟩ : Rg)]) 300 (some ⟨w1.heap.size, 0, none⟩) w1.heap.size 0 1 (w1.alloc (.cells #[.int .i32 5, .int .i32 5, .int .i64 255] 33)) hSW.out hl (show Pr.ok 300 [(⟨5, 5, 255⟩ : Rg)] = true from by decide)
  change Calls Try.prog 11 #[.slice (some ⟨w1.heap.size, 0, none⟩) 1 1, .int .i64 300] _ _ at hm
  refine hm.mono ?_
  rintro e w3 ⟨T, rfl, hT, hb3⟩
  have hS3 := hSW.out.kept hb3
  have hck := check_any ([(⟨5, 5, 255⟩ : Rg)]) 300 (some ⟨w1.heap.size, 0, none⟩) w1.heap.size 0 1 w3.drew (sees_drew hS3) hl
  rw [(show Pr.ok 300 [(⟨5, 5, 255⟩ : Rg)] = true from by decide)] at hck
  change Calls Try.prog 12 #[.slice (some ⟨w1.heap.size, 0, none⟩) 1 1, .int .i64 300] _ _ at hck
  have hB3 : Hid (Below w.heap.size w w3) := hBW.out.trans (hb3.mono hBW.out.size)
  have hTH : Hid (Tab w3.drew _ T ([(⟨5, 5, 255⟩ : Rg)])) := tab_drew hT
  have k0 : w3.cell? ⟨w1.heap.size, 0, none⟩ = some (.int .i32 5) := hS3.c0 0 ⟨5, 5, 255⟩ rfl
  have k2 : w3.cell? ⟨w1.heap.size, 2, none⟩ = some (.int .i64 255) := hS3.c2 0 ⟨5, 5, 255⟩ rfl
  have hgl : Hid (w1.heap.size < w3.heap.size) := hS3.blk (by decide)
  clear hm hb3 hT
  go_wp2_with fail
  go_region_held (fun w' => w'.cell? ⟨w1.heap.size, 0, none⟩ = some (.int .i32 5) ∧ w'.cell? ⟨w1.heap.size, 2, none⟩ = some (.int .i64 255)) ((first | exact ⟨k0, k2⟩ | exact ⟨j0.out, j2.out⟩)) ((first | (go_at_call 12; refine hck.mono ?_; rintro e w4 ⟨rfl, hb4⟩; have j0 : Hid (w4.cell? ⟨w1.heap.size, 0, none⟩ = some (.int .i32 5)) := (hb4.cell (p := ⟨w1.heap.size, 0, none⟩) hgl.out).trans k0; have j2 : Hid (w4.cell? ⟨w1.heap.size, 2, none⟩ = some (.int .i64 255)) := (hb4.cell (p := ⟨w1.heap.size, 2, none⟩) hgl.out).trans k2; have hB4 : Hid (Below w.heap.size w w4) := hB3.out.drew.trans (hb4.mono hB3.out.size); have hof : Calls Try.prog 14 #[.pointer (some ⟨T, 0, none⟩), .int .i32 5] w4 (fun e w' => e = .returned (.int .i64 255) ∧ w' = w4) := of_any 300 [(⟨5, 5, 255⟩ : Rg)] 5 _ T w4 (hTH.out.kept hb4) (by decide) (by omega) (by omega)) | (go_at_call 14; refine hof.mono ?_; rintro e w5 ⟨rfl, rfl⟩)))
  go_wp2
  go_ret
  exact ⟨rfl, hB4.out⟩

set_option maxRecDepth 100000 in
set_option maxHeartbeats 4000000 in
theorem case21 (a0 a1 : Int) (hw0 : 0 ≤ a0) (hw1 : a0 ≤ 255) (ho0 : 0 ≤ a1) (ho1 : a1 ≤ 255) (c1 : a0 % 5 = 2) (c2 : a0.tmod 5 = 2) (m1 : a1 % 2 = 1) (m2 : a1.tmod 2 = 1) (w : World) :
    Calls Try.prog 8 #[.int .u8 a0, .int .u8 a1] w fun e w' => e = .returned (.bool true) ∧ Below w.heap.size w w' := by
  go_enter Try.func8, Try.ntmps8
  go_wp2_with (go_at_call 9; refine (awake_any _).mono ?_; rintro e w1 ⟨rfl, hb1⟩)
  have hl : [(⟨5, 5, 256⟩ : Rg)].length ≤ 1000000 := by decide
  have hSW : Hid (Sees (w1.alloc (.cells #[.int .i32 5, .int .i32 5, .int .i64 256] 33)) [(⟨5, 5, 256⟩ : Rg)] (some ⟨w1.heap.size, 0, none⟩) w1.heap.size 0 1) := sees_row (L := [(⟨5, 5, 256⟩ : Rg)]) (heap_alloc_new w1 _) (by decide)
  have hBW : Hid (Below w.heap.size w (w1.alloc (.cells #[.int .i32 5, .int .i32 5, .int .i64 256] 33))) := hb1.alloc hb1.size _
  clear hb1 c1 c2 m1 m2
  have hm := make_no ([(⟨5, 5, 256⟩ : Rg)]) 300 (some ⟨w1.heap.size, 0, none⟩) w1.heap.size 0 1 (w1.alloc (.cells #[.int .i32 5, .int .i32 5, .int .i64 256] 33)) hSW.out hl (show Pr.ok 300 [(⟨5, 5, 256⟩ : Rg)] = false from by decide)
  change Calls Try.prog 11 #[.slice (some ⟨w1.heap.size, 0, none⟩) 1 1, .int .i64 300] _ _ at hm
  refine hm.mono ?_
  rintro e w3 ⟨rfl, hb3⟩
  have hck := check_any ([(⟨5, 5, 256⟩ : Rg)]) 300 (some ⟨w1.heap.size, 0, none⟩) w1.heap.size 0 1 w3 (hSW.out.kept hb3) hl
  rw [(show Pr.ok 300 [(⟨5, 5, 256⟩ : Rg)] = false from by decide)] at hck
  change Calls Try.prog 12 #[.slice (some ⟨w1.heap.size, 0, none⟩) 1 1, .int .i64 300] _ _ at hck
  have hB3 : Hid (Below w.heap.size w w3) := hBW.out.trans (hb3.mono hBW.out.size)
  clear hm hb3
  go_wp2_with (go_at_call 12; refine hck.mono ?_; rintro e w4 ⟨rfl, hb4⟩)
  go_ret
  exact ⟨rfl, hB3.out.trans (hb4.mono hB3.out.size)⟩

set_option maxRecDepth 100000 in
set_option maxHeartbeats 4000000 in
theorem case30 (a0 a1 : Int) (hw0 : 0 ≤ a0) (hw1 : a0 ≤ 255) (ho0 : 0 ≤ a1) (ho1 : a1 ≤ 255) (c1 : a0 % 5 = 3) (c2 : a0.tmod 5 = 3) (m1 : a1 % 2 = 0) (m2 : a1.tmod 2 = 0) (w : World) :
    Calls Try.prog 8 #[.int .u8 a0, .int .u8 a1] w fun e w' => e = .returned (.bool true) ∧ Below w.heap.size w w' := by
  go_enter Try.func8, Try.ntmps8
  go_wp2_with (go_at_call 9; refine (awake_any _).mono ?_; rintro e w1 ⟨rfl, hb1⟩)
  have hl : [(⟨5, 5, 6⟩ : Rg)].length ≤ 1000000 := by decide
  have hSW : Hid (Sees (w1.alloc (.cells #[.int .i32 5, .int .i32 5, .int .i64 6] 33)) [(⟨5, 5, 6⟩ : Rg)] (some ⟨w1.heap.size, 0, none⟩) w1.heap.size 0 1) := sees_row (L := [(⟨5, 5, 6⟩ : Rg)]) (heap_alloc_new w1 _) (by decide)
  have hBW : Hid (Below w.heap.size w (w1.alloc (.cells #[.int .i32 5, .int .i32 5, .int .i64 6] 33))) := hb1.alloc hb1.size _
  clear hb1 c1 c2 m1 m2
  have hm := make_ok ([(⟨5, 5, 6⟩ : Rg)]) 7 (some ⟨w1.heap.size, 0, none⟩) w1.heap.size 0 1 (w1.alloc (.cells #[.int .i32 5, .int .i32 5, .int .i64 6] 33)) hSW.out hl (show Pr.ok 7 [(⟨5, 5, 6⟩ : Rg)] = true from by decide)
  change Calls Try.prog 11 #[.slice (some ⟨w1.heap.size, 0, none⟩) 1 1, .int .i64 7] _ _ at hm
  refine hm.mono ?_
  rintro e w3 ⟨T, rfl, hT, hb3⟩
  have hS3 := hSW.out.kept hb3
  have hck := check_any ([(⟨5, 5, 6⟩ : Rg)]) 7 (some ⟨w1.heap.size, 0, none⟩) w1.heap.size 0 1 w3.drew (sees_drew hS3) hl
  rw [(show Pr.ok 7 [(⟨5, 5, 6⟩ : Rg)] = true from by decide)] at hck
  change Calls Try.prog 12 #[.slice (some ⟨w1.heap.size, 0, none⟩) 1 1, .int .i64 7] _ _ at hck
  have hB3 : Hid (Below w.heap.size w w3) := hBW.out.trans (hb3.mono hBW.out.size)
  have hTH : Hid (Tab w3.drew _ T ([(⟨5, 5, 6⟩ : Rg)])) := tab_drew hT
  have k0 : w3.cell? ⟨w1.heap.size, 0, none⟩ = some (.int .i32 5) := hS3.c0 0 ⟨5, 5, 6⟩ rfl
  have k2 : w3.cell? ⟨w1.heap.size, 2, none⟩ = some (.int .i64 6) := hS3.c2 0 ⟨5, 5, 6⟩ rfl
  have hgl : Hid (w1.heap.size < w3.heap.size) := hS3.blk (by decide)
  clear hm hb3 hT
  go_wp2_with fail
  go_region_held (fun w' => w'.cell? ⟨w1.heap.size, 0, none⟩ = some (.int .i32 5) ∧ w'.cell? ⟨w1.heap.size, 2, none⟩ = some (.int .i64 6)) ((first | exact ⟨k0, k2⟩ | exact ⟨j0.out, j2.out⟩)) ((first | (go_at_call 12; refine hck.mono ?_; rintro e w4 ⟨rfl, hb4⟩; have j0 : Hid (w4.cell? ⟨w1.heap.size, 0, none⟩ = some (.int .i32 5)) := (hb4.cell (p := ⟨w1.heap.size, 0, none⟩) hgl.out).trans k0; have j2 : Hid (w4.cell? ⟨w1.heap.size, 2, none⟩ = some (.int .i64 6)) := (hb4.cell (p := ⟨w1.heap.size, 2, none⟩) hgl.out).trans k2; have hB4 : Hid (Below w.heap.size w w4) := hB3.out.drew.trans (hb4.mono hB3.out.size); have hof : Calls Try.prog 14 #[.pointer (some ⟨T, 0, none⟩), .int .i32 5] w4 (fun e w' => e = .returned (.int .i64 6) ∧ w' = w4) := of_any 7 [(⟨5, 5, 6⟩ : Rg)] 5 _ T w4 (hTH.out.kept hb4) (by decide) (by omega) (by omega)) | (go_at_call 14; refine hof.mono ?_; rintro e w5 ⟨rfl, rfl⟩)))
  go_wp2
  go_ret
  exact ⟨rfl, hB4.out⟩

set_option maxRecDepth 100000 in
set_option maxHeartbeats 4000000 in
theorem case31 (a0 a1 : Int) (hw0 : 0 ≤ a0) (hw1 : a0 ≤ 255) (ho0 : 0 ≤ a1) (ho1 : a1 ≤ 255) (c1 : a0 % 5 = 3) (c2 : a0.tmod 5 = 3) (m1 : a1 % 2 = 1) (m2 : a1.tmod 2 = 1) (w : World) :
    Calls Try.prog 8 #[.int .u8 a0, .int .u8 a1] w fun e w' => e = .returned (.bool true) ∧ Below w.heap.size w w' := by
  go_enter Try.func8, Try.ntmps8
  go_wp2_with (go_at_call 9; refine (awake_any _).mono ?_; rintro e w1 ⟨rfl, hb1⟩)
  have hl : [(⟨5, 5, 7⟩ : Rg)].length ≤ 1000000 := by decide
  have hSW : Hid (Sees (w1.alloc (.cells #[.int .i32 5, .int .i32 5, .int .i64 7] 33)) [(⟨5, 5, 7⟩ : Rg)] (some ⟨w1.heap.size, 0, none⟩) w1.heap.size 0 1) := sees_row (L := [(⟨5, 5, 7⟩ : Rg)]) (heap_alloc_new w1 _) (by decide)
  have hBW : Hid (Below w.heap.size w (w1.alloc (.cells #[.int .i32 5, .int .i32 5, .int .i64 7] 33))) := hb1.alloc hb1.size _
  clear hb1 c1 c2 m1 m2
  have hm := make_no ([(⟨5, 5, 7⟩ : Rg)]) 7 (some ⟨w1.heap.size, 0, none⟩) w1.heap.size 0 1 (w1.alloc (.cells #[.int .i32 5, .int .i32 5, .int .i64 7] 33)) hSW.out hl (show Pr.ok 7 [(⟨5, 5, 7⟩ : Rg)] = false from by decide)
  change Calls Try.prog 11 #[.slice (some ⟨w1.heap.size, 0, none⟩) 1 1, .int .i64 7] _ _ at hm
  refine hm.mono ?_
  rintro e w3 ⟨rfl, hb3⟩
  have hck := check_any ([(⟨5, 5, 7⟩ : Rg)]) 7 (some ⟨w1.heap.size, 0, none⟩) w1.heap.size 0 1 w3 (hSW.out.kept hb3) hl
  rw [(show Pr.ok 7 [(⟨5, 5, 7⟩ : Rg)] = false from by decide)] at hck
  change Calls Try.prog 12 #[.slice (some ⟨w1.heap.size, 0, none⟩) 1 1, .int .i64 7] _ _ at hck
  have hB3 : Hid (Below w.heap.size w w3) := hBW.out.trans (hb3.mono hBW.out.size)
  clear hm hb3
  go_wp2_with (go_at_call 12; refine hck.mono ?_; rintro e w4 ⟨rfl, hb4⟩)
  go_ret
  exact ⟨rfl, hB3.out.trans (hb4.mono hB3.out.size)⟩

set_option maxRecDepth 100000 in
set_option maxHeartbeats 4000000 in
theorem case40 (a0 a1 : Int) (hw0 : 0 ≤ a0) (hw1 : a0 ≤ 255) (ho0 : 0 ≤ a1) (ho1 : a1 ≤ 255) (c1 : a0 % 5 = 4) (c2 : a0.tmod 5 = 4) (m1 : a1 % 2 = 0) (m2 : a1.tmod 2 = 0) (w : World) :
    Calls Try.prog 8 #[.int .u8 a0, .int .u8 a1] w fun e w' => e = .returned (.bool true) ∧ Below w.heap.size w w' := by
  obtain ⟨i0, hi, hz0, hz1, hz2⟩ := info_parts info33
  go_enter Try.func8, Try.ntmps8
  go_wp2_with (first | (go_at_call 9; refine (awake_any _).mono ?_; rintro e w1 ⟨rfl, hb1⟩) | (at_builtin; refine wpList_append_own _ rfl _ _ 22 rfl w1.heap.size 33 i0 (.agg #[.int .i32 0, .int .i32 0, .int .i64 0]) 3 16 Try.underlying22 hi hz0 hz1 hz2 rfl (by decide) _ _ _ rfl ((lit_row w1 ⟨5, 5, 1⟩).alloc _) ⟨w1.heap.size + 1, 0, none⟩ 1 1 [.int .i32 6, .int .i32 9, .int .i64 2] rfl rfl (news2 w1 6) (one_cells _ _ _) (by unfold maxLen; omega) (by omega) (by simp <;> omega) ?_; intro v' w2 hown2 hg2 _))
  have hown2' : w2.ownsRow w1.heap.size 33 3 v' [(⟨5, 5, 1⟩ : Rg), (⟨6, 9, 2⟩ : Rg)].length (rgCells [(⟨5, 5, 1⟩ : Rg), (⟨6, 9, 2⟩ : Rg)]) := hown2
  obtain ⟨a2, g2, cap2, rfl, hS2, hg2b, _⟩ := row_sees hown2'
  have hl : [(⟨5, 5, 1⟩ : Rg), (⟨6, 9, 2⟩ : Rg)].length ≤ 1000000 := by decide
  have hSW : Hid (Sees w2 [(⟨5, 5, 1⟩ : Rg), (⟨6, 9, 2⟩ : Rg)] a2 g2 0 cap2) := hS2
  have hBW : Hid (Below w.heap.size w w2) := ((hb1.alloc hb1.size _).alloc (by simp; have := hb1.size; omega) _).grown hg2 (by simp; have := hb1.size; omega) (fun k hk => by injection hk with hk; have h' : w1.heap.size = k := hk; have := hb1.size; omega)
  obtain rfl : a2 = some ⟨g2, 0, none⟩ := hS2.adr (by decide)
  clear hb1 hown2 hown2' hg2 c1 c2 m1 m2 hS2
  have hm := make_ok ([(⟨5, 5, 1⟩ : Rg), (⟨6, 9, 2⟩ : Rg)]) 300 (some ⟨g2, 0, none⟩) g2 0 cap2 w2 hSW.out hl (show Pr.ok 300 [(⟨5, 5, 1⟩ : Rg), (⟨6, 9, 2⟩ : Rg)] = true from by decide)
  change Calls Try.prog 11 #[.slice (some ⟨g2, 0, none⟩) 2 cap2, .int .i64 300] _ _ at hm
  refine hm.mono ?_
  rintro e w3 ⟨T, rfl, hT, hb3⟩
  have hS3 := hSW.out.kept hb3
  have hck := check_any ([(⟨5, 5, 1⟩ : Rg), (⟨6, 9, 2⟩ : Rg)]) 300 (some ⟨g2, 0, none⟩) g2 0 cap2 w3.drew (sees_drew hS3) hl
  rw [(show Pr.ok 300 [(⟨5, 5, 1⟩ : Rg), (⟨6, 9, 2⟩ : Rg)] = true from by decide)] at hck
  change Calls Try.prog 12 #[.slice (some ⟨g2, 0, none⟩) 2 cap2, .int .i64 300] _ _ at hck
  have hB3 : Hid (Below w.heap.size w w3) := hBW.out.trans (hb3.mono hBW.out.size)
  have hTH : Hid (Tab w3.drew _ T ([(⟨5, 5, 1⟩ : Rg), (⟨6, 9, 2⟩ : Rg)])) := tab_drew hT
  have k0 : w3.cell? ⟨g2, 0, none⟩ = some (.int .i32 5) := hS3.c0 0 ⟨5, 5, 1⟩ rfl
  have k2 : w3.cell? ⟨g2, 2, none⟩ = some (.int .i64 1) := hS3.c2 0 ⟨5, 5, 1⟩ rfl
  have hgl : Hid (g2 < w3.heap.size) := hS3.blk (by decide)
  clear hm hb3 hT
  go_wp2_with fail
  go_region_held (fun w' => w'.cell? ⟨g2, 0, none⟩ = some (.int .i32 5) ∧ w'.cell? ⟨g2, 2, none⟩ = some (.int .i64 1)) ((first | exact ⟨k0, k2⟩ | exact ⟨j0.out, j2.out⟩)) ((first | (go_at_call 12; refine hck.mono ?_; rintro e w4 ⟨rfl, hb4⟩; have j0 : Hid (w4.cell? ⟨g2, 0, none⟩ = some (.int .i32 5)) := (hb4.cell (p := ⟨g2, 0, none⟩) hgl.out).trans k0; have j2 : Hid (w4.cell? ⟨g2, 2, none⟩ = some (.int .i64 1)) := (hb4.cell (p := ⟨g2, 2, none⟩) hgl.out).trans k2; have hB4 : Hid (Below w.heap.size w w4) := hB3.out.drew.trans (hb4.mono hB3.out.size); have hof : Calls Try.prog 14 #[.pointer (some ⟨T, 0, none⟩), .int .i32 5] w4 (fun e w' => e = .returned (.int .i64 1) ∧ w' = w4) := of_any 300 [(⟨5, 5, 1⟩ : Rg), (⟨6, 9, 2⟩ : Rg)] 5 _ T w4 (hTH.out.kept hb4) (by decide) (by omega) (by omega)) | (go_at_call 14; refine hof.mono ?_; rintro e w5 ⟨rfl, rfl⟩)))
  go_wp2
  go_ret
  exact ⟨rfl, hB4.out⟩

set_option maxRecDepth 100000 in
set_option maxHeartbeats 4000000 in
theorem case41 (a0 a1 : Int) (hw0 : 0 ≤ a0) (hw1 : a0 ≤ 255) (ho0 : 0 ≤ a1) (ho1 : a1 ≤ 255) (c1 : a0 % 5 = 4) (c2 : a0.tmod 5 = 4) (m1 : a1 % 2 = 1) (m2 : a1.tmod 2 = 1) (w : World) :
    Calls Try.prog 8 #[.int .u8 a0, .int .u8 a1] w fun e w' => e = .returned (.bool true) ∧ Below w.heap.size w w' := by
  obtain ⟨i0, hi, hz0, hz1, hz2⟩ := info_parts info33
  go_enter Try.func8, Try.ntmps8
  go_wp2_with (first | (go_at_call 9; refine (awake_any _).mono ?_; rintro e w1 ⟨rfl, hb1⟩) | (at_builtin; refine wpList_append_own _ rfl _ _ 22 rfl w1.heap.size 33 i0 (.agg #[.int .i32 0, .int .i32 0, .int .i64 0]) 3 16 Try.underlying22 hi hz0 hz1 hz2 rfl (by decide) _ _ _ rfl ((lit_row w1 ⟨5, 5, 1⟩).alloc _) ⟨w1.heap.size + 1, 0, none⟩ 1 1 [.int .i32 5, .int .i32 9, .int .i64 2] rfl rfl (news2 w1 5) (one_cells _ _ _) (by unfold maxLen; omega) (by omega) (by simp <;> omega) ?_; intro v' w2 hown2 hg2 _))
  have hown2' : w2.ownsRow w1.heap.size 33 3 v' [(⟨5, 5, 1⟩ : Rg), (⟨5, 9, 2⟩ : Rg)].length (rgCells [(⟨5, 5, 1⟩ : Rg), (⟨5, 9, 2⟩ : Rg)]) := hown2
  obtain ⟨a2, g2, cap2, rfl, hS2, hg2b, _⟩ := row_sees hown2'
  have hl : [(⟨5, 5, 1⟩ : Rg), (⟨5, 9, 2⟩ : Rg)].length ≤ 1000000 := by decide
  have hSW : Hid (Sees w2 [(⟨5, 5, 1⟩ : Rg), (⟨5, 9, 2⟩ : Rg)] a2 g2 0 cap2) := hS2
  have hBW : Hid (Below w.heap.size w w2) := ((hb1.alloc hb1.size _).alloc (by simp; have := hb1.size; omega) _).grown hg2 (by simp; have := hb1.size; omega) (fun k hk => by injection hk with hk; have h' : w1.heap.size = k := hk; have := hb1.size; omega)
  obtain rfl : a2 = some ⟨g2, 0, none⟩ := hS2.adr (by decide)
  clear hb1 hown2 hown2' hg2 c1 c2 m1 m2 hS2
  have hm := make_no ([(⟨5, 5, 1⟩ : Rg), (⟨5, 9, 2⟩ : Rg)]) 300 (some ⟨g2, 0, none⟩) g2 0 cap2 w2 hSW.out hl (show Pr.ok 300 [(⟨5, 5, 1⟩ : Rg), (⟨5, 9, 2⟩ : Rg)] = false from by decide)
  change Calls Try.prog 11 #[.slice (some ⟨g2, 0, none⟩) 2 cap2, .int .i64 300] _ _ at hm
  refine hm.mono ?_
  rintro e w3 ⟨rfl, hb3⟩
  have hck := check_any ([(⟨5, 5, 1⟩ : Rg), (⟨5, 9, 2⟩ : Rg)]) 300 (some ⟨g2, 0, none⟩) g2 0 cap2 w3 (hSW.out.kept hb3) hl
  rw [(show Pr.ok 300 [(⟨5, 5, 1⟩ : Rg), (⟨5, 9, 2⟩ : Rg)] = false from by decide)] at hck
  change Calls Try.prog 12 #[.slice (some ⟨g2, 0, none⟩) 2 cap2, .int .i64 300] _ _ at hck
  have hB3 : Hid (Below w.heap.size w w3) := hBW.out.trans (hb3.mono hBW.out.size)
  clear hm hb3
  go_wp2_with (go_at_call 12; refine hck.mono ?_; rintro e w4 ⟨rfl, hb4⟩)
  go_ret
  exact ⟨rfl, hB3.out.trans (hb4.mono hB3.out.size)⟩

theorem walk (a0 a1 : Int) (w0 : (Lit.int .u8 a0).wf = true) (w1 : (Lit.int .u8 a1).wf = true) (w : World) :
    Calls Try.prog 8 #[.int .u8 a0, .int .u8 a1] w fun e w' => e = .returned (.bool true) ∧ Below w.heap.size w w' := by
  have h0 := wf_u8 w0
  have h1 := wf_u8 w1
  have t0 : a0.tmod 5 = a0 % 5 := Int.tmod_eq_emod_of_nonneg h0.1
  have t1 : a1.tmod 2 = a1 % 2 := Int.tmod_eq_emod_of_nonneg h1.1
  have hc : a0 % 5 = 0 ∨ a0 % 5 = 1 ∨ a0 % 5 = 2 ∨ a0 % 5 = 3 ∨ a0 % 5 = 4 := by omega
  have hm : a1 % 2 = 0 ∨ a1 % 2 = 1 := by omega
  rcases hc with e | e | e | e | e <;> rcases hm with f | f
  · exact case00 a0 a1 h0.1 h0.2 h1.1 h1.2 e (t0.trans e) f (t1.trans f) w
  · exact case01 a0 a1 h0.1 h0.2 h1.1 h1.2 e (t0.trans e) f (t1.trans f) w
  · exact case10 a0 a1 h0.1 h0.2 h1.1 h1.2 e (t0.trans e) f (t1.trans f) w
  · exact case11 a0 a1 h0.1 h0.2 h1.1 h1.2 e (t0.trans e) f (t1.trans f) w
  · exact case20 a0 a1 h0.1 h0.2 h1.1 h1.2 e (t0.trans e) f (t1.trans f) w
  · exact case21 a0 a1 h0.1 h0.2 h1.1 h1.2 e (t0.trans e) f (t1.trans f) w
  · exact case30 a0 a1 h0.1 h0.2 h1.1 h1.2 e (t0.trans e) f (t1.trans f) w
  · exact case31 a0 a1 h0.1 h0.2 h1.1 h1.2 e (t0.trans e) f (t1.trans f) w
  · exact case40 a0 a1 h0.1 h0.2 h1.1 h1.2 e (t0.trans e) f (t1.trans f) w
  · exact case41 a0 a1 h0.1 h0.2 h1.1 h1.2 e (t0.trans e) f (t1.trans f) w
theorem contract (H : Type) (enc : TypeId × Value → H) (W : World) (base : Nat) (args : Array Value) (ds gs : List (DataW H)) (before : List MemPlace)
    (hval : ∀ (j : Nat) t v, Try.f8.params[j]? = some t → args[j]? = some v → Value.okWide Try.prog W .any base t v)
    (hW : DataW.Whole enc Try.prog Try.f8.params.toList Rows.propLimitsSpec.vars false W args.toList ds gs before) :
    Calls Try.prog 8 args W fun e W' => ∃ v, e = .returned v ∧ Rows.propLimitsSpec.post enc Try.prog Try.f8 false true false false W args v W' := by
  have hW' := hW
  obtain ⟨p, q, hA0, hV, rfl, hfz, hnd⟩ := hW
  have hA : DataW.TrodAll enc Try.prog W 0 (fun _ => true) true Try.f8.params.toList args.toList ds p := hA0
  rw [Try.params8] at hA hval
  obtain ⟨v0, vs0, d0, ds0, p0, q0, hargs, rfl, rfl, h0, r0⟩ := trodAll_cons hA
  obtain ⟨v1, vs1, d1, ds1, p1, q1, rfl, rfl, rfl, h1, r1⟩ := trodAll_cons r0
  obtain ⟨rfl, rfl, rfl⟩ := trodAll_nil r1
  obtain rfl : args = #[v0, v1] := by cases args; simp_all
  obtain ⟨rfl, rfl⟩ := trodVars_none hV
  obtain ⟨a0, rfl, rfl, rfl, w0⟩ := open_int Try.underlying5 (hval 0 5 v0 rfl rfl) h0
  obtain ⟨a1, rfl, rfl, rfl, w1⟩ := open_int Try.underlying5 (hval 1 5 v1 rfl rfl) h1
  clear hA0
  refine (walk a0 a1 w0 w1 W).mono fun e W' ⟨he, bel⟩ => ?_
  subst he
  exact ⟨_, rfl, _, _, _, [], _, [], hW', trodAll_mk1 (shut_bool Try.underlying4 _), (trodAll_cons_mk (shut_int Try.underlying5 w0) (trodAll_cons_mk (shut_int Try.underlying5 w1) trodAll_mk0)), rfl, bel.frame _, fun h => by cases h⟩

set_option maxRecDepth 100000 in
theorem lifted (os : Os) (started : os.Started) (H : Type) (enc : TypeId × Value → H) :
    ReturnsInHanded {} Try.checked os 8 .any (Rows.propLimitsSpec.pre6 enc Try.prog Try.f8 Rows.propLimitsRow.domain false) (Rows.propLimitsSpec.post enc Try.prog Try.f8 false true false false) := by
  refine returnsInHanded_of_change (C := Try.checked) own started (by kernel_rfl) Try.func8
    (ChangeSpec.witness6 (enc := enc) (C := Try.checked) false ⟨#[], #[.int .u8 0, .int .u8 0], []⟩ 8 (by kernel_rfl) (by kernel_rfl) (by kernel_rfl) (by kernel_rfl)) ?_
  intro W base args ds gs before hval hW _ _
  exact contract H enc W base args ds gs before hval hW

theorem over : Rows.propLimitsRow.holds Try.pinned (OpenSpec.ofChange Rows.propLimitsSpec) :=
  OpenClaim.holds_of_wide 8 Try.f8 rfl rfl rfl rfl rfl rfl rfl ⟨rfl, rfl, rfl, rfl, rfl⟩ rfl rfl rfl rfl rfl (by kernel_rfl) Try.func8 (by kernel_rfl)
    (of_decide_eq_true (by kernel_rfl)) (by unfold Func.isWrapper; first | (rw [if_pos (by decide +kernel)]; kernel_rfl) | (rw [if_neg (by decide +kernel)]; exact ⟨rfl, rfl⟩))
    (fun os started H enc _ => lifted os started H enc)
end Go.Proofs.Ytagkdboobfkmmaa.propLimits
namespace Go.Proofs.Ytagkdboobfkmmaa
/-- THE STATEMENT. -/
theorem propLimits_holds : Rows.PropLimitsSaid := propLimits.over
#print axioms propLimits_holds
end Go.Proofs.Ytagkdboobfkmmaa
