/-
  (pats.word).has; slices.Equal of numbers; pats.isTold.
-/
import Derived.Test.YtjgbfpemkjpikaaDoorL6
namespace Go.Proofs.YtjgbfpemkjpikaaDoor
open Go.RowKit Go.Maps
set_option linter.unusedVariables false
set_option linter.unusedSimpArgs false
set_option maxRecDepth 100000 in
set_option maxHeartbeats 2000000 in
theorem hasFn_any (r p q y g : Nat) (w : World) (hg : w.cell? ⟨g, 0, none⟩ = some (.int .i32 (y : Int))) :
    Calls Tryd.prog 31 #[.agg #[.int .i32 (r : Int), .int .i64 (p : Int), .int .i64 (q : Int)], .pointer (some ⟨g, 0, none⟩)] w fun e w' => e = .returned (.bool (decide (r = y))) ∧ Only (fun _ => False) w w' := by
  have hl := World.block_lt_of_cell? w _ hg
  have hg2 : (w.alloc (.cells #[.int .i32 (r : Int), .int .i64 (p : Int), .int .i64 (q : Int)] 52)).cell? ⟨g, 0, none⟩ = some (.int .i32 (y : Int)) := (World.cell?_alloc_some _ _ _ (by rw [hg]; rfl)).trans hg
  go_enter Tryd.func31, Tryd.ntmps31
  go_wp2_with fail
  go_ret
  refine ⟨?_, (Only.refl _ _).alloc _⟩
  have : decide (r = y) = ((r : Int) == (y : Int)) := by
    rw [Bool.eq_iff_iff]
    simp
    omega
  rw [this]
  first | rfl | simp
theorem mem_step {L : List Nat} {i x y : Nat} (h : L.drop i = x :: L.drop (i + 1)) : (y ∈ L.drop i) ↔ (x = y ∨ y ∈ L.drop (i + 1)) := by
  rw [h, List.mem_cons]
  exact ⟨fun h => h.elim (fun e => Or.inl e.symm) Or.inr, fun h => h.elim (fun e => Or.inl e.symm) Or.inr⟩
set_option maxRecDepth 100000 in
set_option maxHeartbeats 2000000 in
theorem indexHas_any (S : List (Nat × Nat × Nat)) (a : Option Addr) (n c y g : Nat) (w : World) (hS : Sw w a n S) (hn : n ≤ 10000) (hg : w.cell? ⟨g, 0, none⟩ = some (.int .i32 (y : Int))) :
    Calls Tryd.prog 48 #[.slice a n c, .func (.func 31) #[] #[.pointer (some ⟨g, 0, none⟩)]] w fun e w' => (∃ i : Int, e = .returned (.int .i64 i) ∧ (0 ≤ i ↔ y ∈ rs S)) ∧ Only (fun _ => False) w w' := by
  have HS : Hid (Sw w a n S) := hS
  have HG : Hid (w.cell? ⟨g, 0, none⟩ = some (.int .i32 (y : Int))) := hg
  clear hS hg
  go_enter Tryd.func48, Tryd.ntmps48
  go_wp2_with fail
  go_loopg [8] n (fun gh v wr => ∃ (i : Nat) (W : World), W = wr ∧ gh = n - i ∧ i ≤ n ∧ v = .int .i64 (i : Int) ∧ Only (fun _ => False) w W ∧ (y ∈ rs S ↔ y ∈ (rs S).drop i))
  case atStart => exact ⟨0, _, rfl, rfl, Nat.zero_le _, rfl, Only.refl _ _, by simp⟩
  case round =>
    obtain ⟨i, W, hW, rfl, hi, rfl, ho, hm⟩ := hrel
    subst hW
    have HM : Hid (y ∈ rs S ↔ y ∈ (rs S).drop i) := hm
    have HO : Hid (Only (fun _ => False) w W) := ho
    clear hm ho
    by_cases hlt : i < n
    · have t1 : (i : Int) < (n : Int) := by omega
      obtain ⟨b, off, r, p, q, rfl, hb, hx, c0, c1, c2⟩ := (HS.out.keep HO.out).at hlt
      have HX : Hid (y ∈ (rs S).drop i ↔ (r = y ∨ y ∈ (rs S).drop (i + 1))) := mem_step (rs_step hx)
      have HGW : Hid (W.cell? ⟨g, 0, none⟩ = some (.int .i32 (y : Int))) := (World.cell?_of_block (a := ⟨g, 0, none⟩) (HO.out.block g (World.block_lt_of_cell? w _ HG.out) (fun h => h))).trans HG.out
      clear hx
      obtain ⟨bb, hbb⟩ : ∃ bb, bb = decide (r = y) := ⟨_, rfl⟩
      have HC : Hid (Calls Tryd.prog 31 #[.agg #[.int .i32 (r : Int), .int .i64 (p : Int), .int .i64 (q : Int)], .pointer (some ⟨g, 0, none⟩)] W fun e w' => e = .returned (.bool bb) ∧ Only (fun _ => False) W w') := by rw [hbb]; exact hasFn_any r p q y g W HGW.out
      cases bb with
      | true =>
        have HD : Hid (r = y) := (of_decide_eq_true hbb.symm : r = y)
        clear hbb
        go_wp2_with (go_at_call 31; refine Calls.mono HC.out ?_; rintro e w1 ⟨rfl, ho1⟩; have HO1 : Hid (Only (fun _ => False) W w1) := ho1; clear ho1)
        go_ret
        refine ⟨⟨(i : Int), rfl, ?_⟩, HO.out.trans HO1.out⟩
        rw [HM.out, HX.out]
        exact ⟨fun _ => Or.inl HD.out, fun _ => by omega⟩
      | false =>
        have HD : Hid (¬ r = y) := (of_decide_eq_false hbb.symm : ¬ r = y)
        clear hbb
        go_wp2_with (go_at_call 31; refine Calls.mono HC.out ?_; rintro e w1 ⟨rfl, ho1⟩; have HO1 : Hid (Only (fun _ => False) W w1) := ho1; clear ho1)
        go_roundg (n - (i + 1))
        case measure => omega
        case rel =>
          refine ⟨i + 1, _, rfl, rfl, by omega, by go_num, HO.out.trans HO1.out, ?_⟩
          rw [HM.out, HX.out]
          exact ⟨fun h => h.resolve_left HD.out, Or.inr⟩
    · have t2 : decide ((i : Int) < (n : Int)) = false := decide_eq_false (by omega)
      go_wp2_with fail
      go_ret
      refine ⟨⟨-1, rfl, ?_⟩, HO.out⟩
      rw [HM.out, List.drop_eq_nil_of_le (by unfold rs; rw [List.length_map]; have := HS.out.1; omega)]
      simp
set_option maxRecDepth 100000 in
set_option maxHeartbeats 2000000 in
theorem containsHas_any (S : List (Nat × Nat × Nat)) (a : Option Addr) (n c y g : Nat) (w : World) (hS : Sw w a n S) (hn : n ≤ 10000) (hg : w.cell? ⟨g, 0, none⟩ = some (.int .i32 (y : Int))) :
    Calls Tryd.prog 30 #[.slice a n c, .func (.func 31) #[] #[.pointer (some ⟨g, 0, none⟩)]] w fun e w' => e = .returned (.bool (decide (y ∈ rs S))) ∧ Only (fun _ => False) w w' := by
  have HI : Hid (Calls Tryd.prog 48 #[.slice a n c, .func (.func 31) #[] #[.pointer (some ⟨g, 0, none⟩)]] w fun e w' => (∃ i : Int, e = .returned (.int .i64 i) ∧ (0 ≤ i ↔ y ∈ rs S)) ∧ Only (fun _ => False) w w') := indexHas_any S a n c y g w hS hn hg
  go_enter Tryd.func30, Tryd.ntmps30
  go_wp2_with (go_at_call 48; refine Calls.mono HI.out ?_; rintro e w1 ⟨⟨i, rfl, hi⟩, ho1⟩; have HII : Hid (0 ≤ i ↔ y ∈ rs S) := hi; have HO1 : Hid (Only (fun _ => False) w w1) := ho1; clear hi ho1)
  go_ret
  refine ⟨?_, HO1.out⟩
  have : decide (y ∈ rs S) = decide (0 ≤ i) := decide_eq_decide.2 HII.out.symm
  rw [this]
  first | rfl | simp
set_option maxRecDepth 100000 in
set_option maxHeartbeats 2000000 in
theorem has_any (S : List (Nat × Nat × Nat)) (a : Option Addr) (n c y : Nat) (w : World) (hS : Sw w a n S) (hn : n ≤ 10000) :
    Calls Tryd.prog 23 #[.slice a n c, .int .i32 (y : Int)] w fun e w' => e = .returned (.bool (decide (y ∈ rs S))) ∧ Only (fun _ => False) w w' := by
  obtain ⟨bb, hbb⟩ : ∃ bb, bb = decide (y ∈ rs S) := ⟨_, rfl⟩
  rw [← hbb]
  have HC : Hid (Calls Tryd.prog 30 #[.slice a n c, .func (.func 31) #[] #[.pointer (some ⟨w.heap.size, 0, none⟩)]] (w.alloc (.cells #[.int .i32 (y : Int)] 21)) fun e w' => e = .returned (.bool bb) ∧ Only (fun _ => False) (w.alloc (.cells #[.int .i32 (y : Int)] 21)) w') := by
    rw [hbb]
    exact containsHas_any S a n c y w.heap.size _ (hS.keep ((Only.refl _ _).alloc _)) hn (cell_blk (heap_alloc_new w _))
  clear hbb hS
  go_enter Tryd.func23, Tryd.ntmps23
  go_wp2_with (go_at_call 30; refine Calls.mono HC.out ?_; rintro e w1 ⟨rfl, ho1⟩; have HO1 : Hid (Only (fun _ => False) w w1) := ((Only.refl _ _).alloc _).trans ho1; clear ho1)
  go_ret
  exact ⟨rfl, HO1.out⟩
end Go.Proofs.YtjgbfpemkjpikaaDoor
