/-
  Awake: the chapter's examples hold.
-/
import Derived.Test.YtjgbfpemkjpikaaDoorR1
import Derived.Test.YtjgbfpemkjpikaaDoorAw0
namespace Go.Proofs.YtjgbfpemkjpikaaDoor
open Go.RowKit Go.Maps
set_option linter.unusedVariables false
set_option linter.unusedSimpArgs false
theorem Only.tabs {w w' : World} (h : Only (fun _ => False) w w') (hz : 2 ≤ w.heap.size) (hT : Lib.Utf8Tabs 0 1 w) : Lib.Utf8Tabs 0 1 w' := tabs_below hT hz (h.below (Nat.le_refl _) (fun _ h => h.elim))
def six : Array Value := #[.string ⟨#[97, 49, 50, 98]⟩, .string ⟨#[97, 46, 98]⟩, .string ⟨#[46]⟩, .string ⟨#[45, 97]⟩, .string ⟨#[97, 45, 45, 98]⟩, .string ⟨#[97, 49, 45, 98]⟩]
theorem six_bad (i : Nat) (h : i < 6) : ∃ t, six[i]? = some (.string t) ∧ parseR t = (30, 0, [], []) := by
  obtain rfl | rfl | rfl | rfl | rfl | rfl : i = 0 ∨ i = 1 ∨ i = 2 ∨ i = 3 ∨ i = 4 ∨ i = 5 := by omega
  · exact ⟨_, rfl, pr1⟩
  · exact ⟨_, rfl, pr2⟩
  · exact ⟨_, rfl, pr3⟩
  · exact ⟨_, rfl, pr4⟩
  · exact ⟨_, rfl, pr5⟩
  · exact ⟨_, rfl, pr6⟩
theorem parse_bad (t : ByteArray) (w : World) (hz : 2 ≤ w.heap.size) (hT : Lib.Utf8Tabs 0 1 w) (h : parseR t = (30, 0, [], [])) : Calls Tryd.prog 10 #[.string t] w fun e w' => ∃ aL cL aW cW, e = .returned (.tuple #[.agg #[.slice aL 0 cL, .slice aW 0 cW], .agg #[.int .i64 30, .int .i64 0]]) ∧ Only (fun _ => False) w w' := by
  have k := parse_any t w hz hT
  rw [h] at k
  refine k.mono ?_
  rintro e w' ⟨aL, cL, aW, cW, h1, _, _, h2⟩
  exact ⟨aL, cL, aW, cW, h1, h2⟩
theorem vs0 : vstr [0, 0, 0, 1, 0] = ⟨#[0, 0, 0, 1, 0]⟩ := by kernel_rfl
theorem vs1 : vstr [0, 0, 1, 0, 0, 0] = ⟨#[0, 0, 1, 0, 0, 0]⟩ := by kernel_rfl
theorem parse_ex (w : World) (hz : 2 ≤ w.heap.size) (hT : Lib.Utf8Tabs 0 1 w) : Calls Tryd.prog 10 #[.string ⟨#[46, 104, 121, 49, 112, 32, 50, 97, 32, 116, 97, 45, 98, 108, 101]⟩] w fun e w' => ∃ b off cL b2 off2 cW aV cV aV2 cV2, e = .returned (.tuple #[.agg #[.slice (some ⟨b, off, none⟩) 2 cL, .slice (some ⟨b2, off2, none⟩) 1 cW], .agg #[.int .i64 0, .int .i64 0]]) ∧ Only (fun _ => False) w w' ∧
    ∀ W, Only (fun _ => False) w' W → b < W.heap.size ∧ b2 < W.heap.size ∧ W.cell? ⟨b, off + 1, none⟩ = some (.slice aV 5 cV) ∧ W.cell? ⟨b2, off2 + 1, none⟩ = some (.slice aV2 6 cV2) ∧ (convert 35 9 (.slice aV 5 cV)).run Tryd.prog W = .ok (.string ⟨#[0, 0, 0, 1, 0]⟩) W ∧ (convert 35 9 (.slice aV2 6 cV2)).run Tryd.prog W = .ok (.string ⟨#[0, 0, 1, 0, 0, 0]⟩) W := by
  have k := parse_any ⟨#[46, 104, 121, 49, 112, 32, 50, 97, 32, 116, 97, 45, 98, 108, 101]⟩ w hz hT
  rw [pr0] at k
  refine k.mono ?_
  rintro e w' ⟨aL, cL, aW, cW, he, h1, h2, ho⟩
  simp only [List.length_cons, List.length_nil, Nat.zero_add, Nat.reduceAdd] at he h1 h2
  obtain ⟨b, off, p, x1, x2, aV, cV, rfl, hb, hp, _, c1, _, hB, _⟩ := h1.at (i := 0) (by omega)
  obtain ⟨b2, off2, p2, y1, y2, aV2, cV2, rfl, hb2, hp2, _, d1, _, hB2, _⟩ := h2.at (i := 0) (by omega)
  simp only [List.getElem?_cons_zero, Option.some.injEq] at hp hp2
  subst hp
  subst hp2
  refine ⟨b, off, cL, b2, off2, cW, aV, cV, aV2, cV2, he, ho, fun W hW => ?_⟩
  refine ⟨Nat.lt_of_lt_of_le hb hW.size, Nat.lt_of_lt_of_le hb2 hW.size, (World.cell?_of_block (a := ⟨b, off + 1, none⟩) (hW.block b hb (fun h => h))).trans ?_, (World.cell?_of_block (a := ⟨b2, off2 + 1, none⟩) (hW.block b2 hb2 (fun h => h))).trans ?_, ?_, ?_⟩
  · simpa using c1
  · simpa using d1
  · rw [← vs0]; exact conv_bl (hB.keep hW) (by decide)
  · rw [← vs1]; exact conv_bl (hB2.keep hW) (by decide)
set_option maxRecDepth 100000 in
set_option maxHeartbeats 4000000 in
theorem awake_law (w : World) (hz : 2 ≤ w.heap.size) (hT : Lib.Utf8Tabs 0 1 w) : Calls Tryd.prog 8 #[] w fun e w' => e = .returned (.bool true) ∧ Only (fun _ => False) w w' := by
  have HT : Hid (Lib.Utf8Tabs 0 1 w) := hT
  clear hT
  go_enter Tryd.func8, Tryd.ntmps8
  go_wp2_with (first | (go_at_call 10; refine Calls.mono (parse_ex w hz HT.out) ?_; rintro e w1 ⟨b, off, cL, b2, off2, cW, aV, cV, aV2, cV2, rfl, ho1, hk⟩; obtain ⟨l1, l2, c1, c2, v1, v2⟩ := hk (((w1.alloc (.cells #[.slice (some ⟨b, off, none⟩) 2 cL, .slice (some ⟨b2, off2, none⟩) 1 cW] 28)).alloc (.cells #[.int .i64 0, .int .i64 0] 31))) (((Only.refl _ _).alloc _).alloc _); have HO1 : Hid (Only (fun _ => False) w w1) := ho1; clear ho1 hk))
  obtain ⟨W2, hW2⟩ : ∃ W2, W2 = ((w1.alloc (.cells #[.slice (some ⟨b, off, none⟩) 2 cL, .slice (some ⟨b2, off2, none⟩) 1 cW] 28)).alloc (.cells #[.int .i64 0, .int .i64 0] 31)) := ⟨_, rfl⟩
  have HO2 : Hid (Only (fun _ => False) w W2) := by rw [hW2]; exact (HO1.out.alloc _).alloc _
  have hs2 : W2.heap.size = w1.heap.size + 1 + 1 := by rw [hW2]; simp
  have HB : Hid ((W2.alloc (.cells six 9)).heap[W2.heap.size]? = some (.cells six 9 (0, 0))) := heap_alloc_new W2 _
  unfold six at HB
  rw [hs2] at HB
  rw [← hW2]
  clear c1 c2 v1 v2 l1 l2 hW2
  obtain ⟨g, hg⟩ : ∃ g, g = w1.heap.size + 1 + 1 := ⟨_, rfl⟩
  rw [← hg] at HB
  rw [← hg]
  have HG : Hid (w.heap.size ≤ g ∧ g = W2.heap.size) := ⟨by rw [hg, ← hs2]; exact HO2.out.size, by rw [hg, hs2]⟩
  clear hg hs2
  go_loopg [46] 6 (fun gh v wr => ∃ (i : Nat) (W : World), W = wr ∧ gh = 6 - i ∧ i ≤ 6 ∧ v = .int .i64 (i : Int) ∧ Only (fun _ => False) w W ∧ W.heap[g]? = some (.cells six 9 (0, 0)))
  case atStart => exact ⟨0, _, rfl, rfl, Nat.zero_le _, rfl, HO2.out.alloc _, HB.out⟩
  case round =>
    obtain ⟨i, W, hW, rfl, hi, rfl, ho, hb⟩ := hrel
    subst hW
    have HO : Hid (Only (fun _ => False) w W) := ho
    have HBB : Hid (W.heap[g]? = some (.cells six 9 (0, 0))) := hb
    have hzW : 2 ≤ W.heap.size := Nat.le_trans hz ho.size
    have HTW : Hid (Lib.Utf8Tabs 0 1 W) := ho.tabs hz HT.out
    have hgl : g < W.heap.size := (Array.getElem?_eq_some_iff.1 hb).1
    clear ho hb
    by_cases hlt : i < 6
    · have t1 : (i : Int) < 6 := by omega
      obtain ⟨t, ht, hp⟩ := six_bad i hlt
      have HP : Hid (parseR t = (30, 0, [], [])) := hp
      have cc : W.cell? ⟨g, i, none⟩ = some (.string t) := (cell_blk HBB.out).trans ht
      clear hp ht
      go_wp2_with (first | (go_at_call 10; refine Calls.mono (parse_bad t W hzW HTW.out HP.out) ?_; rintro e w5 ⟨aL, cL, aW, cW, rfl, ho5⟩; have HO5 : Hid (Only (fun _ => False) W w5) := ho5; clear ho5))
      go_roundg (6 - (i + 1))
      case measure => omega
      case rel => exact ⟨i + 1, _, rfl, rfl, by omega, by go_num, ((HO.out.trans HO5.out).alloc _).alloc _, (((HO5.out.alloc _).alloc _).block g hgl (fun h => h)).trans HBB.out⟩
    · have t2 : decide ((i : Int) < 6) = false := decide_eq_false (by omega)
      go_wp2_with fail
      go_ret
      exact ⟨rfl, HO.out⟩
end Go.Proofs.YtjgbfpemkjpikaaDoor
