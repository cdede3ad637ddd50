/-
  stanzaref03.SameExpr of expressions wherever they lie; stanzaref04.Says.
-/
import Derived.Test.YtfbcijnacbfjpaaTn8z
import Derived.Test.YtfbcijnacbfjpaaEn5z
namespace Go.Proofs.Ytfbcijnacbfjpaa
open Go.RowKit Go.Maps
set_option linter.unusedVariables false
set_option linter.unusedSimpArgs false
open Rl (Ex Small)
def SameT (e : Ex) : Prop := ∀ (F F' : Nat → Prop) (v v' : Value) (w : World), Te w F e v → Te w F' e v' → Calls Try.prog 18 #[v, v'] w fun en w' => en = .returned (.bool true) ∧ Only (fun _ => False) w w'
set_option maxRecDepth 100000 in
set_option maxHeartbeats 8000000 in
theorem sameT_step (op set : Int) (kids : List Ex) (hl : kids.length ≤ 5000) (ih : ∀ k ∈ kids, SameT k) : SameT (.mk op set kids) := by
  intro F F' v v' w h1 h2
  obtain ⟨a, cap, rfl, hs0, hs1, hL⟩ := h1.kids
  obtain ⟨a', cap', rfl, _, _, hL'⟩ := h2.kids
  have H1 : Hid (Lf w F kids a cap) := hL
  have H2 : Hid (Lf w F' kids a' cap') := hL'
  have HI : Hid (∀ k ∈ kids, SameT k) := ih
  obtain ⟨n, hn⟩ : ∃ n, n = kids.length := ⟨_, rfl⟩
  have Hn : Hid (n = kids.length) := hn
  rw [← hn] at hl ⊢
  clear hn ih h1 h2 hL hL'
  have X0 : Hid (Xb ((w.alloc (.cells #[.int .u8 op, .int .u32 set, .slice a n cap] 49)).alloc (.cells #[.int .u8 op, .int .u32 set, .slice a' n cap'] 49)) w.heap.size (.int .u8 op) (.int .u32 set) (.slice a n cap)) := (Xb.new w _ _ _).alloc _
  have Y0 : Hid (Xb ((w.alloc (.cells #[.int .u8 op, .int .u32 set, .slice a n cap] 49)).alloc (.cells #[.int .u8 op, .int .u32 set, .slice a' n cap'] 49)) (w.heap.size + 1) (.int .u8 op) (.int .u32 set) (.slice a' n cap')) := heap_alloc2_new _ _ _
  have HO0 : Hid (Only (fun _ => False) w ((w.alloc (.cells #[.int .u8 op, .int .u32 set, .slice a n cap] 49)).alloc (.cells #[.int .u8 op, .int .u32 set, .slice a' n cap'] 49))) := ((Only.refl (fun _ => False) w).alloc _).alloc _
  go_enter Try.func18, Try.ntmps18
  go_wp2_with fail
  go_loopg [5] n (fun g v wr => ∃ (k : Nat) (W : World), W = wr ∧ g = n - k ∧ k ≤ n ∧ v = .int .i64 (k : Int) ∧ Only (fun _ => False) w W ∧ Xb W w.heap.size (.int .u8 op) (.int .u32 set) (.slice a n cap) ∧ Xb W (w.heap.size + 1) (.int .u8 op) (.int .u32 set) (.slice a' n cap'))
  case atStart => exact ⟨0, _, rfl, rfl, Nat.zero_le _, rfl, HO0.out, X0.out, Y0.out⟩
  case round =>
    obtain ⟨k, W, hW, rfl, hk, rfl, hOr, hXr, hYr⟩ := hrel
    subst hW
    have x2 := hXr.c2
    have y2 := hYr.c2
    have HOr : Hid (Only (fun _ => False) w W) := hOr
    have HX : Hid (Xb W w.heap.size (.int .u8 op) (.int .u32 set) (.slice a n cap)) := hXr
    have HY : Hid (Xb W (w.heap.size + 1) (.int .u8 op) (.int .u32 set) (.slice a' n cap')) := hYr
    clear hOr hXr hYr
    by_cases hlt : k < n
    · have t1 : (k : Int) < (n : Int) := by omega
      obtain ⟨e, he⟩ : ∃ e, kids[k]? = some e := ⟨kids[k]'(by rw [← Hn.out]; omega), List.getElem?_eq_getElem _⟩
      have HK : Hid (SameT e) := HI.out e (List.mem_of_getElem? he)
      obtain ⟨g, go, o, st, a1, n1, c1, rfl, hg, p0, p1, p2, hT⟩ := kid_at0 H1.out HOr.out he
      obtain ⟨g', go', o', st', a1', n1', c1', rfl, hg', p0', p1', p2', hT'⟩ := kid_at0 H2.out HOr.out he
      have HT : Hid (Te W F e (.agg #[.int .u8 o, .int .u32 st, .slice a1 n1 c1])) := hT
      have HT' : Hid (Te W F' e (.agg #[.int .u8 o', .int .u32 st', .slice a1' n1' c1'])) := hT'
      clear hT hT' he
      have HKC : Hid (Calls Try.prog 18 #[.agg #[.int .u8 o, .int .u32 st, .slice a1 n1 c1], .agg #[.int .u8 o', .int .u32 st', .slice a1' n1' c1']] W.drew fun en w' => en = .returned (.bool true) ∧ Only (fun _ => False) W.drew w') := HK.out F F' _ _ _ (Te.keep (Kp.only ((Only.refl (fun _ => False) W).drew) (fun _ _ h => h)) (fun _ h => h) _ _ HT.out) (Te.keep (Kp.only ((Only.refl (fun _ => False) W).drew) (fun _ _ h => h)) (fun _ h => h) _ _ HT'.out)
      go_wp2_with fail
      go_region_with (go_at_call 18; refine Calls.mono HKC.out ?_; rintro en w1 ⟨rfl, ho1⟩)
      all_goals
        go_wp2_with fail
        go_roundg (n - (k + 1))
        case measure => omega
        case rel => exact ⟨k + 1, _, rfl, rfl, by omega, by go_num, (HOr.out.drew).trans ho1, (HX.out.only ((Only.refl (fun _ => False) W).drew) (fun h => h)).only ho1 (fun h => h), (HY.out.only ((Only.refl (fun _ => False) W).drew) (fun h => h)).only ho1 (fun h => h)⟩
    · have t2 : decide ((k : Int) < (n : Int)) = false := decide_eq_false (by omega)
      go_wp2_with fail
      go_ret
      exact ⟨rfl, HOr.out⟩
theorem sameT_any : ∀ (e : Ex), Small e → SameT e
  | .mk op set kids, h => sameT_step op set kids h.kids.1 (fun k hk => sameT_any k (h.kids.2 k hk))
termination_by e => SizeOf.sizeOf e
decreasing_by
  have := List.sizeOf_lt_of_mem hk
  simp
  omega
theorem first_set (n : Nat) : (bA n (2 ^ 0 - 1)).setIfInBounds 0 (.bool true) = bA n 1 := by
  have := ones_set n 0
  simpa using this
set_option maxRecDepth 100000 in
set_option maxHeartbeats 4000000 in
theorem says_any (C : List Int) (e : Ex) (F : Nat → Prop) (op set : Int) (a : Option Addr) (m c : Nat) (w : World) (aC : Option Addr) (L cC : Nat) (hT : Te w F e (.agg #[.int .u8 op, .int .u32 set, .slice a m c])) (hN : Nn e) (hI : Iw w aC L C) (hL : L ≤ 199) :
    Calls Try.prog 20 #[.agg #[.int .u8 op, .int .u32 set, .slice a m c], .slice aC L cC] w fun e' w' => ∃ b, e' = .returned (.bool b) ∧ (b = true ↔ Au.mt C e 0 C.length) ∧ Only (fun _ => False) w w' := by
  have HT : Hid (Te w F e (.agg #[.int .u8 op, .int .u32 set, .slice a m c])) := hT
  have HN : Hid (Nn e) := hN
  have HI : Hid (Iw w aC L C) := hI
  obtain ⟨n, hn⟩ : ∃ n, n = L + 1 := ⟨_, rfl⟩
  have HNL : Hid (n = L + 1) := hn
  have hn2 : n ≤ 200 := by omega
  have hn1 : 0 < n := by omega
  have hnI : wrap64 ((L : Int) + 1) = (n : Int) := by unfold wrap64; omega
  have hnJ : IntKind.i64.wrap ((L : Int) + 1) = (n : Int) := by rw [hn]; push_cast; exact wrap_small _ (by omega) (by omega)
  have hLn : (L : Int) < (n : Int) := by omega
  have HB0 : Hid (Bk ((w.alloc (.cells #[.int .u8 op, .int .u32 set, .slice a m c] 49)).alloc (.cells (madeCells #[.bool false] n) 4)) (w.heap.size + 1) n (2 ^ 0 - 1)) := bk_one _ _ _
  have HX0 : Hid (((w.alloc (.cells #[.int .u8 op, .int .u32 set, .slice a m c] 49)).alloc (.cells (madeCells #[.bool false] n) 4)).heap[w.heap.size]? = some (.cells #[.int .u8 op, .int .u32 set, .slice a m c] 49 (0, 0))) := bx_made _ _ _
  clear hT hN hI hn
  have hmk := fun (w : World) => run_make_row' (P := Try.prog) 86 4 (.bool false) 1 Try.underlying86 info4 rfl .i64 .i64 n (by omega) (by omega) w
  have c0 := HB0.out.cell 0 hn1
  have f0 := HB0.out.fz 0
  have hbA : (madeCells #[.bool false] n).setIfInBounds 0 (.bool true) = bA n 1 := by
    have h1 : _ = some (Obj.cells (bA n (2 ^ 0 - 1)) 4 (0, 0)) := HB0.out
    rw [heap_alloc2_new] at h1
    injection h1 with h1
    injection h1 with h1
    rw [h1]
    exact first_set n
  obtain ⟨W, hW⟩ : ∃ W, W = (w.alloc (.cells #[.int .u8 op, .int .u32 set, .slice a m c] 49)).alloc (.cells ((madeCells #[.bool false] n).setIfInBounds 0 (.bool true)) 4) := ⟨_, rfl⟩
  have HBW : Hid (Bk W (w.heap.size + 1) n 1) := by
    show Bk _ _ _ _
    rw [hW, hbA]
    exact heap_alloc2_new _ _ _
  have HOW : Hid (Only (fun _ => False) w W) := by show Only _ _ _; rw [hW]; exact ((Only.refl _ _).alloc _).alloc _
  have hx : W.heap[w.heap.size]? = some (.cells #[.int .u8 op, .int .u32 set, .slice a m c] 49 (0, 0)) := by rw [hW]; exact bx_made _ _ _
  clear hbA
  have e0 : W.cell? ⟨w.heap.size, 0, none⟩ = some (.int .u8 op) := cell_blk hx
  have e1 : W.cell? ⟨w.heap.size, 1, none⟩ = some (.int .u32 set) := cell_blk hx
  have e2 : W.cell? ⟨w.heap.size, 2, none⟩ = some (.slice a m c) := cell_blk hx
  have el : w.heap.size < W.heap.size := (Array.getElem?_eq_some_iff.1 hx).1
  have HC : Hid (Calls Try.prog 33 #[.agg #[.int .u8 op, .int .u32 set, .slice a m c], .slice aC L cC, .slice (some ⟨w.heap.size + 1, 0, none⟩) n n] W fun e' w' => ∃ rb R, e' = .returned (.slice (some ⟨rb, 0, none⟩) n n) ∧ Bk w' rb n R ∧ R < 2 ^ n ∧ Au.Img (Au.mt C e) 1 R ∧ W.heap.size ≤ rb ∧ Only (fun _ => False) W w') :=
    ends_any C e F _ W aC L cC n (w.heap.size + 1) n 1 (Te.keep (Kp.only HOW.out (fun b hb h => h)) (fun _ h => h) _ _ HT.out) HN.out (HI.out.keep HOW.out) HNL.out hn2 HBW.out.bn (Nat.one_lt_two_pow (by omega))
  clear HBW HX0 HB0 hx
  subst hW
  go_enter Try.func20, Try.ntmps20
  go_wp2_with (go_at_call 33; refine Calls.mono HC.out ?_; rintro e' w2 ⟨rb, R, rfl, hb2, hl2, hi2, hn2, ho2⟩; have hc2 := hb2.cell L (by have := HNL.out; omega); have hlb := hb2.lt; have HI2 : Hid (Au.Img (Au.mt C e) 1 R) := hi2; have HO2 : Hid (Only (fun _ => False) w w2) := HOW.out.trans ho2; clear hb2 hl2 hi2 hn2 ho2)
  go_ret
  refine ⟨_, rfl, ?_, HO2.out⟩
  rw [HI.out.1, HI2.out L]
  constructor
  · rintro ⟨j, hj, h⟩
    have : j = 0 := by
      rw [Nat.testBit_one_eq_true_iff_self_eq_zero] at hj
      exact hj
    subst this
    exact h
  · intro h
    exact ⟨0, rfl, h⟩
end Go.Proofs.Ytfbcijnacbfjpaa
