/-
  PatsLimits' walk.
-/
import Derived.Test.YtjgbfpemkjpikaaDoorLm
import Derived.Test.YtjgbfpemkjpikaaDoorAw
import Derived.Test.YtjgbfpemkjpikaaDoorR6
namespace Go.Proofs.YtjgbfpemkjpikaaDoor
open Go.RowKit Go.Maps
set_option linter.unusedVariables false
set_option linter.unusedSimpArgs false
theorem conv_two (W : World) (x y : Nat) (p q : Int) (hp : p = x) (hq : q = y) (hx : x < 256) (hy : y < 256) : ∃ X : ByteArray, tl X = [x, y] ∧ X.size = 2 ∧ (convert 35 9 (.slice (some ⟨W.heap.size, 0, none⟩) 2 2)).run Tryd.prog (W.alloc (.cells #[.int .u8 p, .int .u8 q] 5)) = .ok (.string X) (W.alloc (.cells #[.int .u8 p, .int .u8 q] 5)) := by
  subst hp
  subst hq
  refine ⟨strOfNums [(x : Int), (y : Int)], ?_, rfl, ?_⟩
  · simp [tl, strOfNums]
    exact ⟨hx, hy⟩
  · refine run_convert_bytes_arg (P := Tryd.prog) _ 35 5 Tryd.underlying35 Tryd.underlying5 W.heap.size 0 2 2 _ rfl (fun i hi => ?_) 9 Tryd.underlying9
    obtain rfl | rfl : i = 0 ∨ i = 1 := by omega
    · exact cell_blk (heap_alloc_new W _)
    · exact cell_blk (heap_alloc_new W _)
theorem parse_ok (t : ByteArray) (w : World) (hz : 2 ≤ w.heap.size) (hT : Lib.Utf8Tabs 0 1 w) (h : (parseR t).1 = 0) : Calls Tryd.prog 10 #[.string t] w fun e w' => ∃ aL nL cL aW nW cW x, e = .returned (.tuple #[.agg #[.slice aL nL cL, .slice aW nW cW], .agg #[.int .i64 0, .int .i64 x]]) ∧ Only (fun _ => False) w w' := by
  have k := parse_any t w hz hT
  refine k.mono ?_
  rintro e w' ⟨aL, cL, aW, cW, h1, _, _, h2⟩
  rw [h] at h1
  exact ⟨aL, _, cL, aW, _, cW, _, h1, h2⟩
theorem parse_is (t : ByteArray) (w : World) (hz : 2 ≤ w.heap.size) (hT : Lib.Utf8Tabs 0 1 w) {c a : Nat} (h : parseR t = (c, a, [], [])) : Calls Tryd.prog 10 #[.string t] w fun e w' => ∃ aL cL aW cW, e = .returned (.tuple #[.agg #[.slice aL 0 cL, .slice aW 0 cW], .agg #[.int .i64 (c : Int), .int .i64 (a : Int)]]) ∧ Only (fun _ => False) w w' := by
  have k := parse_any t w hz hT
  rw [h] at k
  refine k.mono ?_
  rintro e w' ⟨aL, cL, aW, cW, h1, _, _, h2⟩
  exact ⟨aL, cL, aW, cW, h1, h2⟩
set_option maxRecDepth 100000 in
set_option maxHeartbeats 4000000 in
theorem limA0 (a b : Int) (ha : 0 ≤ a) (ha2 : a ≤ 255) (hb : 0 ≤ b) (hb2 : b ≤ 255) (h1 : a % 2 = 0) (h2 : b % 2 = 0) (w : World) (hz : 2 ≤ w.heap.size) (hT : Lib.Utf8Tabs 0 1 w) : Calls Tryd.prog 6 #[.int .u8 a, .int .u8 b] w fun e w' => e = .returned (.bool true) ∧ Only (fun _ => False) w w' := by
  have HT : Hid (Lib.Utf8Tabs 0 1 w) := hT
  clear hT
  go_enter Tryd.func6, Tryd.ntmps6
  go_wp2_with (first | (go_at_call 8; refine Calls.mono (awake_law w hz HT.out) ?_; rintro e w1 ⟨rfl, ho1⟩; have HO1 : Hid (Only (fun _ => False) w w1) := ho1; clear ho1))
  go_loopg [22, 6, 7] 256 (fun gh v v6 v7 wr => ∃ (i at' : Nat) (s : ByteArray) (W : World), W = wr ∧ gh = 256 - i ∧ i ≤ 256 ∧ v = .int .i64 (i : Int) ∧ v6 = .string s ∧ v7 = .int .i64 (at' : Int) ∧ tl s = limL i ∧ (0 < i → at' + 4 = 4 * i) ∧ Only (fun _ => False) w W)
  case atStart => exact ⟨0, 0, _, _, rfl, rfl, Nat.zero_le _, rfl, rfl, rfl, rfl, fun h => absurd h (by omega), HO1.out⟩
  case round =>
    obtain ⟨i, at', s, W, hW, rfl, hi, rfl, rfl, rfl, hs, hat, ho⟩ := hrel
    subst hW
    have HO : Hid (Only (fun _ => False) w W) := ho
    have HS : Hid (tl s = limL i) := hs
    have HAT : Hid (0 < i → at' + 4 = 4 * i) := hat
    have hsz : s.size = 4 * i := by rw [← tl_len, hs, limL_len]
    have hzW : 2 ≤ W.heap.size := Nat.le_trans hz ho.size
    have HTW : Hid (Lib.Utf8Tabs 0 1 W) := ho.tabs hz HT.out
    clear ho hs hat
    by_cases hlt : i < 256
    · have t1 : (i : Int) < 256 := by omega
      obtain ⟨X, hX, hX2, hcv⟩ := conv_two W (97 + i % 26) (97 + i / 26) (97 + (i : Int) % 26) (97 + (i : Int) / 26) (by omega) (by omega) (by omega) (by omega)
      have HX : Hid (tl X = [97 + i % 26, 97 + i / 26]) := hX
      clear hX
      go_wp2_with fail
      go_roundg (256 - (i + 1))
      case measure => omega
      case rel =>
        refine ⟨i + 1, 4 * i, _, _, rfl, rfl, by omega, by go_num, rfl, by go_num, ?_, fun _ => by omega, HO.out.alloc _⟩
        simp only [limL, limw, tl_app, HS.out, HX.out]
        rfl
    · have t2 : decide ((i : Int) < 256) = false := decide_eq_false (by omega)
      obtain rfl : i = 256 := by omega
      have HP : Hid ((parseR s).1 = 0) := parse_lim6 HS.out
      go_wp2_with (first | (go_at_call 10; refine Calls.mono (parse_ok s W hzW HTW.out HP.out) ?_; rintro e w5 ⟨aL, nL, cL, aW, nW, cW, x, rfl, ho5⟩; have HO5 : Hid (Only (fun _ => False) W w5) := ho5; have hz5 : 2 ≤ ((w5.alloc (.cells #[.slice aL nL cL, .slice aW nW cW] 28)).alloc (.cells #[.int .i64 0, .int .i64 x] 31)).heap.size := Nat.le_trans hzW ((ho5.alloc _).alloc _).size; clear ho5) | (go_at_call 9; refine Calls.mono (told_all s _ hz5 (((HO5.out.alloc _).alloc _).tabs hzW HTW.out)) ?_; rintro e w6 ⟨rfl, ho6⟩; have HO6 : Hid (Only (fun _ => False) ((w5.alloc (.cells #[.slice aL nL cL, .slice aW nW cW] 28)).alloc (.cells #[.int .i64 0, .int .i64 x] 31)) w6) := ho6; clear ho6))
      go_ret
      exact ⟨rfl, ((HO.out.trans ((HO5.out.alloc _).alloc _))).trans HO6.out⟩
set_option maxRecDepth 100000 in
set_option maxHeartbeats 4000000 in
theorem limA1 (a b : Int) (ha : 0 ≤ a) (ha2 : a ≤ 255) (hb : 0 ≤ b) (hb2 : b ≤ 255) (h1 : a % 2 = 0) (h2 : b % 2 = 1) (w : World) (hz : 2 ≤ w.heap.size) (hT : Lib.Utf8Tabs 0 1 w) : Calls Tryd.prog 6 #[.int .u8 a, .int .u8 b] w fun e w' => e = .returned (.bool true) ∧ Only (fun _ => False) w w' := by
  have HT : Hid (Lib.Utf8Tabs 0 1 w) := hT
  clear hT
  go_enter Tryd.func6, Tryd.ntmps6
  go_wp2_with (first | (go_at_call 8; refine Calls.mono (awake_law w hz HT.out) ?_; rintro e w1 ⟨rfl, ho1⟩; have HO1 : Hid (Only (fun _ => False) w w1) := ho1; clear ho1))
  go_loopg [22, 6, 7] 257 (fun gh v v6 v7 wr => ∃ (i at' : Nat) (s : ByteArray) (W : World), W = wr ∧ gh = 257 - i ∧ i ≤ 257 ∧ v = .int .i64 (i : Int) ∧ v6 = .string s ∧ v7 = .int .i64 (at' : Int) ∧ tl s = limL i ∧ (0 < i → at' + 4 = 4 * i) ∧ Only (fun _ => False) w W)
  case atStart => exact ⟨0, 0, _, _, rfl, rfl, Nat.zero_le _, rfl, rfl, rfl, rfl, fun h => absurd h (by omega), HO1.out⟩
  case round =>
    obtain ⟨i, at', s, W, hW, rfl, hi, rfl, rfl, rfl, hs, hat, ho⟩ := hrel
    subst hW
    have HO : Hid (Only (fun _ => False) w W) := ho
    have HS : Hid (tl s = limL i) := hs
    have HAT : Hid (0 < i → at' + 4 = 4 * i) := hat
    have hsz : s.size = 4 * i := by rw [← tl_len, hs, limL_len]
    have hzW : 2 ≤ W.heap.size := Nat.le_trans hz ho.size
    have HTW : Hid (Lib.Utf8Tabs 0 1 W) := ho.tabs hz HT.out
    clear ho hs hat
    by_cases hlt : i < 257
    · have t1 : (i : Int) < 257 := by omega
      obtain ⟨X, hX, hX2, hcv⟩ := conv_two W (97 + i % 26) (97 + i / 26) (97 + (i : Int) % 26) (97 + (i : Int) / 26) (by omega) (by omega) (by omega) (by omega)
      have HX : Hid (tl X = [97 + i % 26, 97 + i / 26]) := hX
      clear hX
      go_wp2_with fail
      go_roundg (257 - (i + 1))
      case measure => omega
      case rel =>
        refine ⟨i + 1, 4 * i, _, _, rfl, rfl, by omega, by go_num, rfl, by go_num, ?_, fun _ => by omega, HO.out.alloc _⟩
        simp only [limL, limw, tl_app, HS.out, HX.out]
        rfl
    · have t2 : decide ((i : Int) < 257) = false := decide_eq_false (by omega)
      obtain rfl : i = 257 := by omega
      obtain rfl : at' = 1024 := by have := HAT.out (by omega); omega
      have HP : Hid (parseR s = (24, 1024, [], [])) := parse_lim7 HS.out
      clear hi
      go_wp2_with (first | (go_at_call 10; refine Calls.mono (parse_is s W hzW HTW.out HP.out) ?_; rintro e w5 ⟨aL, cL, aW, cW, rfl, ho5⟩; have HO5 : Hid (Only (fun _ => False) W w5) := ho5; clear ho5))
      go_ret
      exact ⟨rfl, HO.out.trans ((HO5.out.alloc _).alloc _)⟩
set_option maxRecDepth 100000 in
set_option maxHeartbeats 4000000 in
theorem limB0 (a b : Int) (ha : 0 ≤ a) (ha2 : a ≤ 255) (hb : 0 ≤ b) (hb2 : b ≤ 255) (h1 : a % 2 = 1) (h2 : b % 2 = 0) (w : World) (hz : 2 ≤ w.heap.size) (hT : Lib.Utf8Tabs 0 1 w) : Calls Tryd.prog 6 #[.int .u8 a, .int .u8 b] w fun e w' => e = .returned (.bool true) ∧ Only (fun _ => False) w w' := by
  have HT : Hid (Lib.Utf8Tabs 0 1 w) := hT
  clear hT
  go_enter Tryd.func6, Tryd.ntmps6
  go_wp2_with (first | (go_at_call 8; refine Calls.mono (awake_law w hz HT.out) ?_; rintro e w1 ⟨rfl, ho1⟩; have HO1 : Hid (Only (fun _ => False) w w1) := ho1; clear ho1))
  go_loopg [44, 6] 24 (fun gh v v6 wr => ∃ (i : Nat) (s : ByteArray) (W : World), W = wr ∧ gh = 24 - i ∧ i ≤ 24 ∧ v = .int .i64 (i : Int) ∧ v6 = .string s ∧ tl s = xsL i ∧ Only (fun _ => False) w W)
  case atStart => exact ⟨0, _, _, rfl, rfl, Nat.zero_le _, rfl, rfl, rfl, HO1.out⟩
  case round =>
    obtain ⟨i, s, W, hW, rfl, hi, rfl, rfl, hs, ho⟩ := hrel
    subst hW
    have HO : Hid (Only (fun _ => False) w W) := ho
    have HS : Hid (tl s = xsL i) := hs
    have hsz : s.size = 3 + i := by rw [← tl_len, hs]; simp [xsL]; omega
    have hzW : 2 ≤ W.heap.size := Nat.le_trans hz ho.size
    have HTW : Hid (Lib.Utf8Tabs 0 1 W) := ho.tabs hz HT.out
    clear ho hs
    by_cases hlt : i < 24
    · have t1 : (i : Int) < 24 := by omega
      go_wp2_with fail
      go_roundg (24 - (i + 1))
      case measure => omega
      case rel =>
        refine ⟨i + 1, _, _, rfl, rfl, by omega, by go_num, rfl, ?_, HO.out⟩
        rw [tl_app, HS.out]
        unfold xsL
        rw [List.replicate_succ', List.append_assoc]
        rfl
    · have t2 : decide ((i : Int) < 24) = false := decide_eq_false (by omega)
      obtain rfl : i = 24 := by omega
      have HP : Hid ((parseR s).1 = 0) := parse_x24 HS.out
      go_wp2_with (first | (go_at_call 10; refine Calls.mono (parse_ok s W hzW HTW.out HP.out) ?_; rintro e w5 ⟨aL, nL, cL, aW, nW, cW, x, rfl, ho5⟩; have HO5 : Hid (Only (fun _ => False) W w5) := ho5; have hz5 : 2 ≤ ((w5.alloc (.cells #[.slice aL nL cL, .slice aW nW cW] 28)).alloc (.cells #[.int .i64 0, .int .i64 x] 31)).heap.size := Nat.le_trans hzW ((ho5.alloc _).alloc _).size; clear ho5) | (go_at_call 9; refine Calls.mono (told_all s _ hz5 (((HO5.out.alloc _).alloc _).tabs hzW HTW.out)) ?_; rintro e w6 ⟨rfl, ho6⟩; have HO6 : Hid (Only (fun _ => False) ((w5.alloc (.cells #[.slice aL nL cL, .slice aW nW cW] 28)).alloc (.cells #[.int .i64 0, .int .i64 x] 31)) w6) := ho6; clear ho6))
      go_ret
      exact ⟨rfl, ((HO.out.trans ((HO5.out.alloc _).alloc _))).trans HO6.out⟩
set_option maxRecDepth 100000 in
set_option maxHeartbeats 4000000 in
theorem limB1 (a b : Int) (ha : 0 ≤ a) (ha2 : a ≤ 255) (hb : 0 ≤ b) (hb2 : b ≤ 255) (h1 : a % 2 = 1) (h2 : b % 2 = 1) (w : World) (hz : 2 ≤ w.heap.size) (hT : Lib.Utf8Tabs 0 1 w) : Calls Tryd.prog 6 #[.int .u8 a, .int .u8 b] w fun e w' => e = .returned (.bool true) ∧ Only (fun _ => False) w w' := by
  have HT : Hid (Lib.Utf8Tabs 0 1 w) := hT
  clear hT
  go_enter Tryd.func6, Tryd.ntmps6
  go_wp2_with (first | (go_at_call 8; refine Calls.mono (awake_law w hz HT.out) ?_; rintro e w1 ⟨rfl, ho1⟩; have HO1 : Hid (Only (fun _ => False) w w1) := ho1; clear ho1))
  go_loopg [44, 6] 25 (fun gh v v6 wr => ∃ (i : Nat) (s : ByteArray) (W : World), W = wr ∧ gh = 25 - i ∧ i ≤ 25 ∧ v = .int .i64 (i : Int) ∧ v6 = .string s ∧ tl s = xsL i ∧ Only (fun _ => False) w W)
  case atStart => exact ⟨0, _, _, rfl, rfl, Nat.zero_le _, rfl, rfl, rfl, HO1.out⟩
  case round =>
    obtain ⟨i, s, W, hW, rfl, hi, rfl, rfl, hs, ho⟩ := hrel
    subst hW
    have HO : Hid (Only (fun _ => False) w W) := ho
    have HS : Hid (tl s = xsL i) := hs
    have hsz : s.size = 3 + i := by rw [← tl_len, hs]; simp [xsL]; omega
    have hzW : 2 ≤ W.heap.size := Nat.le_trans hz ho.size
    have HTW : Hid (Lib.Utf8Tabs 0 1 W) := ho.tabs hz HT.out
    clear ho hs
    by_cases hlt : i < 25
    · have t1 : (i : Int) < 25 := by omega
      go_wp2_with fail
      go_roundg (25 - (i + 1))
      case measure => omega
      case rel =>
        refine ⟨i + 1, _, _, rfl, rfl, by omega, by go_num, rfl, ?_, HO.out⟩
        rw [tl_app, HS.out]
        unfold xsL
        rw [List.replicate_succ', List.append_assoc]
        rfl
    · have t2 : decide ((i : Int) < 25) = false := decide_eq_false (by omega)
      obtain rfl : i = 25 := by omega
      have HP : Hid (parseR s = (30, 3, [], [])) := parse_x25 HS.out
      clear hi
      go_wp2_with (first | (go_at_call 10; refine Calls.mono (parse_is s W hzW HTW.out HP.out) ?_; rintro e w5 ⟨aL, cL, aW, cW, rfl, ho5⟩; have HO5 : Hid (Only (fun _ => False) W w5) := ho5; clear ho5))
      go_ret
      exact ⟨rfl, HO.out.trans ((HO5.out.alloc _).alloc _)⟩
end Go.Proofs.YtjgbfpemkjpikaaDoor
