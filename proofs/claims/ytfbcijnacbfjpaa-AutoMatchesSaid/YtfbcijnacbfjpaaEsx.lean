/-
  stanzaref04.EndsSo.
-/
import Derived.Test.YtfbcijnacbfjpaaEn5x
namespace Go.Proofs.Ytfbcijnacbfjpaa
open Go.RowKit Go.Maps
set_option linter.unusedVariables false
set_option linter.unusedSimpArgs false
open Rl (Ex)
theorem ones_lt (i n : Nat) (h : i ≤ n) : 2 ^ i - 1 < 2 ^ n := by
  have := Nat.two_pow_pos i
  have := Au.pow_le h
  omega
theorem ones_set (n i : Nat) : (bA n (2 ^ i - 1)).setIfInBounds i (.bool true) = bA n (2 ^ (i + 1) - 1) := by
  apply bA_setb
  · intro j hj hn
    rw [Nat.testBit_two_pow_sub_one, Nat.testBit_two_pow_sub_one]
    apply decide_eq_decide.2
    omega
  · intro _
    rw [Nat.testBit_two_pow_sub_one]
    simp
theorem bk_one (w : World) (o : Obj) (n : Nat) : Bk ((w.alloc o).alloc (.cells (madeCells #[.bool false] n) 4)) (w.heap.size + 1) n (2 ^ 0 - 1) := bk_made w o n
set_option maxRecDepth 100000 in
set_option maxHeartbeats 4000000 in
theorem endsSo_any (C : List Int) (e : Ex) (F : Nat → Prop) (op set : Int) (a : Option Addr) (m c : Nat) (w : World) (aC : Option Addr) (L cC : Nat) (hT : Te w F e (.agg #[.int .u8 op, .int .u32 set, .slice a m c])) (hN : Nn e) (hI : Iw w aC L C) (hL : L ≤ 199) :
    Calls Try.prog 16 #[.agg #[.int .u8 op, .int .u32 set, .slice a m c], .slice aC L cC] w fun e' w' => ∃ b, e' = .returned (.bool b) ∧ (b = true ↔ ∃ i, Au.mt C e i C.length) ∧ Only (fun _ => False) w w' := by
  have HT : Hid (Te w F e (.agg #[.int .u8 op, .int .u32 set, .slice a m c])) := hT
  have HN : Hid (Nn e) := hN
  have HI : Hid (Iw w aC L C) := hI
  obtain ⟨n, hn⟩ : ∃ n, n = L + 1 := ⟨_, rfl⟩
  have HNL : Hid (n = L + 1) := hn
  have hn2 : n ≤ 200 := by omega
  have hnI : wrap64 ((L : Int) + 1) = (n : Int) := by unfold wrap64; omega
  have hnJ : IntKind.i64.wrap ((L : Int) + 1) = (n : Int) := by rw [hn]; push_cast; exact wrap_small _ (by omega) (by omega)
  have hLn : (L : Int) < (n : Int) := by omega
  have HB0 : Hid (Bk ((w.alloc (.cells #[.int .u8 op, .int .u32 set, .slice a m c] 49)).alloc (.cells (madeCells #[.bool false] n) 4)) (w.heap.size + 1) n (2 ^ 0 - 1)) := bk_one _ _ _
  have HX0 : Hid (((w.alloc (.cells #[.int .u8 op, .int .u32 set, .slice a m c] 49)).alloc (.cells (madeCells #[.bool false] n) 4)).heap[w.heap.size]? = some (.cells #[.int .u8 op, .int .u32 set, .slice a m c] 49 (0, 0))) := bx_made _ _ _
  clear hT hN hI hn
  have hmk := fun (w : World) => run_make_row' (P := Try.prog) 86 4 (.bool false) 1 Try.underlying86 info4 rfl .i64 .i64 n (by omega) (by omega) w
  go_enter Try.func16, Try.ntmps16
  go_wp2_with fail
  clear hmk
  go_loopg [6] n (fun gh vi wr => ∃ (i : Nat) (W : World), W = wr ∧ gh = n - i ∧ i ≤ n ∧ vi = .int .i64 (i : Int) ∧ Bk W (w.heap.size + 1) n (2 ^ i - 1) ∧ W.heap[w.heap.size]? = some (.cells #[.int .u8 op, .int .u32 set, .slice a m c] 49 (0, 0)) ∧ Only (fun _ => False) w W)
  case atStart => exact ⟨0, _, rfl, rfl, Nat.zero_le _, rfl, HB0.out, HX0.out, ((Only.refl _ _).alloc _).alloc _⟩
  case round =>
    obtain ⟨i, W, hW, rfl, hi, rfl, hb, hx, ho⟩ := hrel
    subst hW
    have HB : Hid (Bk W (w.heap.size + 1) n (2 ^ i - 1)) := hb
    have HX : Hid (W.heap[w.heap.size]? = some (.cells #[.int .u8 op, .int .u32 set, .slice a m c] 49 (0, 0))) := hx
    have HO : Hid (Only (fun _ => False) w W) := ho
    have e0 : W.cell? ⟨w.heap.size, 0, none⟩ = some (.int .u8 op) := cell_blk hx
    have e1 : W.cell? ⟨w.heap.size, 1, none⟩ = some (.int .u32 set) := cell_blk hx
    have e2 : W.cell? ⟨w.heap.size, 2, none⟩ = some (.slice a m c) := cell_blk hx
    have el : w.heap.size < W.heap.size := (Array.getElem?_eq_some_iff.1 hx).1
    have el2 : w.heap.size + 1 < W.heap.size := hb.lt
    have hfz := hb.fz i
    have hnb : w.heap.size ≠ w.heap.size + 1 := by omega
    clear hb hx ho
    by_cases hlt : i < n
    · have t1 : (i : Int) < (n : Int) := by omega
      have k3 := HB.out.cell i hlt
      go_wp2_with fail
      go_roundg (n - (i + 1))
      case measure => omega
      case rel => exact ⟨i + 1, _, rfl, rfl, by omega, by go_num, HB.out.setb true (ones_set n i), (Below.heap_setCell _ _ _ _ hnb).trans HX.out, HO.out.setNew (Nat.le_succ _) _⟩
    · have t2 : decide ((i : Int) < (n : Int)) = false := decide_eq_false (by omega)
      obtain rfl : i = n := by omega
      have HC : Hid (Calls Try.prog 33 #[.agg #[.int .u8 op, .int .u32 set, .slice a m c], .slice aC L cC, .slice (some ⟨w.heap.size + 1, 0, none⟩) i i] W fun e' w' => ∃ rb R, e' = .returned (.slice (some ⟨rb, 0, none⟩) i i) ∧ Bk w' rb i R ∧ R < 2 ^ i ∧ Au.Img (Au.mt C e) (2 ^ i - 1) R ∧ W.heap.size ≤ rb ∧ Only (fun _ => False) W w') :=
        ends_any C e F _ W aC L cC i (w.heap.size + 1) i (2 ^ i - 1) (Te.keep (Kp.only HO.out (fun b hb h => h)) (fun _ h => h) _ _ HT.out) HN.out (HI.out.keep HO.out) HNL.out hn2 HB.out.bn (ones_lt i i (Nat.le_refl _))
      go_wp2_with (go_at_call 33; refine Calls.mono HC.out ?_; rintro e w2 ⟨rb, R, rfl, hb2, hl2, hi2, hn2, ho2⟩; have hc2 := hb2.cell L (by have := HNL.out; omega); have hlb := hb2.lt; have HI2 : Hid (Au.Img (Au.mt C e) (2 ^ i - 1) R) := hi2; have HO2 : Hid (Only (fun _ => False) w w2) := HO.out.trans ho2; clear hb2 hl2 hi2 hn2 ho2)
      go_ret
      refine ⟨_, rfl, ?_, HO2.out⟩
      rw [HI.out.1, HI2.out L]
      constructor
      · rintro ⟨j, _, h⟩
        exact ⟨j, h⟩
      · rintro ⟨j, h⟩
        refine ⟨j, ?_, h⟩
        have := (Au.mt_le C e j L h).1
        have := HNL.out
        rw [Nat.testBit_two_pow_sub_one]
        exact decide_eq_true (by omega)
end Go.Proofs.Ytfbcijnacbfjpaa
