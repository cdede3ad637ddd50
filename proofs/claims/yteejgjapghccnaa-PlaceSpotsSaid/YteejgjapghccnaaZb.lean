/-
  stanzalaw17.PlaceSpots: its walk.
-/
import Derived.Test.YteejgjapghccnaaYn
import Derived.Test.YteejgjapghccnaaYk
namespace Go.Proofs.Yteejgjapghccnaa.placeSpots
open Go.RowKit Go.Maps
set_option linter.unusedVariables false
set_option linter.unusedSimpArgs false
set_option maxRecDepth 100000 in
set_option maxHeartbeats 8000000 in
theorem walk (L0 : List Bt) (a0 : Option Addr) (c0 : Nat) (K : Wy) (q : Int) (back : Bool) (w : World) (hV : Vw w a0 (btC L0)) (hB : ∀ b ∈ L0, b.cells < 256 ∧ b.kind < 256 ∧ b.len < 256 ∧ b.opp < 256) (hc : L0.length ≤ c0) (hm : c0 ≤ maxLen) (hK : K.Ok) (hq : -9223372036854775808 ≤ q ∧ q ≤ 9223372036854775807) :
    Calls Try.prog 3 #[.slice a0 L0.length c0, K.val, .int .i64 q, .bool back] w fun e w' => e = .returned (.bool true) ∧ Only (fun _ => False) w w' := by
  have HMA : Hid (∀ W, Only (fun _ => False) w W → Calls Try.prog 11 #[.slice a0 L0.length c0, K.val] W fun e w' => ∃ (C : List Ct) (O : List Nat) (k : Nat) (aC aO : Option Addr) (cC cO : Nat) (A : List Ln) (nA : Nat) (aA : Option Addr) (cA M s t : Nat), e = .returned (.tuple #[.agg #[.slice aC k cC, .slice aO (k + 1) cO], .slice aA nA cA, .pointer (some ⟨M, 0, none⟩), .int .i64 (s : Int), .int .i64 (t : Int)]) ∧ Md w' C O k aC aO cC cO A nA aA M s t ∧ Only (fun _ => False) W w') := fun W ho => made17_any L0 _ a0 c0 K W (hV.keep ho) hB rfl hc hm hK
  obtain ⟨nL, hnL⟩ : ∃ x, x = L0.length := ⟨_, rfl⟩
  rw [← hnL] at HMA ⊢
  obtain ⟨wi, tb, mo, hy, pr, lo⟩ := K
  unfold Wy.val at HMA ⊢
  simp only at HMA ⊢
  clear hV hB hc hm hK hnL
  go_enter Try.func3, Try.ntmps3
  go_wp2_with fail
  obtain ⟨R, w0, hw0', hR, H0, lR⟩ := box6 w (.int .u8 (wi : Int)) (.int .u8 (tb : Int)) (.int .u8 (mo : Int)) (.int .u16 (hy : Int)) (.int .u16 (pr : Int)) (.float .f64 lo) 26
  rw [hw0', hR]
  clear hw0' hR
  refine Calls.mono (awake17_any _) ?_
  rintro e w2 ⟨rfl, ho2⟩
  have H2 : Hid (w2.heap[R]? = some (.cells #[.int .u8 (wi : Int), .int .u8 (tb : Int), .int .u8 (mo : Int), .int .u16 (hy : Int), .int .u16 (pr : Int), .float .f64 lo] 26 (0, 0)) ∧ Only (fun _ => False) w w2) := ⟨blk_keep ho2 H0.out.1, H0.out.2.1.trans ho2⟩
  clear ho2 lR H0
  obtain ⟨r0, r1, r2, r3, r4, r5⟩ := blk_six H2.out.1
  have lR : R < w2.heap.size := (Array.getElem?_eq_some_iff.1 H2.out.1).1
  go_wp2_with fail
  refine Calls.mono (HMA.out _ H2.out.2) ?_
  rintro e X ⟨C, O, k, aC, aO, cC, cO, A, nA, aA, cA, M, s, t, rfl, hmd, hoX⟩
  have HX : Hid (Md X C O k aC aO cC cO A nA aA M s t ∧ Only (fun _ => False) w X) := ⟨hmd, H2.out.2.trans hoX⟩
  have hk : k ≤ 100 := hmd.few
  have hs : s ≤ 400 := by rw [hmd.hs]; exact hmd.sum
  have hnA : nA ≤ k := by have := hmd.chn.len; rw [hmd.hA]; omega
  have ht0 : 0 < t := hmd.t0
  have ht1 : t ≤ 64 := hmd.t1
  clear hmd hoX r0 r1 r2 r3 r4 r5 lR HMA
  go_upto_region 4 with fail
  obtain ⟨B5, Y, hY, hB5, HY, -, -, -⟩ := box2 X (.slice aC k cC) (.slice aO (k + 1) cO) 31
  rw [hY, hB5]
  clear hY hB5
  have HMD : Hid (∀ W', Only (fun _ => False) Y W' → Md W' C O k aC aO cC cO A nA aA M s t) := fun W' ho => HX.out.1.keep (HY.out.2.trans ho)
  have HC5 : Hid (∀ W', Only (fun _ => False) Y W' → W'.cell? ⟨B5, 0, none⟩ = some (.slice aC k cC) ∧ W'.cell? ⟨B5, 1, none⟩ = some (.slice aO (k + 1) cO) ∧ B5 < W'.heap.size) := fun W' ho => blk_two (blk_keep ho HY.out.1)
  have HOY : Hid (∀ W', Only (fun _ => False) Y W' → Only (fun _ => False) w W') := fun W' ho => HX.out.2.trans (HY.out.2.trans ho)
  have HSP : Hid (∀ W' (q : Nat) back, Only (fun _ => False) Y W' → q ≤ s → Calls Try.prog 12 #[.pointer (some ⟨M, 0, none⟩), .int .i64 (q : Int), .bool back] W' fun e w' => ∃ r c : Nat, Lv.spt C t (Lv.rof A) back (Lv.clu C q k) = (r, c) ∧ e = .returned (.tuple #[.agg #[.int .i64 (r : Int), .int .i64 (c : Int)], .int .i64 0]) ∧ Only (fun _ => False) W' w') := fun W' q back ho hq => spot_any M k C t (Lv.rof A) q back W' (HMD.out W' ho).map (by rw [← (HMD.out W' ho).hs]; exact hq)
  have HRW : Hid (∀ W', Only (fun _ => False) Y W' → Calls Try.prog 14 #[.pointer (some ⟨M, 0, none⟩)] W' fun e w' => e = .returned (.int .i64 ((max nA 1 : Nat) : Int)) ∧ W' = w') := fun W' ho => nrows_any M k C t (Lv.rof A) (max nA 1) W' (HMD.out W' ho).map (by rw [Lv.rof_len, (HMD.out W' ho).hA])
  have HSO : Hid (∀ W' (x : Int) back, Only (fun _ => False) Y W' → (x < 0 ∨ (s : Int) < x) → Calls Try.prog 12 #[.pointer (some ⟨M, 0, none⟩), .int .i64 x, .bool back] W' fun e w' => e = .returned (.tuple #[.agg #[.int .i64 0, .int .i64 0], .int .i64 2]) ∧ Only (fun _ => False) W' w') := fun W' x back ho hx => spot_out M k C t (Lv.rof A) x back W' (HMD.out W' ho).map (by rw [← (HMD.out W' ho).hs]; exact hx)
  have HRS : Hid (∀ W' (q : Nat) back, Only (fun _ => False) Y W' → q ≤ s → Calls Try.prog 13 #[.agg #[.slice aC k cC, .slice aO (k + 1) cO], .slice aA nA cA, .int .i64 (t : Int), .int .i64 (q : Int), .bool back] W' fun e w' => ∃ r c : Nat, Lv.spt C t (Lv.rof A) back (Lv.clu C q k) = (r, c) ∧ e = .returned (.tuple #[.agg #[.int .i64 (r : Int), .int .i64 (c : Int)], .int .i64 0]) ∧ Only (fun _ => False) W' w') := fun W' q back ho hq => by
    have h := HMD.out W' ho
    exact refSpot_any C O k (k + 1) aC aO cC cO t A nA aA cA q back W' h.pv h.ctg (Nat.le_trans h.sum (by decide)) h.chn h.vA h.hA (by omega) ht0 (by omega) (by rw [← h.hs]; exact hq)
  have HRO : Hid (∀ W' (x : Int) back, Only (fun _ => False) Y W' → (x < 0 ∨ (s : Int) < x) → Calls Try.prog 13 #[.agg #[.slice aC k cC, .slice aO (k + 1) cO], .slice aA nA cA, .int .i64 (t : Int), .int .i64 x, .bool back] W' fun e w' => e = .returned (.tuple #[.agg #[.int .i64 0, .int .i64 0], .int .i64 2]) ∧ Only (fun _ => False) W' w') := fun W' x back ho hx => by
    have h := HMD.out W' ho
    exact refSpot_out C O k (k + 1) aC aO cC cO t A nA aA cA x back W' h.pv h.ctg (Nat.le_trans h.sum (by decide)) h.chn h.vA h.hA (by omega) ht0 (by omega) (by rw [← h.hs]; exact hx)
  clear HX HY H2
  obtain ⟨ux, hux⟩ : ∃ x : Nat, x = (q % 18446744073709551616).toNat := ⟨_, rfl⟩
  have huxI : (ux : Int) = q % 18446744073709551616 := by omega
  have hux2 : ux < 18446744073709551616 := by omega
  have eu : IntKind.u64.wrap q = (ux : Int) := by rw [huxI]; rfl
  obtain ⟨m1, hm1⟩ : ∃ x : Nat, x = ux % (s + 1) := ⟨_, rfl⟩
  have hm1s : m1 ≤ s := by have := Nat.mod_lt ux (show 0 < s + 1 by omega); omega
  have em : (ux : Int).tmod ((s : Int) + 1) = (m1 : Int) := by
    rw [Int.tmod_eq_emod_of_nonneg (by omega), hm1]
    exact (by push_cast; rfl)
  clear hux huxI hm1
  go_upto_region 5 with fail
  obtain ⟨G, Z, hZ, hG, HZ, -⟩ := box4 Y (.int .i64 q) (.int .i64 (m1 : Int)) (.int .i64 (s : Int)) (.int .i64 0) 3
  rw [hZ, hG]
  clear hZ hG
  have HG0 : Hid (Z.heap[G]? = some (.cells #[.int .i64 q, .int .i64 (m1 : Int), .int .i64 (s : Int), .int .i64 0] 3 (0, 0)) ∧ Only (fun _ => False) Y Z) := ⟨HZ.out.1, HZ.out.2.1⟩
  clear HZ
  go_loopg [42] 4 (fun gh v42 wr => ∃ (i : Nat) (W : World), W = wr ∧ gh = 4 - i ∧ i ≤ 4 ∧ v42 = .int .i64 (i : Int) ∧ Only (fun _ => False) Z W)
  case atStart => exact ⟨0, _, rfl, rfl, Nat.zero_le _, rfl, Only.refl _ _⟩
  case round =>
    obtain ⟨i, W, hW, rfl, hi, rfl, hoW⟩ := hrel
    subst hW
    have HG : Hid (Only (fun _ => False) Y W ∧ Only (fun _ => False) Z W) := ⟨HG0.out.2.trans hoW, hoW⟩
    clear hoW
    by_cases hlt : i < 4
    · have t1 : (i : Int) < 4 := by omega
      obtain ⟨x, c1⟩ : ∃ x : Int, W.cell? ⟨G, i, none⟩ = some (.int .i64 x) := by
        obtain ⟨d0, d1, d2, d3⟩ := blk_four (blk_keep HG.out.2 HG0.out.1)
        rcases (show i = 0 ∨ i = 1 ∨ i = 2 ∨ i = 3 by omega) with rfl | rfl | rfl | rfl
        · exact ⟨_, d0⟩
        · exact ⟨_, d1⟩
        · exact ⟨_, d2⟩
        · exact ⟨_, d3⟩
      have lG := World.block_lt_of_cell? W _ c1
      by_cases hx : 0 ≤ x ∧ x ≤ (s : Int)
      · obtain ⟨qn, hqn⟩ : ∃ n : Nat, (n : Int) = x := ⟨x.toNat, by omega⟩
        subst hqn
        have hqs : qn ≤ s := by omega
        clear hx
        obtain ⟨b0, b1, lb⟩ := HC5.out W HG.out.1
        go_wp2_with fail
        refine Calls.mono (HSP.out W qn back HG.out.1 hqs) ?_
        rintro e w3 ⟨r, c, hrc, rfl, ho3⟩
        have H3 : Hid (Only (fun _ => False) Z w3) := HG.out.2.trans ho3
        clear ho3 b0 b1 lb c1
        go_upto_region 8 with fail
        obtain ⟨E1, w4, hw4, hE1, H4, -, -, -⟩ := box2 w3 (.int .i64 (r : Int)) (.int .i64 (c : Int)) 39
        rw [hw4, hE1]
        clear hw4 hE1
        have H4' : Hid (Only (fun _ => False) Z w4 ∧ Only (fun _ => False) Y w4) := ⟨H3.out.trans H4.out.2, HG0.out.2.trans (H3.out.trans H4.out.2)⟩
        obtain ⟨b0, b1, lb⟩ := HC5.out w4 H4'.out.2
        go_wp2_with fail
        refine Calls.mono (HRS.out w4 qn back H4'.out.2 hqs) ?_
        rintro e w5 ⟨r', c', hrc', rfl, ho5⟩
        have hsame : (r, c) = (r', c') := hrc.symm.trans hrc'
        injection hsame with e1 e2
        subst e1 e2
        clear hrc hrc'
        have H5 : Hid (Only (fun _ => False) Z w5 ∧ w5.heap[E1]? = some (.cells #[.int .i64 (r : Int), .int .i64 (c : Int)] 39 (0, 0))) := ⟨H4'.out.1.trans ho5, blk_keep ho5 H4.out.1⟩
        clear ho5 b0 b1 lb
        go_upto_region 9 with fail
        obtain ⟨E2, w6, hw6, hE2, H6, y0, y1, ly⟩ := box2 w5 (.int .i64 (r : Int)) (.int .i64 (c : Int)) 39
        rw [hw6, hE2]
        clear hw6 hE2
        obtain ⟨z0, z1, lz⟩ := blk_two (blk_keep H6.out.2 H5.out.2)
        go_wp2_with fail
        go_roundg (4 - (i + 1))
        case measure => omega
        case rel => exact ⟨i + 1, _, rfl, rfl, by omega, by go_num, H5.out.1.trans H6.out.2⟩
      · have hqo : x < 0 ∨ (s : Int) < x := by omega
        clear hx
        obtain ⟨b0, b1, lb⟩ := HC5.out W HG.out.1
        go_wp2_with fail
        refine Calls.mono (HSO.out W x back HG.out.1 hqo) ?_
        rintro e w3 ⟨rfl, ho3⟩
        have H3 : Hid (Only (fun _ => False) Z w3) := HG.out.2.trans ho3
        clear ho3 b0 b1 lb c1
        go_upto_region 8 with fail
        obtain ⟨E1, w4, hw4, hE1, H4, -, -, -⟩ := box2 w3 (.int .i64 0) (.int .i64 0) 39
        rw [hw4, hE1]
        clear hw4 hE1
        have H4' : Hid (Only (fun _ => False) Z w4 ∧ Only (fun _ => False) Y w4) := ⟨H3.out.trans H4.out.2, HG0.out.2.trans (H3.out.trans H4.out.2)⟩
        obtain ⟨b0, b1, lb⟩ := HC5.out w4 H4'.out.2
        go_wp2_with fail
        refine Calls.mono (HRO.out w4 x back H4'.out.2 hqo) ?_
        rintro e w5 ⟨rfl, ho5⟩
        have H5 : Hid (Only (fun _ => False) Z w5 ∧ w5.heap[E1]? = some (.cells #[.int .i64 0, .int .i64 0] 39 (0, 0))) := ⟨H4'.out.1.trans ho5, blk_keep ho5 H4.out.1⟩
        clear ho5 b0 b1 lb
        go_upto_region 9 with fail
        obtain ⟨E2, w6, hw6, hE2, H6, y0, y1, ly⟩ := box2 w5 (.int .i64 0) (.int .i64 0) 39
        rw [hw6, hE2]
        clear hw6 hE2
        obtain ⟨z0, z1, lz⟩ := blk_two (blk_keep H6.out.2 H5.out.2)
        go_wp2_with fail
        go_roundg (4 - (i + 1))
        case measure => omega
        case rel => exact ⟨i + 1, _, rfl, rfl, by omega, by go_num, H5.out.1.trans H6.out.2⟩
    · have t1 : decide ((i : Int) < 4) = false := decide_eq_false (by omega)
      have hn1 : (if (nA : Int) < 1 then (1 : Int) else (nA : Int)) = ((max nA 1 : Nat) : Int) := by split <;> omega
      go_wp2_with fail
      refine Calls.mono (HRW.out _ HG.out.1) ?_
      rintro e w3 ⟨rfl, rfl⟩
      obtain ⟨N, hN⟩ : ∃ x, x = max nA 1 := ⟨_, rfl⟩
      rw [← hN] at hn1 ⊢
      have HN : Hid (N = max nA 1) := hN
      have hN1 : ¬ nA ≤ N → False := fun h => h (by omega)
      by_cases hz : 1 ≤ nA
      · have e3 : N = nA := by omega
        subst e3
        have u1 : decide ((N : Int) < 1) = false := decide_eq_false (by omega)
        have u2 : (1 : Int) ≤ (N : Int) := by omega
        clear hN hn1 HN hN1
        go_wp2_with fail
        go_ret
        exact ⟨by first | rfl | simp, HOY.out _ HG.out.1⟩
      · have e3 : N = 1 := by omega
        have e4 : nA = 0 := by omega
        subst e3 e4
        clear hN hn1 HN hN1
        go_wp2_with fail
        go_ret
        exact ⟨by first | rfl | simp, HOY.out _ HG.out.1⟩
end Go.Proofs.Yteejgjapghccnaa.placeSpots
