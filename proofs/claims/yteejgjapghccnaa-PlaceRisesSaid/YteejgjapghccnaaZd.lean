/-
  stanzalaw17.PlaceRises: its walk.
-/
import Derived.Test.YteejgjapghccnaaYn
namespace Go.Proofs.Yteejgjapghccnaa.placeRises
open Go.RowKit Go.Maps
set_option linter.unusedVariables false
set_option linter.unusedSimpArgs false
theorem rise {C : List Ct} {t n j k : Nat} {L : List Ln} (ht : 0 < t) (h : Lv.Rws n L) (hj : j ≤ k) (hk : k ≤ n) : (Lv.spt C t L false j).1 < (Lv.spt C t L false k).1 ∨ ((Lv.spt C t L false j).1 = (Lv.spt C t L false k).1 ∧ (Lv.spt C t L false j).2 ≤ (Lv.spt C t L false k).2) := by
  rcases h with ⟨h, hn⟩ | ⟨h, e⟩
  · exact Lv.spt_rise ht h hn hj hk
  · have e1 : j = k := by omega
    rw [e1]
    exact Or.inr ⟨rfl, Nat.le_refl _⟩
set_option maxRecDepth 100000 in
set_option maxHeartbeats 8000000 in
theorem walk (L0 : List Bt) (a0 : Option Addr) (c0 : Nat) (K : Wy) (w : World) (hV : Vw w a0 (btC L0)) (hB : ∀ b ∈ L0, b.cells < 256 ∧ b.kind < 256 ∧ b.len < 256 ∧ b.opp < 256) (hc : L0.length ≤ c0) (hm : c0 ≤ maxLen) (hK : K.Ok) :
    Calls Try.prog 5 #[.slice a0 L0.length c0, K.val] w fun e w' => e = .returned (.bool true) ∧ Only (fun _ => False) w w' := by
  have HMA : Hid (∀ W, Only (fun _ => False) w W → Calls Try.prog 11 #[.slice a0 L0.length c0, K.val] W fun e w' => ∃ (C : List Ct) (O : List Nat) (k : Nat) (aC aO : Option Addr) (cC cO : Nat) (A : List Ln) (nA : Nat) (aA : Option Addr) (cA M s t : Nat), e = .returned (.tuple #[.agg #[.slice aC k cC, .slice aO (k + 1) cO], .slice aA nA cA, .pointer (some ⟨M, 0, none⟩), .int .i64 (s : Int), .int .i64 (t : Int)]) ∧ Md w' C O k aC aO cC cO A nA aA M s t ∧ Only (fun _ => False) W w') := fun W ho => made17_any L0 _ a0 c0 K W (hV.keep ho) hB rfl hc hm hK
  obtain ⟨nL, hnL⟩ : ∃ x, x = L0.length := ⟨_, rfl⟩
  rw [← hnL] at HMA ⊢
  obtain ⟨wi, tb, mo, hy, pr, lo⟩ := K
  unfold Wy.val at HMA ⊢
  simp only at HMA ⊢
  clear hV hB hc hm hK hnL
  go_enter Try.func5, Try.ntmps5
  go_wp2_with fail
  obtain ⟨R, w0, hw0', hR, H0, lR⟩ := box6 w (.int .u8 (wi : Int)) (.int .u8 (tb : Int)) (.int .u8 (mo : Int)) (.int .u16 (hy : Int)) (.int .u16 (pr : Int)) (.float .f64 lo) 26
  rw [hw0', hR]
  clear hw0' hR
  refine Calls.mono (awake17_any _) ?_
  rintro e w2 ⟨rfl, ho2⟩
  have H2 : Hid (w2.heap[R]? = some (.cells #[.int .u8 (wi : Int), .int .u8 (tb : Int), .int .u8 (mo : Int), .int .u16 (hy : Int), .int .u16 (pr : Int), .float .f64 lo] 26 (0, 0)) ∧ Only (fun _ => False) w w2) := ⟨blk_keep ho2 H0.out.1, H0.out.2.1.trans ho2⟩
  clear ho2 lR H0
  obtain ⟨r0, r1, r2, r3, r4, r5⟩ := blk_six H2.out.1
  have lR : R < w2.heap.size := (Array.getElem?_eq_some_iff.1 H2.out.1).1
  go_wp2_with fail
  refine Calls.mono (HMA.out _ H2.out.2) ?_
  rintro e X ⟨C, O, k, aC, aO, cC, cO, A, nA, aA, cA, M, s, t, rfl, hmd, hoX⟩
  have HX : Hid (Md X C O k aC aO cC cO A nA aA M s t ∧ Only (fun _ => False) w X) := ⟨hmd, H2.out.2.trans hoX⟩
  have hk : k ≤ 100 := hmd.few
  have hs : s ≤ 400 := by rw [hmd.hs]; exact hmd.sum
  have hnA : nA ≤ k := by have := hmd.chn.len; rw [hmd.hA]; omega
  have ht0 : 0 < t := hmd.t0
  have ht1 : t ≤ 64 := hmd.t1
  clear hmd hoX r0 r1 r2 r3 r4 r5 lR HMA
  go_upto_region 4 with fail
  obtain ⟨B5, Y, hY, hB5, HY, -, -, -⟩ := box2 X (.slice aC k cC) (.slice aO (k + 1) cO) 31
  rw [hY, hB5]
  clear hY hB5
  have HMD : Hid (∀ W', Only (fun _ => False) Y W' → Md W' C O k aC aO cC cO A nA aA M s t) := fun W' ho => HX.out.1.keep (HY.out.2.trans ho)
  have HC5 : Hid (∀ W', Only (fun _ => False) Y W' → W'.cell? ⟨B5, 0, none⟩ = some (.slice aC k cC) ∧ W'.cell? ⟨B5, 1, none⟩ = some (.slice aO (k + 1) cO) ∧ B5 < W'.heap.size) := fun W' ho => blk_two (blk_keep ho HY.out.1)
  have HOY : Hid (∀ W', Only (fun _ => False) Y W' → Only (fun _ => False) w W') := fun W' ho => HX.out.2.trans (HY.out.2.trans ho)
  have HSP : Hid (∀ W' (q : Nat) back, Only (fun _ => False) Y W' → q ≤ s → Calls Try.prog 12 #[.pointer (some ⟨M, 0, none⟩), .int .i64 (q : Int), .bool back] W' fun e w' => ∃ r c : Nat, Lv.spt C t (Lv.rof A) back (Lv.clu C q k) = (r, c) ∧ e = .returned (.tuple #[.agg #[.int .i64 (r : Int), .int .i64 (c : Int)], .int .i64 0]) ∧ Only (fun _ => False) W' w') := fun W' q back ho hq => spot_any M k C t (Lv.rof A) q back W' (HMD.out W' ho).map (by rw [← (HMD.out W' ho).hs]; exact hq)
  have HMA2 : Hid (Lv.Rws k (Lv.rof A) ∧ Lv.Ctg C ∧ k = C.length ∧ s = It.sum C) := ⟨Lv.rws_rof HX.out.1.chn, HX.out.1.ctg, HX.out.1.pv.hn, HX.out.1.hs⟩
  clear HX HY H2
  go_upto_region 5 with fail
  obtain ⟨Bl, Z, hZ, hBl, HZ, -, -, -⟩ := box2 Y (.int .i64 0) (.int .i64 0) 39
  rw [hZ, hBl]
  have HBl : Hid (Y.heap.size ≤ Bl) := Nat.le_of_eq hBl
  clear hZ hBl
  have HOL : Hid (∀ W', Only (fun g => g = Bl) Z W' → Only (fun _ => False) Y W') := fun W' ho => ((HZ.out.2.mono (fun _ h => h.elim)).trans ho).old (fun b hb => Or.inl (by rw [hb]; exact HBl.out))
  go_wp2_with fail
  go_loopg [11, 12] (s + 1) (fun gh v11 v12 wr => ∃ (q kk lr lc : Nat) (W : World), W = wr ∧ gh = s + 1 - q ∧ q ≤ s + 1 ∧ v11 = .int .i64 (kk : Int) ∧ v12 = .int .i64 (q : Int) ∧ kk ≤ Lv.clu C q k ∧ ((q = 0 ∧ lr = 0 ∧ lc = 0) ∨ (0 < q ∧ Lv.spt C t (Lv.rof A) false (Lv.clu C (q - 1) k) = (lr, lc))) ∧ W.heap[Bl]? = some (.cells #[.int .i64 (lr : Int), .int .i64 (lc : Int)] 39 (0, 0)) ∧ Only (fun g => g = Bl) Z W)
  case atStart => exact ⟨0, 0, 0, 0, _, rfl, rfl, Nat.zero_le _, rfl, rfl, Nat.zero_le _, Or.inl ⟨rfl, rfl, rfl⟩, HZ.out.1, Only.refl _ _⟩
  case round =>
    obtain ⟨q, kk, lr, lc, W, hW, rfl, hq, rfl, rfl, hkk, hlast, hBw, hoW⟩ := hrel
    subst hW
    have HI : Hid (kk ≤ Lv.clu C q k ∧ ((q = 0 ∧ lr = 0 ∧ lc = 0) ∨ (0 < q ∧ Lv.spt C t (Lv.rof A) false (Lv.clu C (q - 1) k) = (lr, lc))) ∧ W.heap[Bl]? = some (.cells #[.int .i64 (lr : Int), .int .i64 (lc : Int)] 39 (0, 0)) ∧ Only (fun g => g = Bl) Z W ∧ Only (fun _ => False) Y W) := ⟨hkk, hlast, hBw, hoW, HOL.out W hoW⟩
    clear hkk hlast hBw hoW
    by_cases hlt : q ≤ s
    · have t1 : (q : Int) ≤ (s : Int) := by omega
      go_wp2_with fail
      refine Calls.mono (HSP.out W q false HI.out.2.2.2.2 hlt) ?_
      rintro e w3 ⟨sr, sc, hsp, rfl, ho3⟩
      have H3 : Hid (Lv.spt C t (Lv.rof A) false (Lv.clu C q k) = (sr, sc) ∧ Only (fun _ => False) W w3) := ⟨hsp, ho3⟩
      clear hsp ho3
      go_upto_region 10 with fail
      obtain ⟨E1, w4, hw4, hE1, H4, -, -, -⟩ := box2 w3 (.int .i64 (sr : Int)) (.int .i64 (sc : Int)) 39
      rw [hw4, hE1]
      clear hw4 hE1
      have H4' : Hid (Only (fun _ => False) W w4) := H3.out.2.trans H4.out.2
      go_wp2_with fail
      refine Calls.mono (HSP.out w4 q true (HI.out.2.2.2.2.trans H4'.out) hlt) ?_
      rintro e w5 ⟨br, bc, hbp, rfl, ho5⟩
      have H5 : Hid (Lv.spt C t (Lv.rof A) true (Lv.clu C q k) = (br, bc) ∧ Only (fun _ => False) W w5 ∧ w5.heap[E1]? = some (.cells #[.int .i64 (sr : Int), .int .i64 (sc : Int)] 39 (0, 0))) := ⟨hbp, H4'.out.trans ho5, blk_keep ho5 H4.out.1⟩
      clear hbp ho5 H4 H4'
      go_upto_region 11 with fail
      obtain ⟨E2, w6, hw6, hE2, H6, y0, y1, ly⟩ := box2 w5 (.int .i64 (br : Int)) (.int .i64 (bc : Int)) 39
      rw [hw6, hE2]
      clear hw6 hE2
      have H7 : Hid (Only (fun _ => False) W w6 ∧ w6.heap[E1]? = some (.cells #[.int .i64 (sr : Int), .int .i64 (sc : Int)] 39 (0, 0)) ∧ w6.heap[Bl]? = some (.cells #[.int .i64 (lr : Int), .int .i64 (lc : Int)] 39 (0, 0))) := ⟨H5.out.2.1.trans H6.out.2, blk_keep H6.out.2 H5.out.2.2, blk_keep (H5.out.2.1.trans H6.out.2) HI.out.2.2.1⟩
      obtain ⟨z0, z1, lz⟩ := blk_two H7.out.2.1
      obtain ⟨l0, l1, ll⟩ := blk_two H7.out.2.2
      have hcl : Lv.clu C q k ≤ k := by
        have := (Lv.clu_at HMA2.out.2.1 q).1
        rw [← HMA2.out.2.2.1] at this
        exact this
      have hF : (lr < sr ∨ (lr = sr ∧ lc ≤ sc)) ∧ br ≤ sr ∧ sr ≤ br + 1 ∧ (br = sr → bc = sc) := by
        refine ⟨?_, ?_⟩
        · rcases HI.out.2.1 with ⟨h1, h2, h3⟩ | ⟨h1, h2⟩
          · rcases Nat.eq_zero_or_pos sr with e | e
            · exact Or.inr ⟨by omega, by omega⟩
            · exact Or.inl (by omega)
          · have hmono : Lv.clu C (q - 1) k ≤ Lv.clu C q k := by
              have := Lv.clu_mono HMA2.out.2.1 (show q - 1 ≤ q by omega)
              rw [← HMA2.out.2.2.1] at this
              exact this
            have := rise (C := C) ht0 HMA2.out.1 hmono hcl
            rw [h2, H3.out.1] at this
            exact this
        · have := Lv.spt_rows C t (Lv.rof A) (Lv.clu C q k)
          rw [H3.out.1, H5.out.1] at this
          refine ⟨this.1, this.2.1, fun e => ?_⟩
          have h2 := this.2.2 e
          injection h2 with _ h2
      have hsr : sr ≤ 1000 := by
        have h1 := Lv.rwF_lt (Lv.rof A) (Lv.clu C q k) (Lv.rof_ne A)
        have h2 := (rlen HMA2.out.1).2
        have h3 : (Lv.spt C t (Lv.rof A) false (Lv.clu C q k)).1 = Lv.rwF (Lv.rof A) (Lv.clu C q k) := by unfold Lv.spt; simp
        rw [H3.out.1] at h3
        simp only at h3
        omega
      obtain ⟨hF1, hF2, hF3, hF4⟩ := hF
      have u1 : decide ((sr : Int) < (lr : Int)) = false := decide_eq_false (by omega)
      have u1n : decide (sr < lr) = false := decide_eq_false (by omega)
      have u2 : decide ((sr : Int) < (br : Int)) = false := decide_eq_false (by omega)
      have u2n : decide (sr < br) = false := decide_eq_false (by omega)
      have u3 : decide ((br : Int) < (sr : Int) - 1) = false := decide_eq_false (by omega)
      have u3n : decide ((br : Int) + 1 < (sr : Int)) = false := decide_eq_false (by omega)
      go_cut [99] from 46 to 99 (fun v99 wr => v99 = .bool false ∧ w6 = wr)
      case first =>
        by_cases e1 : sr = lr
        · have u4 : ((sr : Int) == (lr : Int)) = true := by rw [beq_iff_eq]; omega
          have u5 : decide ((sc : Int) < (lc : Int)) = false := decide_eq_false (by omega)
          have u5n : decide (sc < lc) = false := decide_eq_false (by omega)
          clear e1
          by_cases e2 : br = sr
          · have e3 := hF4 e2
            have u6 : ((br : Int) == (sr : Int)) = true := by rw [beq_iff_eq]; omega
            have u7 : ((bc : Int) == (sc : Int)) = true := by rw [beq_iff_eq]; omega
            clear e2 e3 hF1 hF2 hF3 hF4
            go_wp2_with fail
            go_meet
            exact ⟨by first | rfl | simp, rfl⟩
          · have u6 : ((br : Int) == (sr : Int)) = false := by rw [beq_eq_false_iff_ne]; omega
            clear e2 hF1 hF2 hF3 hF4
            go_wp2_with fail
            go_meet
            exact ⟨by first | rfl | simp, rfl⟩
        · have u4 : ((sr : Int) == (lr : Int)) = false := by rw [beq_eq_false_iff_ne]; omega
          clear e1
          by_cases e2 : br = sr
          · have e3 := hF4 e2
            have u6 : ((br : Int) == (sr : Int)) = true := by rw [beq_iff_eq]; omega
            have u7 : ((bc : Int) == (sc : Int)) = true := by rw [beq_iff_eq]; omega
            clear e2 e3 hF1 hF2 hF3 hF4
            go_wp2_with fail
            go_meet
            exact ⟨by first | rfl | simp, rfl⟩
          · have u6 : ((br : Int) == (sr : Int)) = false := by rw [beq_eq_false_iff_ne]; omega
            clear e2 hF1 hF2 hF3 hF4
            go_wp2_with fail
            go_meet
            exact ⟨by first | rfl | simp, rfl⟩
      case rest =>
        obtain ⟨rfl, hw⟩ := hcut
        subst hw
        clear u1 u1n u2 u2n u3 u3n hF1 hF2 hF3 hF4 y0 y1 ly z0 z1 lz l0 l1 ll
        have HCM : Hid (Lv.clu C q k ≤ Lv.clu C (q + 1) k) := by
          have := Lv.clu_mono HMA2.out.2.1 (show q ≤ q + 1 by omega)
          rw [← HMA2.out.2.2.1] at this
          exact this
        have HCL : Hid (Lv.clu C q k ≤ k ∧ (Lv.clu C q k < k → q < It.sum (C.take (Lv.clu C q k + 1))) ∧ It.sum (C.take (Lv.clu C q k)) ≤ q) := by
          have := Lv.clu_at HMA2.out.2.1 q
          rw [← HMA2.out.2.2.1] at this
          exact this
        go_wp2_with fail
        go_loopg [11] (k - kk) (fun gh v11 wr => ∃ (kk2 : Nat) (W2 : World), W2 = wr ∧ gh = k - kk2 ∧ v11 = .int .i64 (kk2 : Int) ∧ kk2 ≤ Lv.clu C q k ∧ kk ≤ kk2 ∧ Only (fun _ => False) w6 W2)
        case atStart => exact ⟨kk, _, rfl, rfl, rfl, HI.out.1, Nat.le_refl _, Only.refl _ _⟩
        case round =>
          obtain ⟨kk2, W2, hW2, rfl, rfl, hk1, hk2, hoW2⟩ := hrel
          subst hW2
          have HJ : Hid (kk2 ≤ Lv.clu C q k ∧ kk ≤ kk2 ∧ Only (fun _ => False) w6 W2) := ⟨hk1, hk2, hoW2⟩
          have hkk2 : kk2 ≤ k := Nat.le_trans hk1 HCL.out.1
          clear hk1 hk2 hoW2
          have HYW : Hid (Only (fun _ => False) Y W2) := HI.out.2.2.2.2.trans (H7.out.1.trans HJ.out.2.2)
          obtain ⟨b0, b1, lb⟩ := HC5.out W2 HYW.out
          by_cases hlt2 : kk2 < k
          · have v1 : (kk2 : Int) < (k : Int) := by omega
            obtain ⟨z, hz⟩ : ∃ z, C[kk2]? = some z := ⟨_, List.getElem?_eq_getElem (by rw [← HMA2.out.2.2.1]; exact hlt2)⟩
            have hPw := (HMD.out W2 HYW.out).pv
            obtain ⟨xp, xl, xc, xk, rfl, hxc, hxk⟩ := hPw.ok.nat hz
            have hce := Lv.ctg_end HMA2.out.2.1 hz
            simp only at hce
            obtain ⟨g, off, eg, hg, d0, d1, d2, d3⟩ := hPw.vC.cluster (k := kk2) hz
            simp only at d0 d1 d2 d3
            have hxs : xp + xl ≤ 400 := by
              rw [hce.2.1]
              have h1 := It.sum_le (C := C) (kk2 + 1)
              have h2 := HMA2.out.2.2.2
              omega
            have HCE : Hid (xp = It.sum (C.take kk2) ∧ xp + xl = It.sum (C.take (kk2 + 1))) := ⟨hce.1, hce.2.1⟩
            subst eg
            clear hz hPw hce
            have ws : IntKind.i64.wrap ((xp : Int) + (xl : Int)) = (xp : Int) + (xl : Int) := wrap_sm _ (by omega) (by omega)
            by_cases hend : xp + xl ≤ q
            · have v2 : (xp : Int) + (xl : Int) ≤ (q : Int) := by omega
              have HNX : Hid (kk2 + 1 ≤ Lv.clu C q k) := by
                rcases Nat.lt_or_ge kk2 (Lv.clu C q k) with h | h
                · exact h
                · exfalso
                  have e : Lv.clu C q k = kk2 := by have := HJ.out.1; omega
                  have h2 := HCL.out.2.1 (by rw [e]; exact hlt2)
                  rw [e, ← HCE.out.2] at h2
                  omega
              go_upto_region 13 with fail
              go_quiet (fail)
              go_wp2_with fail
              go_roundg (k - (kk2 + 1))
              case measure => omega
              case rel => exact ⟨kk2 + 1, _, rfl, rfl, by go_num, HNX.out, Nat.le_succ_of_le HJ.out.2.1, HJ.out.2.2.drewN _⟩
            · have v2 : decide ((xp : Int) + (xl : Int) ≤ (q : Int)) = false := decide_eq_false (by omega)
              have v2n : decide (xp + xl ≤ q) = false := decide_eq_false (by omega)
              have hkc : Lv.clu C q k = kk2 := by
                rcases Nat.lt_or_ge kk2 (Lv.clu C q k) with h | h
                · exfalso
                  have h2 := Lv.sum_mono HMA2.out.2.1 (show kk2 + 1 ≤ Lv.clu C q k by omega) (by rw [← HMA2.out.2.2.1]; exact HCL.out.1)
                  have h3 := HCL.out.2.2
                  have h4 := HCE.out.2
                  omega
                · have := HJ.out.1; omega
              have HKC : Hid (Lv.clu C q k = kk2) := hkc
              clear hkc
              go_upto_region 13 with fail
              go_quiet (fail)
              obtain ⟨W2', hW2'⟩ : ∃ x, x = W2.drewN nq := ⟨_, rfl⟩
              rw [← hW2']
              have HJ' : Hid (kk2 ≤ Lv.clu C q k ∧ kk ≤ kk2 ∧ Only (fun _ => False) w6 W2') := ⟨HJ.out.1, HJ.out.2.1, by rw [hW2']; exact HJ.out.2.2.drewN _⟩
              have HD2 : Hid (W2'.cell? ⟨g, off + kk2 * 4, none⟩ = some (.int .i64 (xp : Int)) ∧ W2'.cell? ⟨B5, 0, none⟩ = some (.slice (some ⟨g, off, none⟩) k cC) ∧ W2'.cell? ⟨B5, 1, none⟩ = some (.slice aO (k + 1) cO)) := by
                rw [hW2']
                exact ⟨keep0 ((Only.refl _ _).drewN _) d0, keep0 ((Only.refl _ _).drewN _) b0, keep0 ((Only.refl _ _).drewN _) b1⟩
              clear hW2' d0 d1 d2 d3 b0 b1 lb hg
              obtain ⟨d0, b0, b1⟩ := HD2.out
              have hg := World.block_lt_of_cell? W2' _ d0
              have lb := World.block_lt_of_cell? W2' _ b0
              by_cases hat : xp < q
              · have v3 : (xp : Int) < (q : Int) := by omega
                have hsame : lr = sr ∧ lc = sc := by
                  rcases HI.out.2.1 with ⟨h1, _, _⟩ | ⟨h1, h2⟩
                  · omega
                  · have e2 : Lv.clu C (q - 1) C.length = kk2 := Lv.clu_iff HMA2.out.2.1 (by rw [← HMA2.out.2.2.1]; exact hkk2) (by rw [← HCE.out.1]; omega) (fun _ => by rw [← HCE.out.2]; omega)
                    rw [← HMA2.out.2.2.1] at e2
                    rw [e2] at h2
                    have h3 := H3.out.1
                    rw [HKC.out, h2] at h3
                    injection h3 with h3 h4
                    exact ⟨h3, h4⟩
                have v4 : ((sr : Int) == (lr : Int)) = true := by rw [beq_iff_eq]; omega
                have v5 : ((sc : Int) == (lc : Int)) = true := by rw [beq_iff_eq]; omega
                clear hsame
                have H9 : Hid (W2'.heap[E1]? = some (.cells #[.int .i64 (sr : Int), .int .i64 (sc : Int)] 39 (0, 0)) ∧ W2'.heap[Bl]? = some (.cells #[.int .i64 (lr : Int), .int .i64 (lc : Int)] 39 (0, 0)) ∧ Only (fun g => g = Bl) Z W2') := ⟨blk_keep HJ'.out.2.2 H7.out.2.1, blk_keep HJ'.out.2.2 H7.out.2.2, HI.out.2.2.2.1.trans ((H7.out.1.trans HJ'.out.2.2).mono (fun _ h => h.elim))⟩
                obtain ⟨z0, z1, lz⟩ := blk_two H9.out.1
                obtain ⟨l0, l1, ll⟩ := blk_two H9.out.2.1
                go_wp2_with (refine wpList_store_row rfl 39 _ _ rfl Bl #[.int .i64 (sr : Int), .int .i64 (sc : Int)] rfl rfl 39 _ H9.out.2.1 (by kernel_rfl) rfl (two_ints _ _) ?_)
                go_roundg (s + 1 - (q + 1))
                case measure => omega
                case rel => exact ⟨q + 1, kk2, sr, sc, _, rfl, rfl, by omega, rfl, by go_num, Nat.le_trans HJ'.out.1 HCM.out, Or.inr ⟨Nat.succ_pos _, H3.out.1⟩, setRow_heap _ _ _ _ _ _ H9.out.2.1, H9.out.2.2.trans (Only.setRow _ _ _)⟩
              · have v3 : decide ((xp : Int) < (q : Int)) = false := decide_eq_false (by omega)
                have v3n : decide (xp < q) = false := decide_eq_false (by omega)
                have H9 : Hid (W2'.heap[E1]? = some (.cells #[.int .i64 (sr : Int), .int .i64 (sc : Int)] 39 (0, 0)) ∧ W2'.heap[Bl]? = some (.cells #[.int .i64 (lr : Int), .int .i64 (lc : Int)] 39 (0, 0)) ∧ Only (fun g => g = Bl) Z W2') := ⟨blk_keep HJ'.out.2.2 H7.out.2.1, blk_keep HJ'.out.2.2 H7.out.2.2, HI.out.2.2.2.1.trans ((H7.out.1.trans HJ'.out.2.2).mono (fun _ h => h.elim))⟩
                obtain ⟨z0, z1, lz⟩ := blk_two H9.out.1
                obtain ⟨l0, l1, ll⟩ := blk_two H9.out.2.1
                go_wp2_with (refine wpList_store_row rfl 39 _ _ rfl Bl #[.int .i64 (sr : Int), .int .i64 (sc : Int)] rfl rfl 39 _ H9.out.2.1 (by kernel_rfl) rfl (two_ints _ _) ?_)
                go_roundg (s + 1 - (q + 1))
                case measure => omega
                case rel => exact ⟨q + 1, kk2, sr, sc, _, rfl, rfl, by omega, rfl, by go_num, Nat.le_trans HJ'.out.1 HCM.out, Or.inr ⟨Nat.succ_pos _, H3.out.1⟩, setRow_heap _ _ _ _ _ _ H9.out.2.1, H9.out.2.2.trans (Only.setRow _ _ _)⟩
          · have v1 : decide ((kk2 : Int) < (k : Int)) = false := decide_eq_false (by omega)
            have v1n : decide (kk2 < k) = false := decide_eq_false (by omega)
            go_upto_region 13 with fail
            go_quiet (fail)
            obtain ⟨W2', hW2'⟩ : ∃ x, x = W2.drewN nq := ⟨_, rfl⟩
            rw [← hW2']
            have HJ' : Hid (kk2 ≤ Lv.clu C q k ∧ kk ≤ kk2 ∧ Only (fun _ => False) w6 W2') := ⟨HJ.out.1, HJ.out.2.1, by rw [hW2']; exact HJ.out.2.2.drewN _⟩
            clear hW2' b0 b1 lb
            obtain ⟨b0, b1, lb⟩ := HC5.out W2' (HI.out.2.2.2.2.trans (H7.out.1.trans HJ'.out.2.2))
            have H9 : Hid (W2'.heap[E1]? = some (.cells #[.int .i64 (sr : Int), .int .i64 (sc : Int)] 39 (0, 0)) ∧ W2'.heap[Bl]? = some (.cells #[.int .i64 (lr : Int), .int .i64 (lc : Int)] 39 (0, 0)) ∧ Only (fun g => g = Bl) Z W2') := ⟨blk_keep HJ'.out.2.2 H7.out.2.1, blk_keep HJ'.out.2.2 H7.out.2.2, HI.out.2.2.2.1.trans ((H7.out.1.trans HJ'.out.2.2).mono (fun _ h => h.elim))⟩
            obtain ⟨z0, z1, lz⟩ := blk_two H9.out.1
            obtain ⟨l0, l1, ll⟩ := blk_two H9.out.2.1
            go_wp2_with (refine wpList_store_row rfl 39 _ _ rfl Bl #[.int .i64 (sr : Int), .int .i64 (sc : Int)] rfl rfl 39 _ H9.out.2.1 (by kernel_rfl) rfl (two_ints _ _) ?_)
            go_roundg (s + 1 - (q + 1))
            case measure => omega
            case rel => exact ⟨q + 1, kk2, sr, sc, _, rfl, rfl, by omega, rfl, by go_num, Nat.le_trans HJ'.out.1 HCM.out, Or.inr ⟨Nat.succ_pos _, H3.out.1⟩, setRow_heap _ _ _ _ _ _ H9.out.2.1, H9.out.2.2.trans (Only.setRow _ _ _)⟩
    · have t1 : decide ((q : Int) ≤ (s : Int)) = false := decide_eq_false (by omega)
      have t1n : decide (q ≤ s) = false := decide_eq_false (by omega)
      go_wp2_with fail
      go_ret
      exact ⟨rfl, HOY.out _ HI.out.2.2.2.2⟩
end Go.Proofs.Yteejgjapghccnaa.placeRises
