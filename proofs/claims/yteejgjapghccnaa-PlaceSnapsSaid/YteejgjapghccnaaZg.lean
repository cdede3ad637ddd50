/-
  stanzalaw17.PlaceSnaps: its walk.
-/
import Derived.Test.YteejgjapghccnaaYn
namespace Go.Proofs.Yteejgjapghccnaa.placeSnaps
open Go.RowKit Go.Maps
set_option linter.unusedVariables false
set_option linter.unusedSimpArgs false
set_option maxRecDepth 100000 in
set_option maxHeartbeats 8000000 in
theorem walk (L0 : List Bt) (a0 : Option Addr) (c0 : Nat) (K : Wy) (far : Int) (w : World) (hV : Vw w a0 (btC L0)) (hB : ∀ b ∈ L0, b.cells < 256 ∧ b.kind < 256 ∧ b.len < 256 ∧ b.opp < 256) (hc : L0.length ≤ c0) (hm : c0 ≤ maxLen) (hK : K.Ok) (hfar : 0 ≤ far ∧ far ≤ 65535) :
    Calls Try.prog 7 #[.slice a0 L0.length c0, K.val, .int .u16 far] w fun e w' => e = .returned (.bool true) ∧ Only (fun _ => False) w w' := by
  have HMA : Hid (∀ W, Only (fun _ => False) w W → Calls Try.prog 11 #[.slice a0 L0.length c0, K.val] W fun e w' => ∃ (C : List Ct) (O : List Nat) (k : Nat) (aC aO : Option Addr) (cC cO : Nat) (A : List Ln) (nA : Nat) (aA : Option Addr) (cA M s t : Nat), e = .returned (.tuple #[.agg #[.slice aC k cC, .slice aO (k + 1) cO], .slice aA nA cA, .pointer (some ⟨M, 0, none⟩), .int .i64 (s : Int), .int .i64 (t : Int)]) ∧ Md w' C O k aC aO cC cO A nA aA M s t ∧ Only (fun _ => False) W w') := fun W ho => made17_any L0 _ a0 c0 K W (hV.keep ho) hB rfl hc hm hK
  obtain ⟨nL, hnL⟩ : ∃ x, x = L0.length := ⟨_, rfl⟩
  rw [← hnL] at HMA ⊢
  obtain ⟨wi, tb, mo, hy, pr, lo⟩ := K
  unfold Wy.val at HMA ⊢
  simp only at HMA ⊢
  clear hV hB hc hm hK hnL
  go_enter Try.func7, Try.ntmps7
  go_wp2_with fail
  obtain ⟨R, w0, hw0', hR, H0, lR⟩ := box6 w (.int .u8 (wi : Int)) (.int .u8 (tb : Int)) (.int .u8 (mo : Int)) (.int .u16 (hy : Int)) (.int .u16 (pr : Int)) (.float .f64 lo) 26
  rw [hw0', hR]
  clear hw0' hR
  refine Calls.mono (awake17_any _) ?_
  rintro e w2 ⟨rfl, ho2⟩
  have H2 : Hid (w2.heap[R]? = some (.cells #[.int .u8 (wi : Int), .int .u8 (tb : Int), .int .u8 (mo : Int), .int .u16 (hy : Int), .int .u16 (pr : Int), .float .f64 lo] 26 (0, 0)) ∧ Only (fun _ => False) w w2) := ⟨blk_keep ho2 H0.out.1, H0.out.2.1.trans ho2⟩
  clear ho2 lR H0
  obtain ⟨r0, r1, r2, r3, r4, r5⟩ := blk_six H2.out.1
  have lR : R < w2.heap.size := (Array.getElem?_eq_some_iff.1 H2.out.1).1
  go_wp2_with fail
  refine Calls.mono (HMA.out _ H2.out.2) ?_
  rintro e X ⟨C, O, k, aC, aO, cC, cO, A, nA, aA, cA, M, s, t, rfl, hmd, hoX⟩
  have HX : Hid (Md X C O k aC aO cC cO A nA aA M s t ∧ Only (fun _ => False) w X) := ⟨hmd, H2.out.2.trans hoX⟩
  have hk : k ≤ 100 := hmd.few
  have hs : s ≤ 400 := by rw [hmd.hs]; exact hmd.sum
  have hnA : nA ≤ k := by have := hmd.chn.len; rw [hmd.hA]; omega
  have ht0 : 0 < t := hmd.t0
  have ht1 : t ≤ 64 := hmd.t1
  clear hmd hoX r0 r1 r2 r3 r4 r5 lR HMA
  go_upto_region 4 with fail
  obtain ⟨B5, Y, hY, hB5, HY, -, -, -⟩ := box2 X (.slice aC k cC) (.slice aO (k + 1) cO) 31
  rw [hY, hB5]
  clear hY hB5
  have HMD : Hid (∀ W', Only (fun _ => False) Y W' → Md W' C O k aC aO cC cO A nA aA M s t) := fun W' ho => HX.out.1.keep (HY.out.2.trans ho)
  have HC5 : Hid (∀ W', Only (fun _ => False) Y W' → W'.cell? ⟨B5, 0, none⟩ = some (.slice aC k cC) ∧ W'.cell? ⟨B5, 1, none⟩ = some (.slice aO (k + 1) cO) ∧ B5 < W'.heap.size) := fun W' ho => blk_two (blk_keep ho HY.out.1)
  have HOY : Hid (∀ W', Only (fun _ => False) Y W' → Only (fun _ => False) w W') := fun W' ho => HX.out.2.trans (HY.out.2.trans ho)
  have HSP : Hid (∀ W' (q : Nat) back, Only (fun _ => False) Y W' → q ≤ s → Calls Try.prog 12 #[.pointer (some ⟨M, 0, none⟩), .int .i64 (q : Int), .bool back] W' fun e w' => ∃ r c : Nat, Lv.spt C t (Lv.rof A) back (Lv.clu C q k) = (r, c) ∧ e = .returned (.tuple #[.agg #[.int .i64 (r : Int), .int .i64 (c : Int)], .int .i64 0]) ∧ Only (fun _ => False) W' w') := fun W' q back ho hq => spot_any M k C t (Lv.rof A) q back W' (HMD.out W' ho).map (by rw [← (HMD.out W' ho).hs]; exact hq)
  have HBY : Hid (∀ W' (r c : Nat) (l : Ln), Only (fun _ => False) Y W' → (Lv.rof A)[r]? = some l → Calls Try.prog 15 #[.pointer (some ⟨M, 0, none⟩), .agg #[.int .i64 (r : Int), .int .i64 (c : Int)]] W' fun e w' => e = .returned (.tuple #[.int .i64 ((It.sum (C.take (Lv.byt C t l c)) : Nat) : Int), .int .i64 0]) ∧ Only (fun _ => False) W' w') := fun W' r c l ho hl => byte_any M k C t (Lv.rof A) r c l W' (HMD.out W' ho).map hl
  have HMA2 : Hid (Lv.Rws k (Lv.rof A) ∧ Lv.Ctg C ∧ k = C.length ∧ s = It.sum C ∧ Lv.Chn 0 k A ∧ nA = A.length ∧ Cok C) := ⟨Lv.rws_rof HX.out.1.chn, HX.out.1.ctg, HX.out.1.pv.hn, HX.out.1.hs, HX.out.1.chn, HX.out.1.hA, HX.out.1.pv.ok⟩
  obtain ⟨fr, hfr⟩ : ∃ n : Nat, (n : Int) = far := ⟨far.toNat, by omega⟩
  subst hfr
  have hfr2 : fr ≤ 65535 := by omega
  clear HX HY H2 hfar
  go_wp2_with fail
  go_loopg [36] nA (fun gh v36 wr => ∃ (i : Nat) (W : World), W = wr ∧ gh = nA - i ∧ i ≤ nA ∧ v36 = .int .i64 (i : Int) ∧ Only (fun _ => False) Y W)
  case atStart => exact ⟨0, _, rfl, rfl, Nat.zero_le _, rfl, Only.refl _ _⟩
  case round =>
    obtain ⟨i, W, hW, rfl, hi, rfl, hoW⟩ := hrel
    subst hW
    have HG : Hid (Only (fun _ => False) Y W) := hoW
    clear hoW
    by_cases hlt : i < nA
    · have t1 : (i : Int) < (nA : Int) := by omega
      obtain ⟨l, hl⟩ : ∃ l, A[i]? = some l := ⟨_, List.getElem?_eq_getElem (by rw [← HMA2.out.2.2.2.2.2.1]; exact hlt)⟩
      have hat := Lv.chn_at HMA2.out.2.2.2.2.1 hl
      obtain ⟨bl, ol, e0, hbl, c0', c1, c2, c3⟩ := (HMD.out W HG.out).vA.line hl
      obtain ⟨la, lb, lc, le⟩ := l
      simp only at c0' c1 c2 c3 hat
      have HLN : Hid (A[i]? = some ⟨la, lb, lc, le⟩ ∧ Lv.rof A = A) := ⟨hl, Lv.rof_self (fun e => by rw [e] at hl; simp at hl)⟩
      have hab : la < lb := hat.2.1
      have hbk : lb ≤ k := hat.2.2.1
      have hlast : i + 1 = nA ↔ lb = k := by rw [HMA2.out.2.2.2.2.2.1]; exact hat.2.2.2.2
      subst e0
      clear hat hl
      go_upto_region 7 with fail
      obtain ⟨lk, W3, hW3, hlk, H3, -⟩ := box4 W (.int .i64 (la : Int)) (.int .i64 (lb : Int)) (.int .i64 (lc : Int)) (.int .u8 (le : Int)) 59
      rw [hW3, hlk]
      clear hW3 hlk c0' c1 c2 c3 hbl
      have HS3 : Hid (∀ W', Only (fun _ => False) W3 W' → (W'.cell? ⟨lk, 0, none⟩ = some (.int .i64 (la : Int)) ∧ W'.cell? ⟨lk, 1, none⟩ = some (.int .i64 (lb : Int))) ∧ lk < W'.heap.size ∧ Only (fun _ => False) Y W') := fun W' ho => by
        have hl := blk_keep ho H3.out.1
        exact ⟨⟨(blk_four hl).1, (blk_four hl).2.1⟩, (Array.getElem?_eq_some_iff.1 hl).1, HG.out.trans (H3.out.2.1.trans ho)⟩
      obtain ⟨⟨l0, l1⟩, ll, -⟩ := HS3.out W3 (Only.refl _ _)
      obtain ⟨b0, b1, lB⟩ := HC5.out W3 (HS3.out W3 (Only.refl _ _)).2.2
      by_cases h20 : 20 < i
      · have v0 : (20 : Int) < (i : Int) := by omega
        go_wp2_with fail
        go_ret
        exact ⟨rfl, HOY.out _ (HS3.out W3 (Only.refl _ _)).2.2⟩
      · have v0 : decide ((20 : Int) < (i : Int)) = false := decide_eq_false (by omega)
        have v0n : decide (20 < i) = false := decide_eq_false (by omega)
        have hPw := (HMD.out W3 (HS3.out W3 (Only.refl _ _)).2.2).pv
        obtain ⟨za, hza⟩ : ∃ z, C[la]? = some z := ⟨_, List.getElem?_eq_getElem (by rw [← HMA2.out.2.2.1]; omega)⟩
        obtain ⟨yp, yl, yc, yk, rfl, hyc, hyk⟩ := hPw.ok.nat hza
        have hca := (Lv.ctg_end HMA2.out.2.1 hza).1
        obtain ⟨g, off, eg, hg, f0, f1, f2, f3⟩ := hPw.vC.cluster (k := la) hza
        simp only at f0 f1 f2 f3 hca
        have hlaI : (la : Int) < (k : Int) := by omega
        have hlan : la < k := by omega
        have HYP : Hid (yp = It.sum (C.take la)) := hca
        have HBT : Hid (∀ c, la ≤ Lv.byt C t ⟨la, lb, lc, le⟩ c ∧ Lv.byt C t ⟨la, lb, lc, le⟩ c ≤ lb ∧ Sp.col C t la (Lv.byt C t ⟨la, lb, lc, le⟩ c - la) ≤ c) := fun c => ⟨(Lv.byt_in C ht0 ⟨la, lb, lc, le⟩ (Nat.le_of_lt hab) c).1, (Lv.byt_in C ht0 ⟨la, lb, lc, le⟩ (Nat.le_of_lt hab) c).2, Lv.byt_col C ht0 ⟨la, lb, lc, le⟩ c⟩
        have HRS : Hid (∀ a b, a ≤ b → b ≤ k → It.sum (C.take a) ≤ It.sum (C.take b)) := fun a b h1 h2 => Lv.sum_mono HMA2.out.2.1 h1 (by rw [← HMA2.out.2.2.1]; exact h2)
        have HST : Hid (∀ a b, a < b → b ≤ k → It.sum (C.take a) < It.sum (C.take b)) := fun a b h1 h2 => Lv.sum_rise HMA2.out.2.1 h1 (by rw [← HMA2.out.2.2.1]; exact h2)
        have HCB : Hid (∀ b, b ≤ k → Lv.clu C (It.sum (C.take b)) k = b) := fun b hb => by
          have := Lv.clu_own HMA2.out.2.1 (show b ≤ C.length by rw [← HMA2.out.2.2.1]; exact hb)
          rw [← HMA2.out.2.2.1] at this
          exact this
        have HSL : Hid (∀ b, b ≤ k → It.sum (C.take b) ≤ s) := fun b _ => by rw [HMA2.out.2.2.2.1]; exact It.sum_le _
        have HFB : Hid (Lv.byt C t ⟨la, lb, lc, le⟩ (1073741824 + fr) = lb) := by
          refine Lv.byt_far C ht0 ⟨la, lb, lc, le⟩ (Nat.le_of_lt hab) ?_
          show Sp.col C t la (lb - la) < 1073741824 + fr
          have h1 := Sp.col_le C ht0 (fun i => HMA2.out.2.2.2.2.2.2.at i) la (lb - la)
          have h2 : (lb - la) * (t + 2) ≤ 100 * 66 := Nat.mul_le_mul (by omega) (by omega)
          omega
        have HROW : Hid ((Lv.rof A)[i]? = some ⟨la, lb, lc, le⟩) := by rw [HLN.out.2]; exact HLN.out.1
        clear hza hPw hca
        by_cases hnx : i + 1 < nA
        · have hlk2 : lb < k := by
            rcases Nat.lt_or_ge lb k with h | h
            · exact h
            · have := hlast.2 (by omega); omega
          have u1 : (lb : Int) < (k : Int) := by omega
          have u2 : (i : Int) < (nA : Int) - 1 := by omega
          have u2' : (i : Int) + 1 < (nA : Int) := by omega
          obtain ⟨m, hm⟩ : ∃ m, A[i + 1]? = some m := ⟨_, List.getElem?_eq_getElem (by rw [← HMA2.out.2.2.2.2.2.1]; exact hnx)⟩
          obtain ⟨z, hz⟩ : ∃ z, C[lb]? = some z := ⟨_, List.getElem?_eq_getElem (by rw [← HMA2.out.2.2.1]; exact hlk2)⟩
          have hPw := (HMD.out W3 (HS3.out W3 (Only.refl _ _)).2.2).pv
          obtain ⟨xp, xl, xc, xk, rfl, hxc, hxk⟩ := hPw.ok.nat hz
          have hce := (Lv.ctg_end HMA2.out.2.1 hz).1
          simp only at hce
          obtain ⟨g2, off2, eg2, hg2, d0, d1, d2, d3⟩ := hPw.vC.cluster (k := lb) hz
          simp only at d0 d1 d2 d3
          rw [eg] at eg2
          injection eg2 with eg2
          injection eg2 with eg3 eg4
          subst eg3 eg4
          have HEN : Hid (xp = It.sum (C.take lb)) := hce
          have HSPT : Hid (∀ bt, la ≤ bt → bt ≤ lb → Lv.spt C t (Lv.rof A) (decide (bt = lb)) (Lv.clu C (It.sum (C.take bt)) k) = (i, Sp.col C t la (bt - la))) := fun bt h1 h2 => by
            rw [HCB.out bt (by omega), HLN.out.2]
            by_cases e : bt = lb
            · rw [decide_eq_true e, e]
              exact Lv.spt_back HMA2.out.2.2.2.2.1 HLN.out.1 hm
            · rw [decide_eq_false e]
              exact Lv.spt_in HMA2.out.2.2.2.2.1 HLN.out.1 h1 (by show bt < lb; omega)
          subst eg
          clear hz hPw hce hm
          go_wp2_with fail
          go_loopg [15, 16] 300 (fun gh v15 v16 wr => ∃ (c la9 : Nat) (Z : World), Z = wr ∧ gh = 300 - c ∧ c ≤ 300 ∧ v15 = .int .i64 (la9 : Int) ∧ v16 = .int .i64 (c : Int) ∧ la9 ≤ It.sum (C.take (Lv.byt C t ⟨la, lb, lc, le⟩ c)) ∧ Only (fun _ => False) W3 Z)
          case atStart => exact ⟨0, yp, _, rfl, rfl, Nat.zero_le _, rfl, rfl, by rw [HYP.out]; exact HRS.out _ _ (HBT.out 0).1 (Nat.le_trans (HBT.out 0).2.1 hbk), Only.refl _ _⟩
          case round =>
            obtain ⟨c, la9, Z, hZ, rfl, hc, rfl, rfl, hla9, hoZ⟩ := hrel
            subst hZ
            have HZ : Hid (la9 ≤ It.sum (C.take (Lv.byt C t ⟨la, lb, lc, le⟩ c)) ∧ Only (fun _ => False) W3 Z ∧ Only (fun _ => False) Y Z) := ⟨hla9, hoZ, (HS3.out Z hoZ).2.2⟩
            clear hla9 hoZ
            by_cases hlt2 : c < 300
            · have w1 : (c : Int) < 300 := by omega
              obtain ⟨bt, hbt⟩ : ∃ x, x = Lv.byt C t ⟨la, lb, lc, le⟩ c := ⟨_, rfl⟩
              obtain ⟨kb, hkb⟩ : ∃ x, x = It.sum (C.take bt) := ⟨_, rfl⟩
              have hb := HBT.out c
              rw [← hbt] at hb
              have hk1 : la9 ≤ kb := by rw [hkb, hbt]; exact HZ.out.1
              have hk2 : kb ≤ xp := by rw [hkb, HEN.out]; exact HRS.out _ _ hb.2.1 hbk
              have hk3 : kb ≤ s := by rw [hkb]; exact HSL.out _ (Nat.le_trans hb.2.1 hbk)
              have hk4 : kb = xp ↔ bt = lb := by
                rw [hkb, HEN.out]
                constructor
                · intro h
                  rcases Nat.lt_or_ge bt lb with g1 | g1
                  · have := HST.out bt lb g1 hbk
                    omega
                  · have := hb.2.1
                    omega
                · intro h
                  rw [h]
              obtain ⟨xc9, hxc9⟩ : ∃ x, x = Sp.col C t la (bt - la) := ⟨_, rfl⟩
              have hxl : xc9 ≤ c := by rw [hxc9]; exact hb.2.2
              have HB1 : Hid (∀ W', Only (fun _ => False) Y W' → Calls Try.prog 15 #[.pointer (some ⟨M, 0, none⟩), .agg #[.int .i64 (i : Int), .int .i64 (c : Int)]] W' fun e w' => e = .returned (.tuple #[.int .i64 (kb : Int), .int .i64 0]) ∧ Only (fun _ => False) W' w') := fun W' ho => by
                rw [hkb, hbt]
                exact HBY.out W' i c _ ho HROW.out
              have HSB : Hid (Lv.spt C t (Lv.rof A) (decide (bt = lb)) (Lv.clu C kb k) = (i, xc9)) := by
                rw [hkb, hxc9]
                exact HSPT.out bt hb.1 hb.2.1
              have HNXT : Hid (kb ≤ It.sum (C.take (Lv.byt C t ⟨la, lb, lc, le⟩ (c + 1)))) := by
                rw [hkb, hbt]
                exact HRS.out _ _ (Lv.byt_mono C ht0 ⟨la, lb, lc, le⟩ (Nat.le_succ c)) (Nat.le_trans (HBT.out (c + 1)).2.1 hbk)
              have x1 : decide ((kb : Int) < (la9 : Int)) = false := decide_eq_false (by omega)
              have x1n : decide (kb < la9) = false := decide_eq_false (by omega)
              have x2 : decide ((xp : Int) < (kb : Int)) = false := decide_eq_false (by omega)
              have x2n : decide (xp < kb) = false := decide_eq_false (by omega)
              clear hbt hkb hb hxc9
              go_wp2_with fail
              refine Calls.mono (HB1.out Z HZ.out.2.2) ?_
              rintro e w4 ⟨rfl, ho4⟩
              have H4 : Hid (Only (fun _ => False) W3 w4) := HZ.out.2.1.trans ho4
              clear ho4
              by_cases hbe : bt = lb
              · have hke := hk4.2 hbe
                rw [decide_eq_true hbe] at HSB
                have x3 : ((kb : Int) == (xp : Int)) = true := by rw [beq_iff_eq]; omega
                clear hke hbe hk4
                go_wp2_with fail
                refine Calls.mono (HSP.out w4 kb true (HS3.out w4 H4.out).2.2 hk3) ?_
                rintro e w5 ⟨r, c', hrc, rfl, ho5⟩
                rw [HSB.out] at hrc
                injection hrc with e1 e2
                subst e1 e2
                have H5 : Hid (Only (fun _ => False) W3 w5) := H4.out.trans ho5
                clear ho5
                have x4 : decide ((c : Int) < (xc9 : Int)) = false := decide_eq_false (by omega)
                have x4n : decide (c < xc9) = false := decide_eq_false (by omega)
                go_upto_region 19 with fail
                obtain ⟨E1, w6, hw6, hE1, H6, y0, y1, ly⟩ := box2 w5 (.int .i64 (i : Int)) (.int .i64 (xc9 : Int)) 39
                rw [hw6, hE1]
                clear hw6 hE1
                go_wp2_with fail
                go_roundg (300 - (c + 1))
                case measure => omega
                case rel => exact ⟨c + 1, kb, _, rfl, rfl, by omega, rfl, by go_num, HNXT.out, H5.out.trans H6.out.2⟩
              · have hke : ¬ kb = xp := fun h => hbe (hk4.1 h)
                rw [decide_eq_false hbe] at HSB
                have x3 : ((kb : Int) == (xp : Int)) = false := by rw [beq_eq_false_iff_ne]; omega
                clear hke hbe hk4
                go_wp2_with fail
                refine Calls.mono (HSP.out w4 kb false (HS3.out w4 H4.out).2.2 hk3) ?_
                rintro e w5 ⟨r, c', hrc, rfl, ho5⟩
                rw [HSB.out] at hrc
                injection hrc with e1 e2
                subst e1 e2
                have H5 : Hid (Only (fun _ => False) W3 w5) := H4.out.trans ho5
                clear ho5
                have x4 : decide ((c : Int) < (xc9 : Int)) = false := decide_eq_false (by omega)
                have x4n : decide (c < xc9) = false := decide_eq_false (by omega)
                go_upto_region 19 with fail
                obtain ⟨E1, w6, hw6, hE1, H6, y0, y1, ly⟩ := box2 w5 (.int .i64 (i : Int)) (.int .i64 (xc9 : Int)) 39
                rw [hw6, hE1]
                clear hw6 hE1
                go_wp2_with fail
                go_roundg (300 - (c + 1))
                case measure => omega
                case rel => exact ⟨c + 1, kb, _, rfl, rfl, by omega, rfl, by go_num, HNXT.out, H5.out.trans H6.out.2⟩
            · have w1 : decide ((c : Int) < 300) = false := decide_eq_false (by omega)
              have HB2 : Hid (∀ W', Only (fun _ => False) Y W' → Calls Try.prog 15 #[.pointer (some ⟨M, 0, none⟩), .agg #[.int .i64 (i : Int), .int .i64 (1073741824 + (fr : Int))]] W' fun e w' => e = .returned (.tuple #[.int .i64 (xp : Int), .int .i64 0]) ∧ Only (fun _ => False) W' w') := fun W' ho => by
                have h := HBY.out W' i (1073741824 + fr) _ ho HROW.out
                rw [HFB.out, ← HEN.out] at h
                rw [show (1073741824 + (fr : Int)) = ((1073741824 + fr : Nat) : Int) by omega]
                exact h
              go_wp2_with fail
              refine Calls.mono (HB2.out Z HZ.out.2.2) ?_
              rintro e w4 ⟨rfl, ho4⟩
              have H4 : Hid (Only (fun _ => False) W3 w4) := HZ.out.2.1.trans ho4
              clear ho4
              go_wp2_with fail
              go_roundg (nA - (i + 1))
              case measure => omega
              case rel => exact ⟨i + 1, _, rfl, rfl, by omega, by go_num, (HS3.out _ H4.out).2.2⟩
        · have hln : i + 1 = nA := by omega
          have hlk2 : lb = k := hlast.1 hln
          have u1 : decide ((lb : Int) < (k : Int)) = false := decide_eq_false (by omega)
          have u1n : decide (lb < k) = false := decide_eq_false (by omega)
          have u2 : decide ((i : Int) < (nA : Int) - 1) = false := decide_eq_false (by omega)
          have u2' : decide ((i : Int) + 1 < (nA : Int)) = false := decide_eq_false (by omega)
          have u2n : decide (i + 1 < nA) = false := decide_eq_false (by omega)
          have HEN : Hid (s = It.sum (C.take lb)) := by
            rw [hlk2, HMA2.out.2.2.1, List.take_length]
            exact HMA2.out.2.2.2.1
          have HSPT : Hid (∀ bt, la ≤ bt → bt ≤ lb → Lv.spt C t (Lv.rof A) false (Lv.clu C (It.sum (C.take bt)) k) = (i, Sp.col C t la (bt - la))) := fun bt h1 h2 => by
            rw [HCB.out bt (by omega), HLN.out.2]
            by_cases e : bt = lb
            · rw [e, hlk2]
              exact Lv.spt_end HMA2.out.2.2.2.2.1 HLN.out.1 (by rw [← HMA2.out.2.2.2.2.2.1]; exact hln)
            · exact Lv.spt_in HMA2.out.2.2.2.2.1 HLN.out.1 h1 (by show bt < lb; omega)
          subst eg
          clear hlk2 hln
          go_wp2_with fail
          go_loopg [15, 16] 300 (fun gh v15 v16 wr => ∃ (c la9 : Nat) (Z : World), Z = wr ∧ gh = 300 - c ∧ c ≤ 300 ∧ v15 = .int .i64 (la9 : Int) ∧ v16 = .int .i64 (c : Int) ∧ la9 ≤ It.sum (C.take (Lv.byt C t ⟨la, lb, lc, le⟩ c)) ∧ Only (fun _ => False) W3 Z)
          case atStart => exact ⟨0, yp, _, rfl, rfl, Nat.zero_le _, rfl, rfl, by rw [HYP.out]; exact HRS.out _ _ (HBT.out 0).1 (Nat.le_trans (HBT.out 0).2.1 hbk), Only.refl _ _⟩
          case round =>
            obtain ⟨c, la9, Z, hZ, rfl, hc, rfl, rfl, hla9, hoZ⟩ := hrel
            subst hZ
            have HZ : Hid (la9 ≤ It.sum (C.take (Lv.byt C t ⟨la, lb, lc, le⟩ c)) ∧ Only (fun _ => False) W3 Z ∧ Only (fun _ => False) Y Z) := ⟨hla9, hoZ, (HS3.out Z hoZ).2.2⟩
            clear hla9 hoZ
            by_cases hlt2 : c < 300
            · have w1 : (c : Int) < 300 := by omega
              obtain ⟨bt, hbt⟩ : ∃ x, x = Lv.byt C t ⟨la, lb, lc, le⟩ c := ⟨_, rfl⟩
              obtain ⟨kb, hkb⟩ : ∃ x, x = It.sum (C.take bt) := ⟨_, rfl⟩
              have hb := HBT.out c
              rw [← hbt] at hb
              have hk1 : la9 ≤ kb := by rw [hkb, hbt]; exact HZ.out.1
              have hk2 : kb ≤ s := by rw [hkb, HEN.out]; exact HRS.out _ _ hb.2.1 hbk
              have hk3 : kb ≤ s := by rw [hkb]; exact HSL.out _ (Nat.le_trans hb.2.1 hbk)
              have hk4 : kb = s ↔ bt = lb := by
                rw [hkb, HEN.out]
                constructor
                · intro h
                  rcases Nat.lt_or_ge bt lb with g1 | g1
                  · have := HST.out bt lb g1 hbk
                    omega
                  · have := hb.2.1
                    omega
                · intro h
                  rw [h]
              obtain ⟨xc9, hxc9⟩ : ∃ x, x = Sp.col C t la (bt - la) := ⟨_, rfl⟩
              have hxl : xc9 ≤ c := by rw [hxc9]; exact hb.2.2
              have HB1 : Hid (∀ W', Only (fun _ => False) Y W' → Calls Try.prog 15 #[.pointer (some ⟨M, 0, none⟩), .agg #[.int .i64 (i : Int), .int .i64 (c : Int)]] W' fun e w' => e = .returned (.tuple #[.int .i64 (kb : Int), .int .i64 0]) ∧ Only (fun _ => False) W' w') := fun W' ho => by
                rw [hkb, hbt]
                exact HBY.out W' i c _ ho HROW.out
              have HSB : Hid (Lv.spt C t (Lv.rof A) false (Lv.clu C kb k) = (i, xc9)) := by
                rw [hkb, hxc9]
                exact HSPT.out bt hb.1 hb.2.1
              have HNXT : Hid (kb ≤ It.sum (C.take (Lv.byt C t ⟨la, lb, lc, le⟩ (c + 1)))) := by
                rw [hkb, hbt]
                exact HRS.out _ _ (Lv.byt_mono C ht0 ⟨la, lb, lc, le⟩ (Nat.le_succ c)) (Nat.le_trans (HBT.out (c + 1)).2.1 hbk)
              have x1 : decide ((kb : Int) < (la9 : Int)) = false := decide_eq_false (by omega)
              have x1n : decide (kb < la9) = false := decide_eq_false (by omega)
              have x2 : decide ((s : Int) < (kb : Int)) = false := decide_eq_false (by omega)
              have x2n : decide (s < kb) = false := decide_eq_false (by omega)
              clear hbt hkb hb hxc9
              go_wp2_with fail
              refine Calls.mono (HB1.out Z HZ.out.2.2) ?_
              rintro e w4 ⟨rfl, ho4⟩
              have H4 : Hid (Only (fun _ => False) W3 w4) := HZ.out.2.1.trans ho4
              clear ho4
              by_cases hbe : kb = s
              · have x3 : ((kb : Int) == (s : Int)) = true := by rw [beq_iff_eq]; omega
                clear hbe hk4
                go_wp2_with fail
                refine Calls.mono (HSP.out w4 kb false (HS3.out w4 H4.out).2.2 hk3) ?_
                rintro e w5 ⟨r, c', hrc, rfl, ho5⟩
                rw [HSB.out] at hrc
                injection hrc with e1 e2
                subst e1 e2
                have H5 : Hid (Only (fun _ => False) W3 w5) := H4.out.trans ho5
                clear ho5
                have x4 : decide ((c : Int) < (xc9 : Int)) = false := decide_eq_false (by omega)
                have x4n : decide (c < xc9) = false := decide_eq_false (by omega)
                go_upto_region 19 with fail
                obtain ⟨E1, w6, hw6, hE1, H6, y0, y1, ly⟩ := box2 w5 (.int .i64 (i : Int)) (.int .i64 (xc9 : Int)) 39
                rw [hw6, hE1]
                clear hw6 hE1
                go_wp2_with fail
                go_roundg (300 - (c + 1))
                case measure => omega
                case rel => exact ⟨c + 1, kb, _, rfl, rfl, by omega, rfl, by go_num, HNXT.out, H5.out.trans H6.out.2⟩
              · have x3 : ((kb : Int) == (s : Int)) = false := by rw [beq_eq_false_iff_ne]; omega
                clear hbe hk4
                go_wp2_with fail
                refine Calls.mono (HSP.out w4 kb false (HS3.out w4 H4.out).2.2 hk3) ?_
                rintro e w5 ⟨r, c', hrc, rfl, ho5⟩
                rw [HSB.out] at hrc
                injection hrc with e1 e2
                subst e1 e2
                have H5 : Hid (Only (fun _ => False) W3 w5) := H4.out.trans ho5
                clear ho5
                have x4 : decide ((c : Int) < (xc9 : Int)) = false := decide_eq_false (by omega)
                have x4n : decide (c < xc9) = false := decide_eq_false (by omega)
                go_upto_region 19 with fail
                obtain ⟨E1, w6, hw6, hE1, H6, y0, y1, ly⟩ := box2 w5 (.int .i64 (i : Int)) (.int .i64 (xc9 : Int)) 39
                rw [hw6, hE1]
                clear hw6 hE1
                go_wp2_with fail
                go_roundg (300 - (c + 1))
                case measure => omega
                case rel => exact ⟨c + 1, kb, _, rfl, rfl, by omega, rfl, by go_num, HNXT.out, H5.out.trans H6.out.2⟩
            · have w1 : decide ((c : Int) < 300) = false := decide_eq_false (by omega)
              have HB2 : Hid (∀ W', Only (fun _ => False) Y W' → Calls Try.prog 15 #[.pointer (some ⟨M, 0, none⟩), .agg #[.int .i64 (i : Int), .int .i64 (1073741824 + (fr : Int))]] W' fun e w' => e = .returned (.tuple #[.int .i64 (s : Int), .int .i64 0]) ∧ Only (fun _ => False) W' w') := fun W' ho => by
                have h := HBY.out W' i (1073741824 + fr) _ ho HROW.out
                rw [HFB.out, ← HEN.out] at h
                rw [show (1073741824 + (fr : Int)) = ((1073741824 + fr : Nat) : Int) by omega]
                exact h
              go_wp2_with fail
              refine Calls.mono (HB2.out Z HZ.out.2.2) ?_
              rintro e w4 ⟨rfl, ho4⟩
              have H4 : Hid (Only (fun _ => False) W3 w4) := HZ.out.2.1.trans ho4
              clear ho4
              go_wp2_with fail
              go_roundg (nA - (i + 1))
              case measure => omega
              case rel => exact ⟨i + 1, _, rfl, rfl, by omega, by go_num, (HS3.out _ H4.out).2.2⟩
    · have t1 : decide ((i : Int) < (nA : Int)) = false := decide_eq_false (by omega)
      go_wp2_with fail
      go_ret
      exact ⟨rfl, HOY.out _ HG.out⟩
end Go.Proofs.Yteejgjapghccnaa.placeSnaps
