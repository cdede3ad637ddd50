/-
  stanzalaw17.PlaceEnds: its walk.
-/
import Derived.Test.YteejgjapghccnaaYn
namespace Go.Proofs.Yteejgjapghccnaa.placeEnds
open Go.RowKit Go.Maps
set_option linter.unusedVariables false
set_option linter.unusedSimpArgs false
theorem spt_zero {C : List Ct} {t n : Nat} {L : List Ln} (h : Lv.Rws n L) : Lv.spt C t L true 0 = (0, 0) := by
  have key : Lv.rwF L 0 = 0 := by
    rcases h with ⟨h, hn⟩ | ⟨_, e⟩
    · cases L with
      | nil => exact absurd rfl hn
      | cons l L =>
        cases L with
        | nil => rfl
        | cons m L => exact if_pos h.2.1
    · rw [e]; rfl
  obtain ⟨l, hl⟩ : ∃ l, L[0]? = some l := ⟨_, List.getElem?_eq_getElem (List.length_pos_iff.2 h.ne)⟩
  have e := Lv.spt_stay (C := C) (t := t) (back := true) key hl (fun q => absurd q.2.1 (Nat.lt_irrefl _))
  rw [e, Nat.zero_sub]
  rfl
set_option maxRecDepth 100000 in
set_option maxHeartbeats 8000000 in
theorem walk (L0 : List Bt) (a0 : Option Addr) (c0 : Nat) (K : Wy) (w : World) (hV : Vw w a0 (btC L0)) (hB : ∀ b ∈ L0, b.cells < 256 ∧ b.kind < 256 ∧ b.len < 256 ∧ b.opp < 256) (hc : L0.length ≤ c0) (hm : c0 ≤ maxLen) (hK : K.Ok) :
    Calls Try.prog 9 #[.slice a0 L0.length c0, K.val] w fun e w' => e = .returned (.bool true) ∧ Only (fun _ => False) w w' := by
  have HMA : Hid (∀ W, Only (fun _ => False) w W → Calls Try.prog 11 #[.slice a0 L0.length c0, K.val] W fun e w' => ∃ (C : List Ct) (O : List Nat) (k : Nat) (aC aO : Option Addr) (cC cO : Nat) (A : List Ln) (nA : Nat) (aA : Option Addr) (cA M s t : Nat), e = .returned (.tuple #[.agg #[.slice aC k cC, .slice aO (k + 1) cO], .slice aA nA cA, .pointer (some ⟨M, 0, none⟩), .int .i64 (s : Int), .int .i64 (t : Int)]) ∧ Md w' C O k aC aO cC cO A nA aA M s t ∧ Only (fun _ => False) W w') := fun W ho => made17_any L0 _ a0 c0 K W (hV.keep ho) hB rfl hc hm hK
  obtain ⟨nL, hnL⟩ : ∃ x, x = L0.length := ⟨_, rfl⟩
  rw [← hnL] at HMA ⊢
  obtain ⟨wi, tb, mo, hy, pr, lo⟩ := K
  unfold Wy.val at HMA ⊢
  simp only at HMA ⊢
  clear hV hB hc hm hK hnL
  go_enter Try.func9, Try.ntmps9
  go_wp2_with fail
  obtain ⟨R, w0, hw0', hR, H0, lR⟩ := box6 w (.int .u8 (wi : Int)) (.int .u8 (tb : Int)) (.int .u8 (mo : Int)) (.int .u16 (hy : Int)) (.int .u16 (pr : Int)) (.float .f64 lo) 26
  rw [hw0', hR]
  clear hw0' hR
  refine Calls.mono (awake17_any _) ?_
  rintro e w2 ⟨rfl, ho2⟩
  have H2 : Hid (w2.heap[R]? = some (.cells #[.int .u8 (wi : Int), .int .u8 (tb : Int), .int .u8 (mo : Int), .int .u16 (hy : Int), .int .u16 (pr : Int), .float .f64 lo] 26 (0, 0)) ∧ Only (fun _ => False) w w2) := ⟨blk_keep ho2 H0.out.1, H0.out.2.1.trans ho2⟩
  clear ho2 lR H0
  obtain ⟨r0, r1, r2, r3, r4, r5⟩ := blk_six H2.out.1
  have lR : R < w2.heap.size := (Array.getElem?_eq_some_iff.1 H2.out.1).1
  go_wp2_with fail
  refine Calls.mono (HMA.out _ H2.out.2) ?_
  rintro e X ⟨C, O, k, aC, aO, cC, cO, A, nA, aA, cA, M, s, t, rfl, hmd, hoX⟩
  have HX : Hid (Md X C O k aC aO cC cO A nA aA M s t ∧ Only (fun _ => False) w X) := ⟨hmd, H2.out.2.trans hoX⟩
  have hk : k ≤ 100 := hmd.few
  have hs : s ≤ 400 := by rw [hmd.hs]; exact hmd.sum
  have hnA : nA ≤ k := by have := hmd.chn.len; rw [hmd.hA]; omega
  have ht0 : 0 < t := hmd.t0
  have ht1 : t ≤ 64 := hmd.t1
  clear hmd hoX r0 r1 r2 r3 r4 r5 lR HMA
  go_upto_region 4 with fail
  obtain ⟨B5, Y, hY, hB5, HY, -, -, -⟩ := box2 X (.slice aC k cC) (.slice aO (k + 1) cO) 31
  rw [hY, hB5]
  clear hY hB5
  have HMD : Hid (∀ W', Only (fun _ => False) Y W' → Md W' C O k aC aO cC cO A nA aA M s t) := fun W' ho => HX.out.1.keep (HY.out.2.trans ho)
  have HC5 : Hid (∀ W', Only (fun _ => False) Y W' → W'.cell? ⟨B5, 0, none⟩ = some (.slice aC k cC) ∧ W'.cell? ⟨B5, 1, none⟩ = some (.slice aO (k + 1) cO) ∧ B5 < W'.heap.size) := fun W' ho => blk_two (blk_keep ho HY.out.1)
  have HOY : Hid (∀ W', Only (fun _ => False) Y W' → Only (fun _ => False) w W') := fun W' ho => HX.out.2.trans (HY.out.2.trans ho)
  have HSP : Hid (∀ W' (q : Nat) back, Only (fun _ => False) Y W' → q ≤ s → Calls Try.prog 12 #[.pointer (some ⟨M, 0, none⟩), .int .i64 (q : Int), .bool back] W' fun e w' => ∃ r c : Nat, Lv.spt C t (Lv.rof A) back (Lv.clu C q k) = (r, c) ∧ e = .returned (.tuple #[.agg #[.int .i64 (r : Int), .int .i64 (c : Int)], .int .i64 0]) ∧ Only (fun _ => False) W' w') := fun W' q back ho hq => spot_any M k C t (Lv.rof A) q back W' (HMD.out W' ho).map (by rw [← (HMD.out W' ho).hs]; exact hq)
  have HMA2 : Hid (Lv.Rws k (Lv.rof A) ∧ Lv.Ctg C ∧ k = C.length ∧ s = It.sum C ∧ Lv.Chn 0 k A ∧ nA = A.length) := ⟨Lv.rws_rof HX.out.1.chn, HX.out.1.ctg, HX.out.1.pv.hn, HX.out.1.hs, HX.out.1.chn, HX.out.1.hA⟩
  have HCO : Hid (∀ W' la lb, Only (fun _ => False) Y W' → la ≤ lb → lb ≤ k → Calls Try.prog 17 #[.agg #[.slice aC k cC, .slice aO (k + 1) cO], .int .i64 ((la : Nat) : Int), .int .i64 ((lb : Nat) : Int), .int .i64 (t : Int)] W' fun e w' => ∃ al kn c, e = .returned (.slice al kn c) ∧ kn = lb - la + 1 ∧ Vw w' al (natI (Sp.cols C t la (lb - la))) ∧ Only (fun _ => False) W' w') := fun W' la lb ho h1 h2 => by
    have h := HMD.out W' ho
    refine (refColumns_any C O k (k + 1) aC aO cC cO la lb t W' h.pv h1 h2 ht0 (by omega)).mono ?_
    rintro e w' ⟨al, c, he, hown, ho'⟩
    rw [Lv.cols_len] at he hown
    exact ⟨al, _, c, he, rfl, own_vw hown, ho'⟩
  clear HX HY H2
  go_wp2_with fail
  go_loopg [33] nA (fun gh v33 wr => ∃ (i : Nat) (W : World), W = wr ∧ gh = nA - i ∧ i ≤ nA ∧ v33 = .int .i64 (i : Int) ∧ Only (fun _ => False) Y W)
  case atStart => exact ⟨0, _, rfl, rfl, Nat.zero_le _, rfl, Only.refl _ _⟩
  case round =>
    obtain ⟨i, W, hW, rfl, hi, rfl, hoW⟩ := hrel
    subst hW
    have HG : Hid (Only (fun _ => False) Y W) := hoW
    clear hoW
    by_cases hlt : i < nA
    · have t1 : (i : Int) < (nA : Int) := by omega
      obtain ⟨l, hl⟩ : ∃ l, A[i]? = some l := ⟨_, List.getElem?_eq_getElem (by rw [← HMA2.out.2.2.2.2.2]; exact hlt)⟩
      have hat := Lv.chn_at HMA2.out.2.2.2.2.1 hl
      obtain ⟨bl, ol, e0, hbl, c0, c1, c2, c3⟩ := (HMD.out W HG.out).vA.line hl
      obtain ⟨la, lb, lc, le⟩ := l
      simp only at c0 c1 c2 c3 hat
      have HLN : Hid (A[i]? = some ⟨la, lb, lc, le⟩ ∧ Lv.rof A = A) := ⟨hl, Lv.rof_self (fun e => by rw [e] at hl; simp at hl)⟩
      have hab : la < lb := hat.2.1
      have hbk : lb ≤ k := hat.2.2.1
      have hlast : i + 1 = nA ↔ lb = k := by rw [HMA2.out.2.2.2.2.2]; exact hat.2.2.2.2
      subst e0
      clear hat hl
      go_upto_region 7 with fail
      obtain ⟨lk, W3, hW3, hlk, H3, -⟩ := box4 W (.int .i64 (la : Int)) (.int .i64 (lb : Int)) (.int .i64 (lc : Int)) (.int .u8 (le : Int)) 59
      rw [hW3, hlk]
      clear hW3 hlk c0 c1 c2 c3 hbl
      have HS3 : Hid (∀ W', Only (fun _ => False) W3 W' → (W'.cell? ⟨lk, 0, none⟩ = some (.int .i64 (la : Int)) ∧ W'.cell? ⟨lk, 1, none⟩ = some (.int .i64 (lb : Int))) ∧ lk < W'.heap.size ∧ Only (fun _ => False) Y W') := fun W' ho => by
        have hl := blk_keep ho H3.out.1
        exact ⟨⟨(blk_four hl).1, (blk_four hl).2.1⟩, (Array.getElem?_eq_some_iff.1 hl).1, HG.out.trans (H3.out.2.1.trans ho)⟩
      obtain ⟨⟨l0, l1⟩, ll, -⟩ := HS3.out W3 (Only.refl _ _)
      obtain ⟨b0, b1, lB⟩ := HC5.out W3 (HS3.out W3 (Only.refl _ _)).2.2
      obtain ⟨x, hx⟩ : ∃ x, x = Sp.col C t la (lb - la) := ⟨_, rfl⟩
      have HX : Hid (x = Sp.col C t la (lb - la)) := hx
      clear hx
      by_cases hnx : i + 1 < nA
      · have hlk2 : lb < k := by
          rcases Nat.lt_or_ge lb k with h | h
          · exact h
          · have := hlast.2 (by omega); omega
        have u1 : (lb : Int) < (k : Int) := by omega
        have u2 : (i : Int) < (nA : Int) - 1 := by omega
        have u2' : (i : Int) + 1 < (nA : Int) := by omega
        obtain ⟨m, hm⟩ : ∃ m, A[i + 1]? = some m := ⟨_, List.getElem?_eq_getElem (by rw [← HMA2.out.2.2.2.2.2]; exact hnx)⟩
        obtain ⟨z, hz⟩ : ∃ z, C[lb]? = some z := ⟨_, List.getElem?_eq_getElem (by rw [← HMA2.out.2.2.1]; exact hlk2)⟩
        have hPw := (HMD.out W3 (HS3.out W3 (Only.refl _ _)).2.2).pv
        obtain ⟨xp, xl, xc, xk, rfl, hxc, hxk⟩ := hPw.ok.nat hz
        have hce := Lv.ctg_end HMA2.out.2.1 hz
        simp only at hce
        have hxs : xp ≤ s := by
          rw [hce.1, HMA2.out.2.2.2.1]
          exact It.sum_le _
        obtain ⟨g, off, eg, hg, d0, d1, d2, d3⟩ := hPw.vC.cluster (k := lb) hz
        simp only at d0 d1 d2 d3
        have hcl : Lv.clu C xp k = lb := by
          rw [hce.1]
          have := Lv.clu_own HMA2.out.2.1 (show lb ≤ C.length by rw [← HMA2.out.2.2.1]; omega)
          rw [← HMA2.out.2.2.1] at this
          exact this
        have HT : Hid (Lv.spt C t (Lv.rof A) true (Lv.clu C xp k) = (i, x)) := by
          rw [hcl, HLN.out.2, HX.out]
          exact Lv.spt_back HMA2.out.2.2.2.2.1 HLN.out.1 hm
        have HF : Hid (Lv.spt C t (Lv.rof A) false (Lv.clu C xp k) = (i + 1, 0)) := by
          have e1 := Lv.chn_next HMA2.out.2.2.2.2.1 HLN.out.1 hm
          have e2 := Lv.chn_at HMA2.out.2.2.2.2.1 hm
          simp only at e1
          have h := Lv.spt_in (C := C) (t := t) (k := lb) HMA2.out.2.2.2.2.1 hm (Nat.le_of_eq e1) (by omega)
          rw [hcl, HLN.out.2, h, e1, Nat.sub_self]
          rfl
        subst eg
        clear hz hPw hce hcl hm
        go_wp2_with fail
        refine Calls.mono (HCO.out W3 la lb (HS3.out W3 (Only.refl _ _)).2.2 (Nat.le_of_lt hab) hbk) ?_
        rintro e w4 ⟨aq, kn, cq, rfl, hkn, hvq, ho4⟩
        have H4 : Hid (Only (fun _ => False) W3 w4 ∧ Vw w4 aq (natI (Sp.cols C t la (lb - la))) ∧ kn = lb - la + 1) := ⟨ho4, hvq, hkn⟩
        have hkn1 : 0 < kn := by omega
        have hkn2 : kn ≤ 101 := by omega
        obtain ⟨bq, oq, eq1, hbq, hcq⟩ := hvq.cells (by rw [natI_len, Lv.cols_len]; omega)
        subst eq1
        have cq1 := hcq (lb - la) _ (natI_get (Lv.cols_at C t la (Nat.le_refl _)))
        rw [← HX.out] at cq1
        obtain ⟨dd, hdd⟩ : ∃ d, d = lb - la := ⟨_, rfl⟩
        rw [← hdd] at cq1
        have hdk1 : dd < kn := by omega
        have hdk2 : (dd : Int) < (kn : Int) := by omega
        have ed : IntKind.i64.wrap ((kn : Int) - 1) = (dd : Int) := (wrap_sm _ (by omega) (by omega)).trans (by omega)
        have HCQ : Hid (∀ W', Only (fun _ => False) w4 W' → W'.cell? ⟨bq, oq + dd, none⟩ = some (.int .i64 (x : Int)) ∧ bq < W'.heap.size) := fun W' ho => ⟨keep0 ho cq1, World.block_lt_of_cell? W' _ (keep0 ho cq1)⟩
        clear hkn hvq ho4 hbq hcq cq1 hdd l0 l1 ll b0 b1 lB d0 d1 d2 d3 hg
        go_wp2_with fail
        refine Calls.mono (HSP.out w4 xp true ((HS3.out w4 H4.out.1).2.2) hxs) ?_
        rintro e w5 ⟨r, c, hrc, rfl, ho5⟩
        rw [HT.out] at hrc
        injection hrc with e1 e2
        subst e1 e2
        have H5 : Hid (Only (fun _ => False) w4 w5) := ho5
        clear ho5
        go_upto_region 12 with fail
        obtain ⟨E1, w6, hw6, hE1, H6, y0, y1, ly⟩ := box2 w5 (.int .i64 (i : Int)) (.int .i64 (x : Int)) 39
        rw [hw6, hE1]
        clear hw6 hE1
        obtain ⟨cx, lcx⟩ := HCQ.out w6 (H5.out.trans H6.out.2)
        go_quiet (fail)
        obtain ⟨w7, hw7⟩ : ∃ Y, Y = w6.drewN nq := ⟨_, rfl⟩
        have H7 : Hid (Only (fun _ => False) W3 w7 ∧ w7.heap[E1]? = some (.cells #[.int .i64 (i : Int), .int .i64 (x : Int)] 39 (0, 0))) := by
          rw [hw7]
          exact ⟨(H4.out.1.trans (H5.out.trans H6.out.2)).drewN _, blk_keep ((Only.refl _ _).drewN _) H6.out.1⟩
        rw [← hw7]
        clear hw7 cx lcx y0 y1 ly
        go_wp2_with fail
        refine Calls.mono (HSP.out w7 xp false ((HS3.out w7 H7.out.1).2.2) hxs) ?_
        rintro e w8 ⟨r, c, hrc, rfl, ho8⟩
        rw [HF.out] at hrc
        injection hrc with e1 e2
        subst e1 e2
        have H8 : Hid (Only (fun _ => False) W3 w8 ∧ w8.heap[E1]? = some (.cells #[.int .i64 (i : Int), .int .i64 (x : Int)] 39 (0, 0))) := ⟨H7.out.1.trans ho8, blk_keep ho8 H7.out.2⟩
        clear ho8
        go_upto_region 15 with fail
        obtain ⟨E2, w9, hw9, hE2, H9, y0, y1, ly⟩ := box2 w8 (.int .i64 ((i : Int) + 1)) (.int .i64 0) 39
        rw [hw9, hE2]
        clear hw9 hE2
        obtain ⟨z0, z1, lz⟩ := blk_two (blk_keep H9.out.2 H8.out.2)
        go_wp2_with fail
        go_roundg (nA - (i + 1))
        case measure => omega
        case rel => exact ⟨i + 1, _, rfl, rfl, by omega, by go_num, (HS3.out _ (H8.out.1.trans H9.out.2)).2.2⟩
      · have hln : i + 1 = nA := by omega
        have hlk2 : lb = k := hlast.1 hln
        have u1 : decide ((lb : Int) < (k : Int)) = false := decide_eq_false (by omega)
        have u1n : decide (lb < k) = false := decide_eq_false (by omega)
        have u2 : decide ((i : Int) < (nA : Int) - 1) = false := decide_eq_false (by omega)
        have u2' : decide ((i : Int) + 1 < (nA : Int)) = false := decide_eq_false (by omega)
        have u2n : decide (i + 1 < nA) = false := decide_eq_false (by omega)
        have u3 : ((i : Int) == (nA : Int) - 1) = true := by rw [beq_iff_eq]; omega
        have hcl : Lv.clu C s k = k := by
          have := Lv.clu_own HMA2.out.2.1 (show k ≤ C.length by rw [← HMA2.out.2.2.1]; exact Nat.le_refl _)
          rw [HMA2.out.2.2.1, List.take_length, ← HMA2.out.2.2.2.1] at this
          rw [← HMA2.out.2.2.1] at this
          exact this
        have HF : Hid (Lv.spt C t (Lv.rof A) false (Lv.clu C s k) = (i, x)) := by
          rw [hcl, HLN.out.2, HX.out, hlk2]
          exact Lv.spt_end (C := C) (t := t) HMA2.out.2.2.2.2.1 HLN.out.1 (by rw [← HMA2.out.2.2.2.2.2]; exact hln)
        clear hcl hlk2 hln
        go_wp2_with fail
        refine Calls.mono (HCO.out W3 la lb (HS3.out W3 (Only.refl _ _)).2.2 (Nat.le_of_lt hab) hbk) ?_
        rintro e w4 ⟨aq, kn, cq, rfl, hkn, hvq, ho4⟩
        have H4 : Hid (Only (fun _ => False) W3 w4 ∧ Vw w4 aq (natI (Sp.cols C t la (lb - la))) ∧ kn = lb - la + 1) := ⟨ho4, hvq, hkn⟩
        have hkn1 : 0 < kn := by omega
        have hkn2 : kn ≤ 101 := by omega
        obtain ⟨bq, oq, eq1, hbq, hcq⟩ := hvq.cells (by rw [natI_len, Lv.cols_len]; omega)
        subst eq1
        have cq1 := hcq (lb - la) _ (natI_get (Lv.cols_at C t la (Nat.le_refl _)))
        rw [← HX.out] at cq1
        obtain ⟨dd, hdd⟩ : ∃ d, d = lb - la := ⟨_, rfl⟩
        rw [← hdd] at cq1
        have hdk1 : dd < kn := by omega
        have hdk2 : (dd : Int) < (kn : Int) := by omega
        have ed : IntKind.i64.wrap ((kn : Int) - 1) = (dd : Int) := (wrap_sm _ (by omega) (by omega)).trans (by omega)
        have HCQ : Hid (∀ W', Only (fun _ => False) w4 W' → W'.cell? ⟨bq, oq + dd, none⟩ = some (.int .i64 (x : Int)) ∧ bq < W'.heap.size) := fun W' ho => ⟨keep0 ho cq1, World.block_lt_of_cell? W' _ (keep0 ho cq1)⟩
        clear hkn hvq ho4 hbq hcq cq1 hdd l0 l1 ll b0 b1 lB
        go_wp2_with fail
        refine Calls.mono (HSP.out w4 s false ((HS3.out w4 H4.out.1).2.2) (Nat.le_refl _)) ?_
        rintro e w5 ⟨r, c, hrc, rfl, ho5⟩
        rw [HF.out] at hrc
        injection hrc with e1 e2
        subst e1 e2
        have H5 : Hid (Only (fun _ => False) w4 w5) := ho5
        clear ho5
        go_upto_region 12 with fail
        obtain ⟨E1, w6, hw6, hE1, H6, y0, y1, ly⟩ := box2 w5 (.int .i64 (i : Int)) (.int .i64 (x : Int)) 39
        rw [hw6, hE1]
        clear hw6 hE1
        obtain ⟨cx, lcx⟩ := HCQ.out w6 (H5.out.trans H6.out.2)
        go_quiet (fail)
        obtain ⟨w7, hw7⟩ : ∃ Y, Y = w6.drewN nq := ⟨_, rfl⟩
        have H7 : Hid (Only (fun _ => False) W3 w7 ∧ w7.heap[E1]? = some (.cells #[.int .i64 (i : Int), .int .i64 (x : Int)] 39 (0, 0))) := by
          rw [hw7]
          exact ⟨(H4.out.1.trans (H5.out.trans H6.out.2)).drewN _, blk_keep ((Only.refl _ _).drewN _) H6.out.1⟩
        rw [← hw7]
        clear hw7 cx lcx y0 y1 ly
        go_wp2_with fail
        refine Calls.mono (HSP.out w7 s false ((HS3.out w7 H7.out.1).2.2) (Nat.le_refl _)) ?_
        rintro e w8 ⟨r, c, hrc, rfl, ho8⟩
        rw [HF.out] at hrc
        injection hrc with e1 e2
        subst e1 e2
        have H8 : Hid (Only (fun _ => False) W3 w8 ∧ w8.heap[E1]? = some (.cells #[.int .i64 (i : Int), .int .i64 (x : Int)] 39 (0, 0))) := ⟨H7.out.1.trans ho8, blk_keep ho8 H7.out.2⟩
        clear ho8
        go_upto_region 15 with fail
        obtain ⟨E2, w9, hw9, hE2, H9, y0, y1, ly⟩ := box2 w8 (.int .i64 (i : Int)) (.int .i64 (x : Int)) 39
        rw [hw9, hE2]
        clear hw9 hE2
        obtain ⟨z0, z1, lz⟩ := blk_two (blk_keep H9.out.2 H8.out.2)
        go_wp2_with fail
        go_roundg (nA - (i + 1))
        case measure => omega
        case rel => exact ⟨i + 1, _, rfl, rfl, by omega, by go_num, (HS3.out _ (H8.out.1.trans H9.out.2)).2.2⟩
    · have t1 : decide ((i : Int) < (nA : Int)) = false := decide_eq_false (by omega)
      go_wp2_with fail
      refine Calls.mono (HSP.out W 0 true HG.out (Nat.zero_le _)) ?_
      rintro e w3 ⟨r, c, hrc, rfl, ho3⟩
      have hz : Lv.spt C t (Lv.rof A) true (Lv.clu C 0 k) = (0, 0) := by
        have h := Lv.clu_own HMA2.out.2.1 (Nat.zero_le C.length)
        rw [List.take_zero, ← HMA2.out.2.2.1] at h
        have e0 : It.sum [] = 0 := rfl
        rw [e0] at h
        rw [h]
        exact spt_zero HMA2.out.1
      rw [hz] at hrc
      injection hrc with e1 e2
      subst e1 e2
      have H3 : Hid (Only (fun _ => False) Y w3) := HG.out.trans ho3
      clear hz ho3
      go_upto_region 19 with fail
      obtain ⟨E1, w4, hw4, hE1, H4, y0, y1, ly⟩ := box2 w3 (.int .i64 0) (.int .i64 0) 39
      rw [hw4, hE1]
      clear hw4 hE1
      go_wp2_with fail
      go_ret
      exact ⟨rfl, HOY.out _ (H3.out.trans H4.out.2)⟩
end Go.Proofs.Yteejgjapghccnaa.placeEnds
