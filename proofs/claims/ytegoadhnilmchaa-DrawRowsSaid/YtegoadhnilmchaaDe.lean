/-
  The document's Draw.
-/
import Derived.Test.YtegoadhnilmchaaDz
import Derived.Test.YtegoadhnilmchaaJw
namespace Go.Proofs.Ytegoadhnilmchaa
open Go.RowKit Go.Maps
set_option linter.unusedVariables false
set_option linter.unusedSimpArgs false
set_option maxRecDepth 100000 in
set_option maxHeartbeats 8000000 in
theorem draw_any (C : List Ct) (O T : List Nat) (n m nT cT : Nat) (aC aO aT : Option Addr) (cC cO la lb lc le wi t mo hy pr lo N : Nat) (full : Bool) (w : World) (hP : Pv w C O n m aC aO cC cO) (hT : Txt w C T nT aT cT) (hx : la < lb) (hb : lb ≤ n) (he : le < 256) (hw : wi ≤ 1048576) (h0 : 0 < t) (ht : t ≤ 1000) (hN : N = (Dw.row C T t wi la lb le full).length) (hNl : N ≤ 1000000) :
    Calls Try.prog 10 #[.slice aT nT cT, .agg #[.slice aC n cC, .slice aO m cO], .agg #[.int .i64 (la : Int), .int .i64 (lb : Int), .int .i64 (lc : Int), .int .u8 (le : Int)], .agg #[.int .i64 (wi : Int), .int .i64 (t : Int), .int .u8 (mo : Int), .int .i64 (hy : Int), .int .i64 (pr : Int), .float .f64 lo], .bool full] w fun e w' => e = .returned (.string (stY (Dw.row C T t wi la lb le full))) ∧ Only (fun _ => False) w w' := by
  obtain ⟨gC, oC, rfl, -, -⟩ := hP.vC.cells (by rw [ctC_len, ← hP.hn]; omega)
  obtain ⟨aC, haC⟩ : ∃ a : Option Addr, a = some ⟨gC, oC, none⟩ := ⟨_, rfl⟩
  have HAC : Hid (aC = some ⟨gC, oC, none⟩) := haC
  rw [← haC] at hP
  rw [← haC]
  have HP : Hid (∀ W', Only (fun _ => False) w W' → Pv W' C O n m aC aO cC cO) := fun W' ho => hP.keep ho
  have HT : Hid (∀ W', Only (fun _ => False) w W' → Txt W' C T nT aT cT) := fun W' ho => hT.keep ho
  have h1 := hP.few
  have htr := Sp.tr_ge C la (lb - la)
  obtain ⟨nf, hnf⟩ : ∃ x, x = Dw.wds C t wi la lb le full := ⟨_, rfl⟩
  obtain ⟨te, hto⟩ : ∃ x, x = Sp.tr C la (lb - la) := ⟨_, rfl⟩
  rw [← hto] at htr
  obtain ⟨K, hK⟩ : ∃ x, x = te - la := ⟨_, rfl⟩
  have htl : la ≤ te := htr.1
  have htu : te ≤ n := by omega
  have hKn : la + K = te := by omega
  have HTR : Hid (∀ W', Only (fun _ => False) w W' → Calls Try.prog 13 #[.agg #[.slice aC n cC, .slice aO m cO], .int .i64 (la : Int), .int .i64 (lb : Int)] W' fun e w' => e = .returned (.int .i64 (te : Int)) ∧ Only (fun _ => False) W' w') := fun W' ho => by
    rw [hto]
    exact refTrim_any C O n m aC aO cC cO la lb W' (hP.keep ho) (by omega) hb
  obtain ⟨k1, hk1⟩ : ∃ x, x = K + 1 := ⟨_, rfl⟩
  have HC : Hid (∀ W', Only (fun _ => False) w W' → Calls Try.prog 17 #[.agg #[.slice aC n cC, .slice aO m cO], .int .i64 (la : Int), .int .i64 (te : Int), .int .i64 (t : Int)] W' (nlN (Sp.cols C t la K) k1 W')) := fun W' ho => by
    have h := refColumns_any C O n m aC aO cC cO la te t W' (hP.keep ho) htl htu h0 ht
    unfold nlP at h
    rw [← hK, Sp.cols_len, ← hk1] at h
    exact h
  have HCS : Hid (∀ i, i ≤ K → Sp.col C t la i ≤ 100200000) := fun i hi => col_small hP.ok h0 ht (by omega)
  obtain ⟨D, hD⟩ : ∃ x, x = Sd.wid C t wi la lb le := ⟨_, rfl⟩
  have hDl : K = D.length := by rw [hD, Sd.wid_len, hK, hto]
  have HW : Hid (∀ W', Only (fun _ => False) w W' → Calls Try.prog 18 #[.agg #[.slice aC n cC, .slice aO m cO], .agg #[.int .i64 (la : Int), .int .i64 (lb : Int), .int .i64 (lc : Int), .int .u8 (le : Int)], .agg #[.int .i64 (wi : Int), .int .i64 (t : Int), .int .u8 (mo : Int), .int .i64 (hy : Int), .int .i64 (pr : Int), .float .f64 lo]] W' (nlN D K W')) := fun W' ho => by
    have h := refWide_any C O n m aC aO cC cO la lb lc le wi t mo hy pr lo W' (hP.keep ho) hx hb he hw h0 ht
    rw [← hto, ← hK, ← hD] at h
    exact h
  have HDL : Hid (K = D.length) := hDl
  have HN1 : Hid (full = true → ∀ i, i < K → D[i]? = some (nf i)) := fun hf i hi => by
    rw [hD, hnf, hf]
    unfold Sd.wid
    rw [← hto, ← hK, List.getElem?_map, List.getElem?_range hi]
    rfl
  have HN2 : Hid (full = false → ∀ i, nf i = Sd.stp C t la i) := fun hf i => by
    rw [hnf, hf]
    exact Dw.wj_nil C t la i
  have hrow : Dw.row C T t wi la lb le full = Dw.pic C T la nf K ++ (if le = 3 then [45] else []) := by
    rw [hnf, hK, hto]
    rfl
  rw [hrow] at hN ⊢
  obtain ⟨E, hE⟩ : ∃ x, x = (if le = 3 then [45] else []) := ⟨_, rfl⟩
  have HE : Hid ((le = 3 → E = [45]) ∧ (¬ le = 3 → E = [])) := ⟨fun h => by rw [hE, if_pos h], fun h => by rw [hE, if_neg h]⟩
  rw [← hE] at hN ⊢
  obtain ⟨F, hF⟩ : ∃ x, x = Dw.pic C T la nf K := ⟨_, rfl⟩
  rw [← hF] at hN ⊢
  have hFN : F.length ≤ N := by rw [hN, List.length_append]; omega
  have HF : Hid (F = Dw.pic C T la nf K ∧ F.length ≤ N ∧ N = (F ++ E).length) := ⟨hF, hFN, hN⟩
  have HFI : Hid (∀ i, i ≤ K → (Dw.pic C T la nf i).length ≤ N) := fun i hi => by
    refine Nat.le_trans (Dw.pic_mono C T la nf hi) ?_
    rw [← hF]
    exact hFN
  have HSTP : Hid (∀ i, i < K → Sp.col C t la i ≤ Sp.col C t la (i + 1)) := fun i _ => Sp.col_step C h0 la i
  have HK1 : Hid (k1 = K + 1) := hk1
  clear hE hP hT hx hw h0 ht hN htr hnf hK hD hDl hrow hF hFN haC hto hk1
  unfold nlN at HC HW
  go_enter Try.func10, Try.ntmps10
  go_upto_region 1 with fail
  obtain ⟨R, B, Q, w0, hw0, hQ, hB, hR, H0, l1, l2, l3⟩ := box246 w (.slice aC n cC) (.slice aO m cO) (.int .i64 (la : Int)) (.int .i64 (lb : Int)) (.int .i64 (lc : Int)) (.int .u8 (le : Int)) (.int .i64 (wi : Int)) (.int .i64 (t : Int)) (.int .u8 (mo : Int)) (.int .i64 (hy : Int)) (.int .i64 (pr : Int)) (.float .f64 lo) 31 43 35
  rw [hw0, hQ, hB, hR]
  clear hw0 hQ hB
  clear hR l1 l2 l3
  have HS : Hid (∀ W', Only (fun _ => False) w0 W' → ((W'.cell? ⟨R, 0, none⟩ = some (.slice aC n cC) ∧ W'.cell? ⟨R, 1, none⟩ = some (.slice aO m cO)) ∧ (W'.cell? ⟨B, 0, none⟩ = some (.int .i64 (la : Int)) ∧ W'.cell? ⟨B, 1, none⟩ = some (.int .i64 (lb : Int)) ∧ W'.cell? ⟨B, 2, none⟩ = some (.int .i64 (lc : Int)) ∧ W'.cell? ⟨B, 3, none⟩ = some (.int .u8 (le : Int))) ∧ (W'.cell? ⟨Q, 0, none⟩ = some (.int .i64 (wi : Int)) ∧ W'.cell? ⟨Q, 1, none⟩ = some (.int .i64 (t : Int)) ∧ W'.cell? ⟨Q, 2, none⟩ = some (.int .u8 (mo : Int)) ∧ W'.cell? ⟨Q, 3, none⟩ = some (.int .i64 (hy : Int)) ∧ W'.cell? ⟨Q, 4, none⟩ = some (.int .i64 (pr : Int)) ∧ W'.cell? ⟨Q, 5, none⟩ = some (.float .f64 lo))) ∧ (R < W'.heap.size ∧ B < W'.heap.size ∧ Q < W'.heap.size)) := fun W' ho => by
    have e1 := blk_keep ho H0.out.1
    have e2 := blk_keep ho H0.out.2.1
    have e3 := blk_keep ho H0.out.2.2.1
    exact ⟨⟨⟨(blk_two e1).1, (blk_two e1).2.1⟩, blk_four e2, blk_six e3⟩, (blk_two e1).2.2, (Array.getElem?_eq_some_iff.1 e2).1, (Array.getElem?_eq_some_iff.1 e3).1⟩
  obtain ⟨⟨⟨r0, r1⟩, ⟨b0, b1, b2, b3⟩, f0, f1, f2, f3, f4, f5⟩, lR, lB, lQ⟩ := HS.out w0 (Only.refl _ _)
  go_wp2_with fail
  refine Calls.mono (HTR.out _ H0.out.2.2.2) ?_
  rintro e w1 ⟨rfl, ho1⟩
  have H1 : Hid (Only (fun _ => False) w0 w1 ∧ Only (fun _ => False) w w1) := ⟨ho1, H0.out.2.2.2.trans ho1⟩
  clear ho1 r0 r1 b0 b1 b2 b3 f0 f1 f2 f3 f4 f5 lR lB lQ
  obtain ⟨⟨⟨r0, r1⟩, ⟨b0, b1, b2, b3⟩, f0, f1, f2, f3, f4, f5⟩, lR, lB, lQ⟩ := HS.out w1 H1.out.1
  go_wp2_with fail
  refine Calls.mono (HC.out _ H1.out.2) ?_
  rintro e w2 ⟨a2, c2, rfl, hown2, ho2⟩
  have H2 : Hid (w2.ownsRow w1.heap.size 3 1 (.slice a2 k1 c2) k1 (natI (Sp.cols C t la K)) ∧ Only (fun _ => False) w0 w2 ∧ Only (fun _ => False) w w2) := ⟨hown2, H1.out.1.trans ho2, H1.out.2.trans ho2⟩
  clear hown2 ho2 r0 r1 b0 b1 b2 b3 f0 f1 f2 f3 f4 f5 lR lB lQ
  obtain ⟨⟨⟨r0, r1⟩, ⟨b0, b1, b2, b3⟩, f0, f1, f2, f3, f4, f5⟩, lR, lB, lQ⟩ := HS.out w2 H2.out.2.1
  go_wp2_with fail
  refine Calls.mono (HW.out _ H2.out.2.2) ?_
  rintro e w3 ⟨a3, c3, rfl, hown3, ho3⟩
  have H3 : Hid (w3.ownsRow w2.heap.size 3 1 (.slice a3 K c3) K (natI D) ∧ Only (fun _ => False) w2 w3 ∧ Only (fun _ => False) w0 w3 ∧ Only (fun _ => False) w w3) := ⟨hown3, ho3, H2.out.2.1.trans ho3, H2.out.2.2.trans ho3⟩
  obtain ⟨gl, capl, hvl, hgl, -, hcell⟩ := own_cells H2.out.1 (by have := HK1.out; omega)
  have e0 : a2 = some ⟨gl, 0, none⟩ := by injection hvl
  subst e0
  have HCL : Hid (∀ W' i q, Only (fun _ => False) w2 W' → i ≤ K → q = Sp.col C t la i → W'.cell? ⟨gl, i, none⟩ = some (.int .i64 (q : Int))) := fun W' i q ho hi hq => keep0 ho (hcell i _ (natI_get (by rw [hq]; exact Sp.cols_at hi)))
  clear hvl hcell hgl hown3 ho3 r0 r1 b0 b1 b2 b3 f0 f1 f2 f3 f4 f5 lR lB lQ
  obtain ⟨⟨⟨r0, r1⟩, ⟨b0, b1, b2, b3⟩, f0, f1, f2, f3, f4, f5⟩, lR, lB, lQ⟩ := HS.out w3 H3.out.2.2.1
  go_wp2_with fail
  clear r0 r1 b0 b1 b2 b3 f0 f1 f2 f3 f4 f5 lR lB lQ
  go_loopg [14, 15] K (fun gh v14 v15 wr => ∃ (q i s : Nat) (a : Option Addr) (cc : Nat) (W : World), W = wr ∧ gh = K - q ∧ q ≤ K ∧ v14 = .slice a s cc ∧ v15 = .int .i64 (i : Int) ∧ i = la + q ∧ s = (Dw.pic C T la nf q).length ∧ W.ownsRow w3.heap.size 5 1 (.slice a s cc) s (u8s (Dw.pic C T la nf q)) ∧ Only (fun g => w3.heap.size ≤ g) w3 W)
  case atStart => exact ⟨0, la, 0, none, 0, _, rfl, rfl, Nat.zero_le _, rfl, rfl, rfl, rfl, own_nilY _ _, Only.refl _ _⟩
  case round =>
    obtain ⟨q, i, s, a, cc, W, hW, rfl, hq, rfl, rfl, hi, hs, hownW, hoW⟩ := hrel
    subst hW
    have HG : Hid (W.ownsRow w3.heap.size 5 1 (.slice a s cc) s (u8s (Dw.pic C T la nf q)) ∧ Only (fun g => w3.heap.size ≤ g) w3 W ∧ Only (fun _ => False) w3 W ∧ s = (Dw.pic C T la nf q).length ∧ w3.heap.size ≤ W.heap.size ∧ i = la + q) := ⟨hownW, hoW, hoW.old (fun g hg => Or.inl hg), hs, hoW.size, hi⟩
    have HG2 : Hid (Only (fun _ => False) w0 W ∧ Only (fun _ => False) w W ∧ Only (fun _ => False) w2 W) := ⟨H3.out.2.2.1.trans HG.out.2.2.1, H3.out.2.2.2.trans HG.out.2.2.1, H3.out.2.1.trans HG.out.2.2.1⟩
    have hiq : i ≤ te := by omega
    clear hownW hoW hs
    obtain ⟨⟨⟨r0, r1⟩, ⟨b0, b1, b2, b3⟩, f0, f1, f2, f3, f4, f5⟩, lR, lB, lQ⟩ := HS.out W HG2.out.1
    by_cases hlt : q < K
    · have u1 : (i : Int) < (te : Int) := by omega
      have hPw := HP.out W HG2.out.2.1
      obtain ⟨z, hz⟩ : ∃ z, C[i]? = some z := ⟨_, List.getElem?_eq_getElem (by have := hPw.hn; omega)⟩
      obtain ⟨xp, xl, xc, xk, rfl, hxc, hxk⟩ := hPw.ok.nat hz
      have hTw := HT.out W HG2.out.2.1
      have hfit := hTw.fit _ (List.mem_of_getElem? hz)
      have hcap := hTw.cap
      have hcapm := hTw.capm
      unfold maxLen at hcapm
      simp only at hfit
      have HA : Hid (Sp.at' C (la + q) = ⟨xp, xl, (xc : Int), xk⟩) := by rw [← hi]; exact at_some hz
      obtain ⟨gC', oC', eC, hg, c0, c1', c2', c3'⟩ := hPw.vC.cluster (k := i) hz
      simp only at c0 c1' c2' c3'
      have eC2 : aC = some ⟨gC, oC, none⟩ := HAC.out
      rw [eC2] at eC
      injection eC with eC
      injection eC with eC3 eC4
      subst eC3 eC4
      obtain ⟨y, hy'⟩ : ∃ y, y = nf q := ⟨_, rfl⟩
      have HY : Hid (y = nf q) := hy'
      have HPI : Hid (Dw.pic C T la nf (q + 1) = Dw.pic C T la nf q ++ Dw.see T ⟨xp, xl, (xc : Int), xk⟩ y) := by
        show Dw.pic C T la nf q ++ Dw.see T (Sp.at' C (la + q)) (nf q) = _
        rw [HA.out, ← hy']
      have j2 : (i : Int) < (n : Int) := by omega
      have aCs := HAC.out
      obtain ⟨i1, hi1⟩ : ∃ x, x = i + 1 := ⟨_, rfl⟩
      have j0 : IntKind.i64.wrap ((i : Int) + 1) = (i1 : Int) := by rw [IntKind.wrap_i64]; omega
      have HI1 : Hid (i1 = la + (q + 1)) := by rw [hi1, hi]; exact rfl
      clear eC2 hPw hz hi hi1 hy'
      subst aCs
      go_upto_region 9 with fail
      obtain ⟨B9, w4, hw4, hB9, H4, l9⟩ := box4 W (.int .i64 (xp : Int)) (.int .i64 (xl : Int)) (.int .i64 (xc : Int)) (.int .u8 (xk : Int)) 53
      rw [hw4, hB9]
      clear hw4 hB9 l9 c0 c1' c2' c3' hg r0 r1 b0 b1 b2 b3 f0 f1 f2 f3 f4 f5 lR lB lQ
      obtain ⟨x0, x1, x2, x3⟩ := blk_four H4.out.1
      have l9 : B9 < w4.heap.size := (Array.getElem?_eq_some_iff.1 H4.out.1).1
      obtain ⟨⟨⟨r0, r1⟩, ⟨b0, b1, b2, b3⟩, f0, f1, f2, f3, f4, f5⟩, lR, lB, lQ⟩ := HS.out w4 (HG2.out.1.trans H4.out.2.1)
      have HO4 : Hid (w4.ownsRow w3.heap.size 5 1 (.slice a s cc) s (u8s (Dw.pic C T la nf q)) ∧ Only (fun g => w3.heap.size ≤ g) w3 w4 ∧ w3.heap.size ≤ w4.heap.size) := ⟨own_only HG.out.1 H4.out.2.1 (fun _ _ h => h), HG.out.2.1.trans (H4.out.2.1.mono (fun _ h => h.elim)), Nat.le_trans HG.out.2.2.2.2.1 H4.out.2.1.size⟩
      obtain ⟨s1, hs1⟩ : ∃ x, x = (Dw.pic C T la nf (q + 1)).length := ⟨_, rfl⟩
      have hs1l : s1 ≤ 1000000 := by rw [hs1]; exact Nat.le_trans (HFI.out (q + 1) (by omega)) hNl
      by_cases hk : xk = 0
      · have u2 : ((xk : Int) == 0) = true := by rw [beq_iff_eq]; omega
        obtain ⟨M, hM⟩ : ∃ M, M = (T.drop xp).take xl := ⟨_, rfl⟩
        have hMl : xl = M.length := by rw [hM, List.length_take, List.length_drop, ← hTw.hn]; omega
        have HPM : Hid (Dw.pic C T la nf (q + 1) = Dw.pic C T la nf q ++ M) := by rw [HPI.out]; show _ ++ (if xk = 0 then _ else _) = _; rw [if_pos hk, hM]
        obtain ⟨ye, hye⟩ : ∃ y, y = xp + xl := ⟨_, rfl⟩
        have m2 : IntKind.i64.wrap ((xp : Int) + (xl : Int)) = (ye : Int) := by rw [IntKind.wrap_i64]; omega
        have t5 : (xp : Int) ≤ (ye : Int) := by omega
        have t6 : (ye : Int) ≤ (cT : Int) := by omega
        obtain ⟨aS, haS⟩ : ∃ aS, (if cT = xp then aT else aT.map (fun x => x.add xp)) = aS := ⟨_, rfl⟩
        have HVS : Hid (Vw w4 aS (u8s M) ∧ ye - xp = M.length ∧ s + (ye - xp) = s1) := by
          have hVT := (HT.out w4 (HG2.out.2.1.trans H4.out.2.1)).vT
          refine ⟨?_, by omega, ?_⟩
          · rw [← haS, hM]
            split
            · rename_i e
              have e0 : xl = 0 := by omega
              rw [e0, List.take_zero]
              exact Vw.nil _ _
            · exact vw_cutY hVT xp xl
          · rw [hs1, HPM.out, List.length_append, ← HG.out.2.2.2.1, ← hMl]
            omega
        clear hM hMl hye hTw hs1 hk hfit
        go_wp2_with (at_builtin; (refine wpList_appY rfl _ _ rfl w3.heap.size HO4.out.2.2 a s cc (Dw.pic C T la nf q) rfl HO4.out.1 aS (ye - xp) (cT - xp) M rfl HVS.out.2.1 HVS.out.1 s1 HVS.out.2.2 hs1l ?_; intro a5 c5 w5 hown5 ho5; have H5 : Hid (w5.ownsRow w3.heap.size 5 1 (.slice a5 s1 c5) s1 (u8s (Dw.pic C T la nf (q + 1))) ∧ Only (fun g => w3.heap.size ≤ g) w3 w5) := ⟨by rw [HPM.out]; exact hown5, HO4.out.2.1.trans (ho5.mono (fun g hg => (own_own HO4.out.1 hg).1))⟩; clear hown5 ho5))
        go_roundg (K - (q + 1))
        case measure => omega
        case rel => exact ⟨q + 1, i1, s1, _, _, _, rfl, rfl, by omega, rfl, by go_num, HI1.out, by have := own_len5 H5.out.1; exact this, H5.out.1, H5.out.2⟩
      · have u2 : ((xk : Int) == 0) = false := by rw [beq_eq_false_iff_ne]; omega
        have HPM : Hid (Dw.pic C T la nf (q + 1) = Dw.pic C T la nf q ++ List.replicate y 32 ∧ s1 = s + y) := by
          have h : Dw.pic C T la nf (q + 1) = Dw.pic C T la nf q ++ List.replicate y 32 := by rw [HPI.out]; show _ ++ (if xk = 0 then _ else _) = _; rw [if_neg hk]
          refine ⟨h, ?_⟩
          rw [hs1, h, List.length_append, List.length_replicate, ← HG.out.2.2.2.1]
        obtain ⟨q1, hq1⟩ : ∃ x, x = q + 1 := ⟨_, rfl⟩
        have m1 : IntKind.i64.wrap ((i : Int) - (la : Int)) = (q : Int) := by rw [IntKind.wrap_i64]; have := HG.out.2.2.2.2.2; omega
        have m2 : IntKind.i64.wrap ((q : Int) + 1) = (q1 : Int) := by rw [IntKind.wrap_i64]; omega
        have t2 : (q : Int) < (k1 : Int) := by have := HK1.out; omega
        have t3 : (q1 : Int) < (k1 : Int) := by have := HK1.out; omega
        have t4 : (q : Int) < (K : Int) := by omega
        obtain ⟨p0, hp0⟩ : ∃ x1, x1 = Sp.col C t la q := ⟨_, rfl⟩
        obtain ⟨p1, hp1⟩ : ∃ x1, x1 = Sp.col C t la q1 := ⟨_, rfl⟩
        obtain ⟨st, hst⟩ : ∃ x1, x1 = Sd.stp C t la q := ⟨_, rfl⟩
        have hl0 : p0 ≤ 100200000 := by rw [hp0]; exact HCS.out q hq
        have hl1 : p1 ≤ 100200000 := by rw [hp1]; exact HCS.out q1 (by omega)
        have hle : p0 ≤ p1 := by rw [hp0, hp1, hq1]; exact HSTP.out q hlt
        have hst2 : st = p1 - p0 := by rw [hst, hp0, hp1, hq1]; rfl
        have m3 : IntKind.i64.wrap ((p1 : Int) - (p0 : Int)) = (st : Int) := by rw [IntKind.wrap_i64]; omega
        have d0 := HCL.out w4 q p0 (HG2.out.2.2.trans H4.out.2.1) (by omega) hp0
        have d1 := HCL.out w4 q1 p1 (HG2.out.2.2.trans H4.out.2.1) (by omega) hp1
        have HST : Hid (st = Sd.stp C t la q ∧ s1 ≤ 1000000) := ⟨hst, hs1l⟩
        have hyl : s + y ≤ 1000000 := by have := HPM.out.2; omega
        clear hp0 hp1 hst hst2 hq1 hs1 hTw hk hfit hs1l hle
        go_upto_region 11 with fail
        go_quiet (fail)
        obtain ⟨V, hV⟩ : ∃ V, V = w4.drewN nq := ⟨_, rfl⟩
        rw [← hV]
        have HV : Hid (Only (fun _ => False) w4 V ∧ V.ownsRow w3.heap.size 5 1 (.slice a s cc) s (u8s (Dw.pic C T la nf q)) ∧ Only (fun g => w3.heap.size ≤ g) w3 V ∧ w3.heap.size ≤ V.heap.size ∧ Only (fun _ => False) w0 V ∧ Only (fun _ => False) w2 V) := by
          have h : Only (fun _ => False) w4 V := by rw [hV]; exact (Only.refl _ _).drewN _
          exact ⟨h, own_only HO4.out.1 h (fun _ _ h => h), HO4.out.2.1.trans (h.mono (fun _ h => h.elim)), Nat.le_trans HO4.out.2.2 h.size, HG2.out.1.trans (H4.out.2.1.trans h), HG2.out.2.2.trans (H4.out.2.1.trans h)⟩
        clear hV d0 d1 x0 x1 x2 x3 l9 r0 r1 b0 b1 b2 b3 f0 f1 f2 f3 f4 f5 lR lB lQ
        obtain ⟨⟨⟨r0, r1⟩, ⟨b0, b1, b2, b3⟩, f0, f1, f2, f3, f4, f5⟩, lR, lB, lQ⟩ := HS.out V HV.out.2.2.2.2.1
        by_cases hf : full = true
        · have HYD : Hid (D[q]? = some y) := by rw [HY.out]; exact HN1.out hf q hlt
          subst hf
          obtain ⟨gM, capM, hvM, hcM⟩ := natI_at (own_only H3.out.1 (HV.out.2.2.1.old (Q := fun _ => False) (fun g hg => Or.inl hg)) (fun _ _ h => h)) HDL.out HYD.out
          have eM : a3 = some ⟨gM, 0, none⟩ := by injection hvM
          subst eM
          clear hvM
          go_wp2_with fail
          clear r0 r1 b0 b1 b2 b3 f0 f1 f2 f3 f4 f5 lR lB lQ
          go_loopg [14, 18] y (fun gh v14 v18 wr => ∃ (k s2 : Nat) (a7 : Option Addr) (c7 : Nat) (X : World), X = wr ∧ gh = y - k ∧ k ≤ y ∧ v14 = .slice a7 s2 c7 ∧ v18 = .int .i64 (k : Int) ∧ s2 = s + k ∧ X.ownsRow w3.heap.size 5 1 (.slice a7 s2 c7) s2 (u8s (Dw.pic C T la nf q ++ List.replicate k 32)) ∧ Only (fun g => w3.heap.size ≤ g) w3 X)
          case atStart => exact ⟨0, s, _, _, _, rfl, rfl, Nat.zero_le _, rfl, rfl, rfl, by rw [List.replicate_zero, List.append_nil]; exact HV.out.2.1, HV.out.2.2.1⟩
          case round =>
            obtain ⟨k, s2, a7, c7, X, hX, rfl, hky, rfl, rfl, hs2, hownX, hoX⟩ := hrel
            subst hX
            have HX0 : Hid (X.ownsRow w3.heap.size 5 1 (.slice a7 s2 c7) s2 (u8s (Dw.pic C T la nf q ++ List.replicate k 32)) ∧ Only (fun g => w3.heap.size ≤ g) w3 X ∧ s2 = s + k) := ⟨hownX, hoX, hs2⟩
            clear hownX hoX
            by_cases hlk : k < y
            · have v1 : (k : Int) < (y : Int) := by omega
              obtain ⟨s3, hs3⟩ : ∃ s3, s2 + 1 = s3 := ⟨_, rfl⟩
              have hs3l : s3 ≤ 1000000 := by omega
              have HS3 : Hid (s2 + 1 = s3 ∧ Dw.pic C T la nf q ++ List.replicate k 32 ++ [32] = Dw.pic C T la nf q ++ List.replicate (k + 1) 32) := ⟨hs3, by rw [List.append_assoc, ← List.replicate_succ']⟩
              have HX : Hid ((X.alloc (.cells #[.int .u8 32] 5)).ownsRow w3.heap.size 5 1 (.slice a7 s2 c7) s2 (u8s (Dw.pic C T la nf q ++ List.replicate k 32)) ∧ Only (fun g => w3.heap.size ≤ g) w3 (X.alloc (.cells #[.int .u8 32] 5)) ∧ w3.heap.size ≤ (X.alloc (.cells #[.int .u8 32] 5)).heap.size ∧ Vw (X.alloc (.cells #[.int .u8 32] 5)) (some ⟨X.heap.size, 0, none⟩) (u8s [32])) := ⟨HX0.out.1.alloc _, HX0.out.2.1.alloc _, Nat.le_trans HX0.out.2.1.size ((Only.refl (fun _ => False) X).alloc _).size, vw_sign X 32 32 rfl⟩
              obtain ⟨k1', hk1'⟩ : ∃ x, x = k + 1 := ⟨_, rfl⟩
              have j9 : IntKind.i64.wrap ((k : Int) + 1) = (k1' : Int) := by rw [IntKind.wrap_i64]; omega
              have HK9 : Hid (k1' = k + 1) := hk1'
              clear hs2 hs3 hk1'
              go_wp2_with (at_builtin; (refine wpList_appY rfl _ _ rfl w3.heap.size HX.out.2.2.1 a7 s2 c7 (Dw.pic C T la nf q ++ List.replicate k 32) rfl HX.out.1 (some ⟨X.heap.size, 0, none⟩) 1 1 [32] rfl rfl HX.out.2.2.2 s3 HS3.out.1 hs3l ?_; intro a5 c5 w5 hown5 ho5; have H5 : Hid (w5.ownsRow w3.heap.size 5 1 (.slice a5 s3 c5) s3 (u8s (Dw.pic C T la nf q ++ List.replicate (k + 1) 32)) ∧ Only (fun g => w3.heap.size ≤ g) w3 w5) := ⟨by rw [← HS3.out.2]; exact hown5, HX.out.2.1.trans (ho5.mono (fun g hg => (own_own HX.out.1 hg).1))⟩; clear hown5 ho5))
              go_roundg (y - (k + 1))
              case measure => omega
              case rel => exact ⟨k + 1, s3, _, _, _, rfl, rfl, by omega, rfl, by rw [HK9.out], by have := HS3.out.1; have := HX0.out.2.2; omega, H5.out.1, H5.out.2⟩
            · have v1 : decide ((k : Int) < (y : Int)) = false := decide_eq_false (by omega)
              have hkn : k = y := by omega
              have HX1 : Hid (X.ownsRow w3.heap.size 5 1 (.slice a7 s2 c7) s2 (u8s (Dw.pic C T la nf (q + 1))) ∧ s2 = (Dw.pic C T la nf (q + 1)).length) := by
                have h := HX0.out.1
                rw [hkn, ← HPM.out.1] at h
                exact ⟨h, own_len5 h⟩
              have HI2 : Hid (i1 = la + (q + 1)) := HI1.out
              clear hkn hs2
              go_wp2_with fail
              go_roundg (K - (q + 1))
              case measure => omega
              case rel => exact ⟨q + 1, i1, s2, _, _, _, rfl, rfl, by omega, rfl, by go_num, HI2.out, HX1.out.2, HX1.out.1, HX0.out.2.1⟩
        · have hf' : full = false := by simpa using hf
          have HYS : Hid (y = st) := by rw [HY.out, HST.out.1]; exact HN2.out hf' q
          have hys := HYS.out
          clear hf
          subst hf' hys
          go_wp2_with fail
          clear r0 r1 b0 b1 b2 b3 f0 f1 f2 f3 f4 f5 lR lB lQ
          go_loopg [14, 18] y (fun gh v14 v18 wr => ∃ (k s2 : Nat) (a7 : Option Addr) (c7 : Nat) (X : World), X = wr ∧ gh = y - k ∧ k ≤ y ∧ v14 = .slice a7 s2 c7 ∧ v18 = .int .i64 (k : Int) ∧ s2 = s + k ∧ X.ownsRow w3.heap.size 5 1 (.slice a7 s2 c7) s2 (u8s (Dw.pic C T la nf q ++ List.replicate k 32)) ∧ Only (fun g => w3.heap.size ≤ g) w3 X)
          case atStart => exact ⟨0, s, _, _, _, rfl, rfl, Nat.zero_le _, rfl, rfl, rfl, by rw [List.replicate_zero, List.append_nil]; exact HV.out.2.1, HV.out.2.2.1⟩
          case round =>
            obtain ⟨k, s2, a7, c7, X, hX, rfl, hky, rfl, rfl, hs2, hownX, hoX⟩ := hrel
            subst hX
            have HX0 : Hid (X.ownsRow w3.heap.size 5 1 (.slice a7 s2 c7) s2 (u8s (Dw.pic C T la nf q ++ List.replicate k 32)) ∧ Only (fun g => w3.heap.size ≤ g) w3 X ∧ s2 = s + k) := ⟨hownX, hoX, hs2⟩
            clear hownX hoX
            by_cases hlk : k < y
            · have v1 : (k : Int) < (y : Int) := by omega
              obtain ⟨s3, hs3⟩ : ∃ s3, s2 + 1 = s3 := ⟨_, rfl⟩
              have hs3l : s3 ≤ 1000000 := by omega
              have HS3 : Hid (s2 + 1 = s3 ∧ Dw.pic C T la nf q ++ List.replicate k 32 ++ [32] = Dw.pic C T la nf q ++ List.replicate (k + 1) 32) := ⟨hs3, by rw [List.append_assoc, ← List.replicate_succ']⟩
              have HX : Hid ((X.alloc (.cells #[.int .u8 32] 5)).ownsRow w3.heap.size 5 1 (.slice a7 s2 c7) s2 (u8s (Dw.pic C T la nf q ++ List.replicate k 32)) ∧ Only (fun g => w3.heap.size ≤ g) w3 (X.alloc (.cells #[.int .u8 32] 5)) ∧ w3.heap.size ≤ (X.alloc (.cells #[.int .u8 32] 5)).heap.size ∧ Vw (X.alloc (.cells #[.int .u8 32] 5)) (some ⟨X.heap.size, 0, none⟩) (u8s [32])) := ⟨HX0.out.1.alloc _, HX0.out.2.1.alloc _, Nat.le_trans HX0.out.2.1.size ((Only.refl (fun _ => False) X).alloc _).size, vw_sign X 32 32 rfl⟩
              obtain ⟨k1', hk1'⟩ : ∃ x, x = k + 1 := ⟨_, rfl⟩
              have j9 : IntKind.i64.wrap ((k : Int) + 1) = (k1' : Int) := by rw [IntKind.wrap_i64]; omega
              have HK9 : Hid (k1' = k + 1) := hk1'
              clear hs2 hs3 hk1'
              go_wp2_with (at_builtin; (refine wpList_appY rfl _ _ rfl w3.heap.size HX.out.2.2.1 a7 s2 c7 (Dw.pic C T la nf q ++ List.replicate k 32) rfl HX.out.1 (some ⟨X.heap.size, 0, none⟩) 1 1 [32] rfl rfl HX.out.2.2.2 s3 HS3.out.1 hs3l ?_; intro a5 c5 w5 hown5 ho5; have H5 : Hid (w5.ownsRow w3.heap.size 5 1 (.slice a5 s3 c5) s3 (u8s (Dw.pic C T la nf q ++ List.replicate (k + 1) 32)) ∧ Only (fun g => w3.heap.size ≤ g) w3 w5) := ⟨by rw [← HS3.out.2]; exact hown5, HX.out.2.1.trans (ho5.mono (fun g hg => (own_own HX.out.1 hg).1))⟩; clear hown5 ho5))
              go_roundg (y - (k + 1))
              case measure => omega
              case rel => exact ⟨k + 1, s3, _, _, _, rfl, rfl, by omega, rfl, by rw [HK9.out], by have := HS3.out.1; have := HX0.out.2.2; omega, H5.out.1, H5.out.2⟩
            · have v1 : decide ((k : Int) < (y : Int)) = false := decide_eq_false (by omega)
              have hkn : k = y := by omega
              have HX1 : Hid (X.ownsRow w3.heap.size 5 1 (.slice a7 s2 c7) s2 (u8s (Dw.pic C T la nf (q + 1))) ∧ s2 = (Dw.pic C T la nf (q + 1)).length) := by
                have h := HX0.out.1
                rw [hkn, ← HPM.out.1] at h
                exact ⟨h, own_len5 h⟩
              have HI2 : Hid (i1 = la + (q + 1)) := HI1.out
              clear hkn hs2
              go_wp2_with fail
              go_roundg (K - (q + 1))
              case measure => omega
              case rel => exact ⟨q + 1, i1, s2, _, _, _, rfl, rfl, by omega, rfl, by go_num, HI2.out, HX1.out.2, HX1.out.1, HX0.out.2.1⟩
    · have u1 : decide ((i : Int) < (te : Int)) = false := decide_eq_false (by omega)
      have hqK : q = K := by omega
      have HF2 : Hid (W.ownsRow w3.heap.size 5 1 (.slice a s cc) s (u8s F) ∧ s = F.length) := by
        rw [HF.out.1, ← hqK]
        exact ⟨HG.out.1, HG.out.2.2.2.1⟩
      have hnot : ¬ i < te := by omega
      clear hqK hq hi
      by_cases h3 : le = 3
      · have t3 : ((le : Int) == 3) = true := by rw [beq_iff_eq]; omega
        have HX : Hid ((W.alloc (.cells #[.int .u8 45] 5)).ownsRow w3.heap.size 5 1 (.slice a s cc) s (u8s F) ∧ Only (fun g => w3.heap.size ≤ g) w3 (W.alloc (.cells #[.int .u8 45] 5)) ∧ w3.heap.size ≤ (W.alloc (.cells #[.int .u8 45] 5)).heap.size ∧ Vw (W.alloc (.cells #[.int .u8 45] 5)) (some ⟨W.heap.size, 0, none⟩) (u8s [45])) := ⟨HF2.out.1.alloc _, HG.out.2.1.alloc _, Nat.le_trans HG.out.2.1.size ((Only.refl (fun _ => False) W).alloc _).size, vw_sign W 45 45 rfl⟩
        have HE3 : Hid (E = [45]) := HE.out.1 h3
        have HS1 : Hid (s + 1 = N) := by rw [HF2.out.2, HF.out.2.2, HE3.out, List.length_append]; exact rfl
        have hs1l : N ≤ 1000000 := hNl
        have HV : Hid (∀ a5 c5 (w5 : World), w5.ownsRow w3.heap.size 5 1 (.slice a5 N c5) N (u8s (F ++ [45])) → (convert 36 9 (.slice a5 N c5)).run Try.prog w5 = .ok (.string (stY (F ++ E))) w5) := fun a5 c5 w5 h => by
          rw [HE3.out]
          exact str_any _ N c5 a5 w5 (by rw [HF.out.2.2, HE3.out]) (own_vw h)
        clear h3 HE
        have HR5 : Hid (∀ a5 c5 (w5 : World), w5.ownsRow w3.heap.size 5 1 (.slice a5 N c5) N (u8s (F ++ [45])) → (convert 36 9 (.slice a5 N c5)).run Try.prog w5 = .ok (.string (stY (F ++ E))) w5) := HV
        clear HV
        go_wp2_with (at_builtin; (refine wpList_appY rfl _ _ rfl w3.heap.size HX.out.2.2.1 a s cc F rfl HX.out.1 (some ⟨W.heap.size, 0, none⟩) 1 1 [45] rfl rfl HX.out.2.2.2 N HS1.out hs1l ?_; intro a5 c5 w5 hown5 ho5; have H5 : Hid (Only (fun g => w3.heap.size ≤ g) w3 w5) := HX.out.2.1.trans (ho5.mono (fun g hg => (own_own HX.out.1 hg).1)); have cv := HR5.out a5 c5 w5 hown5; clear hown5 ho5))
        go_ret
        exact ⟨rfl, H3.out.2.2.2.trans (H5.out.old (fun g hg => Or.inl hg))⟩
      · have t3 : ((le : Int) == 3) = false := by rw [beq_eq_false_iff_ne]; omega
        have HE3 : Hid (E = []) := HE.out.2 h3
        have cv : (convert 36 9 (.slice a s cc)).run Try.prog W = .ok (.string (stY (F ++ E))) W := by
          rw [HE3.out, List.append_nil]
          exact str_any _ s cc a W HF2.out.2 (own_vw HF2.out.1)
        clear h3 HE
        go_wp2_with fail
        go_ret
        exact ⟨rfl, HG2.out.2.1⟩
end Go.Proofs.Ytegoadhnilmchaa
