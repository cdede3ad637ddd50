/-
  The document's Wide.
-/
import Derived.Test.YtegoadhnilmchaaJi
namespace Go.Proofs.Ytegoadhnilmchaa
open Go.RowKit Go.Maps
set_option linter.unusedVariables false
set_option linter.unusedSimpArgs false
set_option maxRecDepth 100000 in
set_option maxHeartbeats 8000000 in
theorem refWide_any (C : List Ct) (O : List Nat) (n m : Nat) (aC0 aO : Option Addr) (cC cO la lb lc le wi t mo hy pr lo : Nat) (w : World) (hP : Pv w C O n m aC0 aO cC cO) (hx : la < lb) (hb : lb ≤ n) (he : le < 256) (hw : wi ≤ 1048576) (h0 : 0 < t) (ht : t ≤ 1000) :
    Calls Try.prog 18 #[.agg #[.slice aC0 n cC, .slice aO m cO], .agg #[.int .i64 (la : Int), .int .i64 (lb : Int), .int .i64 (lc : Int), .int .u8 (le : Int)], .agg #[.int .i64 (wi : Int), .int .i64 (t : Int), .int .u8 (mo : Int), .int .i64 (hy : Int), .int .i64 (pr : Int), .float .f64 lo]] w (nlN (Sd.wid C t wi la lb le) (Sp.tr C la (lb - la) - la) w) := by
  obtain ⟨gC, oC, rfl, -, -⟩ := hP.vC.cells (by rw [ctC_len, ← hP.hn]; omega)
  obtain ⟨aC, haC⟩ : ∃ a : Option Addr, a = some ⟨gC, oC, none⟩ := ⟨_, rfl⟩
  have HAC : Hid (aC = some ⟨gC, oC, none⟩) := haC
  rw [← haC] at hP
  rw [← haC]
  have HP : Hid (∀ W', Only (fun _ => False) w W' → Pv W' C O n m aC aO cC cO) := fun W' ho => hP.keep ho
  have h1 := hP.few
  have htr := Sp.tr_ge C la (lb - la)
  obtain ⟨te, hto⟩ : ∃ x, x = Sp.tr C la (lb - la) := ⟨_, rfl⟩
  rw [← hto] at htr ⊢
  obtain ⟨K, hKK⟩ : ∃ x, x = te - la := ⟨_, rfl⟩
  have htl : la ≤ te := htr.1
  have htu : te ≤ n := by omega
  have HT : Hid (∀ W', Only (fun _ => False) w W' → Calls Try.prog 13 #[.agg #[.slice aC n cC, .slice aO m cO], .int .i64 (la : Int), .int .i64 (lb : Int)] W' fun e w' => e = .returned (.int .i64 (te : Int)) ∧ Only (fun _ => False) W' w') := fun W' ho => by
    rw [hto]
    exact refTrim_any C O n m aC aO cC cO la lb W' (hP.keep ho) (by omega) hb
  obtain ⟨k1, hk1⟩ : ∃ x, x = K + 1 := ⟨_, rfl⟩
  have HC : Hid (∀ W', Only (fun _ => False) w W' → Calls Try.prog 17 #[.agg #[.slice aC n cC, .slice aO m cO], .int .i64 (la : Int), .int .i64 (te : Int), .int .i64 (t : Int)] W' (nlN (Sp.cols C t la K) k1 W')) := fun W' ho => by
    have h := refColumns_any C O n m aC aO cC cO la te t W' (hP.keep ho) htl htu h0 ht
    unfold nlP at h
    rw [← hKK, Sp.cols_len, ← hk1] at h
    exact h
  have HCS : Hid (∀ i, i ≤ K → Sp.col C t la i ≤ 100200000) := fun i hi => col_small hP.ok h0 ht (by omega)
  obtain ⟨ce, hce⟩ : ∃ x, x = Sp.cel C t la (lb - la) le := ⟨_, rfl⟩
  have hcel : ce ≤ 100200001 := by
    have h := col_small hP.ok h0 ht (a := la) (k := Sp.tr C la (lb - la) - la) (by omega)
    rw [hce]
    unfold Sp.cel Sp.wd
    split <;> omega
  have HCE : Hid (∀ W', Only (fun _ => False) w W' → Calls Try.prog 26 #[.agg #[.slice aC n cC, .slice aO m cO], .int .i64 (la : Int), .int .i64 (lb : Int), .int .u8 (le : Int), .int .i64 (t : Int)] W' fun e w' => e = .returned (.int .i64 (ce : Int)) ∧ Only (fun _ => False) W' w') := fun W' ho => by
    rw [hce]
    exact refCells_any C O n m aC aO cC cO la lb t le W' (hP.keep ho) (by omega) hb h0 ht he
  obtain ⟨ga, hga⟩ : ∃ x, x = Sp.gp C la (lb - la) := ⟨_, rfl⟩
  have HGA : Hid (∀ W', Only (fun _ => False) w W' → Calls Try.prog 12 #[.agg #[.slice aC n cC, .slice aO m cO], .int .i64 (la : Int), .int .i64 (lb : Int)] W' fun e w' => e = .returned (.int .i64 (ga : Int)) ∧ Only (fun _ => False) W' w') := fun W' ho => by
    rw [hga]
    exact refGaps_any C O n m aC aO cC cO la lb W' (hP.keep ho) (by omega) hb
  obtain ⟨room, hroom⟩ : ∃ x : Int, x = (wi : Int) - (ce : Int) := ⟨_, rfl⟩
  have p0 : IntKind.i64.wrap ((wi : Int) - (ce : Int)) = room := by rw [IntKind.wrap_i64, hroom]; omega
  have p1 : IntKind.i64.wrap ((te : Int) - (la : Int)) = (K : Int) := by rw [IntKind.wrap_i64]; omega
  obtain ⟨M, hM⟩ : ∃ x, x = Sd.spr room ga := ⟨_, rfl⟩
  obtain ⟨nm, hnm⟩ : ∃ x, x = M.length := ⟨_, rfl⟩
  have HSP : Hid (∀ W', Calls Try.prog 25 #[.int .i64 room, .int .i64 (ga : Int)] W' (nlN M nm W')) := fun W' => by
    have h := refSpread_any room ga W'
    rw [← hM, ← hnm] at h
    exact h
  have HNM : Hid (nm = M.length ∧ nm ≤ 4096 ∧ ∀ i, M.getD i 0 ≤ 1048576) := ⟨hnm, by rw [hnm, hM]; exact Sd.spr_few _ _, fun i => by rw [hM]; exact Sd.spr_small _ _ _⟩
  have HW1 : Hid (le = 2 ∨ le = 4 → Sd.wid C t wi la lb le = (List.range K).map (Sd.stp C t la)) := fun h => by rw [hKK, hto]; exact Sd.wid_none C h
  have HW2 : Hid (¬ (le = 2 ∨ le = 4) → Sd.wid C t wi la lb le = (List.range K).map fun i => Sd.stp C t la i + (if (Sp.at' C (la + i)).kind = 1 then M.getD (Sp.sps C la i) 0 else 0)) := fun h => by
    rw [hKK, hto, hM]
    exact Sd.wid_some C h (by rw [hroom, hce]; rfl) hga
  have HK1 : Hid (k1 = K + 1) := hk1
  have hKn : la + K ≤ n := by omega
  have HSS : Hid (∀ i, Sp.sps C la i ≤ i) := fun i => sps_le C la i
  rw [← hKK]
  clear hP hto hk1 hce hga hroom hM hnm htr haC hKK
  unfold nlN at HC HSP
  go_enter Try.func18, Try.ntmps18
  go_upto_region 1 with fail
  obtain ⟨R, B, Q, w0, hw0, hQ, hB, hR, H0, l1, l2, l3⟩ := box246 w (.slice aC n cC) (.slice aO m cO) (.int .i64 (la : Int)) (.int .i64 (lb : Int)) (.int .i64 (lc : Int)) (.int .u8 (le : Int)) (.int .i64 (wi : Int)) (.int .i64 (t : Int)) (.int .u8 (mo : Int)) (.int .i64 (hy : Int)) (.int .i64 (pr : Int)) (.float .f64 lo) 31 43 35
  rw [hw0, hQ, hB, hR]
  clear hw0 hQ hB hR
  have hRl : R < w0.heap.size := (Array.getElem?_eq_some_iff.1 H0.out.1).1
  have hBl : B < w0.heap.size := (Array.getElem?_eq_some_iff.1 H0.out.2.1).1
  have hQl : Q < w0.heap.size := (Array.getElem?_eq_some_iff.1 H0.out.2.2.1).1
  have HL : Hid (R < w0.heap.size ∧ B < w0.heap.size ∧ Q < w0.heap.size) := ⟨hRl, hBl, hQl⟩
  clear hRl hBl hQl l1 l2 l3
  have HS : Hid (∀ W', Only (fun _ => False) w0 W' → ((W'.cell? ⟨R, 0, none⟩ = some (.slice aC n cC) ∧ W'.cell? ⟨R, 1, none⟩ = some (.slice aO m cO)) ∧ (W'.cell? ⟨B, 0, none⟩ = some (.int .i64 (la : Int)) ∧ W'.cell? ⟨B, 1, none⟩ = some (.int .i64 (lb : Int)) ∧ W'.cell? ⟨B, 2, none⟩ = some (.int .i64 (lc : Int)) ∧ W'.cell? ⟨B, 3, none⟩ = some (.int .u8 (le : Int))) ∧ (W'.cell? ⟨Q, 0, none⟩ = some (.int .i64 (wi : Int)) ∧ W'.cell? ⟨Q, 1, none⟩ = some (.int .i64 (t : Int)) ∧ W'.cell? ⟨Q, 2, none⟩ = some (.int .u8 (mo : Int)) ∧ W'.cell? ⟨Q, 3, none⟩ = some (.int .i64 (hy : Int)) ∧ W'.cell? ⟨Q, 4, none⟩ = some (.int .i64 (pr : Int)) ∧ W'.cell? ⟨Q, 5, none⟩ = some (.float .f64 lo))) ∧ (R < W'.heap.size ∧ B < W'.heap.size ∧ Q < W'.heap.size)) := fun W' ho => by
    have e1 := blk_keep ho H0.out.1
    have e2 := blk_keep ho H0.out.2.1
    have e3 := blk_keep ho H0.out.2.2.1
    have hs := ho.size
    have hl := HL.out
    exact ⟨⟨⟨(blk_two e1).1, (blk_two e1).2.1⟩, blk_four e2, blk_six e3⟩, by omega, by omega, by omega⟩
  obtain ⟨⟨⟨r0, r1⟩, ⟨b0, b1, b2, b3⟩, k0, k1', k2, k3, k4, k5⟩, lR, lB, lQ⟩ := HS.out w0 (Only.refl _ _)
  go_wp2_with fail
  refine Calls.mono (HT.out _ H0.out.2.2.2) ?_
  rintro e w1 ⟨rfl, ho1⟩
  have H1 : Hid (Only (fun _ => False) w0 w1) := ho1
  clear ho1 r0 r1 b0 b1 b2 b3 k0 k1' k2 k3 k4 k5 lR lB lQ
  obtain ⟨⟨⟨r0, r1⟩, ⟨b0, b1, b2, b3⟩, k0, k1', k2, k3, k4, k5⟩, lR, lB, lQ⟩ := HS.out w1 H1.out
  go_wp2_with fail
  refine Calls.mono (HC.out _ (H0.out.2.2.2.trans H1.out)) ?_
  rintro e w2 ⟨a2, c2, rfl, hown2, ho2⟩
  obtain ⟨g2, cap2, hv2, -, -, hcell⟩ := own_cells hown2 (by have := HK1.out; omega)
  have e0 : a2 = some ⟨g2, 0, none⟩ := by injection hv2
  subst e0
  have HCL : Hid (∀ W' i q, Only (fun _ => False) w2 W' → i ≤ K → q = Sp.col C t la i → W'.cell? ⟨g2, i, none⟩ = some (.int .i64 (q : Int))) := fun W' i q ho hi hq => keep0 ho (hcell i _ (natI_get (by rw [hq]; exact Sp.cols_at hi)))
  have H2 : Hid (Only (fun _ => False) w0 w2) := H1.out.trans ho2
  clear hown2 ho2 hv2 hcell r0 r1 b0 b1 b2 b3 k0 k1' k2 k3 k4 k5 lR lB lQ
  obtain ⟨⟨⟨r0, r1⟩, ⟨b0, b1, b2, b3⟩, k0, k1', k2, k3, k4, k5⟩, lR, lB, lQ⟩ := HS.out w2 H2.out
  by_cases hE : le = 2 ∨ le = 4
  · have HWW : Hid (Sd.wid C t wi la lb le = (List.range K).map (Sd.stp C t la)) := HW1.out hE
    clear HW1 HW2 HSP HNM HCE HGA HT HC p0
    rcases hE with hE | hE
    · subst hE
      go_wp2_with fail
      clear r0 r1 b0 b1 b2 b3 k0 k1' k2 k3 k4 k5 lR lB lQ
      go_loopg [10, 11, 12, 13] K (fun gh v10 v11 v12 v13 wr => ∃ (i kk : Nat) (al : Option Addr) (c : Nat) (W : World), W = wr ∧ gh = K - i ∧ i ≤ K ∧ v10 = .slice al i c ∧ v11 = .int .i64 (kk : Int) ∧ v12 = .int .i64 (i : Int) ∧ kk = Sp.sps C la i ∧ W.ownsRow w2.heap.size 3 1 (.slice al i c) i (natI (((List.range K).map (Sd.stp C t la)).take i)) ∧ Only (fun g => w2.heap.size ≤ g) w2 W)
      case atStart => exact ⟨0, 0, _, _, _, rfl, rfl, Nat.zero_le _, rfl, rfl, rfl, rfl, own_nil _ _, Only.refl _ _⟩
      case round =>
        obtain ⟨i, kk, al, c, W, hW, rfl, hi, rfl, rfl, rfl, hkk, hown, hoW⟩ := hrel
        subst hW
        have HG : Hid (W.ownsRow w2.heap.size 3 1 (.slice al i c) i (natI (((List.range K).map (Sd.stp C t la)).take i)) ∧ Only (fun g => w2.heap.size ≤ g) w2 W ∧ Only (fun _ => False) w2 W ∧ kk = Sp.sps C la i) := ⟨hown, hoW, hoW.old (fun g hg => Or.inl hg), hkk⟩
        have hsz := hoW.size
        have hkl : kk ≤ i := by rw [hkk]; exact HSS.out i
        clear hown hoW hkk
        obtain ⟨⟨⟨r0, r1⟩, ⟨b0, b1, b2, b3⟩, k0, k1', k2, k3, k4, k5⟩, lR, lB, lQ⟩ := HS.out W (H2.out.trans HG.out.2.2.1)
        by_cases hlt : i < K
        · have t1 : (i : Int) < (K : Int) := by omega
          obtain ⟨i1, hi1⟩ : ∃ i1, i1 = i + 1 := ⟨_, rfl⟩
          obtain ⟨j, hj⟩ : ∃ j, j = la + i := ⟨_, rfl⟩
          obtain ⟨z, hz⟩ : ∃ z, C[j]? = some z := ⟨_, List.getElem?_eq_getElem (by have := (HP.out w (Only.refl _ _)).hn; omega)⟩
          have hPw := HP.out W (H0.out.2.2.2.trans (H2.out.trans HG.out.2.2.1))
          obtain ⟨xp, xl, xc, xk, rfl, hxc, hxk⟩ := hPw.ok.nat hz
          have HA : Hid (Sp.at' C (la + i) = ⟨xp, xl, (xc : Int), xk⟩) := by rw [← hj]; exact at_some hz
          obtain ⟨gC', oC', eC, hg, c0, c1, c2', c3⟩ := hPw.vC.cluster (k := j) hz
          simp only at c0 c1 c2' c3
          have eC2 : aC = some ⟨gC, oC, none⟩ := HAC.out
          rw [eC2] at eC
          injection eC with eC
          injection eC with eC3 eC4
          subst eC3 eC4
          have j1 : IntKind.i64.wrap ((la : Int) + (i : Int)) = (j : Int) := by rw [IntKind.wrap_i64]; omega
          have j2 : (j : Int) < (n : Int) := by omega
          have t2 : (i : Int) < (k1 : Int) := by have := HK1.out; omega
          have t3 : (i1 : Int) < (k1 : Int) := by have := HK1.out; omega
          obtain ⟨q0, hq0⟩ : ∃ x1, x1 = Sp.col C t la i := ⟨_, rfl⟩
          obtain ⟨q1, hq1⟩ : ∃ x1, x1 = Sp.col C t la i1 := ⟨_, rfl⟩
          obtain ⟨s, hs⟩ : ∃ x1, x1 = Sd.stp C t la i := ⟨_, rfl⟩
          have hl0 : q0 ≤ 100200000 := by rw [hq0]; exact HCS.out i hi
          have hl1 : q1 ≤ 100200000 := by rw [hq1]; exact HCS.out i1 (by omega)
          have hle : q0 ≤ q1 := by rw [hq0, hq1, hi1]; exact Sp.col_step C h0 la i
          have hs2 : s = q1 - q0 := by rw [hs, hq0, hq1, hi1]; rfl
          have j0 : IntKind.i64.wrap ((i : Int) + 1) = (i1 : Int) := by rw [IntKind.wrap_i64]; omega
          have u2 : IntKind.i64.wrap ((q1 : Int) - (q0 : Int)) = (s : Int) := by rw [IntKind.wrap_i64]; omega
          have d0 := HCL.out W i q0 (HG.out.2.2.1) hi hq0
          have d1 := HCL.out W i1 q1 (HG.out.2.2.1) (by omega) hq1
          have HI1 : Hid (i1 = i + 1 ∧ s = Sd.stp C t la i) := ⟨hi1, hs⟩
          have hsl : s ≤ 100200000 := by omega
          have aCs := HAC.out
          clear eC2 hPw hz hj hq0 hq1 hs hs2 hi1
          subst aCs
          by_cases hk : xk = 1
          · have t4 : ((xk : Int) == 1) = true := by rw [beq_iff_eq]; omega
            have HS1 : Hid (kk + 1 = Sp.sps C la (i + 1)) := by
              have h := sps_yes (C := C) (x := la) (k := i) (by rw [HA.out]; exact hk)
              rw [h, HG.out.2.2.2]
              exact rfl
            have t5 : decide ((kk : Int) < 0) = false := decide_eq_false (by omega)
            have HT1 : Hid (((List.range K).map (Sd.stp C t la)).take (i + 1) = ((List.range K).map (Sd.stp C t la)).take i ++ [s]) := take_snoc (by rw [List.getElem?_map, List.getElem?_range hlt, HI1.out.2]; rfl)
            clear hk
            have HVA : ∀ mq, Hid (((W.drewN mq).alloc (.cells #[.int .i64 (s : Int)] 3)).heap[(W.drewN mq).heap.size]? = some (.cells #[.int .i64 (s : Int)] 3 (0, 0))) := fun mq => heap_alloc_new _ _
            go_wp2_with fail
            go_quiet (fail)
            go_wp2_with (at_builtin; (refine wpList_app1 rfl _ _ rfl w2.heap.size al i c (((List.range K).map (Sd.stp C t la)).take i) rfl ((own_drewN HG.out.1 _).alloc _) W.heap.size 1 s rfl (HVA _).out (by omega) (by rw [size_alloc1]; exact Nat.le_succ_of_le hsz) ?_; intro g5 cap5 w9 hown5 ho5; have H9 : Hid (w9.ownsRow w2.heap.size 3 1 (.slice (some ⟨g5, 0, none⟩) (i + 1) cap5) (i + 1) (natI (((List.range K).map (Sd.stp C t la)).take (i + 1))) ∧ Only (fun g => w2.heap.size ≤ g) w2 w9) := ⟨by rw [HT1.out]; exact hown5, app1_only ((own_drewN HG.out.1 _).alloc _) ho5 ((HG.out.2.1.drewN _).alloc _)⟩; clear hown5 ho5))
            go_roundg (K - (i + 1))
            case measure => omega
            case rel => exact ⟨i + 1, kk + 1, _, _, _, rfl, rfl, by omega, rfl, by go_num, by rw [HI1.out.1], HS1.out, H9.out.1, H9.out.2⟩
          · have t4 : ((xk : Int) == 1) = false := by rw [beq_eq_false_iff_ne]; omega
            have HS1 : Hid (kk = Sp.sps C la (i + 1)) := by
              have h := sps_no (C := C) (x := la) (k := i) (by rw [HA.out]; exact hk)
              rw [h, HG.out.2.2.2]
              exact rfl
            have HT1 : Hid (((List.range K).map (Sd.stp C t la)).take (i + 1) = ((List.range K).map (Sd.stp C t la)).take i ++ [s]) := take_snoc (by rw [List.getElem?_map, List.getElem?_range hlt, HI1.out.2]; rfl)
            clear hk
            have HVA : ∀ mq, Hid (((W.drewN mq).alloc (.cells #[.int .i64 (s : Int)] 3)).heap[(W.drewN mq).heap.size]? = some (.cells #[.int .i64 (s : Int)] 3 (0, 0))) := fun mq => heap_alloc_new _ _
            go_wp2_with fail
            go_quiet (fail)
            go_wp2_with (at_builtin; (refine wpList_app1 rfl _ _ rfl w2.heap.size al i c (((List.range K).map (Sd.stp C t la)).take i) rfl ((own_drewN HG.out.1 _).alloc _) W.heap.size 1 s rfl (HVA _).out (by omega) (by rw [size_alloc1]; exact Nat.le_succ_of_le hsz) ?_; intro g5 cap5 w9 hown5 ho5; have H9 : Hid (w9.ownsRow w2.heap.size 3 1 (.slice (some ⟨g5, 0, none⟩) (i + 1) cap5) (i + 1) (natI (((List.range K).map (Sd.stp C t la)).take (i + 1))) ∧ Only (fun g => w2.heap.size ≤ g) w2 w9) := ⟨by rw [HT1.out]; exact hown5, app1_only ((own_drewN HG.out.1 _).alloc _) ho5 ((HG.out.2.1.drewN _).alloc _)⟩; clear hown5 ho5))
            go_roundg (K - (i + 1))
            case measure => omega
            case rel => exact ⟨i + 1, kk, _, _, _, rfl, rfl, by omega, rfl, by go_num, by rw [HI1.out.1], HS1.out, H9.out.1, H9.out.2⟩
        · have t1 : decide ((i : Int) < (K : Int)) = false := decide_eq_false (by omega)
          have hin : i = K := by omega
          subst hin
          go_wp2_with fail
          go_ret
          have h := HG.out.1
          rw [List.take_of_length_le (by simp), ← HWW.out] at h
          exact ⟨al, c, rfl, own_base2 h (Nat.le_trans H0.out.2.2.2.size H2.out.size), H0.out.2.2.2.trans (H2.out.trans HG.out.2.2.1)⟩
    · subst hE
      go_wp2_with fail
      clear r0 r1 b0 b1 b2 b3 k0 k1' k2 k3 k4 k5 lR lB lQ
      go_loopg [10, 11, 12, 13] K (fun gh v10 v11 v12 v13 wr => ∃ (i kk : Nat) (al : Option Addr) (c : Nat) (W : World), W = wr ∧ gh = K - i ∧ i ≤ K ∧ v10 = .slice al i c ∧ v11 = .int .i64 (kk : Int) ∧ v12 = .int .i64 (i : Int) ∧ kk = Sp.sps C la i ∧ W.ownsRow w2.heap.size 3 1 (.slice al i c) i (natI (((List.range K).map (Sd.stp C t la)).take i)) ∧ Only (fun g => w2.heap.size ≤ g) w2 W)
      case atStart => exact ⟨0, 0, _, _, _, rfl, rfl, Nat.zero_le _, rfl, rfl, rfl, rfl, own_nil _ _, Only.refl _ _⟩
      case round =>
        obtain ⟨i, kk, al, c, W, hW, rfl, hi, rfl, rfl, rfl, hkk, hown, hoW⟩ := hrel
        subst hW
        have HG : Hid (W.ownsRow w2.heap.size 3 1 (.slice al i c) i (natI (((List.range K).map (Sd.stp C t la)).take i)) ∧ Only (fun g => w2.heap.size ≤ g) w2 W ∧ Only (fun _ => False) w2 W ∧ kk = Sp.sps C la i) := ⟨hown, hoW, hoW.old (fun g hg => Or.inl hg), hkk⟩
        have hsz := hoW.size
        have hkl : kk ≤ i := by rw [hkk]; exact HSS.out i
        clear hown hoW hkk
        obtain ⟨⟨⟨r0, r1⟩, ⟨b0, b1, b2, b3⟩, k0, k1', k2, k3, k4, k5⟩, lR, lB, lQ⟩ := HS.out W (H2.out.trans HG.out.2.2.1)
        by_cases hlt : i < K
        · have t1 : (i : Int) < (K : Int) := by omega
          obtain ⟨i1, hi1⟩ : ∃ i1, i1 = i + 1 := ⟨_, rfl⟩
          obtain ⟨j, hj⟩ : ∃ j, j = la + i := ⟨_, rfl⟩
          obtain ⟨z, hz⟩ : ∃ z, C[j]? = some z := ⟨_, List.getElem?_eq_getElem (by have := (HP.out w (Only.refl _ _)).hn; omega)⟩
          have hPw := HP.out W (H0.out.2.2.2.trans (H2.out.trans HG.out.2.2.1))
          obtain ⟨xp, xl, xc, xk, rfl, hxc, hxk⟩ := hPw.ok.nat hz
          have HA : Hid (Sp.at' C (la + i) = ⟨xp, xl, (xc : Int), xk⟩) := by rw [← hj]; exact at_some hz
          obtain ⟨gC', oC', eC, hg, c0, c1, c2', c3⟩ := hPw.vC.cluster (k := j) hz
          simp only at c0 c1 c2' c3
          have eC2 : aC = some ⟨gC, oC, none⟩ := HAC.out
          rw [eC2] at eC
          injection eC with eC
          injection eC with eC3 eC4
          subst eC3 eC4
          have j1 : IntKind.i64.wrap ((la : Int) + (i : Int)) = (j : Int) := by rw [IntKind.wrap_i64]; omega
          have j2 : (j : Int) < (n : Int) := by omega
          have t2 : (i : Int) < (k1 : Int) := by have := HK1.out; omega
          have t3 : (i1 : Int) < (k1 : Int) := by have := HK1.out; omega
          obtain ⟨q0, hq0⟩ : ∃ x1, x1 = Sp.col C t la i := ⟨_, rfl⟩
          obtain ⟨q1, hq1⟩ : ∃ x1, x1 = Sp.col C t la i1 := ⟨_, rfl⟩
          obtain ⟨s, hs⟩ : ∃ x1, x1 = Sd.stp C t la i := ⟨_, rfl⟩
          have hl0 : q0 ≤ 100200000 := by rw [hq0]; exact HCS.out i hi
          have hl1 : q1 ≤ 100200000 := by rw [hq1]; exact HCS.out i1 (by omega)
          have hle : q0 ≤ q1 := by rw [hq0, hq1, hi1]; exact Sp.col_step C h0 la i
          have hs2 : s = q1 - q0 := by rw [hs, hq0, hq1, hi1]; rfl
          have j0 : IntKind.i64.wrap ((i : Int) + 1) = (i1 : Int) := by rw [IntKind.wrap_i64]; omega
          have u2 : IntKind.i64.wrap ((q1 : Int) - (q0 : Int)) = (s : Int) := by rw [IntKind.wrap_i64]; omega
          have d0 := HCL.out W i q0 (HG.out.2.2.1) hi hq0
          have d1 := HCL.out W i1 q1 (HG.out.2.2.1) (by omega) hq1
          have HI1 : Hid (i1 = i + 1 ∧ s = Sd.stp C t la i) := ⟨hi1, hs⟩
          have hsl : s ≤ 100200000 := by omega
          have aCs := HAC.out
          clear eC2 hPw hz hj hq0 hq1 hs hs2 hi1
          subst aCs
          by_cases hk : xk = 1
          · have t4 : ((xk : Int) == 1) = true := by rw [beq_iff_eq]; omega
            have HS1 : Hid (kk + 1 = Sp.sps C la (i + 1)) := by
              have h := sps_yes (C := C) (x := la) (k := i) (by rw [HA.out]; exact hk)
              rw [h, HG.out.2.2.2]
              exact rfl
            have t5 : decide ((kk : Int) < 0) = false := decide_eq_false (by omega)
            have HT1 : Hid (((List.range K).map (Sd.stp C t la)).take (i + 1) = ((List.range K).map (Sd.stp C t la)).take i ++ [s]) := take_snoc (by rw [List.getElem?_map, List.getElem?_range hlt, HI1.out.2]; rfl)
            clear hk
            have HVA : ∀ mq, Hid (((W.drewN mq).alloc (.cells #[.int .i64 (s : Int)] 3)).heap[(W.drewN mq).heap.size]? = some (.cells #[.int .i64 (s : Int)] 3 (0, 0))) := fun mq => heap_alloc_new _ _
            go_wp2_with fail
            go_quiet (fail)
            go_wp2_with (at_builtin; (refine wpList_app1 rfl _ _ rfl w2.heap.size al i c (((List.range K).map (Sd.stp C t la)).take i) rfl ((own_drewN HG.out.1 _).alloc _) W.heap.size 1 s rfl (HVA _).out (by omega) (by rw [size_alloc1]; exact Nat.le_succ_of_le hsz) ?_; intro g5 cap5 w9 hown5 ho5; have H9 : Hid (w9.ownsRow w2.heap.size 3 1 (.slice (some ⟨g5, 0, none⟩) (i + 1) cap5) (i + 1) (natI (((List.range K).map (Sd.stp C t la)).take (i + 1))) ∧ Only (fun g => w2.heap.size ≤ g) w2 w9) := ⟨by rw [HT1.out]; exact hown5, app1_only ((own_drewN HG.out.1 _).alloc _) ho5 ((HG.out.2.1.drewN _).alloc _)⟩; clear hown5 ho5))
            go_roundg (K - (i + 1))
            case measure => omega
            case rel => exact ⟨i + 1, kk + 1, _, _, _, rfl, rfl, by omega, rfl, by go_num, by rw [HI1.out.1], HS1.out, H9.out.1, H9.out.2⟩
          · have t4 : ((xk : Int) == 1) = false := by rw [beq_eq_false_iff_ne]; omega
            have HS1 : Hid (kk = Sp.sps C la (i + 1)) := by
              have h := sps_no (C := C) (x := la) (k := i) (by rw [HA.out]; exact hk)
              rw [h, HG.out.2.2.2]
              exact rfl
            have HT1 : Hid (((List.range K).map (Sd.stp C t la)).take (i + 1) = ((List.range K).map (Sd.stp C t la)).take i ++ [s]) := take_snoc (by rw [List.getElem?_map, List.getElem?_range hlt, HI1.out.2]; rfl)
            clear hk
            have HVA : ∀ mq, Hid (((W.drewN mq).alloc (.cells #[.int .i64 (s : Int)] 3)).heap[(W.drewN mq).heap.size]? = some (.cells #[.int .i64 (s : Int)] 3 (0, 0))) := fun mq => heap_alloc_new _ _
            go_wp2_with fail
            go_quiet (fail)
            go_wp2_with (at_builtin; (refine wpList_app1 rfl _ _ rfl w2.heap.size al i c (((List.range K).map (Sd.stp C t la)).take i) rfl ((own_drewN HG.out.1 _).alloc _) W.heap.size 1 s rfl (HVA _).out (by omega) (by rw [size_alloc1]; exact Nat.le_succ_of_le hsz) ?_; intro g5 cap5 w9 hown5 ho5; have H9 : Hid (w9.ownsRow w2.heap.size 3 1 (.slice (some ⟨g5, 0, none⟩) (i + 1) cap5) (i + 1) (natI (((List.range K).map (Sd.stp C t la)).take (i + 1))) ∧ Only (fun g => w2.heap.size ≤ g) w2 w9) := ⟨by rw [HT1.out]; exact hown5, app1_only ((own_drewN HG.out.1 _).alloc _) ho5 ((HG.out.2.1.drewN _).alloc _)⟩; clear hown5 ho5))
            go_roundg (K - (i + 1))
            case measure => omega
            case rel => exact ⟨i + 1, kk, _, _, _, rfl, rfl, by omega, rfl, by go_num, by rw [HI1.out.1], HS1.out, H9.out.1, H9.out.2⟩
        · have t1 : decide ((i : Int) < (K : Int)) = false := decide_eq_false (by omega)
          have hin : i = K := by omega
          subst hin
          go_wp2_with fail
          go_ret
          have h := HG.out.1
          rw [List.take_of_length_le (by simp), ← HWW.out] at h
          exact ⟨al, c, rfl, own_base2 h (Nat.le_trans H0.out.2.2.2.size H2.out.size), H0.out.2.2.2.trans (H2.out.trans HG.out.2.2.1)⟩
  · have HWW : Hid (Sd.wid C t wi la lb le = (List.range K).map fun i => Sd.stp C t la i + (if (Sp.at' C (la + i)).kind = 1 then M.getD (Sp.sps C la i) 0 else 0)) := HW2.out hE
    have e2 : ((le : Int) != 2) = true := by simp; omega
    have e4 : ((le : Int) != 4) = true := by simp; omega
    clear hE HW1 HW2
    go_upto_region 5 with fail
    have HK : Hid (∀ W', Only (fun _ => False) w2 W' → ((W'.cell? ⟨R, 0, none⟩ = some (.slice aC n cC) ∧ W'.cell? ⟨R, 1, none⟩ = some (.slice aO m cO)) ∧ (W'.cell? ⟨B, 0, none⟩ = some (.int .i64 (la : Int)) ∧ W'.cell? ⟨B, 1, none⟩ = some (.int .i64 (lb : Int)) ∧ W'.cell? ⟨B, 2, none⟩ = some (.int .i64 (lc : Int)) ∧ W'.cell? ⟨B, 3, none⟩ = some (.int .u8 (le : Int))) ∧ (W'.cell? ⟨Q, 0, none⟩ = some (.int .i64 (wi : Int)) ∧ W'.cell? ⟨Q, 1, none⟩ = some (.int .i64 (t : Int)) ∧ W'.cell? ⟨Q, 2, none⟩ = some (.int .u8 (mo : Int)) ∧ W'.cell? ⟨Q, 3, none⟩ = some (.int .i64 (hy : Int)) ∧ W'.cell? ⟨Q, 4, none⟩ = some (.int .i64 (pr : Int)) ∧ W'.cell? ⟨Q, 5, none⟩ = some (.float .f64 lo)))) := fun W' ho => (HS.out W' (H2.out.trans ho)).1
    go_region_held3 (fun W' => ((W'.cell? ⟨R, 0, none⟩ = some (.slice aC n cC) ∧ W'.cell? ⟨R, 1, none⟩ = some (.slice aO m cO)) ∧ (W'.cell? ⟨B, 0, none⟩ = some (.int .i64 (la : Int)) ∧ W'.cell? ⟨B, 1, none⟩ = some (.int .i64 (lb : Int)) ∧ W'.cell? ⟨B, 2, none⟩ = some (.int .i64 (lc : Int)) ∧ W'.cell? ⟨B, 3, none⟩ = some (.int .u8 (le : Int))) ∧ (W'.cell? ⟨Q, 0, none⟩ = some (.int .i64 (wi : Int)) ∧ W'.cell? ⟨Q, 1, none⟩ = some (.int .i64 (t : Int)) ∧ W'.cell? ⟨Q, 2, none⟩ = some (.int .u8 (mo : Int)) ∧ W'.cell? ⟨Q, 3, none⟩ = some (.int .i64 (hy : Int)) ∧ W'.cell? ⟨Q, 4, none⟩ = some (.int .i64 (pr : Int)) ∧ W'.cell? ⟨Q, 5, none⟩ = some (.float .f64 lo)))) ((first | exact HK.out _ (Only.refl _ _).drew | exact HK.out _ H5.out.2 | exact HK.out _ H4.out | exact HK.out _ H3.out)) ((first | (go_at_call 26; refine Calls.mono (HCE.out _ (H0.out.2.2.2.trans H2.out).drew) ?_; rintro e w3 ⟨rfl, ho3⟩; have H3 : Hid (Only (fun _ => False) w2 w3) := ((Only.refl _ _).drew).trans ho3; clear ho3) | (go_at_call 12; refine Calls.mono (HGA.out _ ((H0.out.2.2.2.trans H2.out).trans H3.out)) ?_; rintro e w4 ⟨rfl, ho4⟩; have H4 : Hid (Only (fun _ => False) w2 w4) := H3.out.trans ho4; clear ho4) | (go_at_call 25; refine Calls.mono (HSP.out _) ?_; rintro e w5 ⟨aM, cM, rfl, hownM, ho5⟩; have H5 : Hid (w5.ownsRow w4.heap.size 3 1 (.slice aM nm cM) nm (natI M) ∧ Only (fun _ => False) w2 w5) := ⟨hownM, H4.out.trans ho5⟩; clear hownM ho5)))
    clear r0 r1 b0 b1 b2 b3 k0 k1' k2 k3 k4 k5 lR lB lQ
    have H6 : Hid (Only (fun _ => False) w0 w5) := H2.out.trans H5.out.2
    obtain ⟨⟨⟨r0, r1⟩, ⟨b0, b1, b2, b3⟩, k0, k1', k2, k3, k4, k5⟩, lR, lB, lQ⟩ := HS.out w5 H6.out
    go_wp2_with fail
    clear r0 r1 b0 b1 b2 b3 k0 k1' k2 k3 k4 k5 lR lB lQ
    go_loopg [10, 11, 12, 13] K (fun gh v10 v11 v12 v13 wr => ∃ (i kk : Nat) (al : Option Addr) (c : Nat) (W : World), W = wr ∧ gh = K - i ∧ i ≤ K ∧ v10 = .slice al i c ∧ v11 = .int .i64 (kk : Int) ∧ v12 = .int .i64 (i : Int) ∧ kk = Sp.sps C la i ∧ W.ownsRow w5.heap.size 3 1 (.slice al i c) i (natI (((List.range K).map (fun i => Sd.stp C t la i + (if (Sp.at' C (la + i)).kind = 1 then M.getD (Sp.sps C la i) 0 else 0))).take i)) ∧ Only (fun g => w5.heap.size ≤ g) w5 W)
    case atStart => exact ⟨0, 0, _, _, _, rfl, rfl, Nat.zero_le _, rfl, rfl, rfl, rfl, own_nil _ _, Only.refl _ _⟩
    case round =>
      obtain ⟨i, kk, al, c, W, hW, rfl, hi, rfl, rfl, rfl, hkk, hown, hoW⟩ := hrel
      subst hW
      have HG : Hid (W.ownsRow w5.heap.size 3 1 (.slice al i c) i (natI (((List.range K).map (fun i => Sd.stp C t la i + (if (Sp.at' C (la + i)).kind = 1 then M.getD (Sp.sps C la i) 0 else 0))).take i)) ∧ Only (fun g => w5.heap.size ≤ g) w5 W ∧ Only (fun _ => False) w5 W ∧ kk = Sp.sps C la i) := ⟨hown, hoW, hoW.old (fun g hg => Or.inl hg), hkk⟩
      have hsz := hoW.size
      have hkl : kk ≤ i := by rw [hkk]; exact HSS.out i
      clear hown hoW hkk
      obtain ⟨⟨⟨r0, r1⟩, ⟨b0, b1, b2, b3⟩, k0, k1', k2, k3, k4, k5⟩, lR, lB, lQ⟩ := HS.out W (H6.out.trans HG.out.2.2.1)
      by_cases hlt : i < K
      · have t1 : (i : Int) < (K : Int) := by omega
        obtain ⟨i1, hi1⟩ : ∃ i1, i1 = i + 1 := ⟨_, rfl⟩
        obtain ⟨j, hj⟩ : ∃ j, j = la + i := ⟨_, rfl⟩
        obtain ⟨z, hz⟩ : ∃ z, C[j]? = some z := ⟨_, List.getElem?_eq_getElem (by have := (HP.out w (Only.refl _ _)).hn; omega)⟩
        have hPw := HP.out W (H0.out.2.2.2.trans (H6.out.trans HG.out.2.2.1))
        obtain ⟨xp, xl, xc, xk, rfl, hxc, hxk⟩ := hPw.ok.nat hz
        have HA : Hid (Sp.at' C (la + i) = ⟨xp, xl, (xc : Int), xk⟩) := by rw [← hj]; exact at_some hz
        obtain ⟨gC', oC', eC, hg, c0, c1, c2', c3⟩ := hPw.vC.cluster (k := j) hz
        simp only at c0 c1 c2' c3
        have eC2 : aC = some ⟨gC, oC, none⟩ := HAC.out
        rw [eC2] at eC
        injection eC with eC
        injection eC with eC3 eC4
        subst eC3 eC4
        have j1 : IntKind.i64.wrap ((la : Int) + (i : Int)) = (j : Int) := by rw [IntKind.wrap_i64]; omega
        have j2 : (j : Int) < (n : Int) := by omega
        have t2 : (i : Int) < (k1 : Int) := by have := HK1.out; omega
        have t3 : (i1 : Int) < (k1 : Int) := by have := HK1.out; omega
        obtain ⟨q0, hq0⟩ : ∃ x1, x1 = Sp.col C t la i := ⟨_, rfl⟩
        obtain ⟨q1, hq1⟩ : ∃ x1, x1 = Sp.col C t la i1 := ⟨_, rfl⟩
        obtain ⟨s, hs⟩ : ∃ x1, x1 = Sd.stp C t la i := ⟨_, rfl⟩
        have hl0 : q0 ≤ 100200000 := by rw [hq0]; exact HCS.out i hi
        have hl1 : q1 ≤ 100200000 := by rw [hq1]; exact HCS.out i1 (by omega)
        have hle : q0 ≤ q1 := by rw [hq0, hq1, hi1]; exact Sp.col_step C h0 la i
        have hs2 : s = q1 - q0 := by rw [hs, hq0, hq1, hi1]; rfl
        have j0 : IntKind.i64.wrap ((i : Int) + 1) = (i1 : Int) := by rw [IntKind.wrap_i64]; omega
        have u2 : IntKind.i64.wrap ((q1 : Int) - (q0 : Int)) = (s : Int) := by rw [IntKind.wrap_i64]; omega
        have d0 := HCL.out W i q0 (H5.out.2.trans HG.out.2.2.1) hi hq0
        have d1 := HCL.out W i1 q1 (H5.out.2.trans HG.out.2.2.1) (by omega) hq1
        have HI1 : Hid (i1 = i + 1 ∧ s = Sd.stp C t la i) := ⟨hi1, hs⟩
        have hsl : s ≤ 100200000 := by omega
        have aCs := HAC.out
        clear eC2 hPw hz hj hq0 hq1 hs hs2 hi1
        subst aCs
        by_cases hk : xk = 1
        · have t4 : ((xk : Int) == 1) = true := by rw [beq_iff_eq]; omega
          have HS1 : Hid (kk + 1 = Sp.sps C la (i + 1)) := by
            have h := sps_yes (C := C) (x := la) (k := i) (by rw [HA.out]; exact hk)
            rw [h, HG.out.2.2.2]
            exact rfl
          by_cases hm : kk < nm
          · have t5 : (kk : Int) < (nm : Int) := by omega
            obtain ⟨y, hy'⟩ : ∃ y, M[kk]? = some y := ⟨_, List.getElem?_eq_getElem (by rw [← HNM.out.1]; exact hm)⟩
            have hyd : M.getD kk 0 = y := by rw [List.getD_eq_getElem?_getD, hy']; rfl
            have hyl : y ≤ 1048576 := by rw [← hyd]; exact HNM.out.2.2 kk
            obtain ⟨gM, capM, hvM, hcM⟩ := natI_at (own_only H5.out.1 HG.out.2.2.1 (fun _ _ h => h)) HNM.out.1 hy'
            have eM : aM = some ⟨gM, 0, none⟩ := by injection hvM
            subst eM
            obtain ⟨s2, hs2⟩ : ∃ x, x = s + y := ⟨_, rfl⟩
            have u3 : IntKind.i64.wrap ((s : Int) + (y : Int)) = (s2 : Int) := by rw [IntKind.wrap_i64]; omega
            have HT1 : Hid (((List.range K).map (fun i => Sd.stp C t la i + (if (Sp.at' C (la + i)).kind = 1 then M.getD (Sp.sps C la i) 0 else 0))).take (i + 1) = ((List.range K).map (fun i => Sd.stp C t la i + (if (Sp.at' C (la + i)).kind = 1 then M.getD (Sp.sps C la i) 0 else 0))).take i ++ [s2]) := take_snoc (by rw [List.getElem?_map, List.getElem?_range hlt, hs2, HI1.out.2]; show some (Sd.stp C t la i + (if (Sp.at' C (la + i)).kind = 1 then M.getD (Sp.sps C la i) 0 else 0)) = _; rw [HA.out, if_pos hk, ← HG.out.2.2.2, hyd])
            clear hk hm hy' hyd hvM hs2
            have HVA : ∀ mq, Hid (((W.drewN mq).alloc (.cells #[.int .i64 (s2 : Int)] 3)).heap[(W.drewN mq).heap.size]? = some (.cells #[.int .i64 (s2 : Int)] 3 (0, 0))) := fun mq => heap_alloc_new _ _
            go_wp2_with fail
            go_quiet (fail)
            go_wp2_with (at_builtin; (refine wpList_app1 rfl _ _ rfl w5.heap.size al i c (((List.range K).map (fun i => Sd.stp C t la i + (if (Sp.at' C (la + i)).kind = 1 then M.getD (Sp.sps C la i) 0 else 0))).take i) rfl ((own_drewN HG.out.1 _).alloc _) W.heap.size 1 s2 rfl (HVA _).out (by omega) (by rw [size_alloc1]; exact Nat.le_succ_of_le hsz) ?_; intro g5 cap5 w9 hown5 ho5; have H9 : Hid (w9.ownsRow w5.heap.size 3 1 (.slice (some ⟨g5, 0, none⟩) (i + 1) cap5) (i + 1) (natI (((List.range K).map (fun i => Sd.stp C t la i + (if (Sp.at' C (la + i)).kind = 1 then M.getD (Sp.sps C la i) 0 else 0))).take (i + 1))) ∧ Only (fun g => w5.heap.size ≤ g) w5 w9) := ⟨by rw [HT1.out]; exact hown5, app1_only ((own_drewN HG.out.1 _).alloc _) ho5 ((HG.out.2.1.drewN _).alloc _)⟩; clear hown5 ho5))
            go_roundg (K - (i + 1))
            case measure => omega
            case rel => exact ⟨i + 1, kk + 1, _, _, _, rfl, rfl, by omega, rfl, by go_num, by rw [HI1.out.1], HS1.out, H9.out.1, H9.out.2⟩
          · have t5 : decide ((kk : Int) < (nm : Int)) = false := decide_eq_false (by omega)
            have t5n : decide (kk < nm) = false := decide_eq_false hm
            have hyd : M.getD kk 0 = 0 := by rw [List.getD_eq_getElem?_getD, List.getElem?_eq_none (by rw [← HNM.out.1]; omega)]; rfl
            have HT1 : Hid (((List.range K).map (fun i => Sd.stp C t la i + (if (Sp.at' C (la + i)).kind = 1 then M.getD (Sp.sps C la i) 0 else 0))).take (i + 1) = ((List.range K).map (fun i => Sd.stp C t la i + (if (Sp.at' C (la + i)).kind = 1 then M.getD (Sp.sps C la i) 0 else 0))).take i ++ [s]) := take_snoc (by rw [List.getElem?_map, List.getElem?_range hlt, HI1.out.2]; show some (Sd.stp C t la i + (if (Sp.at' C (la + i)).kind = 1 then M.getD (Sp.sps C la i) 0 else 0)) = _; rw [HA.out, if_pos hk, ← HG.out.2.2.2, hyd]; rfl)
            clear hk hm hyd
            have HVA : ∀ mq, Hid (((W.drewN mq).alloc (.cells #[.int .i64 (s : Int)] 3)).heap[(W.drewN mq).heap.size]? = some (.cells #[.int .i64 (s : Int)] 3 (0, 0))) := fun mq => heap_alloc_new _ _
            go_wp2_with fail
            go_quiet (fail)
            go_wp2_with (at_builtin; (refine wpList_app1 rfl _ _ rfl w5.heap.size al i c (((List.range K).map (fun i => Sd.stp C t la i + (if (Sp.at' C (la + i)).kind = 1 then M.getD (Sp.sps C la i) 0 else 0))).take i) rfl ((own_drewN HG.out.1 _).alloc _) W.heap.size 1 s rfl (HVA _).out (by omega) (by rw [size_alloc1]; exact Nat.le_succ_of_le hsz) ?_; intro g5 cap5 w9 hown5 ho5; have H9 : Hid (w9.ownsRow w5.heap.size 3 1 (.slice (some ⟨g5, 0, none⟩) (i + 1) cap5) (i + 1) (natI (((List.range K).map (fun i => Sd.stp C t la i + (if (Sp.at' C (la + i)).kind = 1 then M.getD (Sp.sps C la i) 0 else 0))).take (i + 1))) ∧ Only (fun g => w5.heap.size ≤ g) w5 w9) := ⟨by rw [HT1.out]; exact hown5, app1_only ((own_drewN HG.out.1 _).alloc _) ho5 ((HG.out.2.1.drewN _).alloc _)⟩; clear hown5 ho5))
            go_roundg (K - (i + 1))
            case measure => omega
            case rel => exact ⟨i + 1, kk + 1, _, _, _, rfl, rfl, by omega, rfl, by go_num, by rw [HI1.out.1], HS1.out, H9.out.1, H9.out.2⟩
        · have t4 : ((xk : Int) == 1) = false := by rw [beq_eq_false_iff_ne]; omega
          have HS1 : Hid (kk = Sp.sps C la (i + 1)) := by
            have h := sps_no (C := C) (x := la) (k := i) (by rw [HA.out]; exact hk)
            rw [h, HG.out.2.2.2]
            exact rfl
          have HT1 : Hid (((List.range K).map (fun i => Sd.stp C t la i + (if (Sp.at' C (la + i)).kind = 1 then M.getD (Sp.sps C la i) 0 else 0))).take (i + 1) = ((List.range K).map (fun i => Sd.stp C t la i + (if (Sp.at' C (la + i)).kind = 1 then M.getD (Sp.sps C la i) 0 else 0))).take i ++ [s]) := take_snoc (by rw [List.getElem?_map, List.getElem?_range hlt, HI1.out.2]; show some (Sd.stp C t la i + (if (Sp.at' C (la + i)).kind = 1 then M.getD (Sp.sps C la i) 0 else 0)) = _; rw [HA.out, if_neg hk]; rfl)
          clear hk
          have HVA : ∀ mq, Hid (((W.drewN mq).alloc (.cells #[.int .i64 (s : Int)] 3)).heap[(W.drewN mq).heap.size]? = some (.cells #[.int .i64 (s : Int)] 3 (0, 0))) := fun mq => heap_alloc_new _ _
          go_wp2_with fail
          go_quiet (fail)
          go_wp2_with (at_builtin; (refine wpList_app1 rfl _ _ rfl w5.heap.size al i c (((List.range K).map (fun i => Sd.stp C t la i + (if (Sp.at' C (la + i)).kind = 1 then M.getD (Sp.sps C la i) 0 else 0))).take i) rfl ((own_drewN HG.out.1 _).alloc _) W.heap.size 1 s rfl (HVA _).out (by omega) (by rw [size_alloc1]; exact Nat.le_succ_of_le hsz) ?_; intro g5 cap5 w9 hown5 ho5; have H9 : Hid (w9.ownsRow w5.heap.size 3 1 (.slice (some ⟨g5, 0, none⟩) (i + 1) cap5) (i + 1) (natI (((List.range K).map (fun i => Sd.stp C t la i + (if (Sp.at' C (la + i)).kind = 1 then M.getD (Sp.sps C la i) 0 else 0))).take (i + 1))) ∧ Only (fun g => w5.heap.size ≤ g) w5 w9) := ⟨by rw [HT1.out]; exact hown5, app1_only ((own_drewN HG.out.1 _).alloc _) ho5 ((HG.out.2.1.drewN _).alloc _)⟩; clear hown5 ho5))
          go_roundg (K - (i + 1))
          case measure => omega
          case rel => exact ⟨i + 1, kk, _, _, _, rfl, rfl, by omega, rfl, by go_num, by rw [HI1.out.1], HS1.out, H9.out.1, H9.out.2⟩
      · have t1 : decide ((i : Int) < (K : Int)) = false := decide_eq_false (by omega)
        have hin : i = K := by omega
        subst hin
        go_wp2_with fail
        go_ret
        have h := HG.out.1
        rw [List.take_of_length_le (by simp), ← HWW.out] at h
        exact ⟨al, c, rfl, own_base2 h (Nat.le_trans H0.out.2.2.2.size H6.out.size), H0.out.2.2.2.trans (H6.out.trans HG.out.2.2.1)⟩
end Go.Proofs.Ytegoadhnilmchaa
