/-
  stanzalaw10.CellsWhole: its walk.
-/
import Derived.Test.YtlcpfheocenjfaaWd
namespace Go.Proofs.Ytlcpfheocenjfaa.cellsWhole
open Go.RowKit Go.Maps
set_option linter.unusedVariables false
set_option linter.unusedSimpArgs false
set_option maxRecDepth 100000 in
set_option maxHeartbeats 4000000 in
theorem walk1 (L0 : List Nat) (a0 : Option Addr) (c0 : Nat) (Mk : List Nat) (aK : Option Addr) (cK : Nat) (X : List Nat) (aX : Option Addr) (cX : Nat) (w : World) (hV : Vw w a0 (u8s L0)) (hB : ∀ x ∈ L0, x < 256) (hs : L0.length ≤ 500) (hVK : Vw w aK (u8s Mk)) (hBK : ∀ x ∈ Mk, x < 256) (hsK : Mk.length ≤ 140737488351232) (hVX : Vw w aX (u8s X)) (hBX : ∀ x ∈ X, x < 256) (hsX : X.length ≤ 140737488351232) : Calls Try.prog 4 #[.slice a0 L0.length c0, .slice aK Mk.length cK, .slice aX X.length cX] w fun e w' => e = .returned (.bool true) ∧ Only (fun _ => False) w w' := by
  have HOP : Hid (∀ W, Only (fun _ => False) w W → Calls Try.prog 19 #[.slice aK Mk.length cK] W (opP Mk W)) := fun W ho => opps_any Mk aK cK W (hVK.keep ho) hBK (by omega)
  have HBK : Hid (∀ x ∈ Mk, x < 256) := hBK
  unfold opP at HOP
  obtain ⟨nK, hnK⟩ : ∃ n, n = Mk.length := ⟨_, rfl⟩
  have HNK : Hid (nK = Mk.length) := hnK
  rw [← hnK] at hsK HOP ⊢
  clear hVK hBK hnK
  obtain ⟨i3, g3, g30, g31, g32⟩ := info_parts info33
  have HV : Hid (Vw w a0 (u8s L0) ∧ (∀ x ∈ L0, x < 256) ∧ Vw w aX (u8s X) ∧ (∀ x ∈ X, x < 256)) := ⟨hV, hB, hVX, hBX⟩
  have HWO : Hid (∀ W, Only (fun _ => False) w W → Calls Try.prog 16 #[.slice a0 L0.length c0] W (woP L0.length W)) := fun W ho => words_any L0 a0 c0 W (hV.keep ho) hB (by omega)
  obtain ⟨n0, hn0⟩ : ∃ n, n = L0.length := ⟨_, rfl⟩
  obtain ⟨m, hm⟩ : ∃ m, m = X.length := ⟨_, rfl⟩
  have HN : Hid (n0 = L0.length ∧ m = X.length) := ⟨hn0, hm⟩
  rw [← hn0] at hs HWO ⊢
  rw [← hm] at hsX ⊢
  clear hV hB hVX hBX hn0 hm
  have s0 : decide ((500 : Int) < (n0 : Int)) = false := decide_eq_false (by omega)
  go_enter Try.func4, Try.ntmps4
  go_wp2_with (first | (go_at_call 13; refine (awake10_any _).mono ?_; rintro e w1 ⟨rfl, ho1⟩; have HO1 : Hid (Only (fun _ => False) w w1) := ho1; clear ho1) | fail)
  go_loopg [7, 29] m (fun gh v5 v24 wr => ∃ (k q : Nat) (a : Option Addr) (c : Nat) (W : World), W = wr ∧ gh = m - k ∧ k ≤ m ∧ v5 = .slice a q c ∧ v24 = .int .i64 (k : Int) ∧ q = (rl X k).length ∧ q ≤ 200 ∧ W.ownsRow w1.heap.size 45 3 (.slice a q c) q (rgCells (rl X k)) ∧ Only (fun b => w1.heap.size ≤ b) w1 W)
  case atStart => exact ⟨0, 0, none, 0, _, rfl, rfl, Nat.zero_le _, rfl, rfl, by rw [rl_zero]; rfl, Nat.zero_le _, by rw [rl_zero]; exact ⟨rfl, Or.inl ⟨rfl, rfl⟩⟩, Only.refl _ _⟩
  case round =>
    obtain ⟨k, q, a, c, W, hW, rfl, hk, rfl, rfl, hq, hq2, hown, hoW⟩ := hrel
    subst hW
    have HG : Hid (W.ownsRow w1.heap.size 45 3 (.slice a q c) q (rgCells (rl X k)) ∧ Only (fun b => w1.heap.size ≤ b) w1 W ∧ q = (rl X k).length) := ⟨hown, hoW, hq⟩
    have hsz := hoW.size
    clear hown hoW hq
    by_cases hlt : k < m
    · have t1 : (k : Int) < (m : Int) := by omega
      obtain ⟨x, hx⟩ : ∃ x, X[k]? = some x := ⟨_, List.getElem?_eq_getElem (by rw [← HN.out.2]; omega)⟩
      obtain ⟨b0, off, e0, hb0, hc⟩ := (HV.out.2.2.1.keep (HO1.out.trans (HG.out.2.1.old (fun b hb => Or.inl hb)))).cells (by rw [u8s_len, ← HN.out.2]; omega)
      subst e0
      have c1 := hc k _ (u8s_at hx)
      have hx8 : x < 256 := HV.out.2.2.2 x (List.mem_of_getElem? hx)
      by_cases h2 : k < 200
      · have t2 : (k : Int) < 200 := by omega
        obtain ⟨y, hy⟩ : ∃ y, y = x % 3 := ⟨_, rfl⟩
        have p2 : (x : Int).tmod 3 = (y : Int) := by rw [Int.tmod_eq_emod_of_nonneg (by omega)]; omega
        have hy3 : y < 3 := by omega
        have HT : Hid (rl X (k + 1) = rl X k ++ [⟨(k : Int), (k : Int), (y : Int)⟩]) := by rw [hy]; exact rl_yes h2 hx
        have HVA : Hid _ := rg1 W (k : Int) (k : Int) (y : Int)
        clear hx hc hy
        go_wp2_with (at_builtin; (refine wpList_append_lies _ rfl _ _ 23 rfl w1.heap.size 45 i3 (.agg #[.int .i32 0, .int .i32 0, .int .i64 0]) 3 16 Try.underlying23 g3 g30 g31 g32 rfl (by decide) (.slice a q c) q (rgCells (rl X k)) rfl (HG.out.1.alloc _) ⟨W.heap.size, 0, none⟩ 1 1 [.int .i32 (k : Int), .int .i32 (k : Int), .int .i64 (y : Int)] rfl rfl (World.news_of_block (cs := #[.int .i32 (k : Int), .int .i32 (k : Int), .int .i64 (y : Int)]) HVA.out.1) (fun u hu => by simp at hu; rcases hu with rfl | rfl | rfl <;> rfl) (by decide) (by unfold maxLen; omega) (by omega) (by rw [HVA.out.2]; omega) (W.heap.size + 1) HVA.out.2 ?_; intro g5 cap5 w5 hown5 hgrow5 hat5 hlt5; have hoo : Only (fun b => (Value.slice a q c).ownBlock = some b) W w5 := (((Only.refl (fun b => (Value.slice a q c).ownBlock = some b) W).alloc _)).grown hgrow5 (fun k hk => hk); have H5 : Hid (w5.ownsRow w1.heap.size 45 3 (.slice (some ⟨g5, 0, none⟩) (q + 1) cap5) (q + 1) (rgCells (rl X (k + 1))) ∧ Only (fun b => w1.heap.size ≤ b) w1 w5) := ⟨by rw [HT.out, rgC_snoc]; exact hown5, HG.out.2.1.trans (hoo.mono (fun b hb => (own_own HG.out.1 hb).1))⟩; clear hown5 hgrow5 hat5 hoo))
        go_roundg (m - (k + 1))
        case measure => omega
        case rel => exact ⟨k + 1, q + 1, _, _, _, rfl, rfl, by omega, rfl, by go_num, by rw [HT.out, List.length_append, ← HG.out.2.2]; rfl, by have := rl_len X k; have := HG.out.2.2; omega, H5.out.1, H5.out.2⟩
      · have t2 : decide ((k : Int) < 200) = false := decide_eq_false (by omega)
        have HT : Hid (rl X (k + 1) = rl X k) := rl_no (by omega)
        clear hx hc
        go_wp2_with fail
        go_roundg (m - (k + 1))
        case measure => omega
        case rel => exact ⟨k + 1, q, _, _, _, rfl, rfl, by omega, rfl, by go_num, by rw [HT.out, ← HG.out.2.2], hq2, by rw [HT.out]; exact HG.out.1, HG.out.2.1⟩
    · have t1 : decide ((k : Int) < (m : Int)) = false := decide_eq_false (by omega)
      have hkm : k = m := by omega
      subst hkm
      obtain ⟨Lr, hLr⟩ : ∃ Lr, Lr = rl X k := ⟨_, rfl⟩
      have HL : Hid (Pr.okFrom 3 (-1) Lr = true ∧ q = Lr.length) := ⟨by rw [hLr]; exact (rl_ok X k (by rw [HN.out.2]; exact Nat.le_refl _)).1, by rw [hLr]; exact HG.out.2.2⟩
      have HOW : Hid (Only (fun _ => False) w W) := HO1.out.trans (HG.out.2.1.old (fun b hb => Or.inl hb))
      have hT : Calls Try.prog 15 #[.slice a q c, .int .i64 3] W (tbP Lr W) := by
        have h1 := HG.out.1
        rw [← hLr, HL.out.2] at h1
        obtain ⟨a', g', cap', ev, hS, _⟩ := row_sees h1
        injection ev with e1 e2 e3
        subst e1 e3
        rw [HL.out.2]
        exact table_any Lr 3 a g' 0 c W hS (by rw [← HL.out.2]; omega) HL.out.1
      have HTT : Hid _ := hT
      clear hT hLr
      go_wp2_with (first | (go_at_call 15; refine Calls.mono HTT.out ?_; rintro e w2 ⟨T, rfl, hTb, ho2⟩; have H2 : Hid (Tab w2 W.heap.size T Lr ∧ Only (fun _ => False) w w2) := ⟨hTb, HOW.out.trans ho2⟩; clear hTb ho2) | (go_at_call 16; refine Calls.mono (HWO.out _ H2.out.2) ?_; rintro e w3 ⟨D, aD, cD, rfl, hD, hDB, hDl, ho3⟩; have hDc := own_le hD; have H3 : Hid (w3.ownsRow w2.heap.size 5 1 (.slice aD D.length cD) D.length (u8s D) ∧ (∀ x ∈ D, x < 256) ∧ D.length ≤ 4 * n0 ∧ Only (fun _ => False) w w3 ∧ Tab w3 W.heap.size T Lr) := ⟨hD, hDB, hDl, H2.out.2.trans ho3, H2.out.1.keep ho3⟩; clear hD hDB ho3) | (go_at_call 17; refine Calls.mono (all_signs D aD cD w3 (own_vw H3.out.1) H3.out.2.1 (by omega) hDc) ?_; rintro e w4 ⟨S, aS, cS, rfl, hS, hF, hR, hSl, ho4⟩; have hSc := own_le hS; have hScm := own_cap hS; have H4 : Hid (w4.ownsRow w3.heap.size 50 3 (.slice aS S.length cS) S.length (snC S) ∧ Fits S ∧ Row S 0 D.length ∧ Only (fun _ => False) w w4 ∧ Tab w4 W.heap.size T Lr ∧ w4.ownsRow w2.heap.size 5 1 (.slice aD D.length cD) D.length (u8s D)) := ⟨hS, hF, hR, H3.out.2.2.2.1.trans ho4, H3.out.2.2.2.2.keep ho4, own_only H3.out.1 ho4 (fun _ _ h => h)⟩; clear hS hF hR ho4) | fail)
      obtain ⟨n, hn⟩ : ∃ n, n = S.length := ⟨_, rfl⟩
      obtain ⟨nD, hnD⟩ : ∃ n, n = D.length := ⟨_, rfl⟩
      have HS : Hid (n = S.length ∧ nD = D.length) := ⟨hn, hnD⟩
      have hn2000 : n ≤ 2000 := by omega
      rw [← hn] at hSc ⊢
      rw [← hnD]
      refine Calls.mono (HOP.out w4 H4.out.2.2.2.1) ?_
      rintro e w5 ⟨aM, cM, rfl, hMo, ho5⟩
      have hC1 : Calls Try.prog 18 #[.slice aS n cS, .slice aM nK cM, .pointer (some ⟨T, 0, none⟩)] w5 (ceP (Pr.of Lr) S Mk w5) := by
        rw [hn, HNK.out]
        exact cells_any 3 Lr _ T S Mk aS aM cS cM w5 (H4.out.2.2.2.2.1.keep ho5) HL.out.1 ((own_vw H4.out.1).keep ho5) H4.out.2.1 (own_vw hMo) HBK.out (by omega) (by rw [← HNK.out]; unfold maxLen; omega) (by omega) hScm
      have HC1 : Hid _ := hC1
      have H5 : Hid (Only (fun _ => False) w4 w5) := ho5
      clear hn hnD hSl hDl hDc hScm hC1 ho5 hMo
      go_wp2_with fail
      refine Calls.mono HC1.out ?_
      rintro e w7 ⟨aC, aP, cC, cP, rfl, hcl, hst, ho7⟩
      obtain ⟨q, hq⟩ : ∃ q, q = (Ce.cls (Pr.of Lr) S Mk).length := ⟨_, rfl⟩
      obtain ⟨q1, hq1⟩ : ∃ q1, q1 = (Ce.starts Mk S.length).length := ⟨_, rfl⟩
      rw [← hq] at hcl ⊢
      rw [← hq1] at hst ⊢
      have HQ : Hid (q1 = q + 1 ∧ q = (Ce.st Mk S.length).length ∧ q ≤ n) := ⟨by rw [hq, hq1, Ce.starts_len, Ce.cls_len], by rw [hq, Ce.cls_len], by rw [hq, Ce.cls_len, HS.out.1]; exact Ce.st_len _ _⟩
      have H7 : Hid (w7.ownsRow w5.heap.size 48 4 (.slice aC q cC) q (ctC (Ce.cls (Pr.of Lr) S Mk)) ∧ w7.ownsRow w5.heap.size 3 1 (.slice aP q1 cP) q1 (natI (Ce.starts Mk S.length)) ∧ Only (fun _ => False) w4 w7) := ⟨hcl, hst, H5.out.trans ho7⟩
      clear hcl hst ho7 hq hq1
      have hq1q : q1 = q + 1 := HQ.out.1
      have hqn : q ≤ n := HQ.out.2.2
      have u1 : ((q1 : Int) != (q : Int) + 1) = false := by simp; omega
      obtain ⟨gP, capP, evP, lgP, _, hcP⟩ := own_cells H7.out.2.1 (by omega)
      have eaP : aP = some ⟨gP, 0, none⟩ := by injection evP
      subst eaP
      have HP : Hid (∀ W, Only (fun _ => False) w7 W → ∀ (j x : Nat), (Ce.starts Mk S.length)[j]? = some x → W.cell? ⟨gP, j, none⟩ = some (.int .i64 (x : Int))) := fun W ho j x hj => keep0 ho (hcP j _ (natI_get hj))
      have p0 : w7.cell? ⟨gP, q, none⟩ = some (.int .i64 (n : Int)) := by
        have h1 := Ce.starts_last Mk S.length
        rw [← HQ.out.2.1, ← HS.out.1] at h1
        rw [← HS.out.1] at HP
        exact HP.out w7 (Only.refl _ _) q n h1
      have u2 : (q : Int) < (q1 : Int) := by omega
      clear hcP evP hq1q
      go_wp2_with fail
      go_loopg [16, 85] q (fun gh v16 v wr => ∃ (i x pl : Nat) (W : World), W = wr ∧ gh = q - i ∧ i ≤ q ∧ v16 = .int .i64 (pl : Int) ∧ v = .int .i64 (i : Int) ∧ (Ce.starts Mk S.length)[i]? = some x ∧ pl = Ce.lens (S.take x) ∧ pl ≤ 8000 ∧ Only (fun _ => False) w7 W)
      case atStart => exact ⟨0, 0, 0, _, rfl, rfl, Nat.zero_le _, rfl, rfl, Ce.starts_first, by simp [Ce.lens], Nat.zero_le _, Only.refl _ _⟩
      case round =>
        obtain ⟨i, x, pl, W8, hW8, rfl, hi, rfl, rfl, hx, hpl, hpl8, ho8⟩ := hrel
        subst hW8
        have HO8 : Hid (Only (fun _ => False) w7 W8) := ho8
        clear ho8
        by_cases hiq : i < q
        · have t3 : (i : Int) < (q : Int) := by omega
          obtain ⟨y, hy⟩ := Ce.starts_at (M := Mk) (n := S.length) (i := i + 1) (by rw [← HQ.out.2.1]; omega)
          have hxy : x < y := Ce.starts_lt hx hy (by omega)
          have hyn : y ≤ n := by rw [HS.out.1]; exact Ce.starts_le hy
          have hcl := Ce.cls_at (of := Pr.of Lr) (by rw [← HQ.out.2.1]; exact hiq) hx hy
          obtain ⟨s, hs'⟩ : ∃ s, S[x]? = some s := ⟨_, List.getElem?_eq_getElem (by rw [← HS.out.1]; omega)⟩
          have hsp : s.pl = pl := by have := (row_at H4.out.2.2.1 hs').1; omega
          have hsg0 : (Ce.seg S x y)[0]? = some s := by rw [Ce.seg_at (by omega)]; exact hs'
          have hle : pl + Ce.lens (Ce.seg S x y) = Ce.lens (S.take y) := by
            rw [hpl, ← Ce.lens_append]
            congr 1
            have h1 := Ce.seg_join (S := S) (a := 0) (b := x) (c := y) (Nat.zero_le _) (by omega)
            unfold Ce.seg at h1 ⊢
            simpa using h1.symm
          have hl4 : Ce.lens (S.take y) ≤ 4 * y := lens_small (fun z hz => (H4.out.2.1 z (List.mem_of_mem_take hz)).2.2.2) (List.length_take_le _ _)
          obtain ⟨bS, oS, e0, hbS, v0, v1, v2⟩ := (own_vw H4.out.1).sign hs'
          subst e0
          have x1 := keep0 (H7.out.2.2.trans HO8.out) v1
          obtain ⟨g1, cap1, ev1, _, lg1, _, hc1⟩ := row_form H7.out.1 (by omega)
          have ea1 : aC = some ⟨g1, 0, none⟩ := by injection ev1
          subst ea1
          obtain ⟨k0, k1, k2, k3⟩ := ctC_at _ _ _ hcl
          have y0 := keep0 HO8.out ((hc1 (i * 4) (by omega)).trans k0)
          have y1 := keep0 HO8.out ((hc1 (i * 4 + 1) (by omega)).trans k1)
          have y2 := keep0 HO8.out ((hc1 (i * 4 + 2) (by omega)).trans k2)
          have y3 := keep0 HO8.out ((hc1 (i * 4 + 3) (by omega)).trans k3)
          unfold Ce.tog at y0 y1 y2 y3
          rw [hsg0] at y0
          have y0' : W8.cell? ⟨g1, i * 4, none⟩ = some (.int .i64 (pl : Int)) := by rw [← hsp]; exact y0
          have x1' : W8.cell? ⟨bS, oS + x * 3 + 1, none⟩ = some (.int .i64 (pl : Int)) := by rw [← hsp]; exact x1
          obtain ⟨le, hle2⟩ : ∃ le, le = Ce.lens (Ce.seg S x y) := ⟨_, rfl⟩
          obtain ⟨wi, hwi⟩ : ∃ wi, wi = Ce.wide (Pr.of Lr) (Ce.seg S x y) := ⟨_, rfl⟩
          obtain ⟨kk, hkk⟩ : ∃ kk, kk = Ce.kind (Ce.seg S x y) := ⟨_, rfl⟩
          have y1' : W8.cell? ⟨g1, i * 4 + 1, none⟩ = some (.int .i64 (le : Int)) := by rw [hle2]; exact y1
          have y2' : W8.cell? ⟨g1, i * 4 + 2, none⟩ = some (.int .i64 wi) := by rw [hwi]; exact y2
          have y3' : W8.cell? ⟨g1, i * 4 + 3, none⟩ = some (.int .u8 (kk : Int)) := by rw [hkk]; exact y3
          have p1 := HP.out W8 HO8.out i x hx
          have p2 := HP.out W8 HO8.out (i + 1) y hy
          have hw2 : ¬ (2 : Int) < wi := by rw [hwi]; have := Ce.wide_le (Pr.of Lr) (Ce.seg S x y); omega
          have hw0 : 0 ≤ wi := by rw [hwi]; exact Ce.wide_nn _ _
          have HW : Hid (wi = Ce.wide (Pr.of Lr) (Ce.seg S x y) ∧ le = Ce.lens (Ce.seg S x y) ∧ pl + le = Ce.lens (S.take y) ∧ (Ce.starts Mk S.length)[i + 1]? = some y) := ⟨hwi, hle2, by rw [hle2]; exact hle, hy⟩
          have hplle : pl + le ≤ 8000 := by rw [hle2, hle]; omega
          obtain ⟨i1, hi1⟩ : ∃ i1, i1 = i + 1 := ⟨_, rfl⟩
          have HI1 : Hid (i1 = i + 1) := hi1
          rw [← hi1] at p2
          have t4 : IntKind.i64.wrap ((i : Int) + 1) = (i1 : Int) := by rw [IntKind.wrap_i64]; omega
          have t5 : (i1 : Int) < (q1 : Int) := by have := HQ.out.1; omega
          have t6 : (i : Int) < (q1 : Int) := by have := HQ.out.1; omega
          have t7 : decide (y ≤ x) = false := decide_eq_false (by omega)
          have t8 : (x : Int) < (n : Int) := by omega
          have t9 : x ≤ y := by omega
          have t10 : y ≤ cS := by omega
          have t11 : ¬ cS = x := by omega
          have t12 : (x : Int) ≤ (y : Int) := by omega
          have t13 : (y : Int) ≤ (cS : Int) := by omega
          have lg1' : g1 < W8.heap.size := Nat.lt_of_lt_of_le lg1 HO8.out.size
          have lgP' : gP < W8.heap.size := World.block_lt_of_cell? W8 _ p1
          have lbS : bS < W8.heap.size := World.block_lt_of_cell? W8 _ x1'
          clear hx hy hcl hs' hsp hsg0 hle hl4 v0 v1 v2 x1 ev1 hc1 k0 k1 k2 k3 y0 y1 y2 y3 hle2 hwi hkk hpl hi1 p0
          go_wp2_with fail
          go_quiet (fail)
          go_wp2_with fail
          obtain ⟨W9, hW9⟩ : ∃ Z, Z = (W8.alloc (.cells #[.int .i64 (pl : Int), .int .i64 (le : Int), .int .i64 wi, .int .u8 (kk : Int)] 48)).drewN nq := ⟨_, rfl⟩
          rw [← hW9]
          obtain ⟨Bc, hBc⟩ : ∃ b, b = W8.heap.size := ⟨_, rfl⟩
          rw [← hBc]
          have hO9 : Only (fun _ => False) W8 W9 := by rw [hW9]; exact ((Only.refl _ _).alloc _).drewN _
          have hb9 : W9.heap[Bc]? = some (.cells #[.int .i64 (pl : Int), .int .i64 (le : Int), .int .i64 wi, .int .u8 (kk : Int)] 48 (0, 0)) := by rw [hW9, hBc]; exact heap_alloc_new W8 _
          have H9 : Hid (Only (fun _ => False) w7 W9 ∧ W9.heap[Bc]? = some (.cells #[.int .i64 (pl : Int), .int .i64 (le : Int), .int .i64 wi, .int .u8 (kk : Int)] 48 (0, 0))) := ⟨HO8.out.trans hO9, hb9⟩
          have p1 := keep0 hO9 p1
          have p2 := keep0 hO9 p2
          have lgP9 : gP < W9.heap.size := World.block_lt_of_cell? W9 _ p1
          have lB9 : Bc < W9.heap.size := (Array.getElem?_eq_some_iff.1 hb9).1
          clear hW9 hBc hO9 hb9 y0' x1' y1' y2' y3' lg1' lgP' lbS
          go_quiet (fail)
          go_wp2_with fail
          go_loopg [19, 130] (y - x) (fun gh v19 v130 wr => ∃ (j : Nat) (wd : Int) (W : World), W = wr ∧ gh = y - x - j ∧ j ≤ y - x ∧ v19 = .int .i64 wd ∧ v130 = .int .i64 (j : Int) ∧ wd = Ce.wide (Pr.of Lr) (Ce.seg S x (x + j)) ∧ Only (fun _ => False) W9 W)
          case atStart => exact ⟨0, 0, _, rfl, rfl, Nat.zero_le _, rfl, rfl, by rw [Nat.add_zero, Ce.seg_self]; rfl, by first | exact (Only.refl _ _).drewN _ | exact Only.refl _ _⟩
          case round =>
            obtain ⟨j, wd, V, hV', rfl, hj, rfl, rfl, hwd, hoV⟩ := hrel
            subst hV'
            have HV2 : Hid (Only (fun _ => False) W9 V ∧ wd = Ce.wide (Pr.of Lr) (Ce.seg S x (x + j))) := ⟨hoV, hwd⟩
            have hwd2 : wd ≤ 2 := by rw [hwd]; exact Ce.wide_le _ _
            have hwd0 : 0 ≤ wd := by rw [hwd]; exact Ce.wide_nn _ _
            clear hoV hwd
            by_cases hjl : j < y - x
            · have r1 : (j : Int) < ((y - x : Nat) : Int) := by omega
              obtain ⟨s, hs'⟩ : ∃ s, S[x + j]? = some s := ⟨_, List.getElem?_eq_getElem (by rw [← HS.out.1]; omega)⟩
              obtain ⟨f1, f2, f3, f4⟩ := H4.out.2.1 s (List.mem_of_getElem? hs')
              have hsj : (Ce.seg S x y)[j]? = some s := by rw [Ce.seg_at hjl]; exact hs'
              have hO : Only (fun _ => False) w4 V := H7.out.2.2.trans (H9.out.1.trans HV2.out.1)
              obtain ⟨b', off', e', hb', v0, v1, v2⟩ := (((own_vw H4.out.1).keep hO).seg x y).sign hsj
              injection e' with e'
              injection e' with e1 e2
              subst e1 e2
              have HOF : Hid (∀ W, Only (fun _ => False) V W → Calls Try.prog 23 #[.pointer (some ⟨T, 0, none⟩), .int .i32 s.r] W fun e w' => e = .returned (.int .i64 (Pr.of Lr s.r)) ∧ w' = W) := fun W ho => of_any 3 Lr s.r _ T W (H4.out.2.2.2.2.1.keep (hO.trans ho)) HL.out.1 f1 f2
              have hy3 : Pr.of Lr s.r < 3 := of_lt HL.out.1 (by omega)
              have hy0 : 0 ≤ Pr.of Lr s.r := (Pr.of_range HL.out.1).1
              have hws : Ce.wide (Pr.of Lr) (Ce.seg S x (x + (j + 1))) = max wd (Pr.of Lr s.r) := by
                rw [← Nat.add_assoc, Ce.seg_snoc (by omega) hs', Ce.wide_snoc, ← HV2.out.2]
                omega
              have HWS : Hid (Ce.wide (Pr.of Lr) (Ce.seg S x (x + (j + 1))) = max wd (Pr.of Lr s.r)) := hws
              clear hws
              obtain ⟨yy, hyy⟩ : ∃ y, y = Pr.of Lr s.r := ⟨_, rfl⟩
              rw [← hyy] at HOF hy3 hy0 HWS
              obtain ⟨sr, sp, sl⟩ := s
              simp only at v0 v1 v2 HOF
              clear hs' f1 f2 f3 f4 hsj hO hyy
              go_wp2_with (go_at_call 23; refine Calls.mono (HOF.out _ ((Only.refl _ _).alloc _)) ?_; rintro e w' ⟨rfl, rfl⟩)
              go_roundg (y - x - (j + 1))
              case measure => omega
              case rel => exact ⟨j + 1, max wd yy, _, rfl, rfl, by omega, rfl, by go_num, HWS.out.symm, HV2.out.1.alloc _⟩
            · have r1 : decide ((j : Int) < ((y - x : Nat) : Int)) = false := decide_eq_false (by omega)
              have hjy : Hid (x + j = y) := (by omega : x + j = y)
              have hE : wd = wi := by rw [HV2.out.2, hjy.out, HW.out.1]
              have hbV := (HV2.out.1.block Bc lB9 (fun h => h)).trans H9.out.2
              have d1 : V.cell? ⟨Bc, 1, none⟩ = some (.int .i64 (le : Int)) := cell_blk hbV
              have d2 : V.cell? ⟨Bc, 2, none⟩ = some (.int .i64 wi) := cell_blk hbV
              have lBV : Bc < V.heap.size := (Array.getElem?_eq_some_iff.1 hbV).1
              subst hE
              clear hbV p1 p2
              go_wp2_with fail
              go_roundg (q - (i + 1))
              case measure => omega
              case rel => exact ⟨i + 1, y, pl + le, _, rfl, rfl, by omega, by go_num, by rw [HI1.out], HW.out.2.2.2, HW.out.2.2.1, hplle, H9.out.1.trans HV2.out.1⟩
        · have t3 : decide ((i : Int) < (q : Int)) = false := decide_eq_false (by omega)
          have hiq2 : i = q := by omega
          subst hiq2
          have hxn : x = n := by
            have h1 := Ce.starts_last Mk S.length
            rw [← HQ.out.2.1, hx] at h1
            injection h1 with h1
            rw [h1, HS.out.1]
          have hlN : pl = nD := by
            have h1 := row_lens H4.out.2.2.1
            rw [hpl, hxn, HS.out.1, List.take_length, HS.out.2]
            omega
          have u9 : ((pl : Int) == (nD : Int)) = true := by rw [beq_iff_eq, hlN]
          have HOE : Hid (Only (fun _ => False) w W8) := H4.out.2.2.2.1.trans (H7.out.2.2.trans HO8.out)
          clear hxn hlN hx hpl
          go_wp2_with fail
          go_ret
          exact ⟨rfl, HOE.out⟩
end Go.Proofs.Ytlcpfheocenjfaa.cellsWhole
namespace Go.Proofs.Ytlcpfheocenjfaa.cellsWhole
open Go.RowKit Go.Maps
set_option linter.unusedVariables false
set_option maxRecDepth 100000 in
set_option maxHeartbeats 4000000 in
theorem walk (L0 : List Nat) (a0 : Option Addr) (c0 : Nat) (Mk : List Nat) (aK : Option Addr) (cK : Nat) (X : List Nat) (aX : Option Addr) (cX : Nat) (w : World) (hV : Vw w a0 (u8s L0)) (hB : ∀ x ∈ L0, x < 256) (hs : L0.length ≤ 140737488351232) (hVK : Vw w aK (u8s Mk)) (hBK : ∀ x ∈ Mk, x < 256) (hsK : Mk.length ≤ 140737488351232) (hVX : Vw w aX (u8s X)) (hBX : ∀ x ∈ X, x < 256) (hsX : X.length ≤ 140737488351232) : Calls Try.prog 4 #[.slice a0 L0.length c0, .slice aK Mk.length cK, .slice aX X.length cX] w fun e w' => e = .returned (.bool true) ∧ Only (fun _ => False) w w' := by
  by_cases h5 : L0.length ≤ 500
  · exact walk1 L0 a0 c0 Mk aK cK X aX cX w hV hB h5 hVK hBK hsK hVX hBX hsX
  · obtain ⟨n0, hn0⟩ : ∃ n, n = L0.length := ⟨_, rfl⟩
    rw [← hn0] at hs h5 ⊢
    have s0 : (500 : Int) < (n0 : Int) := by omega
    clear hV hB hVX hBX hn0 hVK hBK
    go_enter Try.func4, Try.ntmps4
    go_wp2_with (first | (go_at_call 13; refine (awake10_any _).mono ?_; rintro e w1 ⟨rfl, ho1⟩; have HO1 : Hid (Only (fun _ => False) w w1) := ho1; clear ho1) | fail)
    go_ret
    exact ⟨rfl, HO1.out⟩
end Go.Proofs.Ytlcpfheocenjfaa.cellsWhole
