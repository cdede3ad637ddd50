/-
  stanzalaw10.CellsFiner: its walk.
-/
import Derived.Test.YtlcpfheocenjfaaMr
namespace Go.Proofs.Ytlcpfheocenjfaa.cellsFiner
open Go.RowKit Go.Maps
set_option linter.unusedVariables false
set_option linter.unusedSimpArgs false
set_option maxRecDepth 100000 in
set_option maxHeartbeats 4000000 in
theorem walk1 (L0 : List Nat) (a0 : Option Addr) (c0 : Nat) (Mk : List Nat) (aK : Option Addr) (cK : Nat) (Ml : List Nat) (aL : Option Addr) (cL : Nat) (X : List Nat) (aX : Option Addr) (cX : Nat) (w : World) (hV : Vw w a0 (u8s L0)) (hB : ∀ x ∈ L0, x < 256) (hs : L0.length ≤ 300) (hVK : Vw w aK (u8s Mk)) (hBK : ∀ x ∈ Mk, x < 256) (hsK : Mk.length ≤ 140737488351232) (hVL : Vw w aL (u8s Ml)) (hBL : ∀ x ∈ Ml, x < 256) (hsL : Ml.length ≤ 140737488351232) (hVX : Vw w aX (u8s X)) (hBX : ∀ x ∈ X, x < 256) (hsX : X.length ≤ 140737488351232) : Calls Try.prog 6 #[.slice a0 L0.length c0, .slice aK Mk.length cK, .slice aL Ml.length cL, .slice aX X.length cX] w fun e w' => e = .returned (.bool true) ∧ Only (fun _ => False) w w' := by
  have HOP : Hid (∀ W, Only (fun _ => False) w W → Calls Try.prog 19 #[.slice aK Mk.length cK] W (opP Mk W)) := fun W ho => opps_any Mk aK cK W (hVK.keep ho) hBK (by omega)
  have HOQ : Hid (∀ W, Only (fun _ => False) w W → Calls Try.prog 19 #[.slice aL Ml.length cL] W (opP Ml W)) := fun W ho => opps_any Ml aL cL W (hVL.keep ho) hBL (by omega)
  have HBK : Hid ((∀ x ∈ Mk, x < 256) ∧ ∀ x ∈ Ml, x < 256) := ⟨hBK, hBL⟩
  unfold opP at HOP HOQ
  obtain ⟨nK, hnK⟩ : ∃ n, n = Mk.length := ⟨_, rfl⟩
  obtain ⟨nL, hnL⟩ : ∃ n, n = Ml.length := ⟨_, rfl⟩
  have HNK : Hid (nK = Mk.length ∧ nL = Ml.length) := ⟨hnK, hnL⟩
  rw [← hnK] at hsK HOP ⊢
  rw [← hnL] at hsL HOQ ⊢
  clear hVK hBK hnK hVL hBL hnL
  obtain ⟨i3, g3, g30, g31, g32⟩ := info_parts info33
  have HV : Hid (Vw w a0 (u8s L0) ∧ (∀ x ∈ L0, x < 256) ∧ Vw w aX (u8s X) ∧ (∀ x ∈ X, x < 256)) := ⟨hV, hB, hVX, hBX⟩
  have HWO : Hid (∀ W, Only (fun _ => False) w W → Calls Try.prog 16 #[.slice a0 L0.length c0] W (woP L0.length W)) := fun W ho => words_any L0 a0 c0 W (hV.keep ho) hB (by omega)
  obtain ⟨n0, hn0⟩ : ∃ n, n = L0.length := ⟨_, rfl⟩
  obtain ⟨m, hm⟩ : ∃ m, m = X.length := ⟨_, rfl⟩
  have HN : Hid (n0 = L0.length ∧ m = X.length) := ⟨hn0, hm⟩
  rw [← hn0] at hs HWO ⊢
  rw [← hm] at hsX ⊢
  clear hV hB hVX hBX hn0 hm
  have s0 : decide ((300 : Int) < (n0 : Int)) = false := decide_eq_false (by omega)
  go_enter Try.func6, Try.ntmps6
  go_wp2_with (first | (go_at_call 13; refine (awake10_any _).mono ?_; rintro e w1 ⟨rfl, ho1⟩; have HO1 : Hid (Only (fun _ => False) w w1) := ho1; clear ho1) | fail)
  go_loopg [9, 35] m (fun gh v5 v24 wr => ∃ (k q : Nat) (a : Option Addr) (c : Nat) (W : World), W = wr ∧ gh = m - k ∧ k ≤ m ∧ v5 = .slice a q c ∧ v24 = .int .i64 (k : Int) ∧ q = (rl X k).length ∧ q ≤ 200 ∧ W.ownsRow w1.heap.size 45 3 (.slice a q c) q (rgCells (rl X k)) ∧ Only (fun b => w1.heap.size ≤ b) w1 W)
  case atStart => exact ⟨0, 0, none, 0, _, rfl, rfl, Nat.zero_le _, rfl, rfl, by rw [rl_zero]; rfl, Nat.zero_le _, by rw [rl_zero]; exact ⟨rfl, Or.inl ⟨rfl, rfl⟩⟩, Only.refl _ _⟩
  case round =>
    obtain ⟨k, q, a, c, W, hW, rfl, hk, rfl, rfl, hq, hq2, hown, hoW⟩ := hrel
    subst hW
    have HG : Hid (W.ownsRow w1.heap.size 45 3 (.slice a q c) q (rgCells (rl X k)) ∧ Only (fun b => w1.heap.size ≤ b) w1 W ∧ q = (rl X k).length) := ⟨hown, hoW, hq⟩
    have hsz := hoW.size
    clear hown hoW hq
    by_cases hlt : k < m
    · have t1 : (k : Int) < (m : Int) := by omega
      obtain ⟨x, hx⟩ : ∃ x, X[k]? = some x := ⟨_, List.getElem?_eq_getElem (by rw [← HN.out.2]; omega)⟩
      obtain ⟨b0, off, e0, hb0, hc⟩ := (HV.out.2.2.1.keep (HO1.out.trans (HG.out.2.1.old (fun b hb => Or.inl hb)))).cells (by rw [u8s_len, ← HN.out.2]; omega)
      subst e0
      have c1 := hc k _ (u8s_at hx)
      have hx8 : x < 256 := HV.out.2.2.2 x (List.mem_of_getElem? hx)
      by_cases h2 : k < 200
      · have t2 : (k : Int) < 200 := by omega
        obtain ⟨y, hy⟩ : ∃ y, y = x % 3 := ⟨_, rfl⟩
        have p2 : (x : Int).tmod 3 = (y : Int) := by rw [Int.tmod_eq_emod_of_nonneg (by omega)]; omega
        have hy3 : y < 3 := by omega
        have HT : Hid (rl X (k + 1) = rl X k ++ [⟨(k : Int), (k : Int), (y : Int)⟩]) := by rw [hy]; exact rl_yes h2 hx
        have HVA : Hid _ := rg1 W (k : Int) (k : Int) (y : Int)
        clear hx hc hy
        go_wp2_with (at_builtin; (refine wpList_append_lies _ rfl _ _ 23 rfl w1.heap.size 45 i3 (.agg #[.int .i32 0, .int .i32 0, .int .i64 0]) 3 16 Try.underlying23 g3 g30 g31 g32 rfl (by decide) (.slice a q c) q (rgCells (rl X k)) rfl (HG.out.1.alloc _) ⟨W.heap.size, 0, none⟩ 1 1 [.int .i32 (k : Int), .int .i32 (k : Int), .int .i64 (y : Int)] rfl rfl (World.news_of_block (cs := #[.int .i32 (k : Int), .int .i32 (k : Int), .int .i64 (y : Int)]) HVA.out.1) (fun u hu => by simp at hu; rcases hu with rfl | rfl | rfl <;> rfl) (by decide) (by unfold maxLen; omega) (by omega) (by rw [HVA.out.2]; omega) (W.heap.size + 1) HVA.out.2 ?_; intro g5 cap5 w5 hown5 hgrow5 hat5 hlt5; have hoo : Only (fun b => (Value.slice a q c).ownBlock = some b) W w5 := (((Only.refl (fun b => (Value.slice a q c).ownBlock = some b) W).alloc _)).grown hgrow5 (fun k hk => hk); have H5 : Hid (w5.ownsRow w1.heap.size 45 3 (.slice (some ⟨g5, 0, none⟩) (q + 1) cap5) (q + 1) (rgCells (rl X (k + 1))) ∧ Only (fun b => w1.heap.size ≤ b) w1 w5) := ⟨by rw [HT.out, rgC_snoc]; exact hown5, HG.out.2.1.trans (hoo.mono (fun b hb => (own_own HG.out.1 hb).1))⟩; clear hown5 hgrow5 hat5 hoo))
        go_roundg (m - (k + 1))
        case measure => omega
        case rel => exact ⟨k + 1, q + 1, _, _, _, rfl, rfl, by omega, rfl, by go_num, by rw [HT.out, List.length_append, ← HG.out.2.2]; rfl, by have := rl_len X k; have := HG.out.2.2; omega, H5.out.1, H5.out.2⟩
      · have t2 : decide ((k : Int) < 200) = false := decide_eq_false (by omega)
        have HT : Hid (rl X (k + 1) = rl X k) := rl_no (by omega)
        clear hx hc
        go_wp2_with fail
        go_roundg (m - (k + 1))
        case measure => omega
        case rel => exact ⟨k + 1, q, _, _, _, rfl, rfl, by omega, rfl, by go_num, by rw [HT.out, ← HG.out.2.2], hq2, by rw [HT.out]; exact HG.out.1, HG.out.2.1⟩
    · have t1 : decide ((k : Int) < (m : Int)) = false := decide_eq_false (by omega)
      have hkm : k = m := by omega
      subst hkm
      obtain ⟨Lr, hLr⟩ : ∃ Lr, Lr = rl X k := ⟨_, rfl⟩
      have HL : Hid (Pr.okFrom 3 (-1) Lr = true ∧ q = Lr.length) := ⟨by rw [hLr]; exact (rl_ok X k (by rw [HN.out.2]; exact Nat.le_refl _)).1, by rw [hLr]; exact HG.out.2.2⟩
      have HOW : Hid (Only (fun _ => False) w W) := HO1.out.trans (HG.out.2.1.old (fun b hb => Or.inl hb))
      have hT : Calls Try.prog 15 #[.slice a q c, .int .i64 3] W (tbP Lr W) := by
        have h1 := HG.out.1
        rw [← hLr, HL.out.2] at h1
        obtain ⟨a', g', cap', ev, hS, _⟩ := row_sees h1
        injection ev with e1 e2 e3
        subst e1 e3
        rw [HL.out.2]
        exact table_any Lr 3 a g' 0 c W hS (by rw [← HL.out.2]; omega) HL.out.1
      have HTT : Hid _ := hT
      clear hT hLr
      go_wp2_with (first | (go_at_call 15; refine Calls.mono HTT.out ?_; rintro e w2 ⟨T, rfl, hTb, ho2⟩; have H2 : Hid (Tab w2 W.heap.size T Lr ∧ Only (fun _ => False) w w2) := ⟨hTb, HOW.out.trans ho2⟩; clear hTb ho2) | (go_at_call 16; refine Calls.mono (HWO.out _ H2.out.2) ?_; rintro e w3 ⟨D, aD, cD, rfl, hD, hDB, hDl, ho3⟩; have hDc := own_le hD; have H3 : Hid (w3.ownsRow w2.heap.size 5 1 (.slice aD D.length cD) D.length (u8s D) ∧ (∀ x ∈ D, x < 256) ∧ D.length ≤ 4 * n0 ∧ Only (fun _ => False) w w3 ∧ Tab w3 W.heap.size T Lr) := ⟨hD, hDB, hDl, H2.out.2.trans ho3, H2.out.1.keep ho3⟩; clear hD hDB ho3) | (go_at_call 17; refine Calls.mono (all_signs D aD cD w3 (own_vw H3.out.1) H3.out.2.1 (by omega) hDc) ?_; rintro e w4 ⟨S, aS, cS, rfl, hS, hF, hR, hSl, ho4⟩; have hSc := own_le hS; have hScm := own_cap hS; have H4 : Hid (w4.ownsRow w3.heap.size 50 3 (.slice aS S.length cS) S.length (snC S) ∧ Fits S ∧ Row S 0 D.length ∧ Only (fun _ => False) w w4 ∧ Tab w4 W.heap.size T Lr ∧ w4.ownsRow w2.heap.size 5 1 (.slice aD D.length cD) D.length (u8s D)) := ⟨hS, hF, hR, H3.out.2.2.2.1.trans ho4, H3.out.2.2.2.2.keep ho4, own_only H3.out.1 ho4 (fun _ _ h => h)⟩; clear hS hF hR ho4) | fail)
      obtain ⟨n, hn⟩ : ∃ n, n = S.length := ⟨_, rfl⟩
      have HS : Hid (n = S.length) := hn
      have hn2000 : n ≤ 1200 := by omega
      rw [← hn] at hSc ⊢
      have HCE : Hid (∀ W, Only (fun _ => False) w4 W → ∀ (M : List Nat) (aM : Option Addr) (cM : Nat), Vw W aM (u8s M) → (∀ x ∈ M, x < 256) → M.length ≤ 140737488351232 → Calls Try.prog 18 #[.slice aS n cS, .slice aM M.length cM, .pointer (some ⟨T, 0, none⟩)] W (ceP (Pr.of Lr) S M W)) := fun W ho M aM cM hVM hBM hlM => by
        rw [hn]
        exact cells_any 3 Lr _ T S M aS aM cS cM W (H4.out.2.2.2.2.1.keep ho) HL.out.1 ((own_vw H4.out.1).keep ho) H4.out.2.1 hVM hBM (by omega) (by unfold maxLen; omega) (by omega) hScm
      clear hn hSl hDl hDc hScm
      refine Calls.mono (HOP.out w4 H4.out.2.2.2.1) ?_
      rintro e w5 ⟨aA, cA, rfl, hA, ho5⟩
      have H5 : Hid (w5.ownsRow w4.heap.size 54 1 (.slice aA nK cA) nK (u8s Mk) ∧ Only (fun _ => False) w4 w5) := ⟨hA, ho5⟩
      clear hA ho5
      go_wp2_with fail
      refine Calls.mono (HOQ.out w5 (H4.out.2.2.2.1.trans H5.out.2)) ?_
      rintro e w6 ⟨aB, cB, rfl, hB, ho6⟩
      have H6 : Hid (w6.ownsRow w5.heap.size 54 1 (.slice aB nL cB) nL (u8s Ml) ∧ w6.ownsRow w4.heap.size 54 1 (.slice aA nK cA) nK (u8s Mk) ∧ Only (fun _ => False) w4 w6) := ⟨hB, own_only H5.out.1 ho6 (fun _ _ h => h), H5.out.2.trans ho6⟩
      clear hB ho6
      obtain ⟨n1, hn1⟩ : ∃ n1, n1 = n + 1 := ⟨_, rfl⟩
      have HN1 : Hid (n1 = n + 1) := hn1
      have hn1b : n1 ≤ 1201 := by omega
      go_wp2_with fail
      rw [show ((n : Int) + 1) = (n1 : Int) by omega, run_make_row' (P := Try.prog) 38 54 (.int .u8 0) 1 Try.underlying38 info54 rfl .i64 .i64 n1 (by omega) (by omega) w6]
      clear hn1
      obtain ⟨W7, hW7⟩ : ∃ Z, Z = w6.alloc (.cells (madeCells #[.int .u8 0] n1) 54) := ⟨_, rfl⟩
      rw [← hW7]
      obtain ⟨B, hB⟩ : ∃ b, b = w6.heap.size := ⟨_, rfl⟩
      rw [← hB]
      have H7 : Hid (W7.heap[B]? = some (.cells (mrow Mk Ml n1 0) 54 (0, 0)) ∧ Only (fun b => B ≤ b) w6 W7 ∧ B = w6.heap.size) := by
        rw [hW7, hB]
        refine ⟨?_, (Only.refl _ _).alloc _, rfl⟩
        rw [heap_alloc_new, made_u8]
        rfl
      clear hW7 hB
      go_wp2_with fail
      go_loopg [74] n1 (fun gh v wr => ∃ (i : Nat) (W : World), W = wr ∧ gh = n1 - i ∧ i ≤ n1 ∧ v = .int .i64 (i : Int) ∧ W.heap[B]? = some (.cells (mrow Mk Ml n1 i) 54 (0, 0)) ∧ Only (fun b => B ≤ b) w6 W)
      case atStart => exact ⟨0, _, rfl, rfl, Nat.zero_le _, rfl, H7.out.1, H7.out.2.1⟩
      case round =>
        obtain ⟨i, W8, hW8, rfl, hi, rfl, hb8, ho8⟩ := hrel
        subst hW8
        have H8 : Hid (W8.heap[B]? = some (.cells (mrow Mk Ml n1 i) 54 (0, 0)) ∧ Only (fun b => B ≤ b) w6 W8) := ⟨hb8, ho8⟩
        have lB : B < W8.heap.size := (Array.getElem?_eq_some_iff.1 hb8).1
        by_cases hin : i < n1
        · have t3 : (i : Int) < (n1 : Int) := by omega
          have d1 : W8.cell? ⟨B, i, none⟩ = some (.int .u8 0) := by rw [cell_blk hb8, mrow_at hin]
          have f1 : ∀ x, W8.frozen? ⟨B, x, none⟩ = false := fun x => fz_blk hb8 x
          clear hb8 ho8
          by_cases hiK : i < nK
          · have t4 : (i : Int) < (nK : Int) := by omega
            obtain ⟨xa, hxa⟩ : ∃ x, Mk[i]? = some x := ⟨_, List.getElem?_eq_getElem (by rw [← HNK.out.1]; exact hiK)⟩
            obtain ⟨gA, capA, evA, lgA, _, hcA⟩ := own_cells H6.out.2.1 (by omega)
            have eaA : aA = some ⟨gA, 0, none⟩ := by injection evA
            subst eaA
            have lgAB : gA < B := by have := H7.out.2.2; omega
            have cA1 := keepS H8.out.2 (hcA i _ (u8s_at hxa)) (by omega)
            have hneA : ¬ gA = B := by omega
            have hneA2 : ¬ B = gA := by omega
            have lgA8 : gA < W8.heap.size := World.block_lt_of_cell? W8 _ cA1
            have HXe : Hid (Mk[i]? = some xa) := hxa
            clear hcA evA hxa
            by_cases hiL : i < nL
            · have t6 : (i : Int) < (nL : Int) := by omega
              obtain ⟨yb, hyb⟩ : ∃ y, Ml[i]? = some y := ⟨_, List.getElem?_eq_getElem (by rw [← HNK.out.2]; exact hiL)⟩
              obtain ⟨gB, capB, evB, lgB, _, hcB⟩ := own_cells H6.out.1 (by omega)
              have eaB : aB = some ⟨gB, 0, none⟩ := by injection evB
              subst eaB
              have lgBB : gB < B := by have := H7.out.2.2; omega
              have cB1 := keepS H8.out.2 (hcB i _ (u8s_at hyb)) (by omega)
              have hneB : ¬ gB = B := by omega
              have hneB2 : ¬ B = gB := by omega
              have lgB8 : gB < W8.heap.size := World.block_lt_of_cell? W8 _ cB1
              clear hcB evB
              by_cases hy0 : yb = 0
              · have t7 : ((yb : Int) != 0) = false := by simp; omega
                have HZ : Hid (Ml.getD i 0 = 0) := (by rw [getD_at hyb, hy0] : Ml.getD i 0 = 0)
                clear hyb hy0
                go_wp2_with fail
                go_roundg (n1 - (i + 1))
                case measure => omega
                case rel => exact ⟨i + 1, _, rfl, rfl, by omega, by go_num, by rw [heap_setCell_at H8.out.1 _, mrow_put (by rw [mo_a HZ.out, getD_at HXe.out])], (H8.out.2.setCell (p := ⟨B, i, none⟩) (Nat.le_refl B) _)⟩
              · have t7 : ((yb : Int) != 0) = true := by simp; omega
                have HYe : Hid (Ml[i]? = some yb ∧ yb ≠ 0) := ⟨hyb, hy0⟩
                clear hyb hy0
                go_wp2_with fail
                go_roundg (n1 - (i + 1))
                case measure => omega
                case rel => exact ⟨i + 1, _, rfl, rfl, by omega, by go_num, by rw [heap_setCell_at (heap_setCell_at H8.out.1 _) _, mrow_put2 (mo_b HYe.out.1 HYe.out.2)], ((H8.out.2.setCell (p := ⟨B, i, none⟩) (Nat.le_refl B) _).setCell (p := ⟨B, i, none⟩) (Nat.le_refl B) _)⟩
            · have t6 : decide ((i : Int) < (nL : Int)) = false := decide_eq_false (by omega)
              have HZ : Hid (Ml.getD i 0 = 0) := getD_no (by rw [← HNK.out.2]; omega)
              go_wp2_with fail
              go_roundg (n1 - (i + 1))
              case measure => omega
              case rel => exact ⟨i + 1, _, rfl, rfl, by omega, by go_num, by rw [heap_setCell_at H8.out.1 _, mrow_put (by rw [mo_a HZ.out, getD_at HXe.out])], (H8.out.2.setCell (p := ⟨B, i, none⟩) (Nat.le_refl B) _)⟩
          · have t4 : decide ((i : Int) < (nK : Int)) = false := decide_eq_false (by omega)
            have HXe : Hid (Mk.getD i 0 = 0) := getD_no (by rw [← HNK.out.1]; omega)
            by_cases hiL : i < nL
            · have t6 : (i : Int) < (nL : Int) := by omega
              obtain ⟨yb, hyb⟩ : ∃ y, Ml[i]? = some y := ⟨_, List.getElem?_eq_getElem (by rw [← HNK.out.2]; exact hiL)⟩
              obtain ⟨gB, capB, evB, lgB, _, hcB⟩ := own_cells H6.out.1 (by omega)
              have eaB : aB = some ⟨gB, 0, none⟩ := by injection evB
              subst eaB
              have lgBB : gB < B := by have := H7.out.2.2; omega
              have cB1 := keepS H8.out.2 (hcB i _ (u8s_at hyb)) (by omega)
              have hneB : ¬ gB = B := by omega
              have hneB2 : ¬ B = gB := by omega
              have lgB8 : gB < W8.heap.size := World.block_lt_of_cell? W8 _ cB1
              clear hcB evB
              by_cases hy0 : yb = 0
              · have t7 : ((yb : Int) != 0) = false := by simp; omega
                have HZ : Hid (Ml.getD i 0 = 0) := (by rw [getD_at hyb, hy0] : Ml.getD i 0 = 0)
                clear hyb hy0
                go_wp2_with fail
                go_roundg (n1 - (i + 1))
                case measure => omega
                case rel => exact ⟨i + 1, _, rfl, rfl, by omega, by go_num, by rw [← mrow_no (by rw [mo_a HZ.out]; exact HXe.out)]; exact H8.out.1, H8.out.2⟩
              · have t7 : ((yb : Int) != 0) = true := by simp; omega
                have HYe : Hid (Ml[i]? = some yb ∧ yb ≠ 0) := ⟨hyb, hy0⟩
                clear hyb hy0
                go_wp2_with fail
                go_roundg (n1 - (i + 1))
                case measure => omega
                case rel => exact ⟨i + 1, _, rfl, rfl, by omega, by go_num, by rw [heap_setCell_at H8.out.1 _, mrow_put (mo_b HYe.out.1 HYe.out.2)], (H8.out.2.setCell (p := ⟨B, i, none⟩) (Nat.le_refl B) _)⟩
            · have t6 : decide ((i : Int) < (nL : Int)) = false := decide_eq_false (by omega)
              have HZ : Hid (Ml.getD i 0 = 0) := getD_no (by rw [← HNK.out.2]; omega)
              go_wp2_with fail
              go_roundg (n1 - (i + 1))
              case measure => omega
              case rel => exact ⟨i + 1, _, rfl, rfl, by omega, by go_num, by rw [← mrow_no (by rw [mo_a HZ.out]; exact HXe.out)]; exact H8.out.1, H8.out.2⟩
        · have t3 : decide ((i : Int) < (n1 : Int)) = false := decide_eq_false (by omega)
          have hin2 : i = n1 := by omega
          subst hin2
          obtain ⟨Mo, hMo⟩ : ∃ Mo : List Nat, Mo = Ce.more Mk Ml i := ⟨_, rfl⟩
          have hO8 : Only (fun _ => False) w6 W8 := ho8.old (fun b hb => Or.inl (by have := H7.out.2.2; omega))
          have hVM : Vw W8 (some ⟨B, 0, none⟩) (u8s Mo) := vw_blk (t := 54) (by rw [hb8, hMo, mrow_full])
          have hMl : Mo.length = i := by rw [hMo, Ce.more_len]
          have HM : Hid (Mo = Ce.more Mk Ml (S.length + 1) ∧ (∀ x ∈ Mo, x < 256) ∧ Mo.length = i ∧ Vw W8 (some ⟨B, 0, none⟩) (u8s Mo) ∧ Only (fun _ => False) w6 W8) := ⟨by rw [hMo, HN1.out, HS.out], by rw [hMo]; exact more_lt HBK.out.1 HBK.out.2, hMl, hVM, hO8⟩
          have hC1 : Calls Try.prog 18 #[.slice aS n cS, .slice aA nK cA, .pointer (some ⟨T, 0, none⟩)] W8 (ceP (Pr.of Lr) S Mk W8) := by
            rw [HNK.out.1]
            exact HCE.out W8 (H6.out.2.2.trans hO8) Mk aA cA (by have := own_vw H6.out.2.1; exact this.keep hO8) HBK.out.1 (by rw [← HNK.out.1]; omega)
          have HC1 : Hid _ := hC1
          clear hb8 ho8 hC1 hO8 hVM hMl hMo
          go_wp2_with fail
          refine Calls.mono HC1.out ?_
          rintro e w9 ⟨aC, aP, cC, cP, rfl, hcl, hst, ho9⟩
          obtain ⟨q, hq⟩ : ∃ q, q = (Ce.cls (Pr.of Lr) S Mk).length := ⟨_, rfl⟩
          obtain ⟨q1, hq1⟩ : ∃ q1, q1 = (Ce.starts Mk S.length).length := ⟨_, rfl⟩
          rw [← hq] at hcl ⊢
          rw [← hq1] at hst ⊢
          have HQ : Hid (q1 = q + 1 ∧ q = (Ce.st Mk S.length).length ∧ q ≤ n) := ⟨by rw [hq, hq1, Ce.starts_len, Ce.cls_len], by rw [hq, Ce.cls_len], by rw [hq, Ce.cls_len, HS.out]; exact Ce.st_len _ _⟩
          have H9 : Hid (w9.ownsRow W8.heap.size 48 4 (.slice aC q cC) q (ctC (Ce.cls (Pr.of Lr) S Mk)) ∧ w9.ownsRow W8.heap.size 3 1 (.slice aP q1 cP) q1 (natI (Ce.starts Mk S.length)) ∧ Only (fun _ => False) w4 w9 ∧ Only (fun _ => False) W8 w9) := ⟨hcl, hst, (H6.out.2.2.trans HM.out.2.2.2.2).trans ho9, ho9⟩
          clear hcl hst ho9 hq hq1
          have hC2 : Calls Try.prog 18 #[.slice aS n cS, .slice (some ⟨B, 0, none⟩) i i, .pointer (some ⟨T, 0, none⟩)] w9 (ceP (Pr.of Lr) S Mo w9) := by
            have := HCE.out w9 H9.out.2.2.1 Mo (some ⟨B, 0, none⟩) i (HM.out.2.2.2.1.keep H9.out.2.2.2) HM.out.2.1 (by rw [HM.out.2.2.1]; omega)
            rw [HM.out.2.2.1] at this
            exact this
          have HC2 : Hid _ := hC2
          clear hC2
          go_wp2_with fail
          refine Calls.mono HC2.out ?_
          rintro e w10 ⟨aD2, aT, cD2, cT, rfl, hcl, hst, ho10⟩
          obtain ⟨r, hr⟩ : ∃ q, q = (Ce.cls (Pr.of Lr) S Mo).length := ⟨_, rfl⟩
          obtain ⟨r1, hr1⟩ : ∃ q1, q1 = (Ce.starts Mo S.length).length := ⟨_, rfl⟩
          rw [← hr] at hcl ⊢
          rw [← hr1] at hst ⊢
          have HR : Hid (r1 = r + 1 ∧ r = (Ce.st Mo S.length).length ∧ r ≤ n) := ⟨by rw [hr, hr1, Ce.starts_len, Ce.cls_len], by rw [hr, Ce.cls_len], by rw [hr, Ce.cls_len, HS.out]; exact Ce.st_len _ _⟩
          have H10 : Hid (w10.ownsRow w9.heap.size 48 4 (.slice aD2 r cD2) r (ctC (Ce.cls (Pr.of Lr) S Mo)) ∧ w10.ownsRow w9.heap.size 3 1 (.slice aT r1 cT) r1 (natI (Ce.starts Mo S.length)) ∧ Only (fun _ => False) w4 w10 ∧ w10.ownsRow W8.heap.size 48 4 (.slice aC q cC) q (ctC (Ce.cls (Pr.of Lr) S Mk)) ∧ w10.ownsRow W8.heap.size 3 1 (.slice aP q1 cP) q1 (natI (Ce.starts Mk S.length))) := ⟨hcl, hst, H9.out.2.2.1.trans ho10, own_only H9.out.1 ho10 (fun _ _ h => h), own_only H9.out.2.1 ho10 (fun _ _ h => h)⟩
          clear hcl hst ho10 hr hr1
          have hqn : q ≤ n := HQ.out.2.2
          have hrn : r ≤ n := HR.out.2.2
          obtain ⟨gP, capP, evP, lgP, _, hcP⟩ := own_cells H10.out.2.2.2.2 (by have := HQ.out.1; omega)
          have eaP : aP = some ⟨gP, 0, none⟩ := by injection evP
          subst eaP
          obtain ⟨gT, capT, evT, lgT, _, hcT⟩ := own_cells H10.out.2.1 (by have := HR.out.1; omega)
          have eaT : aT = some ⟨gT, 0, none⟩ := by injection evT
          subst eaT
          have HP : Hid (∀ W, Only (fun _ => False) w10 W → ∀ (j x : Nat), (Ce.starts Mk S.length)[j]? = some x → W.cell? ⟨gP, j, none⟩ = some (.int .i64 (x : Int))) := fun W ho j x hj => keep0 ho (hcP j _ (natI_get hj))
          have HTT : Hid (∀ W, Only (fun _ => False) w10 W → ∀ (j x : Nat), (Ce.starts Mo S.length)[j]? = some x → W.cell? ⟨gT, j, none⟩ = some (.int .i64 (x : Int))) := fun W ho j x hj => keep0 ho (hcT j _ (natI_get hj))
          clear hcP evP hcT evT t3
          go_wp2_with fail
          go_loopg [23, 123] q (fun gh v23 v wr => ∃ (o x kk : Nat) (W : World), W = wr ∧ gh = q - o ∧ o ≤ q ∧ v23 = .int .i64 (kk : Int) ∧ v = .int .i64 (o : Int) ∧ kk ≤ r ∧ (Ce.starts Mk S.length)[o]? = some x ∧ (Ce.starts Mo S.length)[kk]? = some x ∧ Only (fun _ => False) w10 W)
          case atStart => exact ⟨0, 0, 0, _, rfl, rfl, Nat.zero_le _, rfl, rfl, Nat.zero_le _, Ce.starts_first, Ce.starts_first, Only.refl _ _⟩
          case round =>
            obtain ⟨o, x, kk, W, hW, rfl, ho, rfl, rfl, hkr, hx, hkx, hoW⟩ := hrel
            subst hW
            have HG : Hid (Only (fun _ => False) w10 W ∧ (Ce.starts Mk S.length)[o]? = some x ∧ (Ce.starts Mo S.length)[kk]? = some x) := ⟨hoW, hx, hkx⟩
            clear hoW hkx
            by_cases hoq : o < q
            · have t3 : (o : Int) < (q : Int) := by omega
              obtain ⟨y, hy⟩ := Ce.starts_at (M := Mk) (n := S.length) (i := o + 1) (by rw [← HQ.out.2.1]; omega)
              have hxy : x < y := Ce.starts_lt hx hy (by omega)
              have hyn : y ≤ n := by rw [HS.out]; exact Ce.starts_le hy
              have hcl := Ce.cls_at (of := Pr.of Lr) (by rw [← HQ.out.2.1]; exact hoq) hx hy
              obtain ⟨k2, hk2⟩ := Ce.more_starts (B := Ml) hy
              rw [← HM.out.1] at hk2
              obtain ⟨g1, cap1, ev1, _, lg1, _, hc1⟩ := row_form H10.out.2.2.2.1 (by omega)
              have ea1 : aC = some ⟨g1, 0, none⟩ := by injection ev1
              subst ea1
              obtain ⟨k0, k1, k2', k3⟩ := ctC_at _ _ _ hcl
              have y0 := keep0 HG.out.1 ((hc1 (o * 4) (by omega)).trans k0)
              have y1 := keep0 HG.out.1 ((hc1 (o * 4 + 1) (by omega)).trans k1)
              have y2 := keep0 HG.out.1 ((hc1 (o * 4 + 2) (by omega)).trans k2')
              have y3 := keep0 HG.out.1 ((hc1 (o * 4 + 3) (by omega)).trans k3)
              obtain ⟨ct, hct⟩ : ∃ ct, ct = Ce.tog (Pr.of Lr) (Ce.seg S x y) := ⟨_, rfl⟩
              rw [← hct] at y0 y1 y2 y3
              have HCT : Hid (ct.len = Ce.lens (Ce.seg S x y) ∧ ct.cells = Ce.wide (Pr.of Lr) (Ce.seg S x y)) := by rw [hct]; exact ⟨rfl, rfl⟩
              obtain ⟨cp, cl, cc, ck⟩ := ct
              simp only at y0 y1 y2 y3 HCT
              have HY : Hid ((Ce.starts Mk S.length)[o + 1]? = some y ∧ (Ce.starts Mo S.length)[k2]? = some y) := ⟨hy, hk2⟩
              have lg1' : g1 < W.heap.size := Nat.lt_of_lt_of_le lg1 HG.out.1.size
              clear hx hy hcl hk2 ev1 hc1 k0 k1 k2' k3 hct
              go_wp2_with fail
              obtain ⟨W1, hW1⟩ : ∃ Z, Z = W.alloc (.cells #[.int .i64 (cp : Int), .int .i64 (cl : Int), .int .i64 cc, .int .u8 (ck : Int)] 48) := ⟨_, rfl⟩
              rw [← hW1]
              obtain ⟨Bc, hBc⟩ : ∃ b, b = W.heap.size := ⟨_, rfl⟩
              rw [← hBc]
              have HW1 : Hid (Only (fun _ => False) w10 W1 ∧ W1.heap[Bc]? = some (.cells #[.int .i64 (cp : Int), .int .i64 (cl : Int), .int .i64 cc, .int .u8 (ck : Int)] 48 (0, 0))) := by
                rw [hW1, hBc]
                exact ⟨HG.out.1.alloc _, heap_alloc_new W _⟩
              clear hW1 hBc y0 y1 y2 y3 lg1'
              go_loopg [23, 26, 27] (y - x) (fun gh v23 v26 v27 wr => ∃ (kq z le : Nat) (wi : Int) (V : World), V = wr ∧ gh = y - z ∧ x ≤ z ∧ z ≤ y ∧ kq ≤ r ∧ v23 = .int .i64 (kq : Int) ∧ v26 = .int .i64 (le : Int) ∧ v27 = .int .i64 wi ∧ (Ce.starts Mo S.length)[kq]? = some z ∧ le = Ce.lens (Ce.seg S x z) ∧ wi = Ce.wide (Pr.of Lr) (Ce.seg S x z) ∧ Only (fun _ => False) W1 V)
              case atStart => exact ⟨kk, x, 0, 0, _, rfl, rfl, Nat.le_refl _, by omega, hkr, rfl, rfl, rfl, HG.out.2.2, by rw [Ce.seg_self]; rfl, by rw [Ce.seg_self]; rfl, Only.refl _ _⟩
              case round =>
                obtain ⟨kq, z, le, wi, V, hV', rfl, hxz, hzy, hkqr, rfl, rfl, rfl, hkz, hle, hwi, hoV⟩ := hrel
                subst hV'
                have HV2 : Hid (Only (fun _ => False) w10 V ∧ Only (fun _ => False) W1 V ∧ (Ce.starts Mo S.length)[kq]? = some z ∧ le = Ce.lens (Ce.seg S x z) ∧ wi = Ce.wide (Pr.of Lr) (Ce.seg S x z)) := ⟨HW1.out.1.trans hoV, hoV, hkz, hle, hwi⟩
                have hle4 : le ≤ 8000 := by
                  have h1 := lens_small (S := Ce.seg S x z) (k := n) (fun s hs => (H4.out.2.1.seg x z s hs).2.2.2) (by rw [Ce.seg_len (by rw [← HS.out]; omega)]; omega)
                  omega
                have hwi0 : 0 ≤ wi := by rw [hwi]; exact Ce.wide_nn _ _
                have hwi2 : wi ≤ 2 := by rw [hwi]; exact Ce.wide_le _ _
                have pT := HTT.out V HV2.out.1 kq z hkz
                have pP := HP.out V HV2.out.1 (o + 1) y HY.out.1
                obtain ⟨o1, ho1⟩ : ∃ o1, o1 = o + 1 := ⟨_, rfl⟩
                have HO1' : Hid (o1 = o + 1) := ho1
                rw [← ho1] at pP
                have r4 : IntKind.i64.wrap ((o : Int) + 1) = (o1 : Int) := by rw [IntKind.wrap_i64]; omega
                have r5 : (o1 : Int) < (q1 : Int) := by have := HQ.out.1; omega
                have r6 : (kq : Int) < (r1 : Int) := by have := HR.out.1; omega
                have lgP' : gP < V.heap.size := World.block_lt_of_cell? V _ pP
                have lgT' : gT < V.heap.size := World.block_lt_of_cell? V _ pT
                clear hkz hle hwi hoV ho1
                by_cases hz : z < y
                · obtain ⟨hkl, z2, hz2, hzz, hz2y⟩ := Ce.starts_next HV2.out.2.2.1 HY.out.2 hz
                  have hkl' : kq < r := by rw [HR.out.2.1]; exact hkl
                  have r1' : (kq : Int) < (r : Int) := by omega
                  have r2 : (z : Int) < (y : Int) := by omega
                  have r2n : decide (z < y) = true := decide_eq_true hz
                  have hcl := Ce.cls_at (of := Pr.of Lr) hkl HV2.out.2.2.1 hz2
                  obtain ⟨g2, cap2, ev2, _, lg2, _, hc2⟩ := row_form H10.out.1 (by omega)
                  have ea2 : aD2 = some ⟨g2, 0, none⟩ := by injection ev2
                  subst ea2
                  obtain ⟨k0, k1, k2', k3⟩ := ctC_at _ _ _ hcl
                  have y1 := keep0 HV2.out.1 ((hc2 (kq * 4 + 1) (by omega)).trans k1)
                  have y2 := keep0 HV2.out.1 ((hc2 (kq * 4 + 2) (by omega)).trans k2')
                  unfold Ce.tog at y1 y2
                  obtain ⟨l2, hl2⟩ : ∃ l2, l2 = Ce.lens (Ce.seg S z z2) := ⟨_, rfl⟩
                  obtain ⟨w2', hw2⟩ : ∃ w2, w2 = Ce.wide (Pr.of Lr) (Ce.seg S z z2) := ⟨_, rfl⟩
                  have y1' : V.cell? ⟨g2, kq * 4 + 1, none⟩ = some (.int .i64 (l2 : Int)) := by rw [hl2]; exact y1
                  have y2' : V.cell? ⟨g2, kq * 4 + 2, none⟩ = some (.int .i64 w2') := by rw [hw2]; exact y2
                  have hl24 : l2 ≤ 8000 := by
                    rw [hl2]
                    have h1 := lens_small (S := Ce.seg S z z2) (k := n) (fun s hs => (H4.out.2.1.seg z z2 s hs).2.2.2) (by rw [Ce.seg_len (by rw [← HS.out]; omega)]; omega)
                    omega
                  have HZ2 : Hid ((Ce.starts Mo S.length)[kq + 1]? = some z2 ∧ le + l2 = Ce.lens (Ce.seg S x z2) ∧ max wi w2' = Ce.wide (Pr.of Lr) (Ce.seg S x z2)) := ⟨hz2, by rw [Ce.seg_join (b := z) hxz (by omega), Ce.lens_append, ← HV2.out.2.2.2.1, hl2], by rw [Ce.seg_join (b := z) hxz (by omega), Ce.wide_append, ← HV2.out.2.2.2.2, hw2]⟩
                  have lg2' : g2 < V.heap.size := Nat.lt_of_lt_of_le lg2 HV2.out.1.size
                  clear hkl hz2 hcl ev2 hc2 k0 k1 k2' k3 y1 y2 hl2 hw2
                  go_wp2_with fail
                  go_quiet (fail)
                  go_wp2_with fail
                  go_roundg (y - z2)
                  case measure => omega
                  case rel => exact ⟨kq + 1, z2, le + l2, max wi w2', _, rfl, rfl, by omega, hz2y, by omega, by go_num, by go_num, rfl, HZ2.out.1, HZ2.out.2.1.symm ▸ rfl, HZ2.out.2.2, by first | exact HV2.out.2.1.drewN _ | exact HV2.out.2.1⟩
                · have hzy2 : z = y := by omega
                  have hE1 : le = cl := by rw [HV2.out.2.2.2.1, hzy2]; exact HCT.out.1.symm
                  have hE2 : wi = cc := by rw [HV2.out.2.2.2.2, hzy2]; exact HCT.out.2.symm
                  have hbV := (HV2.out.2.1.block Bc (Array.getElem?_eq_some_iff.1 HW1.out.2).1 (fun h => h)).trans HW1.out.2
                  have d1 : V.cell? ⟨Bc, 1, none⟩ = some (.int .i64 (cl : Int)) := cell_blk hbV
                  have d2 : V.cell? ⟨Bc, 2, none⟩ = some (.int .i64 cc) := cell_blk hbV
                  have lBV : Bc < V.heap.size := (Array.getElem?_eq_some_iff.1 hbV).1
                  have HZY : Hid ((Ce.starts Mo S.length)[kq]? = some y) := by rw [← hzy2]; exact HV2.out.2.2.1
                  have r2 : decide ((z : Int) < (y : Int)) = false := decide_eq_false (by omega)
                  have r2n : decide (z < y) = false := decide_eq_false hz
                  subst hE1 hE2
                  clear hbV hzy2
                  by_cases hkr2 : kq < r
                  · have r1' : (kq : Int) < (r : Int) := by omega
                    go_wp2_with fail
                    go_quiet (fail)
                    go_wp2_with fail
                    go_roundg (q - (o + 1))
                    case measure => omega
                    case rel => exact ⟨o + 1, y, kq, _, rfl, rfl, by omega, rfl, by first | go_num | rw [HO1'.out], hkqr, HY.out.1, HZY.out, by first | exact HV2.out.1.drewN _ | exact HV2.out.1⟩
                  · have r1' : decide ((kq : Int) < (r : Int)) = false := decide_eq_false (by omega)
                    go_wp2_with fail
                    go_quiet (fail)
                    go_wp2_with fail
                    go_roundg (q - (o + 1))
                    case measure => omega
                    case rel => exact ⟨o + 1, y, kq, _, rfl, rfl, by omega, rfl, by first | go_num | rw [HO1'.out], hkqr, HY.out.1, HZY.out, by first | exact HV2.out.1.drewN _ | exact HV2.out.1⟩
            · have t3 : decide ((o : Int) < (q : Int)) = false := decide_eq_false (by omega)
              have hoq2 : o = q := by omega
              have hxn : x = S.length := by
                have h1 := Ce.starts_last Mk S.length
                rw [← HQ.out.2.1, ← hoq2, hx] at h1
                injection h1
              have hkE : kk = r := by
                have h1 := HG.out.2.2
                rw [hxn] at h1
                rw [HR.out.2.1]
                exact Ce.starts_end h1
              have u9 : ((kk : Int) == (r : Int)) = true := by rw [beq_iff_eq, hkE]
              have HOE : Hid (Only (fun _ => False) w W) := H4.out.2.2.2.1.trans (H10.out.2.2.1.trans HG.out.1)
              subst hoq2
              clear hxn hkE hx
              go_wp2_with fail
              go_ret
              exact ⟨rfl, HOE.out⟩
end Go.Proofs.Ytlcpfheocenjfaa.cellsFiner
namespace Go.Proofs.Ytlcpfheocenjfaa.cellsFiner
open Go.RowKit Go.Maps
set_option linter.unusedVariables false
set_option maxRecDepth 100000 in
set_option maxHeartbeats 4000000 in
theorem walk (L0 : List Nat) (a0 : Option Addr) (c0 : Nat) (Mk : List Nat) (aK : Option Addr) (cK : Nat) (Ml : List Nat) (aL : Option Addr) (cL : Nat) (X : List Nat) (aX : Option Addr) (cX : Nat) (w : World) (hV : Vw w a0 (u8s L0)) (hB : ∀ x ∈ L0, x < 256) (hs : L0.length ≤ 140737488351232) (hVK : Vw w aK (u8s Mk)) (hBK : ∀ x ∈ Mk, x < 256) (hsK : Mk.length ≤ 140737488351232) (hVL : Vw w aL (u8s Ml)) (hBL : ∀ x ∈ Ml, x < 256) (hsL : Ml.length ≤ 140737488351232) (hVX : Vw w aX (u8s X)) (hBX : ∀ x ∈ X, x < 256) (hsX : X.length ≤ 140737488351232) : Calls Try.prog 6 #[.slice a0 L0.length c0, .slice aK Mk.length cK, .slice aL Ml.length cL, .slice aX X.length cX] w fun e w' => e = .returned (.bool true) ∧ Only (fun _ => False) w w' := by
  by_cases h5 : L0.length ≤ 300
  · exact walk1 L0 a0 c0 Mk aK cK Ml aL cL X aX cX w hV hB h5 hVK hBK hsK hVL hBL hsL hVX hBX hsX
  · obtain ⟨n0, hn0⟩ : ∃ n, n = L0.length := ⟨_, rfl⟩
    rw [← hn0] at hs h5 ⊢
    have s0 : (300 : Int) < (n0 : Int) := by omega
    clear hV hB hVX hBX hn0 hVK hBK hVL hBL
    go_enter Try.func6, Try.ntmps6
    go_wp2_with (first | (go_at_call 13; refine (awake10_any _).mono ?_; rintro e w1 ⟨rfl, ho1⟩; have HO1 : Hid (Only (fun _ => False) w w1) := ho1; clear ho1) | fail)
    go_ret
    exact ⟨rfl, HO1.out⟩
end Go.Proofs.Ytlcpfheocenjfaa.cellsFiner
