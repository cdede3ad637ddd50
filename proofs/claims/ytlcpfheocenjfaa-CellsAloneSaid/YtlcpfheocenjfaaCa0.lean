/-
  stanzalaw10.CellsAlone: its walk.
-/
import Derived.Test.YtlcpfheocenjfaaWd
namespace Go.Proofs.Ytlcpfheocenjfaa.cellsAlone
open Go.RowKit Go.Maps
set_option linter.unusedVariables false
set_option linter.unusedSimpArgs false
set_option maxRecDepth 100000 in
set_option maxHeartbeats 4000000 in
theorem walk1 (L0 : List Nat) (a0 : Option Addr) (c0 : Nat) (X : List Nat) (aX : Option Addr) (cX : Nat) (w : World) (hV : Vw w a0 (u8s L0)) (hB : ∀ x ∈ L0, x < 256) (hs : L0.length ≤ 500) (hVX : Vw w aX (u8s X)) (hBX : ∀ x ∈ X, x < 256) (hsX : X.length ≤ 140737488351232) : Calls Try.prog 7 #[.slice a0 L0.length c0, .slice aX X.length cX] w fun e w' => e = .returned (.bool true) ∧ Only (fun _ => False) w w' := by
  obtain ⟨i3, g3, g30, g31, g32⟩ := info_parts info33
  have HV : Hid (Vw w a0 (u8s L0) ∧ (∀ x ∈ L0, x < 256) ∧ Vw w aX (u8s X) ∧ (∀ x ∈ X, x < 256)) := ⟨hV, hB, hVX, hBX⟩
  have HWO : Hid (∀ W, Only (fun _ => False) w W → Calls Try.prog 16 #[.slice a0 L0.length c0] W (woP L0.length W)) := fun W ho => words_any L0 a0 c0 W (hV.keep ho) hB (by omega)
  obtain ⟨n0, hn0⟩ : ∃ n, n = L0.length := ⟨_, rfl⟩
  obtain ⟨m, hm⟩ : ∃ m, m = X.length := ⟨_, rfl⟩
  have HN : Hid (n0 = L0.length ∧ m = X.length) := ⟨hn0, hm⟩
  rw [← hn0] at hs HWO ⊢
  rw [← hm] at hsX ⊢
  clear hV hB hVX hBX hn0 hm
  have s0 : decide ((500 : Int) < (n0 : Int)) = false := decide_eq_false (by omega)
  go_enter Try.func7, Try.ntmps7
  go_wp2_with (first | (go_at_call 13; refine (awake10_any _).mono ?_; rintro e w1 ⟨rfl, ho1⟩; have HO1 : Hid (Only (fun _ => False) w w1) := ho1; clear ho1) | fail)
  go_loopg [5, 27] m (fun gh v5 v24 wr => ∃ (k q : Nat) (a : Option Addr) (c : Nat) (W : World), W = wr ∧ gh = m - k ∧ k ≤ m ∧ v5 = .slice a q c ∧ v24 = .int .i64 (k : Int) ∧ q = (rl X k).length ∧ q ≤ 200 ∧ W.ownsRow w1.heap.size 45 3 (.slice a q c) q (rgCells (rl X k)) ∧ Only (fun b => w1.heap.size ≤ b) w1 W)
  case atStart => exact ⟨0, 0, none, 0, _, rfl, rfl, Nat.zero_le _, rfl, rfl, by rw [rl_zero]; rfl, Nat.zero_le _, by rw [rl_zero]; exact ⟨rfl, Or.inl ⟨rfl, rfl⟩⟩, Only.refl _ _⟩
  case round =>
    obtain ⟨k, q, a, c, W, hW, rfl, hk, rfl, rfl, hq, hq2, hown, hoW⟩ := hrel
    subst hW
    have HG : Hid (W.ownsRow w1.heap.size 45 3 (.slice a q c) q (rgCells (rl X k)) ∧ Only (fun b => w1.heap.size ≤ b) w1 W ∧ q = (rl X k).length) := ⟨hown, hoW, hq⟩
    have hsz := hoW.size
    clear hown hoW hq
    by_cases hlt : k < m
    · have t1 : (k : Int) < (m : Int) := by omega
      obtain ⟨x, hx⟩ : ∃ x, X[k]? = some x := ⟨_, List.getElem?_eq_getElem (by rw [← HN.out.2]; omega)⟩
      obtain ⟨b0, off, e0, hb0, hc⟩ := (HV.out.2.2.1.keep (HO1.out.trans (HG.out.2.1.old (fun b hb => Or.inl hb)))).cells (by rw [u8s_len, ← HN.out.2]; omega)
      subst e0
      have c1 := hc k _ (u8s_at hx)
      have hx8 : x < 256 := HV.out.2.2.2 x (List.mem_of_getElem? hx)
      by_cases h2 : k < 200
      · have t2 : (k : Int) < 200 := by omega
        obtain ⟨y, hy⟩ : ∃ y, y = x % 3 := ⟨_, rfl⟩
        have p2 : (x : Int).tmod 3 = (y : Int) := by rw [Int.tmod_eq_emod_of_nonneg (by omega)]; omega
        have hy3 : y < 3 := by omega
        have HT : Hid (rl X (k + 1) = rl X k ++ [⟨(k : Int), (k : Int), (y : Int)⟩]) := by rw [hy]; exact rl_yes h2 hx
        have HVA : Hid _ := rg1 W (k : Int) (k : Int) (y : Int)
        clear hx hc hy
        go_wp2_with (at_builtin; (refine wpList_append_lies _ rfl _ _ 23 rfl w1.heap.size 45 i3 (.agg #[.int .i32 0, .int .i32 0, .int .i64 0]) 3 16 Try.underlying23 g3 g30 g31 g32 rfl (by decide) (.slice a q c) q (rgCells (rl X k)) rfl (HG.out.1.alloc _) ⟨W.heap.size, 0, none⟩ 1 1 [.int .i32 (k : Int), .int .i32 (k : Int), .int .i64 (y : Int)] rfl rfl (World.news_of_block (cs := #[.int .i32 (k : Int), .int .i32 (k : Int), .int .i64 (y : Int)]) HVA.out.1) (fun u hu => by simp at hu; rcases hu with rfl | rfl | rfl <;> rfl) (by decide) (by unfold maxLen; omega) (by omega) (by rw [HVA.out.2]; omega) (W.heap.size + 1) HVA.out.2 ?_; intro g5 cap5 w5 hown5 hgrow5 hat5 hlt5; have hoo : Only (fun b => (Value.slice a q c).ownBlock = some b) W w5 := (((Only.refl (fun b => (Value.slice a q c).ownBlock = some b) W).alloc _)).grown hgrow5 (fun k hk => hk); have H5 : Hid (w5.ownsRow w1.heap.size 45 3 (.slice (some ⟨g5, 0, none⟩) (q + 1) cap5) (q + 1) (rgCells (rl X (k + 1))) ∧ Only (fun b => w1.heap.size ≤ b) w1 w5) := ⟨by rw [HT.out, rgC_snoc]; exact hown5, HG.out.2.1.trans (hoo.mono (fun b hb => (own_own HG.out.1 hb).1))⟩; clear hown5 hgrow5 hat5 hoo))
        go_roundg (m - (k + 1))
        case measure => omega
        case rel => exact ⟨k + 1, q + 1, _, _, _, rfl, rfl, by omega, rfl, by go_num, by rw [HT.out, List.length_append, ← HG.out.2.2]; rfl, by have := rl_len X k; have := HG.out.2.2; omega, H5.out.1, H5.out.2⟩
      · have t2 : decide ((k : Int) < 200) = false := decide_eq_false (by omega)
        have HT : Hid (rl X (k + 1) = rl X k) := rl_no (by omega)
        clear hx hc
        go_wp2_with fail
        go_roundg (m - (k + 1))
        case measure => omega
        case rel => exact ⟨k + 1, q, _, _, _, rfl, rfl, by omega, rfl, by go_num, by rw [HT.out, ← HG.out.2.2], hq2, by rw [HT.out]; exact HG.out.1, HG.out.2.1⟩
    · have t1 : decide ((k : Int) < (m : Int)) = false := decide_eq_false (by omega)
      have hkm : k = m := by omega
      subst hkm
      obtain ⟨Lr, hLr⟩ : ∃ Lr, Lr = rl X k := ⟨_, rfl⟩
      have HL : Hid (Pr.okFrom 3 (-1) Lr = true ∧ q = Lr.length) := ⟨by rw [hLr]; exact (rl_ok X k (by rw [HN.out.2]; exact Nat.le_refl _)).1, by rw [hLr]; exact HG.out.2.2⟩
      have HOW : Hid (Only (fun _ => False) w W) := HO1.out.trans (HG.out.2.1.old (fun b hb => Or.inl hb))
      have hT : Calls Try.prog 15 #[.slice a q c, .int .i64 3] W (tbP Lr W) := by
        have h1 := HG.out.1
        rw [← hLr, HL.out.2] at h1
        obtain ⟨a', g', cap', ev, hS, _⟩ := row_sees h1
        injection ev with e1 e2 e3
        subst e1 e3
        rw [HL.out.2]
        exact table_any Lr 3 a g' 0 c W hS (by rw [← HL.out.2]; omega) HL.out.1
      have HTT : Hid _ := hT
      clear hT hLr
      go_wp2_with (first | (go_at_call 15; refine Calls.mono HTT.out ?_; rintro e w2 ⟨T, rfl, hTb, ho2⟩; have H2 : Hid (Tab w2 W.heap.size T Lr ∧ Only (fun _ => False) w w2) := ⟨hTb, HOW.out.trans ho2⟩; clear hTb ho2) | (go_at_call 16; refine Calls.mono (HWO.out _ H2.out.2) ?_; rintro e w3 ⟨D, aD, cD, rfl, hD, hDB, hDl, ho3⟩; have hDc := own_le hD; have H3 : Hid (w3.ownsRow w2.heap.size 5 1 (.slice aD D.length cD) D.length (u8s D) ∧ (∀ x ∈ D, x < 256) ∧ D.length ≤ 4 * n0 ∧ Only (fun _ => False) w w3 ∧ Tab w3 W.heap.size T Lr) := ⟨hD, hDB, hDl, H2.out.2.trans ho3, H2.out.1.keep ho3⟩; clear hD hDB ho3) | (go_at_call 17; refine Calls.mono (all_signs D aD cD w3 (own_vw H3.out.1) H3.out.2.1 (by omega) hDc) ?_; rintro e w4 ⟨S, aS, cS, rfl, hS, hF, hR, hSl, ho4⟩; have hSc := own_le hS; have hScm := own_cap hS; have H4 : Hid (w4.ownsRow w3.heap.size 50 3 (.slice aS S.length cS) S.length (snC S) ∧ Fits S ∧ Row S 0 D.length ∧ Only (fun _ => False) w w4 ∧ Tab w4 W.heap.size T Lr ∧ w4.ownsRow w2.heap.size 5 1 (.slice aD D.length cD) D.length (u8s D)) := ⟨hS, hF, hR, H3.out.2.2.2.1.trans ho4, H3.out.2.2.2.2.keep ho4, own_only H3.out.1 ho4 (fun _ _ h => h)⟩; clear hS hF hR ho4) | fail)
      obtain ⟨n, hn⟩ : ∃ n, n = S.length := ⟨_, rfl⟩
      obtain ⟨nD, hnD⟩ : ∃ n, n = D.length := ⟨_, rfl⟩
      have HS : Hid (n = S.length ∧ nD = D.length) := ⟨hn, hnD⟩
      rw [run_make_row' (P := Try.prog) 38 54 (.int .u8 0) 1 Try.underlying38 info54 rfl .i64 .i64 S.length (by omega) (by omega) w4]
      have hn2000 : n ≤ 2000 := by omega
      rw [← hn] at hSc ⊢
      rw [← hnD]
      have HCE : Hid (∀ W, Only (fun _ => False) w4 W → ∀ (M : List Nat) (aM : Option Addr) (cM : Nat), Vw W aM (u8s M) → (∀ x ∈ M, x < 256) → M.length ≤ 2000 → Calls Try.prog 18 #[.slice aS n cS, .slice aM M.length cM, .pointer (some ⟨T, 0, none⟩)] W (ceP (Pr.of Lr) S M W)) := fun W ho M aM cM hVM hBM hlM => by
        rw [hn]
        exact cells_any 3 Lr _ T S M aS aM cS cM W (H4.out.2.2.2.2.1.keep ho) HL.out.1 ((own_vw H4.out.1).keep ho) H4.out.2.1 hVM hBM (by omega) (by unfold maxLen; omega) (by omega) hScm
      clear hn hnD hSl hDl hDc hScm
      obtain ⟨W5, hW5⟩ : ∃ Z, Z = w4.alloc (.cells (madeCells #[.int .u8 0] n) 54) := ⟨_, rfl⟩
      rw [← hW5]
      obtain ⟨B, hB⟩ : ∃ b, b = w4.heap.size := ⟨_, rfl⟩
      rw [← hB]
      have H5 : Hid (W5.heap[B]? = some (.cells (rowOf n (fun j => .int .u8 (if j < 0 then 1 else 0))) 54 (0, 0)) ∧ Only (fun b => B ≤ b) w4 W5 ∧ B = w4.heap.size) := by
        rw [hW5, hB]
        refine ⟨?_, (Only.refl _ _).alloc _, rfl⟩
        rw [heap_alloc_new, made_u8]
        rfl
      clear hW5 hB
      go_wp2_with fail
      go_loopg [62] n (fun gh v wr => ∃ (i : Nat) (W : World), W = wr ∧ gh = n - i ∧ i ≤ n ∧ v = .int .i64 (i : Int) ∧ W.heap[B]? = some (.cells (rowOf n (fun j => .int .u8 (if j < i then 1 else 0))) 54 (0, 0)) ∧ Only (fun b => B ≤ b) w4 W)
      case atStart => exact ⟨0, _, rfl, rfl, Nat.zero_le _, rfl, H5.out.1, H5.out.2.1⟩
      case round =>
        obtain ⟨i, W6, hW6, rfl, hi, rfl, hb6, ho6⟩ := hrel
        subst hW6
        have H6 : Hid (W6.heap[B]? = some (.cells (rowOf n (fun j => .int .u8 (if j < i then 1 else 0))) 54 (0, 0)) ∧ Only (fun b => B ≤ b) w4 W6) := ⟨hb6, ho6⟩
        have lB : B < W6.heap.size := (Array.getElem?_eq_some_iff.1 hb6).1
        by_cases hin : i < n
        · have t3 : (i : Int) < (n : Int) := by omega
          have d1 : W6.cell? ⟨B, i, none⟩ = some (.int .u8 0) := by
            rw [cell_blk hb6, rowOf_at _ hin, if_neg (Nat.lt_irrefl i)]
          have f1 : ∀ x, W6.frozen? ⟨B, x, none⟩ = false := fun x => fz_blk hb6 x
          clear hb6 ho6
          go_wp2_with fail
          go_roundg (n - (i + 1))
          case measure => omega
          case rel =>
            refine ⟨i + 1, _, rfl, rfl, by omega, by go_num, ?_, H6.out.2.setCell (p := ⟨B, i, none⟩) (Nat.le_refl B) _⟩
            rw [heap_setCell_at H6.out.1, rowOf_set]
            congr 2
            unfold rowOf
            congr 2
            funext j
            by_cases hj : j = i
            · rw [if_pos hj, if_pos (by omega)]
            · rw [if_neg hj]
              by_cases hj2 : j < i
              · rw [if_pos hj2, if_pos (by omega)]
              · rw [if_neg hj2, if_neg (by omega)]
        · have t3 : decide ((i : Int) < (n : Int)) = false := decide_eq_false (by omega)
          have hin2 : i = n := by omega
          subst hin2
          obtain ⟨M, hM⟩ : ∃ M : List Nat, M = List.replicate i 1 := ⟨_, rfl⟩
          have hO6 : Only (fun _ => False) w4 W6 := ho6.old (fun b hb => Or.inl (by have := H5.out.2.2; omega))
          have hVM : Vw W6 (some ⟨B, 0, none⟩) (u8s M) := vw_blk (t := 54) (by
            rw [hb6, hM]
            congr 2
            unfold rowOf
            congr 1
            apply List.ext_getElem?
            intro j
            by_cases hj : j < i
            · rw [List.getElem?_map, List.getElem?_range hj, u8s_at (x := 1) (by rw [List.getElem?_replicate, if_pos hj])]
              simp [hj]
            · rw [List.getElem?_eq_none (by simp; omega), List.getElem?_eq_none (by rw [u8s_len]; simp; omega)])
          have hMl : M.length = i := by rw [hM]; simp
          have HM : Hid (∀ j, j < S.length → M.getD j 0 ≠ 0) := fun j hj => by
            rw [hM, List.getD_eq_getElem?_getD, List.getElem?_replicate, if_pos (by rw [HS.out.1]; exact hj)]
            exact Nat.one_ne_zero
          have hC1 := HCE.out W6 hO6 M (some ⟨B, 0, none⟩) i hVM (fun x hx => by rw [hM] at hx; rw [(List.mem_replicate.1 hx).2]; omega) (by omega)
          rw [hMl] at hC1
          have HC1 : Hid _ := hC1
          have HO6 : Hid (Only (fun _ => False) w4 W6) := hO6
          have HST : Hid (Ce.starts M S.length = List.range (i + 1) ∧ (Ce.cls (Pr.of Lr) S M).length = i) := ⟨by rw [Ce.starts_all HM.out, HS.out.1], by rw [Ce.cls_len, Ce.st_all HM.out, HS.out.1]; simp⟩
          clear hb6 ho6 hC1 hO6 hVM hM hMl
          go_wp2_with fail
          refine Calls.mono HC1.out ?_
          rintro e w7 ⟨aC, aP, cC, cP, rfl, hcl, hst, ho7⟩
          rw [HST.out.1, HST.out.2] at *
          rw [show (List.range (i + 1)).length = i + 1 by simp] at *
          have H7 : Hid (w7.ownsRow W6.heap.size 48 4 (.slice aC i cC) i (ctC (Ce.cls (Pr.of Lr) S M)) ∧ w7.ownsRow W6.heap.size 3 1 (.slice aP (i + 1) cP) (i + 1) (natI (List.range (i + 1))) ∧ Only (fun _ => False) w4 w7) := ⟨hcl, hst, HO6.out.trans ho7⟩
          clear hcl hst ho7
          have hC2 : Calls Try.prog 18 #[.slice aS i cS, .slice none 0 0, .pointer (some ⟨T, 0, none⟩)] w7 (ceP (Pr.of Lr) S [] w7) := HCE.out w7 H7.out.2.2 [] none 0 (Vw.nil _ _) (fun x hx => absurd hx List.not_mem_nil) (Nat.zero_le _)
          have HC2 : Hid _ := hC2
          clear hC2
          go_wp2_with fail
          refine Calls.mono HC2.out ?_
          rintro e w8 ⟨aO, aT, cO, cT, rfl, hcl, hst, ho8⟩
          have H8 : Hid (w8.ownsRow w7.heap.size 48 4 (.slice aO (Ce.cls (Pr.of Lr) S []).length cO) (Ce.cls (Pr.of Lr) S []).length (ctC (Ce.cls (Pr.of Lr) S [])) ∧ Only (fun _ => False) w4 w8 ∧ w8.ownsRow W6.heap.size 48 4 (.slice aC i cC) i (ctC (Ce.cls (Pr.of Lr) S M)) ∧ w8.ownsRow W6.heap.size 3 1 (.slice aP (i + 1) cP) (i + 1) (natI (List.range (i + 1)))) := ⟨hcl, H7.out.2.2.trans ho8, own_only H7.out.1 ho8 (fun _ _ h => h), own_only H7.out.2.1 ho8 (fun _ _ h => h)⟩
          clear hcl hst ho8
          obtain ⟨q1, hq1⟩ : ∃ q1, q1 = (Ce.cls (Pr.of Lr) S []).length := ⟨_, rfl⟩
          obtain ⟨q2, hq2⟩ : ∃ q2, q2 = (Ce.starts [] S.length).length := ⟨_, rfl⟩
          rw [← hq1] at H8 ⊢
          rw [← hq2]
          have HQ : Hid (q2 = q1 + 1 ∧ (i = 0 → q1 = 0) ∧ (0 < i → q1 = 1)) := ⟨by rw [hq1, hq2, Ce.starts_len, Ce.cls_len], fun h => by rw [hq1, Ce.cls_len, ← HS.out.1, h]; rfl, fun h => by rw [hq1, Ce.cls_none (by rw [← HS.out.1]; exact h)]; rfl⟩
          have hq12 : q2 = q1 + 1 := HQ.out.1
          have u1 : min (i : Int) 1 = (q1 : Int) := by
            by_cases h0 : i = 0
            · have := HQ.out.2.1 h0; omega
            · have := HQ.out.2.2 (by omega); omega
          clear hq1 hq2
          obtain ⟨i1, hi1⟩ : ∃ i1, i1 = i + 1 := ⟨_, rfl⟩
          have u2 : ((i1 : Int) != (i : Int) + 1) = false := by simp; omega
          have u3 : ((q2 : Int) != (q1 : Int) + 1) = false := by simp; omega
          rw [← hi1] at H8 ⊢
          have HI1 : Hid (i1 = i + 1) := hi1
          clear hi1 hq12 t3
          go_wp2_with fail
          go_loopg [113] i (fun gh v wr => ∃ (j : Nat) (W : World), W = wr ∧ gh = i - j ∧ j ≤ i ∧ v = .int .i64 (j : Int) ∧ Only (fun _ => False) w8 W)
          case atStart => exact ⟨0, _, rfl, rfl, Nat.zero_le _, rfl, Only.refl _ _⟩
          case round =>
            obtain ⟨j, W9, hW9, rfl, hj, rfl, ho9⟩ := hrel
            subst hW9
            have HO9 : Hid (Only (fun _ => False) w8 W9) := ho9
            clear ho9
            by_cases hji : j < i
            · have t5 : (j : Int) < (i : Int) := by omega
              have t6 : (j : Int) < (i1 : Int) := by have := HI1.out; omega
              obtain ⟨s, hs'⟩ : ∃ s, S[j]? = some s := ⟨_, List.getElem?_eq_getElem (by rw [← HS.out.1]; exact hji)⟩
              have hcl := Ce.cls_all (of := Pr.of Lr) HM.out hs'
              obtain ⟨f1, f2, f3, f4⟩ := H4.out.2.1 s (List.mem_of_getElem? hs')
              have hw1 : Ce.wide (Pr.of Lr) [s] = Pr.of Lr s.r := wide_one (Pr.of_range HL.out.1).1 (of_lt HL.out.1 (by omega))
              obtain ⟨bS, oS, e0, hbS, v0, v1, v2⟩ := (own_vw H4.out.1).sign hs'
              subst e0
              have x0 := keep0 (H8.out.2.1.trans HO9.out) v0
              have x1 := keep0 (H8.out.2.1.trans HO9.out) v1
              have x2 := keep0 (H8.out.2.1.trans HO9.out) v2
              obtain ⟨g1, cap1, ev1, _, lg1, _, hc1⟩ := row_form H8.out.2.2.1 (by omega)
              have ea1 : aC = some ⟨g1, 0, none⟩ := by injection ev1
              subst ea1
              obtain ⟨k0, k1, k2, k3⟩ := ctC_at _ _ _ hcl
              have y0 := keep0 HO9.out ((hc1 (j * 4) (by omega)).trans k0)
              have y1 := keep0 HO9.out ((hc1 (j * 4 + 1) (by omega)).trans k1)
              have y2 := keep0 HO9.out ((hc1 (j * 4 + 2) (by omega)).trans k2)
              have y3 := keep0 HO9.out ((hc1 (j * 4 + 3) (by omega)).trans k3)
              obtain ⟨g2, cap2, ev2, lg2, _, hc2⟩ := own_cells H8.out.2.2.2 (by omega)
              have ea2 : aP = some ⟨g2, 0, none⟩ := by injection ev2
              subst ea2
              have z1 := keep0 HO9.out (hc2 j _ (natI_get (x := j) (by rw [List.getElem?_range (by omega)])))
              have HOF : Hid (∀ W, Only (fun _ => False) W9 W → Calls Try.prog 23 #[.pointer (some ⟨T, 0, none⟩), .int .i32 s.r] W fun e w' => e = .returned (.int .i64 (Pr.of Lr s.r)) ∧ w' = W) := fun W ho => of_any 3 Lr s.r _ T W (H4.out.2.2.2.2.1.keep (H8.out.2.1.trans (HO9.out.trans ho))) HL.out.1 f1 f2
              unfold Ce.tog at y0 y1 y2 y3
              simp only [Ce.lens, Nat.add_zero] at y0 y1 y2 y3
              rw [hw1] at y2
              obtain ⟨y, hy⟩ : ∃ y, y = Pr.of Lr s.r := ⟨_, rfl⟩
              rw [← hy] at y2 HOF
              obtain ⟨kk, hkk⟩ : ∃ kk, kk = Ce.kind [s] := ⟨_, rfl⟩
              rw [← hkk] at y3
              obtain ⟨sr, sp, sl⟩ := s
              simp only at x0 x1 x2 HOF
              have y0' : W9.cell? ⟨g1, j * 4, none⟩ = some (.int .i64 (sp : Int)) := y0
              have y1' : W9.cell? ⟨g1, j * 4 + 1, none⟩ = some (.int .i64 (sl : Int)) := y1
              have lg1' : g1 < W9.heap.size := Nat.lt_of_lt_of_le lg1 HO9.out.size
              have lg2' : g2 < W9.heap.size := Nat.lt_of_lt_of_le lg2 HO9.out.size
              have lbS : bS < W9.heap.size := World.block_lt_of_cell? W9 _ x0
              clear hs' hcl f1 f2 f3 f4 hw1 v0 v1 v2 ev1 hc1 k0 k1 k2 k3 ev2 hc2 hy hkk y0 y1
              go_wp2_with fail
              go_quiet ((go_at_call 23; exact Calls.quiet_of_same (HOF.out _ (by first | exact ((Only.refl _ _).alloc _).drewN _ | exact (Only.refl _ _).alloc _))))
              go_wp2_with fail
              go_roundg (i - (j + 1))
              case measure => omega
              case rel => exact ⟨j + 1, _, rfl, rfl, by omega, by go_num, (HO9.out.alloc _).drewN _⟩
            · have t5 : decide ((j : Int) < (i : Int)) = false := decide_eq_false (by omega)
              have hjj : j = i := by omega
              subst hjj
              have HOE : Hid (Only (fun _ => False) w W9) := H4.out.2.2.2.1.trans (H8.out.2.1.trans HO9.out)
              by_cases h0 : j = 0
              · have e1 : q1 = 0 := HQ.out.2.1 h0
                have u4 : ((q1 : Int) == 0) = true := by rw [beq_iff_eq]; omega
                clear h0 e1 u1
                go_wp2_with fail
                go_ret
                exact ⟨rfl, HOE.out⟩
              · have e1 : q1 = 1 := HQ.out.2.2 (by omega)
                subst e1
                have hcl : Ce.cls (Pr.of Lr) S [] = [Ce.tog (Pr.of Lr) S] := Ce.cls_none (by rw [← HS.out.1]; omega)
                obtain ⟨g1, cap1, ev1, _, lg1, _, hc1⟩ := row_form H8.out.1 (by omega)
                have ea1 : aO = some ⟨g1, 0, none⟩ := by injection ev1
                subst ea1
                rw [hcl] at hc1
                obtain ⟨s, hs'⟩ : ∃ s, S[0]? = some s := ⟨_, List.getElem?_eq_getElem (by rw [← HS.out.1]; omega)⟩
                have hp : s.pl = 0 := row_first H4.out.2.2.1 hs'
                have hlN : Ce.lens S = nD := by have := row_lens H4.out.2.2.1; rw [HS.out.2]; omega
                have y0 : W9.cell? ⟨g1, 0, none⟩ = some (.int .i64 0) := keep0 HO9.out ((hc1 0 (by omega)).trans (by unfold Ce.tog; rw [hs']; show some (Value.int .i64 (s.pl : Int)) = _; rw [hp]; rfl))
                have y1 : W9.cell? ⟨g1, 1, none⟩ = some (.int .i64 (nD : Int)) := keep0 HO9.out ((hc1 1 (by omega)).trans (by rw [← hlN]; rfl))
                have lg1' : g1 < W9.heap.size := Nat.lt_of_lt_of_le lg1 HO9.out.size
                clear hcl ev1 hc1 hs' hp hlN u1
                go_wp2_with fail
                go_ret
                exact ⟨rfl, HOE.out⟩
end Go.Proofs.Ytlcpfheocenjfaa.cellsAlone
namespace Go.Proofs.Ytlcpfheocenjfaa.cellsAlone
open Go.RowKit Go.Maps
set_option linter.unusedVariables false
set_option maxRecDepth 100000 in
set_option maxHeartbeats 4000000 in
theorem walk (L0 : List Nat) (a0 : Option Addr) (c0 : Nat) (X : List Nat) (aX : Option Addr) (cX : Nat) (w : World) (hV : Vw w a0 (u8s L0)) (hB : ∀ x ∈ L0, x < 256) (hs : L0.length ≤ 140737488351232) (hVX : Vw w aX (u8s X)) (hBX : ∀ x ∈ X, x < 256) (hsX : X.length ≤ 140737488351232) : Calls Try.prog 7 #[.slice a0 L0.length c0, .slice aX X.length cX] w fun e w' => e = .returned (.bool true) ∧ Only (fun _ => False) w w' := by
  by_cases h5 : L0.length ≤ 500
  · exact walk1 L0 a0 c0 X aX cX w hV hB h5 hVX hBX hsX
  · obtain ⟨n0, hn0⟩ : ∃ n, n = L0.length := ⟨_, rfl⟩
    rw [← hn0] at hs h5 ⊢
    have s0 : (500 : Int) < (n0 : Int) := by omega
    clear hV hB hVX hBX hn0
    go_enter Try.func7, Try.ntmps7
    go_wp2_with (first | (go_at_call 13; refine (awake10_any _).mono ?_; rintro e w1 ⟨rfl, ho1⟩; have HO1 : Hid (Only (fun _ => False) w w1) := ho1; clear ho1) | fail)
    go_ret
    exact ⟨rfl, HO1.out⟩
end Go.Proofs.Ytlcpfheocenjfaa.cellsAlone
