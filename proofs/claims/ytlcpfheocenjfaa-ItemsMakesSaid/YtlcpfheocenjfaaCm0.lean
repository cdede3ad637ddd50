/-
  stanzalaw10.CellsMakes: its walk.
-/
import Derived.Test.YtlcpfheocenjfaaAw0
import Derived.Test.YtlcpfheocenjfaaWs
import Derived.Test.YtlcpfheocenjfaaAl
import Derived.Test.YtlcpfheocenjfaaRc
import Derived.Test.YtlcpfheocenjfaaSm
namespace Go.Proofs.Ytlcpfheocenjfaa.cellsMakes
open Go.RowKit Go.Maps
set_option linter.unusedVariables false
set_option linter.unusedSimpArgs false
theorem ok_more {L : List Rg} {m m' a : Int} (h : Pr.okFrom m a L = true) (hm : m ≤ m') : Pr.okFrom m' a L = true := by
  induction L generalizing a with
  | nil => rfl
  | cons x L ih =>
    obtain ⟨⟨h1, h2, h3, h4, h5, h6⟩, h7⟩ := Pr.ok_cons.1 h
    exact Pr.ok_cons.2 ⟨⟨h1, h2, h3, h4, by omega, h6⟩, ih h7⟩
theorem own_cap' {w : World} {base e size n c : Nat} {a : Option Addr} {xs : List Value} (h : w.ownsRow base e size (.slice a n c) n xs) : c ≤ maxLen := by
  obtain ⟨_, ⟨hv, h0⟩ | ⟨g, cap, cur, hv, _, _, h1, h2, _⟩⟩ := h
  · injection hv with _ _ e; rw [e]; exact Nat.zero_le _
  · injection hv with _ _ e; rw [e]; exact h2
set_option maxRecDepth 100000 in
set_option maxHeartbeats 8000000 in
theorem walk1 (L0 : List Nat) (a0 : Option Addr) (c0 : Nat) (L1 : List Nat) (a1 : Option Addr) (c1 : Nat) (Mk : List Nat) (aK : Option Addr) (cK : Nat) (R : List Rg) (aR : Option Addr) (bR oR cR : Nat) (w : World) (hV : Vw w a0 (u8s L0)) (hB : ∀ x ∈ L0, x < 256) (hs : L0.length ≤ 2000) (hc0 : L0.length ≤ c0) (hV1 : Vw w a1 (u8s L1)) (hB1 : ∀ x ∈ L1, x < 256) (hs1 : L1.length ≤ 500) (hVK : Vw w aK (u8s Mk)) (hBK : ∀ x ∈ Mk, x < 256) (hsK : Mk.length ≤ 140737488351232) (hR : Sees w R aR bR oR cR) (hFR : Fit R) : Calls Try.prog 3 #[.slice a0 L0.length c0, .slice a1 L1.length c1, .slice aK Mk.length cK, .slice aR R.length cR] w fun e w' => e = .returned (.bool true) ∧ Only (fun _ => False) w w' := by
  have HOP : Hid (∀ W, Only (fun _ => False) w W → Calls Try.prog 19 #[.slice aK Mk.length cK] W (opP Mk W)) := fun W ho => opps_any Mk aK cK W (hVK.keep ho) hBK (by omega)
  have HRI : Hid (∀ W, Only (fun _ => False) w W → Calls Try.prog 14 #[.slice aR R.length cR, .int .i64 5] W fun e w' => ∃ (M : List Rg) (v : Value), e = .returned v ∧ w'.ownsRow W.heap.size 45 3 v M.length (rgCells M) ∧ M.length ≤ 200 ∧ Pr.okFrom 5 (-1) M = true ∧ Below W.heap.size W w') := fun W ho => right_any R 5 aR bR oR cR W (hR.keep ho) hFR (by omega) (by omega)
  have HWO : Hid (∀ W, Only (fun _ => False) w W → Calls Try.prog 16 #[.slice a1 L1.length c1] W (woP L1.length W)) := fun W ho => words_any L1 a1 c1 W (hV1.keep ho) hB1 (by omega)
  have HV0 : Hid (Vw w a0 (u8s L0) ∧ (∀ x ∈ L0, x < 256) ∧ (∀ x ∈ Mk, x < 256)) := ⟨hV, hB, hBK⟩
  unfold opP at HOP
  obtain ⟨n0, hn0⟩ : ∃ n, n = L0.length := ⟨_, rfl⟩
  obtain ⟨n1, hn1⟩ : ∃ n, n = L1.length := ⟨_, rfl⟩
  obtain ⟨nK, hnK⟩ : ∃ n, n = Mk.length := ⟨_, rfl⟩
  obtain ⟨nR, hnR⟩ : ∃ n, n = R.length := ⟨_, rfl⟩
  have HN : Hid (n0 = L0.length ∧ n1 = L1.length ∧ nK = Mk.length) := ⟨hn0, hn1, hnK⟩
  rw [← hn0] at hs hc0 ⊢
  rw [← hn1] at hs1 HWO ⊢
  rw [← hnK] at hsK HOP ⊢
  rw [← hnR] at HRI ⊢
  clear hV hB hV1 hB1 hVK hBK hR hFR hn0 hn1 hnK hnR
  have s0 : decide ((2000 : Int) < (n0 : Int)) = false := decide_eq_false (by omega)
  have s1 : decide ((500 : Int) < (n1 : Int)) = false := decide_eq_false (by omega)
  go_enter Try.func3, Try.ntmps3
  go_wp2_with (first | (go_at_call 13; refine (awake10_any _).mono ?_; rintro e w1 ⟨rfl, ho1⟩; have HO1 : Hid (Only (fun _ => False) w w1) := ho1; clear ho1) | fail)
  refine Calls.mono (HRI.out _ HO1.out) ?_
  rintro e w2 ⟨Lr, vr, rfl, hown2, hL200, hok2, hb2⟩
  obtain ⟨aL, gL, capL, rfl, hSL, _, _⟩ := row_sees hown2
  obtain ⟨nl, hnl⟩ : ∃ n, n = Lr.length := ⟨_, rfl⟩
  have H2 : Hid (Sees w2 Lr aL gL 0 capL ∧ Pr.okFrom 5 (-1) Lr = true ∧ Only (fun _ => False) w w2 ∧ nl = Lr.length) := ⟨hSL, hok2, HO1.out.trans (only_below hb2), hnl⟩
  have HTB : Hid (Calls Try.prog 15 #[.slice aL nl capL, .int .i64 5] w2 (tbP Lr w2)) := by
    rw [hnl]
    exact table_any Lr 5 aL gL 0 capL w2 hSL (by omega) hok2
  rw [← hnl] at hL200 ⊢
  clear hown2 hok2 hb2 hSL hnl
  go_wp2_with fail
  refine Calls.mono HTB.out ?_
  rintro e w3 ⟨T, rfl, hTb, ho3⟩
  have H3 : Hid (Tab w3 w2.heap.size T Lr ∧ Only (fun _ => False) w w3 ∧ Sees w3 Lr aL gL 0 capL) := ⟨hTb, H2.out.2.2.1.trans ho3, H2.out.1.keep ho3⟩
  clear hTb ho3
  go_wp2_with fail
  refine Calls.mono (HWO.out _ H3.out.2.1) ?_
  rintro e w4 ⟨D, aD, cD, rfl, hD, hDB, hDl, ho4⟩
  have hDc := own_le hD
  obtain ⟨nD, hnD⟩ : ∃ n, n = D.length := ⟨_, rfl⟩
  have H4 : Hid (Vw w4 aD (u8s D) ∧ (∀ x ∈ D, x < 256) ∧ D.length ≤ 4 * n1 ∧ Only (fun _ => False) w w4 ∧ Tab w4 w2.heap.size T Lr ∧ Sees w4 Lr aL gL 0 capL ∧ nD = D.length) := ⟨own_vw hD, hDB, hDl, H3.out.2.1.trans ho4, H3.out.1.keep ho4, H3.out.2.2.keep ho4, hnD⟩
  rw [← hnD] at hDl hDc ⊢
  clear hD hDB ho4 hnD
  go_wp2_with fail
  obtain ⟨W5, hW5⟩ : ∃ Z, Z = w4.alloc (.cells #[.slice a0 n0 c0, .slice aD nD cD] 22) := ⟨_, rfl⟩
  rw [← hW5]
  obtain ⟨Bb, hBb⟩ : ∃ b, b = w4.heap.size := ⟨_, rfl⟩
  rw [← hBb]
  have hO5 : Only (fun _ => False) w4 W5 := by rw [hW5]; exact (Only.refl _ _).alloc _
  have hb5 : W5.heap[Bb]? = some (.cells #[.slice a0 n0 c0, .slice aD nD cD] 22 (0, 0)) := by rw [hW5, hBb]; exact heap_alloc_new w4 _
  have H5 : Hid (Only (fun _ => False) w W5 ∧ Tab W5 w2.heap.size T Lr ∧ Sees W5 Lr aL gL 0 capL) := ⟨H4.out.2.2.2.1.trans hO5, H4.out.2.2.2.2.1.keep hO5, H4.out.2.2.2.2.2.1.keep hO5⟩
  have HD : Hid (∀ j : Nat, j < 2 → ∃ (E : List Nat) (aE : Option Addr) (cE : Nat), E.length ≤ 2000 ∧ E.length ≤ cE ∧ (∀ x ∈ E, x < 256) ∧ ∀ W, Only (fun _ => False) W5 W → W.cell? ⟨Bb, j, none⟩ = some (.slice aE E.length cE) ∧ Vw W aE (u8s E)) := fun j hj => by
    match j, hj with
    | 0, _ => exact ⟨L0, a0, c0, by rw [← HN.out.1]; exact hs, by rw [← HN.out.1]; exact hc0, HV0.out.2.1, fun W ho => ⟨keep0 ho ((cell_blk hb5).trans (by rw [← HN.out.1]; rfl)), HV0.out.1.keep ((H4.out.2.2.2.1.trans hO5).trans ho)⟩⟩
    | 1, _ => exact ⟨D, aD, cD, by rw [← H4.out.2.2.2.2.2.2]; omega, by rw [← H4.out.2.2.2.2.2.2]; exact hDc, H4.out.2.1, fun W ho => ⟨keep0 ho ((cell_blk hb5).trans (by rw [← H4.out.2.2.2.2.2.2]; rfl)), H4.out.1.keep (hO5.trans ho)⟩⟩
  have lB5 : Bb < W5.heap.size := (Array.getElem?_eq_some_iff.1 hb5).1
  clear hW5 hBb hO5 hb5
  go_loopg [43] 2 (fun gh v wr => ∃ (j : Nat) (W : World), W = wr ∧ gh = 2 - j ∧ j ≤ 2 ∧ v = .int .i64 (j : Int) ∧ Only (fun _ => False) W5 W)
  case atStart => exact ⟨0, _, rfl, rfl, Nat.zero_le _, rfl, Only.refl _ _⟩
  case round =>
    obtain ⟨j, W6, hW6, rfl, hj, rfl, ho6⟩ := hrel
    subst hW6
    have HO6 : Hid (Only (fun _ => False) W5 W6) := ho6
    have lB6 : Bb < W6.heap.size := Nat.lt_of_lt_of_le lB5 ho6.size
    clear ho6
    by_cases hj2 : j < 2
    · have t1 : (j : Int) < 2 := by omega
      obtain ⟨E, aE, cE, hE1, hE2, hE3, hE4⟩ := HD.out j hj2
      obtain ⟨cB, hVE⟩ := hE4 W6 HO6.out
      have HAL : Hid (Calls Try.prog 17 #[.slice aE E.length cE] W6 (alP E.length W6)) := all_signs E aE cE W6 hVE hE3 (by omega) hE2
      have hE5 : E.length ≤ 2000 := hE1
      clear hE1 hE2 hE3 hE4 hVE
      go_wp2_with fail
      refine Calls.mono HAL.out ?_
      rintro e w7 ⟨S, aS, cS, rfl, hS, hF, hR, hSl, ho7⟩
      have hSc := own_le hS
      have hScm := own_cap' hS
      obtain ⟨n, hn⟩ : ∃ n, n = S.length := ⟨_, rfl⟩
      have H7 : Hid (w7.ownsRow W6.heap.size 50 3 (.slice aS S.length cS) S.length (snC S) ∧ Fits S ∧ Only (fun _ => False) W5 w7 ∧ n = S.length) := ⟨hS, hF, HO6.out.trans ho7, hn⟩
      have hn2000 : n ≤ 2000 := by omega
      rw [← hn] at hSc ⊢
      have HCE : Hid (∀ W, Only (fun _ => False) w7 W → ∀ (aM : Option Addr) (cM : Nat), Vw W aM (u8s Mk) → Calls Try.prog 18 #[.slice aS n cS, .slice aM nK cM, .pointer (some ⟨T, 0, none⟩)] W (ceP (Pr.of Lr) S Mk W)) := fun W ho aM cM hVM => by
        rw [hn, HN.out.2.2]
        exact cells_any 5 Lr _ T S Mk aS aM cS cM W (H5.out.2.1.keep (H7.out.2.2.1.trans ho)) H2.out.2.1 ((own_vw hS).keep ho) hF hVM HV0.out.2.2 (by omega) (by rw [← HN.out.2.2]; unfold maxLen; omega) (by omega) hScm
      have HRE : Hid (∀ W, Only (fun _ => False) w7 W → ∀ (aM : Option Addr) (cM : Nat), Vw W aM (u8s Mk) → Calls Try.prog 20 #[.slice aS n cS, .slice aM nK cM, .slice aL nl capL] W (ceP (Pr.of Lr) S Mk W)) := fun W ho aM cM hVM => by
        rw [hn, HN.out.2.2, H2.out.2.2.2]
        exact refClusters_any Lr S Mk aS aM aL cS cM gL 0 capL W (H5.out.2.2.keep (H7.out.2.2.1.trans ho)) (by rw [← H2.out.2.2.2]; omega) (ok_more H2.out.2.1 (by omega)) ((own_vw hS).keep ho) hF hVM HV0.out.2.2 (by omega) (by rw [← HN.out.2.2]; unfold maxLen; omega)
      clear hS hF hR ho7 hSl hScm hn cB
      go_wp2_with fail
      refine Calls.mono (HOP.out _ (H5.out.1.trans H7.out.2.2.1)) ?_
      rintro e w8 ⟨aA, cA, rfl, hA, ho8⟩
      have H8 : Hid (Vw w8 aA (u8s Mk) ∧ Only (fun _ => False) w7 w8) := ⟨own_vw hA, ho8⟩
      clear hA ho8
      go_wp2_with fail
      refine Calls.mono (HCE.out w8 H8.out.2 aA cA H8.out.1) ?_
      rintro e w9 ⟨aC, aP, cC, cP, rfl, hcl, hst, ho9⟩
      obtain ⟨q, hq⟩ : ∃ q, q = (Ce.cls (Pr.of Lr) S Mk).length := ⟨_, rfl⟩
      obtain ⟨q1, hq1⟩ : ∃ q1, q1 = (Ce.starts Mk S.length).length := ⟨_, rfl⟩
      have H9 : Hid (w9.ownsRow w8.heap.size 48 4 (.slice aC q cC) q (ctC (Ce.cls (Pr.of Lr) S Mk)) ∧ w9.ownsRow w8.heap.size 3 1 (.slice aP q1 cP) q1 (natI (Ce.starts Mk S.length)) ∧ Only (fun _ => False) w7 w9 ∧ q = (Ce.cls (Pr.of Lr) S Mk).length ∧ q1 = (Ce.starts Mk S.length).length ∧ q ≤ 2000 ∧ q1 ≤ 2001) := ⟨by rw [hq]; exact hcl, by rw [hq1]; exact hst, H8.out.2.trans ho9, hq, hq1, by have := Ce.st_len Mk S.length; rw [hq, Ce.cls_len]; have := H7.out.2.2.2; omega, by have := Ce.st_len Mk S.length; rw [hq1, Ce.starts_len]; have := H7.out.2.2.2; omega⟩
      rw [← hq, ← hq1]
      clear hcl hst ho9
      have HHQ : Hid (q = (Ce.cls (Pr.of Lr) S Mk).length ∧ q1 = (Ce.starts Mk S.length).length) := ⟨hq, hq1⟩
      clear hq hq1
      go_wp2_with fail
      refine Calls.mono (HOP.out _ (H5.out.1.trans (H7.out.2.2.1.trans H9.out.2.2.1))) ?_
      rintro e w10 ⟨aB, cB, rfl, hA, ho10⟩
      have H10 : Hid (Vw w10 aB (u8s Mk) ∧ Only (fun _ => False) w9 w10) := ⟨own_vw hA, ho10⟩
      clear hA ho10
      go_wp2_with fail
      refine Calls.mono (HRE.out w10 (H9.out.2.2.1.trans H10.out.2) aB cB H10.out.1) ?_
      rintro e w11 ⟨aX, aY, cX, cY, rfl, hcl, hst, ho11⟩
      rw [← HHQ.out.1] at hcl ⊢
      rw [← HHQ.out.2] at hst ⊢
      have HO11 : Hid (Only (fun _ => False) w9 w11) := H10.out.2.trans ho11
      have HSM : Hid (∀ W, Only (fun _ => False) w11 W → Calls Try.prog 21 #[.slice aC q cC, .slice aX q cX] W fun e w' => e = .returned (.bool true) ∧ Only (fun _ => False) W w') := fun W ho => by
        have h1 := own_vw H9.out.1
        have h2 := own_vw hcl
        rw [HHQ.out.1]
        exact same_any (Ce.cls (Pr.of Lr) S Mk) aC aX cC cX W (h1.keep (HO11.out.trans ho)) (h2.keep ho) (by rw [← HHQ.out.1]; have := H9.out.2.2.2.2.2.1; omega)
      have HSN : Hid (∀ W, Only (fun _ => False) w11 W → Calls Try.prog 22 #[.slice aP q1 cP, .slice aY q1 cY] W fun e w' => e = .returned (.bool true) ∧ ∃ n, w' = W.drewN n) := fun W ho => by
        have h1 := own_only (own_only H9.out.2.1 HO11.out (fun _ _ h => h)) ho (fun _ _ h => h)
        have h2 := own_only hst ho (fun _ _ h => h)
        rw [HHQ.out.2] at h1 h2 ⊢
        exact sameNats_any (Ce.starts Mk S.length) _ _ aP aY cP cY W h1 h2 (by rw [← HHQ.out.2]; have := H9.out.2.2.2.2.2.2; omega)
      clear hcl hst ho11
      go_wp2_with fail
      refine Calls.mono (HSM.out w11 (Only.refl _ _)) ?_
      rintro e w12 ⟨rfl, ho12⟩
      have HO12 : Hid (Only (fun _ => False) w11 w12) := ho12
      clear ho12
      go_wp2_with fail
      refine Calls.mono (HSN.out w12 HO12.out) ?_
      rintro e w13 ⟨rfl, n13, rfl⟩
      go_wp2_with fail
      go_roundg (2 - (j + 1))
      case measure => omega
      case rel => exact ⟨j + 1, _, rfl, rfl, by omega, by go_num, (H7.out.2.2.1.trans (H9.out.2.2.1.trans (HO11.out.trans HO12.out))).drewN _⟩
    · have t1 : decide ((j : Int) < 2) = false := decide_eq_false (by omega)
      have hjj : j = 2 := by omega
      subst hjj
      have HOE : Hid (Only (fun _ => False) w W6) := H5.out.1.trans HO6.out
      go_wp2_with fail
      go_ret
      exact ⟨rfl, HOE.out⟩
end Go.Proofs.Ytlcpfheocenjfaa.cellsMakes
namespace Go.Proofs.Ytlcpfheocenjfaa.cellsMakes
open Go.RowKit Go.Maps
set_option linter.unusedVariables false
set_option maxRecDepth 100000 in
set_option maxHeartbeats 4000000 in
theorem walk (L0 : List Nat) (a0 : Option Addr) (c0 : Nat) (L1 : List Nat) (a1 : Option Addr) (c1 : Nat) (Mk : List Nat) (aK : Option Addr) (cK : Nat) (R : List Rg) (aR : Option Addr) (bR oR cR : Nat) (w : World) (hV : Vw w a0 (u8s L0)) (hB : ∀ x ∈ L0, x < 256) (hs : L0.length ≤ 140737488351232) (hc0 : L0.length ≤ c0) (hV1 : Vw w a1 (u8s L1)) (hB1 : ∀ x ∈ L1, x < 256) (hs1 : L1.length ≤ 140737488351232) (hVK : Vw w aK (u8s Mk)) (hBK : ∀ x ∈ Mk, x < 256) (hsK : Mk.length ≤ 140737488351232) (hR : Sees w R aR bR oR cR) (hFR : Fit R) : Calls Try.prog 3 #[.slice a0 L0.length c0, .slice a1 L1.length c1, .slice aK Mk.length cK, .slice aR R.length cR] w fun e w' => e = .returned (.bool true) ∧ Only (fun _ => False) w w' := by
  by_cases h5 : L0.length ≤ 2000
  · by_cases h6 : L1.length ≤ 500
    · exact walk1 L0 a0 c0 L1 a1 c1 Mk aK cK R aR bR oR cR w hV hB h5 hc0 hV1 hB1 h6 hVK hBK hsK hR hFR
    · obtain ⟨n0, hn0⟩ : ∃ n, n = L0.length := ⟨_, rfl⟩
      obtain ⟨n1, hn1⟩ : ∃ n, n = L1.length := ⟨_, rfl⟩
      rw [← hn0] at hs h5 ⊢
      rw [← hn1] at hs1 h6 ⊢
      have s0 : decide ((2000 : Int) < (n0 : Int)) = false := decide_eq_false (by omega)
      have s1 : (500 : Int) < (n1 : Int) := by omega
      clear hV hB hV1 hB1 hVK hBK hR hFR hn0 hn1 hc0
      go_enter Try.func3, Try.ntmps3
      go_wp2_with (first | (go_at_call 13; refine (awake10_any _).mono ?_; rintro e w1 ⟨rfl, ho1⟩; have HO1 : Hid (Only (fun _ => False) w w1) := ho1; clear ho1) | fail)
      go_ret
      exact ⟨rfl, HO1.out⟩
  · obtain ⟨n0, hn0⟩ : ∃ n, n = L0.length := ⟨_, rfl⟩
    rw [← hn0] at hs h5 ⊢
    have s0 : (2000 : Int) < (n0 : Int) := by omega
    clear hV hB hV1 hB1 hVK hBK hR hFR hn0 hc0
    go_enter Try.func3, Try.ntmps3
    go_wp2_with (first | (go_at_call 13; refine (awake10_any _).mono ?_; rintro e w1 ⟨rfl, ho1⟩; have HO1 : Hid (Only (fun _ => False) w w1) := ho1; clear ho1) | fail)
    go_ret
    exact ⟨rfl, HO1.out⟩
end Go.Proofs.Ytlcpfheocenjfaa.cellsMakes
