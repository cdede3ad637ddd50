/-
  The document's Byte: the byte of a row's column.
-/
import Derived.Test.YteejgjapghccnaaYk
namespace Go.Proofs.Yteejgjapghccnaa
open Go.RowKit Go.Maps
set_option linter.unusedVariables false
set_option linter.unusedSimpArgs false
namespace Lv
theorem bi_yes {C : List Ct} {t a c j : Nat} (h : Sp.col C t a j < c ∨ (Sp.col C t a j = c ∧ (Sp.col C t a (bi C t a c j) < c ∨ j = 0))) : bi C t a c (j + 1) = j := if_pos h
theorem bi_not {C : List Ct} {t a c j : Nat} (h : ¬ (Sp.col C t a j < c ∨ (Sp.col C t a j = c ∧ (Sp.col C t a (bi C t a c j) < c ∨ j = 0)))) : bi C t a c (j + 1) = bi C t a c j := if_neg h
theorem bi_le (C : List Ct) (t a c : Nat) : ∀ j, bi C t a c j ≤ j
  | 0 => Nat.le_refl _
  | j + 1 => by
    have := bi_le C t a c j
    by_cases h : Sp.col C t a j < c ∨ (Sp.col C t a j = c ∧ (Sp.col C t a (bi C t a c j) < c ∨ j = 0))
    · rw [bi_yes h]; exact Nat.le_succ _
    · rw [bi_not h]; omega
theorem bi_lt (C : List Ct) (t a c : Nat) : ∀ j, 0 < j → bi C t a c j < j
  | 0, h => by omega
  | j + 1, _ => by
    by_cases h : Sp.col C t a j < c ∨ (Sp.col C t a j = c ∧ (Sp.col C t a (bi C t a c j) < c ∨ j = 0))
    · rw [bi_yes h]; exact Nat.lt_succ_self _
    · rw [bi_not h]
      have := bi_le C t a c j
      omega
end Lv
set_option maxRecDepth 100000 in
set_option maxHeartbeats 8000000 in
theorem refByte_out (C : List Ct) (O : List Nat) (n m : Nat) (aC aO : Option Addr) (cC cO t : Nat) (L : List Ln) (nl : Nat) (al : Option Addr) (cl : Nat) (ri ci : Int) (w : World) (hP : Pv w C O n m aC aO cC cO) (hC : Lv.Ctg C) (hs : It.sum C ≤ 1000000) (hR : Lv.Chn 0 n L) (hV : Vw w al (lnC L)) (hnl : nl = L.length) (hfew : n ≤ 1000) (h0 : 0 < t) (ht : t ≤ 1000) (hq : ri < 0 ∨ ((Lv.rof L).length : Int) ≤ ri ∨ ci < 0) :
    Calls Try.prog 16 #[.agg #[.slice aC n cC, .slice aO m cO], .slice al nl cl, .int .i64 (t : Int), .agg #[.int .i64 ri, .int .i64 ci]] w fun e w' => e = .returned (.tuple #[.int .i64 0, .int .i64 2]) ∧ Only (fun _ => False) w w' := by
  have hrws := Lv.rws_rof hR
  obtain ⟨L', hL'⟩ : ∃ x, x = Lv.rof L := ⟨_, rfl⟩
  obtain ⟨N, hN⟩ : ∃ x, x = L'.length := ⟨_, rfl⟩
  rw [← hL'] at hrws hq
  have hNl := rlen hrws
  rw [← hN] at hNl hq
  obtain ⟨hN0, hN1⟩ := hNl
  have HCO : Hid (∀ W la lb, Only (fun _ => False) w W → la ≤ lb → lb ≤ n → Calls Try.prog 17 #[.agg #[.slice aC n cC, .slice aO m cO], .int .i64 ((la : Nat) : Int), .int .i64 ((lb : Nat) : Int), .int .i64 (t : Int)] W fun e w' => ∃ al k c, e = .returned (.slice al k c) ∧ k = lb - la + 1 ∧ Vw w' al (natI (Sp.cols C t la (lb - la))) ∧ Only (fun _ => False) W w') := fun W la lb ho h1 h2 => by
    refine (refColumns_any C O n m aC aO cC cO la lb t W (hP.keep ho) h1 h2 h0 ht).mono ?_
    rintro e w' ⟨al, c, he, hown, ho'⟩
    rw [Lv.cols_len] at he hown
    exact ⟨al, _, c, he, rfl, own_vw hown, ho'⟩
  have HP : Hid (Pv w C O n m aC aO cC cO ∧ Lv.Ctg C ∧ n = C.length) := ⟨hP, hC, hP.hn⟩
  have HL : Hid (L' = Lv.rof L ∧ N = L'.length ∧ Lv.Rws n L' ∧ nl = L.length) := ⟨hL', hN, hrws, hnl⟩
  have HV : Hid (Vw w al (lnC L)) := hV
  obtain ⟨s, hs'⟩ : ∃ s, s = It.sum C := ⟨_, rfl⟩
  rw [← hs'] at hs
  have HSM : Hid (s = It.sum C ∧ (∀ i, It.sum (C.take i) ≤ It.sum C)) := ⟨hs', fun i => It.sum_le i⟩
  have hnlk : nl ≤ n := by have := hR.len; omega
  clear hP hC hR hV hL' hN hrws hnl hs'
  go_enter Try.func16, Try.ntmps16
  go_upto_region 1 with fail
  obtain ⟨R, B, w0, hw0, hB, hR, H0, lRB⟩ := box22 w (.slice aC n cC) (.slice aO m cO) (.int .i64 ri) (.int .i64 ci) 31 39
  rw [hw0, hB, hR]
  clear hw0 hB hR
  have HS : Hid (∀ W', Only (fun _ => False) w0 W' → (W'.cell? ⟨R, 0, none⟩ = some (.slice aC n cC) ∧ W'.cell? ⟨R, 1, none⟩ = some (.slice aO m cO)) ∧ (W'.cell? ⟨B, 0, none⟩ = some (.int .i64 ri) ∧ W'.cell? ⟨B, 1, none⟩ = some (.int .i64 ci)) ∧ R < W'.heap.size ∧ B < W'.heap.size ∧ Only (fun _ => False) w W') := fun W' ho => by
    have e1 := blk_keep ho H0.out.1
    have e2 := blk_keep ho H0.out.2.1
    exact ⟨⟨(blk_two e1).1, (blk_two e1).2.1⟩, ⟨(blk_two e2).1, (blk_two e2).2.1⟩, (blk_two e1).2.2, (blk_two e2).2.2, H0.out.2.2.1.trans ho⟩
  have hNm : N ≤ 1001 := by omega
  by_cases hz : nl = 0
  · have t1 : ((nl : Int) == 0) = true := by rw [beq_iff_eq]; omega
    have hL0 : L = [] := List.eq_nil_of_length_eq_zero (by rw [← HL.out.2.2.2]; exact hz)
    have HL1 : Hid (L' = [⟨0, 0, 0, 0⟩] ∧ N = 1) := by
      have e := HL.out.1
      rw [hL0] at e
      exact ⟨e, by rw [HL.out.2.1, e]; rfl⟩
    clear hz hL0
    go_upto_region 3 with fail
    obtain ⟨bA, W, hW, hbA, HA, -⟩ := box4 w0 (.int .i64 0) (.int .i64 0) (.int .i64 0) (.int .u8 0) 59
    rw [hW, hbA]
    clear hW hbA
    obtain ⟨a1, ha1⟩ : ∃ x, x = some (⟨bA, 0, none⟩ : Addr) := ⟨_, rfl⟩
    obtain ⟨c1, hc1⟩ : ∃ x, x = N := ⟨_, rfl⟩
    have H1 : Hid (Vw W a1 (lnC L') ∧ Only (fun _ => False) w0 W) := by
      refine ⟨?_, HA.out.2.1⟩
      rw [HL1.out.1, ha1]
      exact vw_blk HA.out.1
    rw [show Value.slice (some ⟨bA, 0, none⟩) 1 1 = .slice a1 N c1 by rw [ha1, hc1, HL1.out.2]]
    clear ha1 hc1 HL1 HA
    obtain ⟨⟨r0, r1⟩, ⟨b0, b1⟩, lR, lB, -⟩ := HS.out W H1.out.2
    by_cases h1 : ri < 0
    · go_wp2_with fail
      go_ret2
      exact ⟨rfl, (HS.out W H1.out.2).2.2.2.2⟩
    · have t1' : decide (ri < 0) = false := decide_eq_false h1
      by_cases h2 : (N : Int) ≤ ri
      · go_wp2_with fail
        go_ret2
        exact ⟨rfl, (HS.out W H1.out.2).2.2.2.2⟩
      · have t2 : decide ((N : Int) ≤ ri) = false := decide_eq_false h2
        have h3 : ci < 0 := by omega
        go_wp2_with fail
        go_ret2
        exact ⟨rfl, (HS.out W H1.out.2).2.2.2.2⟩
  · have t1 : ((nl : Int) == 0) = false := by rw [beq_eq_false_iff_ne]; omega
    have HL1 : Hid (L' = L ∧ nl = N) := by
      have hne : L ≠ [] := fun e => hz (by rw [HL.out.2.2.2, e]; rfl)
      have e := HL.out.1.trans (Lv.rof_self hne)
      exact ⟨e, by rw [HL.out.2.1, HL.out.2.2.2, e]⟩
    clear hz
    go_upto_region 3 with fail
    obtain ⟨a1, ha1⟩ : ∃ x, x = al := ⟨_, rfl⟩
    obtain ⟨c1, hc1⟩ : ∃ x, x = cl := ⟨_, rfl⟩
    obtain ⟨W, hW⟩ : ∃ x, x = w0 := ⟨_, rfl⟩
    have H1 : Hid (Vw W a1 (lnC L') ∧ Only (fun _ => False) w0 W) := by
      rw [hW, ha1]
      exact ⟨by rw [HL1.out.1]; exact HV.out.keep (HS.out w0 (Only.refl _ _)).2.2.2.2, Only.refl _ _⟩
    rw [HL1.out.2, ← hW, ← ha1, ← hc1]
    clear hW ha1 hc1 HL1
    obtain ⟨⟨r0, r1⟩, ⟨b0, b1⟩, lR, lB, -⟩ := HS.out W H1.out.2
    by_cases h1 : ri < 0
    · go_wp2_with fail
      go_ret2
      exact ⟨rfl, (HS.out W H1.out.2).2.2.2.2⟩
    · have t1' : decide (ri < 0) = false := decide_eq_false h1
      by_cases h2 : (N : Int) ≤ ri
      · go_wp2_with fail
        go_ret2
        exact ⟨rfl, (HS.out W H1.out.2).2.2.2.2⟩
      · have t2 : decide ((N : Int) ≤ ri) = false := decide_eq_false h2
        have h3 : ci < 0 := by omega
        go_wp2_with fail
        go_ret2
        exact ⟨rfl, (HS.out W H1.out.2).2.2.2.2⟩
set_option maxRecDepth 100000 in
set_option maxHeartbeats 8000000 in
theorem refByte_any (C : List Ct) (O : List Nat) (n m : Nat) (aC aO : Option Addr) (cC cO t : Nat) (L : List Ln) (nl : Nat) (al : Option Addr) (cl : Nat) (r c : Nat) (l : Ln) (w : World) (hP : Pv w C O n m aC aO cC cO) (hC : Lv.Ctg C) (hs : It.sum C ≤ 1000000) (hR : Lv.Chn 0 n L) (hV : Vw w al (lnC L)) (hnl : nl = L.length) (hfew : n ≤ 1000) (h0 : 0 < t) (ht : t ≤ 1000) (hl : (Lv.rof L)[r]? = some l) :
    Calls Try.prog 16 #[.agg #[.slice aC n cC, .slice aO m cO], .slice al nl cl, .int .i64 (t : Int), .agg #[.int .i64 (r : Int), .int .i64 (c : Int)]] w fun e w' => e = .returned (.tuple #[.int .i64 ((It.sum (C.take (Lv.byt C t l c)) : Nat) : Int), .int .i64 0]) ∧ Only (fun _ => False) w w' := by
  have hrws := Lv.rws_rof hR
  obtain ⟨L', hL'⟩ : ∃ x, x = Lv.rof L := ⟨_, rfl⟩
  obtain ⟨N, hN⟩ : ∃ x, x = L'.length := ⟨_, rfl⟩
  rw [← hL'] at hrws hl
  have hNl := rlen hrws
  rw [← hN] at hNl
  obtain ⟨hN0, hN1⟩ := hNl
  have HCO : Hid (∀ W la lb, Only (fun _ => False) w W → la ≤ lb → lb ≤ n → Calls Try.prog 17 #[.agg #[.slice aC n cC, .slice aO m cO], .int .i64 ((la : Nat) : Int), .int .i64 ((lb : Nat) : Int), .int .i64 (t : Int)] W fun e w' => ∃ al k c, e = .returned (.slice al k c) ∧ k = lb - la + 1 ∧ Vw w' al (natI (Sp.cols C t la (lb - la))) ∧ Only (fun _ => False) W w') := fun W la lb ho h1 h2 => by
    refine (refColumns_any C O n m aC aO cC cO la lb t W (hP.keep ho) h1 h2 h0 ht).mono ?_
    rintro e w' ⟨al, c, he, hown, ho'⟩
    rw [Lv.cols_len] at he hown
    exact ⟨al, _, c, he, rfl, own_vw hown, ho'⟩
  have HP : Hid (Pv w C O n m aC aO cC cO ∧ Lv.Ctg C ∧ n = C.length) := ⟨hP, hC, hP.hn⟩
  have HL : Hid (L' = Lv.rof L ∧ N = L'.length ∧ Lv.Rws n L' ∧ nl = L.length) := ⟨hL', hN, hrws, hnl⟩
  have HV : Hid (Vw w al (lnC L)) := hV
  obtain ⟨s, hs'⟩ : ∃ s, s = It.sum C := ⟨_, rfl⟩
  rw [← hs'] at hs
  have hat := hrws.at hl
  have hrN : r < N := by rw [hN]; exact (List.getElem?_eq_some_iff.1 hl).1
  have hbin := Lv.byt_in C h0 l hat.1 c
  obtain ⟨by', hby'⟩ : ∃ x, x = Lv.byt C t l c := ⟨_, rfl⟩
  obtain ⟨la, lb, lc, le⟩ := l
  rw [← hby'] at hbin ⊢
  simp only at hat hbin
  have HBY : Hid (by' = la + Lv.bi C t la c (lb - la + 1) ∧ L'[r]? = some ⟨la, lb, lc, le⟩) := ⟨hby', hl⟩
  have HAT : Hid (la ≤ lb ∧ lb ≤ n) := ⟨hat.1, hat.2.1⟩
  have hlan : la ≤ n := Nat.le_trans hat.1 hat.2.1
  have hlbn : lb ≤ n := hat.2.1
  have hlab : la ≤ lb := hat.1
  have hbyn : by' ≤ n := Nat.le_trans hbin.2 hat.2.1
  obtain ⟨sm, hsm⟩ : ∃ x, x = It.sum (C.take by') := ⟨_, rfl⟩
  rw [← hsm]
  have HSB : Hid (sm = It.sum (C.take by')) := hsm
  clear hby' hl hat hbin hsm
  have HSM : Hid (s = It.sum C ∧ (∀ i, It.sum (C.take i) ≤ It.sum C)) := ⟨hs', fun i => It.sum_le i⟩
  have hnlk : nl ≤ n := by have := hR.len; omega
  clear hP hC hR hV hL' hN hrws hnl hs'
  go_enter Try.func16, Try.ntmps16
  go_upto_region 1 with fail
  obtain ⟨R, B, w0, hw0, hB, hR, H0, lRB⟩ := box22 w (.slice aC n cC) (.slice aO m cO) (.int .i64 (r : Int)) (.int .i64 (c : Int)) 31 39
  rw [hw0, hB, hR]
  clear hw0 hB hR
  have HS : Hid (∀ W', Only (fun _ => False) w0 W' → (W'.cell? ⟨R, 0, none⟩ = some (.slice aC n cC) ∧ W'.cell? ⟨R, 1, none⟩ = some (.slice aO m cO)) ∧ (W'.cell? ⟨B, 0, none⟩ = some (.int .i64 (r : Int)) ∧ W'.cell? ⟨B, 1, none⟩ = some (.int .i64 (c : Int))) ∧ R < W'.heap.size ∧ B < W'.heap.size ∧ Only (fun _ => False) w W') := fun W' ho => by
    have e1 := blk_keep ho H0.out.1
    have e2 := blk_keep ho H0.out.2.1
    exact ⟨⟨(blk_two e1).1, (blk_two e1).2.1⟩, ⟨(blk_two e2).1, (blk_two e2).2.1⟩, (blk_two e1).2.2, (blk_two e2).2.2, H0.out.2.2.1.trans ho⟩
  have hNm : N ≤ 1001 := by omega
  by_cases hz : nl = 0
  · have t1 : ((nl : Int) == 0) = true := by rw [beq_iff_eq]; omega
    have hL0 : L = [] := List.eq_nil_of_length_eq_zero (by rw [← HL.out.2.2.2]; exact hz)
    have HL1 : Hid (L' = [⟨0, 0, 0, 0⟩] ∧ N = 1) := by
      have e := HL.out.1
      rw [hL0] at e
      exact ⟨e, by rw [HL.out.2.1, e]; rfl⟩
    clear hz hL0
    go_upto_region 3 with fail
    obtain ⟨bA, W, hW, hbA, HA, -⟩ := box4 w0 (.int .i64 0) (.int .i64 0) (.int .i64 0) (.int .u8 0) 59
    rw [hW, hbA]
    clear hW hbA
    obtain ⟨a1, ha1⟩ : ∃ x, x = some (⟨bA, 0, none⟩ : Addr) := ⟨_, rfl⟩
    obtain ⟨c1, hc1⟩ : ∃ x, x = N := ⟨_, rfl⟩
    have H1 : Hid (Vw W a1 (lnC L') ∧ Only (fun _ => False) w0 W) := by
      refine ⟨?_, HA.out.2.1⟩
      rw [HL1.out.1, ha1]
      exact vw_blk HA.out.1
    rw [show Value.slice (some ⟨bA, 0, none⟩) 1 1 = .slice a1 N c1 by rw [ha1, hc1, HL1.out.2]]
    clear ha1 hc1 HL1 HA
    obtain ⟨⟨r0, r1⟩, ⟨b0, b1⟩, lR, lB, -⟩ := HS.out W H1.out.2
    have t2 : decide ((r : Int) < 0) = false := decide_eq_false (by omega)
    have t3 : decide ((N : Int) ≤ (r : Int)) = false := decide_eq_false (by omega)
    have t3n : decide (N ≤ r) = false := decide_eq_false (by omega)
    have t4 : decide ((c : Int) < 0) = false := decide_eq_false (by omega)
    have hrI : (r : Int) < (N : Int) := by omega
    obtain ⟨bl, ol, e0, hbl, c0, c1', c2, c3⟩ := H1.out.1.line HBY.out.2
    simp only at c0 c1' c2 c3
    subst e0
    go_upto_region 6 with fail
    obtain ⟨lk, X, hX, hlk, H3, -⟩ := box4 W (.int .i64 (la : Int)) (.int .i64 (lb : Int)) (.int .i64 (lc : Int)) (.int .u8 (le : Int)) 59
    rw [hX, hlk]
    clear hX hlk c0 c1' c2 c3 hbl r0 r1 b0 b1 lR lB
    have HX : Hid (∀ W', Only (fun _ => False) X W' → (W'.cell? ⟨R, 0, none⟩ = some (.slice aC n cC) ∧ W'.cell? ⟨R, 1, none⟩ = some (.slice aO m cO)) ∧ (W'.cell? ⟨B, 0, none⟩ = some (.int .i64 (r : Int)) ∧ W'.cell? ⟨B, 1, none⟩ = some (.int .i64 (c : Int))) ∧ (W'.cell? ⟨lk, 0, none⟩ = some (.int .i64 (la : Int)) ∧ W'.cell? ⟨lk, 1, none⟩ = some (.int .i64 (lb : Int))) ∧ R < W'.heap.size ∧ B < W'.heap.size ∧ lk < W'.heap.size ∧ Only (fun _ => False) w W') := fun W' ho => by
      have h := HS.out W' (H1.out.2.trans (H3.out.2.1.trans ho))
      have hl := blk_keep ho H3.out.1
      exact ⟨h.1, h.2.1, ⟨(blk_four hl).1, (blk_four hl).2.1⟩, h.2.2.1, h.2.2.2.1, (Array.getElem?_eq_some_iff.1 hl).1, h.2.2.2.2⟩
    obtain ⟨⟨r0, r1⟩, ⟨b0, b1⟩, ⟨k0, k1⟩, lR, lB, lk', -⟩ := HX.out X (Only.refl _ _)
    go_wp2_with fail
    refine Calls.mono (HCO.out _ la lb (HX.out X (Only.refl _ _)).2.2.2.2.2.2 HAT.out.1 HAT.out.2) ?_
    rintro e y ⟨aq, kn, cq, rfl, hk2, hvw2, ho2⟩
    have HQ : Hid (kn = lb - la + 1 ∧ Vw y aq (natI (Sp.cols C t la (lb - la))) ∧ Only (fun _ => False) X y) := ⟨hk2, hvw2, ho2⟩
    have hkn1 : 0 < kn := by omega
    have hkn2 : kn ≤ 1001 := by omega
    clear hk2 hvw2 ho2 r0 r1 b0 b1 k0 k1 lR lB lk'
    obtain ⟨bq, oq, eq1, hbq, hcq⟩ := HQ.out.2.1.cells (by rw [natI_len, Lv.cols_len]; omega)
    subst eq1
    have HCQ : Hid (∀ j, j < kn → ∀ W', Only (fun _ => False) y W' → W'.cell? ⟨bq, oq + j, none⟩ = some (.int .i64 ((Sp.col C t la j : Nat) : Int))) := fun j hj W' ho => keep0 ho (hcq j _ (natI_get (Lv.cols_at C t la (by have := HQ.out.1; omega))))
    clear hcq hbq
    go_wp2_with fail
    go_loopg [12, 13] kn (fun gh v12 v13 wr => ∃ (j b : Nat) (Z : World), Z = wr ∧ gh = kn - j ∧ j ≤ kn ∧ v12 = .int .i64 (b : Int) ∧ v13 = .int .i64 (j : Int) ∧ b = Lv.bi C t la c j ∧ Only (fun _ => False) y Z)
    case atStart => exact ⟨0, 0, _, rfl, rfl, Nat.zero_le _, rfl, rfl, rfl, Only.refl _ _⟩
    case round =>
      obtain ⟨j, b, Z, hZ, rfl, hj, rfl, rfl, hb, hoZ⟩ := hrel
      subst hZ
      have HI : Hid (b = Lv.bi C t la c j ∧ Only (fun _ => False) y Z) := ⟨hb, hoZ⟩
      have hbj : b ≤ j := by rw [hb]; exact Lv.bi_le C t la c j
      have hbl : 0 < j → b < j := fun h => by rw [hb]; exact Lv.bi_lt C t la c j h
      clear hb hoZ
      obtain ⟨⟨r0, r1⟩, ⟨b0, b1⟩, ⟨k0, k1⟩, lR, lB, lk', -⟩ := HX.out Z (HQ.out.2.2.trans HI.out.2)
      by_cases hlt : j < kn
      · have u1 : (j : Int) < (kn : Int) := by omega
        have hbk : b < kn := by omega
        have ubk : (b : Int) < (kn : Int) := by omega
        clear hbl
        obtain ⟨xj, hxj⟩ : ∃ x, x = Sp.col C t la j := ⟨_, rfl⟩
        obtain ⟨xb, hxb⟩ : ∃ x, x = Sp.col C t la b := ⟨_, rfl⟩
        have cj := HCQ.out j hlt Z HI.out.2
        have cb := HCQ.out b hbk Z HI.out.2
        rw [← hxj] at cj
        rw [← hxb] at cb
        have HXJ : Hid (xj = Sp.col C t la j ∧ xb = Sp.col C t la (Lv.bi C t la c j)) := ⟨hxj, by rw [hxb, HI.out.1]⟩
        have lq := World.block_lt_of_cell? Z _ cj
        clear hxj hxb
        by_cases q1 : xj < c
        · have v1 : (xj : Int) < (c : Int) := by omega
          have HN : Hid (Lv.bi C t la c (j + 1) = j) := Lv.bi_yes (Or.inl (by rw [← HXJ.out.1]; exact q1))
          go_upto_region 11 with fail
          go_quiet (fail)
          go_wp2_with fail
          go_roundg (kn - (j + 1))
          case measure => omega
          case rel => exact ⟨j + 1, j, _, rfl, rfl, by omega, rfl, by go_num, HN.out.symm, HI.out.2.drewN _⟩
        · have v1 : decide ((xj : Int) < (c : Int)) = false := decide_eq_false (by omega)
          have v1n : decide (xj < c) = false := decide_eq_false (by omega)
          by_cases q2 : xj = c
          · have v2 : ((xj : Int) == (c : Int)) = true := by rw [beq_iff_eq]; omega
            have HQ2 : Hid (xj = c) := q2
            clear q2
            by_cases q3 : xb < c
            · have v3 : (xb : Int) < (c : Int) := by omega
              have HN : Hid (Lv.bi C t la c (j + 1) = j) := Lv.bi_yes (Or.inr ⟨by rw [← HXJ.out.1]; exact HQ2.out, Or.inl (by rw [← HXJ.out.2]; exact q3)⟩)
              go_upto_region 11 with fail
              go_quiet (fail)
              go_wp2_with fail
              go_roundg (kn - (j + 1))
              case measure => omega
              case rel => exact ⟨j + 1, j, _, rfl, rfl, by omega, rfl, by go_num, HN.out.symm, HI.out.2.drewN _⟩
            · have v3 : decide ((xb : Int) < (c : Int)) = false := decide_eq_false (by omega)
              have v3n : decide (xb < c) = false := decide_eq_false (by omega)
              by_cases q4 : j = 0
              · have v4 : ((j : Int) == 0) = true := by rw [beq_iff_eq]; omega
                have HN : Hid (Lv.bi C t la c (j + 1) = j) := Lv.bi_yes (Or.inr ⟨by rw [← HXJ.out.1]; exact HQ2.out, Or.inr q4⟩)
                clear q4
                go_upto_region 11 with fail
                go_quiet (fail)
                go_wp2_with fail
                go_roundg (kn - (j + 1))
                case measure => omega
                case rel => exact ⟨j + 1, j, _, rfl, rfl, by omega, rfl, by go_num, HN.out.symm, HI.out.2.drewN _⟩
              · have v4 : ((j : Int) == 0) = false := by rw [beq_eq_false_iff_ne]; omega
                have HN : Hid (Lv.bi C t la c (j + 1) = Lv.bi C t la c j) := Lv.bi_not (fun h => by
                  rw [← HXJ.out.1, ← HXJ.out.2] at h
                  have := HQ2.out
                  rcases h with h | ⟨_, h | h⟩ <;> omega)
                clear q4
                go_upto_region 11 with fail
                go_quiet (fail)
                go_wp2_with fail
                go_roundg (kn - (j + 1))
                case measure => omega
                case rel => exact ⟨j + 1, b, _, rfl, rfl, by omega, rfl, by go_num, HI.out.1.trans HN.out.symm, HI.out.2.drewN _⟩
          · have v2 : ((xj : Int) == (c : Int)) = false := by rw [beq_eq_false_iff_ne]; omega
            have HN : Hid (Lv.bi C t la c (j + 1) = Lv.bi C t la c j) := Lv.bi_not (fun h => by
              rw [← HXJ.out.1, ← HXJ.out.2] at h
              rcases h with h | ⟨h, _⟩ <;> omega)
            clear q2
            go_upto_region 11 with fail
            go_quiet (fail)
            go_wp2_with fail
            go_roundg (kn - (j + 1))
            case measure => omega
            case rel => exact ⟨j + 1, b, _, rfl, rfl, by omega, rfl, by go_num, HI.out.1.trans HN.out.symm, HI.out.2.drewN _⟩
      · have u1 : decide ((j : Int) < (kn : Int)) = false := decide_eq_false (by omega)
        have hjk : j = kn := by omega
        have HF : Hid (la + b = by' ∧ Only (fun _ => False) y Z) := by
          refine ⟨?_, HI.out.2⟩
          rw [HI.out.1, hjk, HQ.out.1, HBY.out.1]
        have hba : la + b = by' := HF.out.1
        have hb1 : la + b ≤ by' := by omega
        have hb2 : by' ≤ la + b := by omega
        have hbx : b ≤ 1001 := by omega
        have eb : (la : Int) + (b : Int) = (by' : Int) := by omega
        clear hba hjk hbl
        by_cases hkn : by' < n
        · have v5 : (by' : Int) < (n : Int) := by omega
          obtain ⟨z, hz⟩ : ∃ z, C[by']? = some z := ⟨_, List.getElem?_eq_getElem (by rw [← HP.out.2.2]; exact hkn)⟩
          obtain ⟨xp, xl, xc, xk, rfl, hxc, hxk⟩ := HP.out.1.ok.nat hz
          have hce := (Lv.ctg_end HP.out.2.1 hz).1
          simp only at hce
          obtain ⟨g, off, eg, hg, d0, d1, d2, d3⟩ := (HP.out.1.vC.keep (HX.out Z (HQ.out.2.2.trans HI.out.2)).2.2.2.2.2.2).cluster (k := by') hz
          simp only at d0 d1 d2 d3
          have e9 : xp = sm := by rw [hce, HSB.out]
          subst e9
          subst eg
          clear hz hce
          go_wp2_with fail
          go_ret2
          exact ⟨rfl, (HX.out Z (HQ.out.2.2.trans HF.out.2)).2.2.2.2.2.2⟩
        · have v5 : decide ((by' : Int) < (n : Int)) = false := decide_eq_false (by omega)
          have v5n : decide (by' < n) = false := decide_eq_false (by omega)
          have HSN : Hid (sm = It.sum (C.take n)) := by
            rw [HSB.out]
            have e : by' = n := by omega
            rw [e]
            exact rfl
          go_wp2_with fail
          go_loopg [15, 16] n (fun gh v15 v16 wr => ∃ (i s1 : Nat), Z = wr ∧ gh = n - i ∧ i ≤ n ∧ v15 = .int .i64 (s1 : Int) ∧ v16 = .int .i64 (i : Int) ∧ s1 = It.sum (C.take i))
          case atStart => exact ⟨0, 0, rfl, rfl, Nat.zero_le _, rfl, rfl, rfl⟩
          case round =>
            obtain ⟨i, s1, hZ2, rfl, hi, rfl, rfl, hs1⟩ := hrel
            subst hZ2
            have hs1l : s1 ≤ 1000000 := by rw [hs1]; exact Nat.le_trans (HSM.out.2 i) (by rw [← HSM.out.1]; exact hs)
            have HI2 : Hid (s1 = It.sum (C.take i)) := hs1
            clear hs1
            by_cases hlt2 : i < n
            · have v6 : (i : Int) < (n : Int) := by omega
              obtain ⟨z, hz⟩ : ∃ z, C[i]? = some z := ⟨_, List.getElem?_eq_getElem (by rw [← HP.out.2.2]; exact hlt2)⟩
              obtain ⟨xp, xl, xc, xk, rfl, hxc, hxk⟩ := HP.out.1.ok.nat hz
              have hce := Lv.ctg_end HP.out.2.1 hz
              simp only at hce
              obtain ⟨g, off, eg, hg, d0, d1, d2, d3⟩ := (HP.out.1.vC.keep (HX.out Z (HQ.out.2.2.trans HI.out.2)).2.2.2.2.2.2).cluster (k := i) hz
              simp only at d0 d1 d2 d3
              obtain ⟨s2, hs2⟩ : ∃ x, x = s1 + xl := ⟨_, rfl⟩
              have he : s2 = It.sum (C.take (i + 1)) := by
                have h1 := hce.1
                have h2 := hce.2.1
                have h3 := HI2.out
                omega
              have HE : Hid (s2 = It.sum (C.take (i + 1))) := he
              clear he
              have hs2l : s2 ≤ 1000000 := by rw [HE.out]; exact Nat.le_trans (HSM.out.2 (i + 1)) (by rw [← HSM.out.1]; exact hs)
              have es : (s1 : Int) + (xl : Int) = (s2 : Int) := by omega
              subst eg
              clear hz hce hs2
              go_wp2_with fail
              go_roundg (n - (i + 1))
              case measure => omega
              case rel => exact ⟨i + 1, s2, rfl, rfl, by omega, by go_num, by go_num, HE.out⟩
            · have v6 : decide ((i : Int) < (n : Int)) = false := decide_eq_false (by omega)
              have e9 : s1 = sm := by
                rw [HI2.out, HSN.out]
                have e : i = n := by omega
                rw [e]
              subst e9
              go_wp2_with fail
              go_ret2
              exact ⟨rfl, (HX.out Z (HQ.out.2.2.trans HF.out.2)).2.2.2.2.2.2⟩
  · have t1 : ((nl : Int) == 0) = false := by rw [beq_eq_false_iff_ne]; omega
    have HL1 : Hid (L' = L ∧ nl = N) := by
      have hne : L ≠ [] := fun e => hz (by rw [HL.out.2.2.2, e]; rfl)
      have e := HL.out.1.trans (Lv.rof_self hne)
      exact ⟨e, by rw [HL.out.2.1, HL.out.2.2.2, e]⟩
    clear hz
    go_upto_region 3 with fail
    obtain ⟨a1, ha1⟩ : ∃ x, x = al := ⟨_, rfl⟩
    obtain ⟨c1, hc1⟩ : ∃ x, x = cl := ⟨_, rfl⟩
    obtain ⟨W, hW⟩ : ∃ x, x = w0 := ⟨_, rfl⟩
    have H1 : Hid (Vw W a1 (lnC L') ∧ Only (fun _ => False) w0 W) := by
      rw [hW, ha1]
      exact ⟨by rw [HL1.out.1]; exact HV.out.keep (HS.out w0 (Only.refl _ _)).2.2.2.2, Only.refl _ _⟩
    rw [HL1.out.2, ← hW, ← ha1, ← hc1]
    clear hW ha1 hc1 HL1
    obtain ⟨⟨r0, r1⟩, ⟨b0, b1⟩, lR, lB, -⟩ := HS.out W H1.out.2
    have t2 : decide ((r : Int) < 0) = false := decide_eq_false (by omega)
    have t3 : decide ((N : Int) ≤ (r : Int)) = false := decide_eq_false (by omega)
    have t3n : decide (N ≤ r) = false := decide_eq_false (by omega)
    have t4 : decide ((c : Int) < 0) = false := decide_eq_false (by omega)
    have hrI : (r : Int) < (N : Int) := by omega
    obtain ⟨bl, ol, e0, hbl, c0, c1', c2, c3⟩ := H1.out.1.line HBY.out.2
    simp only at c0 c1' c2 c3
    subst e0
    go_upto_region 6 with fail
    obtain ⟨lk, X, hX, hlk, H3, -⟩ := box4 W (.int .i64 (la : Int)) (.int .i64 (lb : Int)) (.int .i64 (lc : Int)) (.int .u8 (le : Int)) 59
    rw [hX, hlk]
    clear hX hlk c0 c1' c2 c3 hbl r0 r1 b0 b1 lR lB
    have HX : Hid (∀ W', Only (fun _ => False) X W' → (W'.cell? ⟨R, 0, none⟩ = some (.slice aC n cC) ∧ W'.cell? ⟨R, 1, none⟩ = some (.slice aO m cO)) ∧ (W'.cell? ⟨B, 0, none⟩ = some (.int .i64 (r : Int)) ∧ W'.cell? ⟨B, 1, none⟩ = some (.int .i64 (c : Int))) ∧ (W'.cell? ⟨lk, 0, none⟩ = some (.int .i64 (la : Int)) ∧ W'.cell? ⟨lk, 1, none⟩ = some (.int .i64 (lb : Int))) ∧ R < W'.heap.size ∧ B < W'.heap.size ∧ lk < W'.heap.size ∧ Only (fun _ => False) w W') := fun W' ho => by
      have h := HS.out W' (H1.out.2.trans (H3.out.2.1.trans ho))
      have hl := blk_keep ho H3.out.1
      exact ⟨h.1, h.2.1, ⟨(blk_four hl).1, (blk_four hl).2.1⟩, h.2.2.1, h.2.2.2.1, (Array.getElem?_eq_some_iff.1 hl).1, h.2.2.2.2⟩
    obtain ⟨⟨r0, r1⟩, ⟨b0, b1⟩, ⟨k0, k1⟩, lR, lB, lk', -⟩ := HX.out X (Only.refl _ _)
    go_wp2_with fail
    refine Calls.mono (HCO.out _ la lb (HX.out X (Only.refl _ _)).2.2.2.2.2.2 HAT.out.1 HAT.out.2) ?_
    rintro e y ⟨aq, kn, cq, rfl, hk2, hvw2, ho2⟩
    have HQ : Hid (kn = lb - la + 1 ∧ Vw y aq (natI (Sp.cols C t la (lb - la))) ∧ Only (fun _ => False) X y) := ⟨hk2, hvw2, ho2⟩
    have hkn1 : 0 < kn := by omega
    have hkn2 : kn ≤ 1001 := by omega
    clear hk2 hvw2 ho2 r0 r1 b0 b1 k0 k1 lR lB lk'
    obtain ⟨bq, oq, eq1, hbq, hcq⟩ := HQ.out.2.1.cells (by rw [natI_len, Lv.cols_len]; omega)
    subst eq1
    have HCQ : Hid (∀ j, j < kn → ∀ W', Only (fun _ => False) y W' → W'.cell? ⟨bq, oq + j, none⟩ = some (.int .i64 ((Sp.col C t la j : Nat) : Int))) := fun j hj W' ho => keep0 ho (hcq j _ (natI_get (Lv.cols_at C t la (by have := HQ.out.1; omega))))
    clear hcq hbq
    go_wp2_with fail
    go_loopg [12, 13] kn (fun gh v12 v13 wr => ∃ (j b : Nat) (Z : World), Z = wr ∧ gh = kn - j ∧ j ≤ kn ∧ v12 = .int .i64 (b : Int) ∧ v13 = .int .i64 (j : Int) ∧ b = Lv.bi C t la c j ∧ Only (fun _ => False) y Z)
    case atStart => exact ⟨0, 0, _, rfl, rfl, Nat.zero_le _, rfl, rfl, rfl, Only.refl _ _⟩
    case round =>
      obtain ⟨j, b, Z, hZ, rfl, hj, rfl, rfl, hb, hoZ⟩ := hrel
      subst hZ
      have HI : Hid (b = Lv.bi C t la c j ∧ Only (fun _ => False) y Z) := ⟨hb, hoZ⟩
      have hbj : b ≤ j := by rw [hb]; exact Lv.bi_le C t la c j
      have hbl : 0 < j → b < j := fun h => by rw [hb]; exact Lv.bi_lt C t la c j h
      clear hb hoZ
      obtain ⟨⟨r0, r1⟩, ⟨b0, b1⟩, ⟨k0, k1⟩, lR, lB, lk', -⟩ := HX.out Z (HQ.out.2.2.trans HI.out.2)
      by_cases hlt : j < kn
      · have u1 : (j : Int) < (kn : Int) := by omega
        have hbk : b < kn := by omega
        have ubk : (b : Int) < (kn : Int) := by omega
        clear hbl
        obtain ⟨xj, hxj⟩ : ∃ x, x = Sp.col C t la j := ⟨_, rfl⟩
        obtain ⟨xb, hxb⟩ : ∃ x, x = Sp.col C t la b := ⟨_, rfl⟩
        have cj := HCQ.out j hlt Z HI.out.2
        have cb := HCQ.out b hbk Z HI.out.2
        rw [← hxj] at cj
        rw [← hxb] at cb
        have HXJ : Hid (xj = Sp.col C t la j ∧ xb = Sp.col C t la (Lv.bi C t la c j)) := ⟨hxj, by rw [hxb, HI.out.1]⟩
        have lq := World.block_lt_of_cell? Z _ cj
        clear hxj hxb
        by_cases q1 : xj < c
        · have v1 : (xj : Int) < (c : Int) := by omega
          have HN : Hid (Lv.bi C t la c (j + 1) = j) := Lv.bi_yes (Or.inl (by rw [← HXJ.out.1]; exact q1))
          go_upto_region 11 with fail
          go_quiet (fail)
          go_wp2_with fail
          go_roundg (kn - (j + 1))
          case measure => omega
          case rel => exact ⟨j + 1, j, _, rfl, rfl, by omega, rfl, by go_num, HN.out.symm, HI.out.2.drewN _⟩
        · have v1 : decide ((xj : Int) < (c : Int)) = false := decide_eq_false (by omega)
          have v1n : decide (xj < c) = false := decide_eq_false (by omega)
          by_cases q2 : xj = c
          · have v2 : ((xj : Int) == (c : Int)) = true := by rw [beq_iff_eq]; omega
            have HQ2 : Hid (xj = c) := q2
            clear q2
            by_cases q3 : xb < c
            · have v3 : (xb : Int) < (c : Int) := by omega
              have HN : Hid (Lv.bi C t la c (j + 1) = j) := Lv.bi_yes (Or.inr ⟨by rw [← HXJ.out.1]; exact HQ2.out, Or.inl (by rw [← HXJ.out.2]; exact q3)⟩)
              go_upto_region 11 with fail
              go_quiet (fail)
              go_wp2_with fail
              go_roundg (kn - (j + 1))
              case measure => omega
              case rel => exact ⟨j + 1, j, _, rfl, rfl, by omega, rfl, by go_num, HN.out.symm, HI.out.2.drewN _⟩
            · have v3 : decide ((xb : Int) < (c : Int)) = false := decide_eq_false (by omega)
              have v3n : decide (xb < c) = false := decide_eq_false (by omega)
              by_cases q4 : j = 0
              · have v4 : ((j : Int) == 0) = true := by rw [beq_iff_eq]; omega
                have HN : Hid (Lv.bi C t la c (j + 1) = j) := Lv.bi_yes (Or.inr ⟨by rw [← HXJ.out.1]; exact HQ2.out, Or.inr q4⟩)
                clear q4
                go_upto_region 11 with fail
                go_quiet (fail)
                go_wp2_with fail
                go_roundg (kn - (j + 1))
                case measure => omega
                case rel => exact ⟨j + 1, j, _, rfl, rfl, by omega, rfl, by go_num, HN.out.symm, HI.out.2.drewN _⟩
              · have v4 : ((j : Int) == 0) = false := by rw [beq_eq_false_iff_ne]; omega
                have HN : Hid (Lv.bi C t la c (j + 1) = Lv.bi C t la c j) := Lv.bi_not (fun h => by
                  rw [← HXJ.out.1, ← HXJ.out.2] at h
                  have := HQ2.out
                  rcases h with h | ⟨_, h | h⟩ <;> omega)
                clear q4
                go_upto_region 11 with fail
                go_quiet (fail)
                go_wp2_with fail
                go_roundg (kn - (j + 1))
                case measure => omega
                case rel => exact ⟨j + 1, b, _, rfl, rfl, by omega, rfl, by go_num, HI.out.1.trans HN.out.symm, HI.out.2.drewN _⟩
          · have v2 : ((xj : Int) == (c : Int)) = false := by rw [beq_eq_false_iff_ne]; omega
            have HN : Hid (Lv.bi C t la c (j + 1) = Lv.bi C t la c j) := Lv.bi_not (fun h => by
              rw [← HXJ.out.1, ← HXJ.out.2] at h
              rcases h with h | ⟨h, _⟩ <;> omega)
            clear q2
            go_upto_region 11 with fail
            go_quiet (fail)
            go_wp2_with fail
            go_roundg (kn - (j + 1))
            case measure => omega
            case rel => exact ⟨j + 1, b, _, rfl, rfl, by omega, rfl, by go_num, HI.out.1.trans HN.out.symm, HI.out.2.drewN _⟩
      · have u1 : decide ((j : Int) < (kn : Int)) = false := decide_eq_false (by omega)
        have hjk : j = kn := by omega
        have HF : Hid (la + b = by' ∧ Only (fun _ => False) y Z) := by
          refine ⟨?_, HI.out.2⟩
          rw [HI.out.1, hjk, HQ.out.1, HBY.out.1]
        have hba : la + b = by' := HF.out.1
        have hb1 : la + b ≤ by' := by omega
        have hb2 : by' ≤ la + b := by omega
        have hbx : b ≤ 1001 := by omega
        have eb : (la : Int) + (b : Int) = (by' : Int) := by omega
        clear hba hjk hbl
        by_cases hkn : by' < n
        · have v5 : (by' : Int) < (n : Int) := by omega
          obtain ⟨z, hz⟩ : ∃ z, C[by']? = some z := ⟨_, List.getElem?_eq_getElem (by rw [← HP.out.2.2]; exact hkn)⟩
          obtain ⟨xp, xl, xc, xk, rfl, hxc, hxk⟩ := HP.out.1.ok.nat hz
          have hce := (Lv.ctg_end HP.out.2.1 hz).1
          simp only at hce
          obtain ⟨g, off, eg, hg, d0, d1, d2, d3⟩ := (HP.out.1.vC.keep (HX.out Z (HQ.out.2.2.trans HI.out.2)).2.2.2.2.2.2).cluster (k := by') hz
          simp only at d0 d1 d2 d3
          have e9 : xp = sm := by rw [hce, HSB.out]
          subst e9
          subst eg
          clear hz hce
          go_wp2_with fail
          go_ret2
          exact ⟨rfl, (HX.out Z (HQ.out.2.2.trans HF.out.2)).2.2.2.2.2.2⟩
        · have v5 : decide ((by' : Int) < (n : Int)) = false := decide_eq_false (by omega)
          have v5n : decide (by' < n) = false := decide_eq_false (by omega)
          have HSN : Hid (sm = It.sum (C.take n)) := by
            rw [HSB.out]
            have e : by' = n := by omega
            rw [e]
            exact rfl
          go_wp2_with fail
          go_loopg [15, 16] n (fun gh v15 v16 wr => ∃ (i s1 : Nat), Z = wr ∧ gh = n - i ∧ i ≤ n ∧ v15 = .int .i64 (s1 : Int) ∧ v16 = .int .i64 (i : Int) ∧ s1 = It.sum (C.take i))
          case atStart => exact ⟨0, 0, rfl, rfl, Nat.zero_le _, rfl, rfl, rfl⟩
          case round =>
            obtain ⟨i, s1, hZ2, rfl, hi, rfl, rfl, hs1⟩ := hrel
            subst hZ2
            have hs1l : s1 ≤ 1000000 := by rw [hs1]; exact Nat.le_trans (HSM.out.2 i) (by rw [← HSM.out.1]; exact hs)
            have HI2 : Hid (s1 = It.sum (C.take i)) := hs1
            clear hs1
            by_cases hlt2 : i < n
            · have v6 : (i : Int) < (n : Int) := by omega
              obtain ⟨z, hz⟩ : ∃ z, C[i]? = some z := ⟨_, List.getElem?_eq_getElem (by rw [← HP.out.2.2]; exact hlt2)⟩
              obtain ⟨xp, xl, xc, xk, rfl, hxc, hxk⟩ := HP.out.1.ok.nat hz
              have hce := Lv.ctg_end HP.out.2.1 hz
              simp only at hce
              obtain ⟨g, off, eg, hg, d0, d1, d2, d3⟩ := (HP.out.1.vC.keep (HX.out Z (HQ.out.2.2.trans HI.out.2)).2.2.2.2.2.2).cluster (k := i) hz
              simp only at d0 d1 d2 d3
              obtain ⟨s2, hs2⟩ : ∃ x, x = s1 + xl := ⟨_, rfl⟩
              have he : s2 = It.sum (C.take (i + 1)) := by
                have h1 := hce.1
                have h2 := hce.2.1
                have h3 := HI2.out
                omega
              have HE : Hid (s2 = It.sum (C.take (i + 1))) := he
              clear he
              have hs2l : s2 ≤ 1000000 := by rw [HE.out]; exact Nat.le_trans (HSM.out.2 (i + 1)) (by rw [← HSM.out.1]; exact hs)
              have es : (s1 : Int) + (xl : Int) = (s2 : Int) := by omega
              subst eg
              clear hz hce hs2
              go_wp2_with fail
              go_roundg (n - (i + 1))
              case measure => omega
              case rel => exact ⟨i + 1, s2, rfl, rfl, by omega, by go_num, by go_num, HE.out⟩
            · have v6 : decide ((i : Int) < (n : Int)) = false := decide_eq_false (by omega)
              have e9 : s1 = sm := by
                rw [HI2.out, HSN.out]
                have e : i = n := by omega
                rw [e]
              subst e9
              go_wp2_with fail
              go_ret2
              exact ⟨rfl, (HX.out Z (HQ.out.2.2.trans HF.out.2)).2.2.2.2.2.2⟩
end Go.Proofs.Yteejgjapghccnaa
