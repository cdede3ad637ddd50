/-
  Cells, Gaps, and the document's.
-/
import Derived.Test.YtegoadhnilmchaaSa4
namespace Go.Proofs.Ytegoadhnilmchaa
open Go.RowKit Go.Maps
set_option linter.unusedVariables false
set_option linter.unusedSimpArgs false
namespace Sp
/-- how wide a line is that ends so. -/
def cel (C : List Ct) (t a k e : Nat) : Nat := wd C t a k + (if e = 3 then 1 else 0)
theorem cel_hy {C : List Ct} {t a k e : Nat} (h : e = 3) : cel C t a k e = wd C t a k + 1 := by unfold cel; rw [if_pos h]
theorem cel_no {C : List Ct} {t a k e : Nat} (h : e ≠ 3) : cel C t a k e = wd C t a k := by unfold cel; rw [if_neg h]; rfl
end Sp
set_option maxRecDepth 100000 in
set_option maxHeartbeats 4000000 in
theorem cells_any (C : List Ct) (O : List Nat) (n m : Nat) (aC aO : Option Addr) (cC cO x y t en : Nat) (w : World) (hP : Pv w C O n m aC aO cC cO) (hx : x ≤ y) (hy : y ≤ n) (h0 : 0 < t) (ht : t ≤ 1000) (he : en < 256) :
    Calls Try.prog 34 #[.agg #[.slice aC n cC, .slice aO m cO], .int .i64 (x : Int), .int .i64 (y : Int), .int .u8 (en : Int), .int .i64 (t : Int)] w fun e w' => e = .returned (.int .i64 (Sp.cel C t x (y - x) en : Int)) ∧ Only (fun _ => False) w w' := by
  have htr := Sp.tr_ge C x (y - x)
  obtain ⟨r, hr⟩ : ∃ r, r = Sp.tr C x (y - x) := ⟨_, rfl⟩
  rw [← hr] at htr
  have HT : Hid (∀ W, Only (fun _ => False) w W → Calls Try.prog 31 #[.agg #[.slice aC n cC, .slice aO m cO], .int .i64 (x : Int), .int .i64 (y : Int)] W fun e w' => e = .returned (.int .i64 (r : Int)) ∧ Only (fun _ => False) W w') := fun W ho => by rw [hr]; exact trim_any C O n m aC aO cC cO x y W (hP.keep ho) hx hy
  have HB : Hid (∀ W, Only (fun _ => False) w W → Calls Try.prog 41 #[.agg #[.slice aC n cC, .slice aO m cO], .int .i64 (x : Int), .int .i64 (r : Int)] W fun e w' => ∃ a c, e = .returned (.slice a (r - x) c) ∧ Vw W a (ctC (sgm C x (r - x))) ∧ Only (fun _ => False) W w') := fun W ho => between_any C O n m aC aO cC cO x r W (hP.keep ho) htr.1 (by omega)
  have HP : Hid (Pv w C O n m aC aO cC cO) := hP
  have h1 := hP.few
  obtain ⟨k, hk⟩ : ∃ k, k = r - x := ⟨_, rfl⟩
  rw [← hk] at HB
  have HW : Hid (Sp.wd C t x (y - x) = Sp.col C t x k) := by unfold Sp.wd; rw [hk, hr]; exact rfl
  have hkl : k ≤ 100000 := by omega
  have hkx : x + k ≤ n := by omega
  obtain ⟨rs, hrs⟩ : ∃ rs, rs = Sp.cel C t x (y - x) en := ⟨_, rfl⟩
  rw [← hrs]
  have HRS : Hid (rs = Sp.cel C t x (y - x) en) := hrs
  have HC : Hid (∀ i, i ≤ k → Sp.col C t x i ≤ 100200000) := fun i hi => col_small HP.out.ok h0 ht (by omega)
  clear hP hk hr htr hrs
  go_enter Try.func34, Try.ntmps34
  go_wp2_with fail
  obtain ⟨R, w0, hw0, hR, H0, r0, r1, lR⟩ := box2 w (.slice aC n cC) (.slice aO m cO) 31
  rw [hw0, hR]
  have HS : Hid (∀ W', Only (fun _ => False) w0 W' → W'.cell? ⟨R, 0, none⟩ = some (.slice aC n cC) ∧ W'.cell? ⟨R, 1, none⟩ = some (.slice aO m cO)) := fun W' ho => ⟨(blk_two (blk_keep ho H0.out.1)).1, (blk_two (blk_keep ho H0.out.1)).2.1⟩
  clear hw0 hR r0 r1
  go_region_held3 (fun W' => W'.cell? ⟨R, 0, none⟩ = some (.slice aC n cC) ∧ W'.cell? ⟨R, 1, none⟩ = some (.slice aO m cO)) ((first | exact HS.out _ (Only.refl _ _).drew | exact HS.out _ H1.out | exact HS.out _ H2.out.2)) ((first | (go_at_call 31; refine Calls.mono (HT.out _ H0.out.2.drew) ?_; rintro e w1 ⟨rfl, ho1⟩; have H1 : Hid (Only (fun _ => False) w0 w1) := ((Only.refl _ _).drew).trans ho1; clear ho1) | (go_at_call 41; refine Calls.mono (HB.out _ (H0.out.2.trans H1.out)) ?_; rintro e w2 ⟨a, c, rfl, hV, ho2⟩; have H2 : Hid (Vw w2 a (ctC (sgm C x k)) ∧ Only (fun _ => False) w0 w2) := ⟨hV.keep ho2, H1.out.trans ho2⟩; clear hV ho2)))
  go_wp2_with fail
  go_loopg [11, 22] k (fun gh v11 v22 wr => ∃ (i q : Nat) (W : World), W = wr ∧ gh = k - i ∧ i ≤ k ∧ v11 = .int .i64 (q : Int) ∧ v22 = .int .i64 (i : Int) ∧ q = Sp.col C t x i ∧ Only (fun _ => False) w2 W)
  case atStart => exact ⟨0, 0, _, rfl, rfl, Nat.zero_le _, rfl, rfl, rfl, Only.refl _ _⟩
  case round =>
    obtain ⟨i, q, W, hW, rfl, hi, rfl, rfl, hq, hoW⟩ := hrel
    subst hW
    have HG : Hid (q = Sp.col C t x i ∧ Only (fun _ => False) w2 W ∧ Only (fun _ => False) w W) := ⟨hq, hoW, H0.out.2.trans (H2.out.2.trans hoW)⟩
    have hq1 : q ≤ 100200000 := by rw [hq]; exact HC.out i hi
    clear hq hoW
    by_cases hlt : i < k
    · have t1 : (i : Int) < (k : Int) := by omega
      obtain ⟨z, hz⟩ : ∃ z, C[x + i]? = some z := ⟨_, List.getElem?_eq_getElem (by rw [← HP.out.hn]; omega)⟩
      obtain ⟨xp, xl, xc, xk, rfl, hxc, hxk⟩ := HP.out.ok.nat hz
      obtain ⟨g, off, rfl, hg, c0, c1, c2, c3⟩ := (H2.out.1.keep HG.out.2.1).cluster (k := i) (by rw [sgm_at hlt]; exact hz)
      simp only at c0 c1 c2 c3
      have HQ : Hid (Sp.nx ⟨xp, xl, (xc : Int), xk⟩ t q = Sp.col C t x (i + 1)) := by
        rw [HG.out.1]
        show _ = Sp.nx (Sp.at' C (x + i)) t (Sp.col C t x i)
        rw [at_some hz]
      clear hz
      go_wp2_with (first | (go_at_call 43; refine Calls.mono (next_any xp xl xc xk q t _ hxc hxk (by omega) h0 ht) ?_; rw [HQ.out]; rintro e w4 ⟨rfl, ho4⟩; have H4 : Hid (Only (fun _ => False) w2 w4) := (HG.out.2.1.alloc _).trans ho4; clear ho4) | fail)
      go_roundg (k - (i + 1))
      case measure => omega
      case rel => exact ⟨i + 1, Sp.col C t x (i + 1), _, rfl, rfl, by omega, rfl, by go_num, rfl, H4.out⟩
    · have t1 : decide ((i : Int) < (k : Int)) = false := decide_eq_false (by omega)
      have hin : i = k := by omega
      subst hin
      by_cases he3 : en = 3
      · have t2 : ((en : Int) == 3) = true := by rw [beq_iff_eq]; omega
        have HX : Hid (rs = q + 1) := by rw [HRS.out, Sp.cel_hy he3, HW.out, HG.out.1]; exact rfl
        clear he3
        go_wp2_with fail
        go_ret
        exact ⟨by rw [HX.out]; go_num, HG.out.2.2⟩
      · have t2 : ((en : Int) == 3) = false := by rw [beq_eq_false_iff_ne]; omega
        have HX : Hid (rs = q) := by rw [HRS.out, Sp.cel_no he3, HW.out, HG.out.1]; exact rfl
        clear he3
        go_wp2_with fail
        go_ret
        exact ⟨by rw [HX.out]; rfl, HG.out.2.2⟩
set_option maxRecDepth 100000 in
set_option maxHeartbeats 4000000 in
theorem refCells_any (C : List Ct) (O : List Nat) (n m : Nat) (aC aO : Option Addr) (cC cO x y t en : Nat) (w : World) (hP : Pv w C O n m aC aO cC cO) (hx : x ≤ y) (hy : y ≤ n) (h0 : 0 < t) (ht : t ≤ 1000) (he : en < 256) :
    Calls Try.prog 26 #[.agg #[.slice aC n cC, .slice aO m cO], .int .i64 (x : Int), .int .i64 (y : Int), .int .u8 (en : Int), .int .i64 (t : Int)] w fun e w' => e = .returned (.int .i64 (Sp.cel C t x (y - x) en : Int)) ∧ Only (fun _ => False) w w' := by
  have htr := Sp.tr_ge C x (y - x)
  obtain ⟨r, hr⟩ : ∃ r, r = Sp.tr C x (y - x) := ⟨_, rfl⟩
  rw [← hr] at htr
  have HT : Hid (∀ W, Only (fun _ => False) w W → Calls Try.prog 13 #[.agg #[.slice aC n cC, .slice aO m cO], .int .i64 (x : Int), .int .i64 (y : Int)] W fun e w' => e = .returned (.int .i64 (r : Int)) ∧ Only (fun _ => False) W w') := fun W ho => by rw [hr]; exact refTrim_any C O n m aC aO cC cO x y W (hP.keep ho) hx hy
  have HB : Hid (∀ W, Only (fun _ => False) w W → Calls Try.prog 17 #[.agg #[.slice aC n cC, .slice aO m cO], .int .i64 (x : Int), .int .i64 (r : Int), .int .i64 (t : Int)] W (nlP (Sp.cols C t x (r - x)) W)) := fun W ho => refColumns_any C O n m aC aO cC cO x r t W (hP.keep ho) htr.1 (by omega) h0 ht
  have HP : Hid (Pv w C O n m aC aO cC cO) := hP
  have h1 := hP.few
  obtain ⟨k, hk⟩ : ∃ k, k = r - x := ⟨_, rfl⟩
  rw [← hk] at HB
  have HW : Hid (Sp.wd C t x (y - x) = Sp.col C t x k) := by unfold Sp.wd; rw [hk, hr]; exact rfl
  have hkl : k ≤ 100000 := by omega
  obtain ⟨rs, hrs⟩ : ∃ rs, rs = Sp.cel C t x (y - x) en := ⟨_, rfl⟩
  rw [← hrs]
  have HRS : Hid (rs = Sp.cel C t x (y - x) en) := hrs
  have HC : Hid (∀ i, i ≤ k → Sp.col C t x i ≤ 100200000) := fun i hi => col_small HP.out.ok h0 ht (by omega)
  clear hP hk hr htr hrs
  go_enter Try.func26, Try.ntmps26
  go_wp2_with fail
  obtain ⟨R, w0, hw0, hR, H0, r0, r1, lR⟩ := box2 w (.slice aC n cC) (.slice aO m cO) 31
  rw [hw0, hR]
  have HS : Hid (∀ W', Only (fun _ => False) w0 W' → W'.cell? ⟨R, 0, none⟩ = some (.slice aC n cC) ∧ W'.cell? ⟨R, 1, none⟩ = some (.slice aO m cO)) := fun W' ho => ⟨(blk_two (blk_keep ho H0.out.1)).1, (blk_two (blk_keep ho H0.out.1)).2.1⟩
  clear hw0 hR r0 r1
  go_region_held3 (fun W' => W'.cell? ⟨R, 0, none⟩ = some (.slice aC n cC) ∧ W'.cell? ⟨R, 1, none⟩ = some (.slice aO m cO)) ((first | exact HS.out _ (Only.refl _ _).drew | exact HS.out _ H1.out | exact HS.out _ H2.out.2)) ((first | (go_at_call 13; refine Calls.mono (HT.out _ H0.out.2.drew) ?_; rintro e w1 ⟨rfl, ho1⟩; have H1 : Hid (Only (fun _ => False) w0 w1) := ((Only.refl _ _).drew).trans ho1; clear ho1) | (go_at_call 17; refine Calls.mono (HB.out _ (H0.out.2.trans H1.out)) ?_; rintro e w2 ⟨a, c, rfl, hV, ho2⟩; rw [Sp.cols_len] at hV ⊢; have H2 : Hid (w2.ownsRow w1.heap.size 3 1 (.slice a (k + 1) c) (k + 1) (natI (Sp.cols C t x k)) ∧ Only (fun _ => False) w0 w2) := ⟨hV, H1.out.trans ho2⟩; clear hV ho2)))
  obtain ⟨q, hq⟩ : ∃ q, q = Sp.col C t x k := ⟨_, rfl⟩
  obtain ⟨g, off, rfl, hb, hc⟩ := (own_vw H2.out.1).cells (by rw [natI_len, Sp.cols_len]; omega)
  have c0 := hc k _ (natI_get (Sp.cols_at (Nat.le_refl k)))
  have hq1 : q ≤ 100200000 := by rw [hq]; exact HC.out k (Nat.le_refl _)
  have j1 : (k : Int) < (k : Int) + 1 := by omega
  have HQ : Hid (q = Sp.col C t x k) := hq
  rw [← hq] at c0
  clear hc hq
  by_cases he3 : en = 3
  · have t2 : ((en : Int) == 3) = true := by rw [beq_iff_eq]; omega
    have HX : Hid (rs = q + 1) := by rw [HRS.out, Sp.cel_hy he3, HW.out, HQ.out]; exact rfl
    clear he3
    go_wp2_with fail
    go_ret
    exact ⟨by rw [HX.out]; go_num, H0.out.2.trans H2.out.2⟩
  · have t2 : ((en : Int) == 3) = false := by rw [beq_eq_false_iff_ne]; omega
    have HX : Hid (rs = q) := by rw [HRS.out, Sp.cel_no he3, HW.out, HQ.out]; exact rfl
    clear he3
    go_wp2_with fail
    go_ret
    exact ⟨by rw [HX.out]; rfl, H0.out.2.trans H2.out.2⟩
end Go.Proofs.Ytegoadhnilmchaa

