/-
  Gaps, and the document's; Ends.
-/
import Derived.Test.YtegoadhnilmchaaSa5
namespace Go.Proofs.Ytegoadhnilmchaa
open Go.RowKit Go.Maps
set_option linter.unusedVariables false
set_option linter.unusedSimpArgs false
theorem sps_yes {C : List Ct} {x k : Nat} (h : (Sp.at' C (x + k)).kind = 1) : Sp.sps C x (k + 1) = Sp.sps C x k + 1 := by
  show Sp.sps C x k + (if (Sp.at' C (x + k)).kind = 1 then 1 else 0) = _
  rw [if_pos h]
theorem sps_no {C : List Ct} {x k : Nat} (h : (Sp.at' C (x + k)).kind ≠ 1) : Sp.sps C x (k + 1) = Sp.sps C x k := by
  show Sp.sps C x k + (if (Sp.at' C (x + k)).kind = 1 then 1 else 0) = _
  rw [if_neg h]; rfl
theorem sps_le (C : List Ct) (x : Nat) : ∀ k, Sp.sps C x k ≤ k
  | 0 => Nat.le_refl _
  | k + 1 => by
    have := sps_le C x k
    show Sp.sps C x k + (if (Sp.at' C (x + k)).kind = 1 then 1 else 0) ≤ _
    split <;> omega
set_option maxRecDepth 100000 in
set_option maxHeartbeats 4000000 in
theorem gaps_any (C : List Ct) (O : List Nat) (n m : Nat) (aC aO : Option Addr) (cC cO x y : Nat) (w : World) (hP : Pv w C O n m aC aO cC cO) (hx : x ≤ y) (hy : y ≤ n) :
    Calls Try.prog 37 #[.agg #[.slice aC n cC, .slice aO m cO], .int .i64 (x : Int), .int .i64 (y : Int)] w fun e w' => e = .returned (.int .i64 (Sp.gp C x (y - x) : Int)) ∧ Only (fun _ => False) w w' := by
  have htr := Sp.tr_ge C x (y - x)
  obtain ⟨r, hr⟩ : ∃ r, r = Sp.tr C x (y - x) := ⟨_, rfl⟩
  rw [← hr] at htr
  have HT : Hid (∀ W, Only (fun _ => False) w W → Calls Try.prog 31 #[.agg #[.slice aC n cC, .slice aO m cO], .int .i64 (x : Int), .int .i64 (y : Int)] W fun e w' => e = .returned (.int .i64 (r : Int)) ∧ Only (fun _ => False) W w') := fun W ho => by rw [hr]; exact trim_any C O n m aC aO cC cO x y W (hP.keep ho) hx hy
  have HB : Hid (∀ W, Only (fun _ => False) w W → Calls Try.prog 41 #[.agg #[.slice aC n cC, .slice aO m cO], .int .i64 (x : Int), .int .i64 (r : Int)] W fun e w' => ∃ a c, e = .returned (.slice a (r - x) c) ∧ Vw W a (ctC (sgm C x (r - x))) ∧ Only (fun _ => False) W w') := fun W ho => between_any C O n m aC aO cC cO x r W (hP.keep ho) htr.1 (by omega)
  have HP : Hid (Pv w C O n m aC aO cC cO) := hP
  have h1 := hP.few
  obtain ⟨k, hk⟩ : ∃ k, k = r - x := ⟨_, rfl⟩
  rw [← hk] at HB
  have hkl : k ≤ 100000 := by omega
  have hkx : x + k ≤ n := by omega
  obtain ⟨rs, hrs⟩ : ∃ rs, rs = Sp.gp C x (y - x) := ⟨_, rfl⟩
  rw [← hrs]
  have HRS : Hid (rs = Sp.sps C x k) := by rw [hrs]; unfold Sp.gp; rw [hk, hr]; exact rfl
  clear hP hk hr htr hrs
  go_enter Try.func37, Try.ntmps37
  go_wp2_with fail
  obtain ⟨R, w0, hw0, hR, H0, r0, r1, lR⟩ := box2 w (.slice aC n cC) (.slice aO m cO) 31
  rw [hw0, hR]
  have HS : Hid (∀ W', Only (fun _ => False) w0 W' → W'.cell? ⟨R, 0, none⟩ = some (.slice aC n cC) ∧ W'.cell? ⟨R, 1, none⟩ = some (.slice aO m cO)) := fun W' ho => ⟨(blk_two (blk_keep ho H0.out.1)).1, (blk_two (blk_keep ho H0.out.1)).2.1⟩
  clear hw0 hR r0 r1
  go_region_held3 (fun W' => W'.cell? ⟨R, 0, none⟩ = some (.slice aC n cC) ∧ W'.cell? ⟨R, 1, none⟩ = some (.slice aO m cO)) ((first | exact HS.out _ (Only.refl _ _).drew | exact HS.out _ H1.out | exact HS.out _ H2.out.2)) ((first | (go_at_call 31; refine Calls.mono (HT.out _ H0.out.2.drew) ?_; rintro e w1 ⟨rfl, ho1⟩; have H1 : Hid (Only (fun _ => False) w0 w1) := ((Only.refl _ _).drew).trans ho1; clear ho1) | (go_at_call 41; refine Calls.mono (HB.out _ (H0.out.2.trans H1.out)) ?_; rintro e w2 ⟨a, c, rfl, hV, ho2⟩; have H2 : Hid (Vw w2 a (ctC (sgm C x k)) ∧ Only (fun _ => False) w0 w2) := ⟨hV.keep ho2, H1.out.trans ho2⟩; clear hV ho2)))
  go_wp2_with fail
  go_loopg [7, 18] k (fun gh v7 v18 wr => ∃ (i q : Nat) (W : World), W = wr ∧ gh = k - i ∧ i ≤ k ∧ v7 = .int .i64 (q : Int) ∧ v18 = .int .i64 (i : Int) ∧ q = Sp.sps C x i ∧ Only (fun _ => False) w2 W)
  case atStart => exact ⟨0, 0, _, rfl, rfl, Nat.zero_le _, rfl, rfl, rfl, Only.refl _ _⟩
  case round =>
    obtain ⟨i, q, W, hW, rfl, hi, rfl, rfl, hq, hoW⟩ := hrel
    subst hW
    have HG : Hid (q = Sp.sps C x i ∧ Only (fun _ => False) w2 W ∧ Only (fun _ => False) w W) := ⟨hq, hoW, H0.out.2.trans (H2.out.2.trans hoW)⟩
    have hq1 : q ≤ 100000 := by rw [hq]; exact Nat.le_trans (sps_le C x i) (by omega)
    clear hq hoW
    by_cases hlt : i < k
    · have t1 : (i : Int) < (k : Int) := by omega
      obtain ⟨z, hz⟩ : ∃ z, C[x + i]? = some z := ⟨_, List.getElem?_eq_getElem (by rw [← HP.out.hn]; omega)⟩
      obtain ⟨xp, xl, xc, xk, rfl, hxc, hxk⟩ := HP.out.ok.nat hz
      obtain ⟨g, off, rfl, hg, c0, c1, c2, c3⟩ := (H2.out.1.keep HG.out.2.1).cluster (k := i) (by rw [sgm_at hlt]; exact hz)
      simp only at c0 c1 c2 c3
      have HA : Hid (Sp.at' C (x + i) = ⟨xp, xl, (xc : Int), xk⟩) := at_some hz
      clear hz
      by_cases hk1 : xk = 1
      · have t2 : ((xk : Int) == 1) = true := by rw [beq_iff_eq]; omega
        have HX : Hid (q + 1 = Sp.sps C x (i + 1)) := by rw [sps_yes (by rw [HA.out]; exact hk1), HG.out.1]; exact rfl
        clear hk1
        go_wp2_with fail
        go_roundg (k - (i + 1))
        case measure => omega
        case rel => exact ⟨i + 1, q + 1, _, rfl, rfl, by omega, by go_num, by go_num, HX.out, HG.out.2.1.alloc _⟩
      · have t2 : ((xk : Int) == 1) = false := by rw [beq_eq_false_iff_ne]; omega
        have HX : Hid (q = Sp.sps C x (i + 1)) := by rw [sps_no (by rw [HA.out]; exact hk1), HG.out.1]; exact rfl
        clear hk1
        go_wp2_with fail
        go_roundg (k - (i + 1))
        case measure => omega
        case rel => exact ⟨i + 1, q, _, rfl, rfl, by omega, rfl, by go_num, HX.out, HG.out.2.1.alloc _⟩
    · have t1 : decide ((i : Int) < (k : Int)) = false := decide_eq_false (by omega)
      have hin : i = k := by omega
      subst hin
      go_wp2_with fail
      go_ret
      exact ⟨by rw [HRS.out, ← HG.out.1]; rfl, HG.out.2.2⟩
set_option maxRecDepth 100000 in
set_option maxHeartbeats 4000000 in
theorem refGaps_any (C : List Ct) (O : List Nat) (n m : Nat) (aC aO : Option Addr) (cC cO x y : Nat) (w : World) (hP : Pv w C O n m aC aO cC cO) (hx : x ≤ y) (hy : y ≤ n) :
    Calls Try.prog 12 #[.agg #[.slice aC n cC, .slice aO m cO], .int .i64 (x : Int), .int .i64 (y : Int)] w fun e w' => e = .returned (.int .i64 (Sp.gp C x (y - x) : Int)) ∧ Only (fun _ => False) w w' := by
  have htr := Sp.tr_ge C x (y - x)
  obtain ⟨r, hr⟩ : ∃ r, r = Sp.tr C x (y - x) := ⟨_, rfl⟩
  rw [← hr] at htr
  have HT : Hid (∀ W, Only (fun _ => False) w W → Calls Try.prog 13 #[.agg #[.slice aC n cC, .slice aO m cO], .int .i64 (x : Int), .int .i64 (y : Int)] W fun e w' => e = .returned (.int .i64 (r : Int)) ∧ Only (fun _ => False) W w') := fun W ho => by rw [hr]; exact refTrim_any C O n m aC aO cC cO x y W (hP.keep ho) hx hy
  have HP : Hid (Pv w C O n m aC aO cC cO) := hP
  have h1 := hP.few
  obtain ⟨rs, hrs⟩ : ∃ rs, rs = Sp.gp C x (y - x) := ⟨_, rfl⟩
  rw [← hrs]
  have HRS : Hid (rs = Sp.sps C x (r - x)) := by rw [hrs]; unfold Sp.gp; rw [hr]; exact rfl
  have hxr := htr.1
  have hrn : r ≤ n := by omega
  clear hP hr htr hrs
  go_enter Try.func12, Try.ntmps12
  go_wp2_with fail
  obtain ⟨R, w0, hw0, hR, H0, r0, r1, lR⟩ := box2 w (.slice aC n cC) (.slice aO m cO) 31
  rw [hw0, hR]
  clear hw0 hR r0 r1 lR
  go_loopg [7, 8] (r - x) (fun gh v7 v8 wr => ∃ (i q : Nat) (W : World), W = wr ∧ gh = r - i ∧ x ≤ i ∧ i ≤ r ∧ v7 = .int .i64 (q : Int) ∧ v8 = .int .i64 (i : Int) ∧ q = Sp.sps C x (i - x) ∧ Only (fun _ => False) w0 W)
  case atStart => exact ⟨x, 0, _, rfl, rfl, Nat.le_refl _, hxr, rfl, rfl, by rw [Nat.sub_self]; rfl, Only.refl _ _⟩
  case round =>
    obtain ⟨i, q, W, hW, rfl, hi, hi2, rfl, rfl, hq, hoW⟩ := hrel
    subst hW
    have HG : Hid (q = Sp.sps C x (i - x) ∧ Only (fun _ => False) w0 W ∧ Only (fun _ => False) w W) := ⟨hq, hoW, H0.out.2.trans hoW⟩
    have hq1 : q ≤ 100000 := by rw [hq]; exact Nat.le_trans (sps_le C x _) (by omega)
    obtain ⟨r0, r1, lR⟩ := blk_two (blk_keep hoW H0.out.1)
    clear hq hoW
    by_cases hlt : i < r
    · have t1 : (i : Int) < (r : Int) := by omega
      have t2 : (i : Int) < (n : Int) := by omega
      obtain ⟨z, hz⟩ : ∃ z, C[i]? = some z := ⟨_, List.getElem?_eq_getElem (by rw [← HP.out.hn]; omega)⟩
      obtain ⟨xp, xl, xc, xk, rfl, hxc, hxk⟩ := HP.out.ok.nat hz
      have HA : Hid (Sp.at' C (x + (i - x)) = ⟨xp, xl, (xc : Int), xk⟩ ∧ i + 1 - x = i - x + 1) := ⟨by rw [show x + (i - x) = i by omega]; exact at_some hz, by omega⟩
      have HZ : Hid (C[i]? = some ⟨xp, xl, (xc : Int), xk⟩) := hz
      clear hz
      go_wp2_with fail
      refine Calls.mono (HT.out _ HG.out.2.2) ?_
      rintro e w2 ⟨rfl, ho2⟩
      obtain ⟨g, off, rfl, hg, c0, c1, c2, c3⟩ := (HP.out.vC.keep (HG.out.2.2.trans ho2)).cluster (k := i) HZ.out
      simp only at c0 c1 c2 c3
      obtain ⟨s0, s1, lS⟩ := blk_two (blk_keep (HG.out.2.1.trans ho2) H0.out.1)
      have H2 : Hid (Only (fun _ => False) w0 w2) := HG.out.2.1.trans ho2
      clear ho2 r0 r1 lR
      by_cases hk1 : xk = 1
      · have t3 : ((xk : Int) == 1) = true := by rw [beq_iff_eq]; omega
        have HX : Hid (q + 1 = Sp.sps C x (i + 1 - x)) := by rw [HA.out.2, sps_yes (by rw [HA.out.1]; exact hk1), HG.out.1]; exact rfl
        clear hk1
        go_wp2_with fail
        go_roundg (r - (i + 1))
        case measure => omega
        case rel => exact ⟨i + 1, q + 1, _, rfl, rfl, by omega, by omega, by go_num, by go_num, HX.out, H2.out⟩
      · have t3 : ((xk : Int) == 1) = false := by rw [beq_eq_false_iff_ne]; omega
        have HX : Hid (q = Sp.sps C x (i + 1 - x)) := by rw [HA.out.2, sps_no (by rw [HA.out.1]; exact hk1), HG.out.1]; exact rfl
        clear hk1
        go_wp2_with fail
        go_roundg (r - (i + 1))
        case measure => omega
        case rel => exact ⟨i + 1, q, _, rfl, rfl, by omega, by omega, rfl, by go_num, HX.out, H2.out⟩
    · have t1 : decide ((i : Int) < (r : Int)) = false := decide_eq_false (by omega)
      have hin : i = r := by omega
      subst hin
      go_wp2_with fail
      refine Calls.mono (HT.out _ HG.out.2.2) ?_
      rintro e w2 ⟨rfl, ho2⟩
      have H2 : Hid (Only (fun _ => False) w w2) := HG.out.2.2.trans ho2
      clear ho2
      go_wp2_with fail
      go_ret
      exact ⟨by rw [HRS.out, ← HG.out.1]; rfl, H2.out⟩
end Go.Proofs.Ytegoadhnilmchaa

