/-
  Trim, and the document's.
-/
import Derived.Test.YtegoadhnilmchaaSa3
namespace Go.Proofs.Ytegoadhnilmchaa
open Go.RowKit Go.Maps
set_option linter.unusedVariables false
set_option linter.unusedSimpArgs false
theorem tr_yes {C : List Ct} {x k : Nat} (h : Sp.emp (Sp.at' C (x + k)) = true) : Sp.tr C x (k + 1) = Sp.tr C x k := by
  show (if Sp.emp (Sp.at' C (x + k)) then Sp.tr C x k else x + k + 1) = _
  rw [if_pos h]
theorem tr_no {C : List Ct} {x k : Nat} (h : Sp.emp (Sp.at' C (x + k)) = false) : Sp.tr C x (k + 1) = x + k + 1 := by
  show (if Sp.emp (Sp.at' C (x + k)) then Sp.tr C x k else x + k + 1) = _
  rw [if_neg (by rw [h]; decide)]
set_option maxRecDepth 100000 in
set_option maxHeartbeats 4000000 in
theorem trim_any (C : List Ct) (O : List Nat) (n m : Nat) (aC aO : Option Addr) (cC cO x y : Nat) (w : World) (hP : Pv w C O n m aC aO cC cO) (hx : x ≤ y) (hy : y ≤ n) :
    Calls Try.prog 31 #[.agg #[.slice aC n cC, .slice aO m cO], .int .i64 (x : Int), .int .i64 (y : Int)] w fun e w' => e = .returned (.int .i64 (Sp.tr C x (y - x) : Int)) ∧ Only (fun _ => False) w w' := by
  have HB : Hid (∀ W, Only (fun _ => False) w W → Calls Try.prog 41 #[.agg #[.slice aC n cC, .slice aO m cO], .int .i64 (x : Int), .int .i64 (y : Int)] W fun e w' => ∃ a c, e = .returned (.slice a (y - x) c) ∧ Vw W a (ctC (sgm C x (y - x))) ∧ Only (fun _ => False) W w') := fun W ho => between_any C O n m aC aO cC cO x y W (hP.keep ho) hx hy
  have HP : Hid (Pv w C O n m aC aO cC cO) := hP
  have h1 := hP.few
  obtain ⟨k, hk⟩ : ∃ k, k = y - x := ⟨_, rfl⟩
  rw [← hk] at HB ⊢
  have hkl : k ≤ 100000 := by omega
  have hkx : x + k ≤ n := by omega
  clear hP hk
  obtain ⟨r, hr⟩ : ∃ r, r = Sp.tr C x k := ⟨_, rfl⟩
  rw [← hr]
  have HRR : Hid (r = Sp.tr C x k) := hr
  clear hr
  go_enter Try.func31, Try.ntmps31
  go_wp2_with fail
  obtain ⟨R, w0, hw0, hR, H0, r0, r1, lR⟩ := box2 w (.slice aC n cC) (.slice aO m cO) 31
  rw [hw0]
  clear hw0 r0 r1 lR
  refine Calls.mono (HB.out _ H0.out.2) ?_
  rintro e w1 ⟨a, c, rfl, hV, ho1⟩
  have H1 : Hid (Vw w1 a (ctC (sgm C x k)) ∧ Only (fun _ => False) w w1) := ⟨hV.keep ho1, H0.out.2.trans ho1⟩
  clear hV ho1 H0 hR
  go_wp2_with fail
  go_loopg [8] k (fun gh v wr => ∃ (i : Nat) (W : World), W = wr ∧ gh = i ∧ i ≤ k ∧ v = .int .i64 (i : Int) ∧ Sp.tr C x i = r ∧ Only (fun _ => False) w1 W)
  case atStart => exact ⟨k, _, rfl, rfl, Nat.le_refl _, rfl, HRR.out.symm, Only.refl _ _⟩
  case round =>
    obtain ⟨i, W, hW, hgi, hi, rfl, htr, hoW⟩ := hrel
    have hgi := hgi.symm
    subst hgi
    subst hW
    have HG : Hid (Sp.tr C x i = r ∧ Only (fun _ => False) w1 W) := ⟨htr, hoW⟩
    clear htr hoW
    by_cases hlt : 0 < i
    · obtain ⟨j, rfl⟩ : ∃ j, i = j + 1 := ⟨i - 1, by omega⟩
      obtain ⟨z, hz⟩ : ∃ z, C[x + j]? = some z := ⟨_, List.getElem?_eq_getElem (by rw [← HP.out.hn]; omega)⟩
      obtain ⟨xp, xl, xc, xk, rfl, hxc, hxk⟩ := HP.out.ok.nat hz
      obtain ⟨g, off, rfl, hg, c0, c1, c2, c3⟩ := (H1.out.1.keep HG.out.2).cluster (k := j) (by rw [sgm_at (by omega)]; exact hz)
      simp only at c0 c1 c2 c3
      have HA : Hid (Sp.at' C (x + j) = ⟨xp, xl, (xc : Int), xk⟩) := at_some hz
      have hjk : (j : Int) < (k : Int) := by omega
      clear hz
      cases hE : Sp.emp ⟨xp, xl, (xc : Int), xk⟩ with
      | true =>
        have HE : Hid (Sp.emp ⟨xp, xl, (xc : Int), xk⟩ = true) := hE
        clear hE
        go_wp2_with (first | (go_at_call 42; refine Calls.mono (empty_any xp xl xc xk _ hxc hxk) ?_; rw [HE.out]; rintro e w2 ⟨rfl, ho2⟩; have H2 : Hid (Only (fun _ => False) w1 w2) := HG.out.2.trans ho2; clear ho2) | fail)
        go_roundg j
        case measure => omega
        case rel => exact ⟨j, _, rfl, rfl, by omega, by go_num, by rw [← HG.out.1]; exact (tr_yes (by rw [HA.out]; exact HE.out)).symm, H2.out⟩
      | false =>
        have HE : Hid (Sp.emp ⟨xp, xl, (xc : Int), xk⟩ = false) := hE
        clear hE
        have HX : Hid (x + (j + 1) = r) := by rw [← HG.out.1]; exact (tr_no (by rw [HA.out]; exact HE.out)).symm
        go_wp2_with (first | (go_at_call 42; refine Calls.mono (empty_any xp xl xc xk _ hxc hxk) ?_; rw [HE.out]; rintro e w2 ⟨rfl, ho2⟩; have H2 : Hid (Only (fun _ => False) w1 w2) := HG.out.2.trans ho2; clear ho2) | fail)
        go_ret
        exact ⟨by rw [← HX.out]; go_num, H1.out.2.trans H2.out⟩
    · have t1 : decide ((0 : Int) < (i : Int)) = false := decide_eq_false (by omega)
      have hi0 : i = 0 := by omega
      subst hi0
      have HX : Hid (x = r) := HG.out.1
      go_wp2_with fail
      go_ret
      exact ⟨by rw [← HX.out]; go_num, H1.out.2.trans HG.out.2⟩
set_option maxRecDepth 100000 in
set_option maxHeartbeats 4000000 in
theorem refTrim_any (C : List Ct) (O : List Nat) (n m : Nat) (aC aO : Option Addr) (cC cO x y : Nat) (w : World) (hP : Pv w C O n m aC aO cC cO) (hx : x ≤ y) (hy : y ≤ n) :
    Calls Try.prog 13 #[.agg #[.slice aC n cC, .slice aO m cO], .int .i64 (x : Int), .int .i64 (y : Int)] w fun e w' => e = .returned (.int .i64 (Sp.tr C x (y - x) : Int)) ∧ Only (fun _ => False) w w' := by
  have HP : Hid (Pv w C O n m aC aO cC cO) := hP
  have h1 := hP.few
  clear hP
  go_enter Try.func13, Try.ntmps13
  go_wp2_with fail
  obtain ⟨R, w0, hw0, hR, H0, r0, r1, lR⟩ := box2 w (.slice aC n cC) (.slice aO m cO) 31
  rw [hw0, hR]
  clear hw0 hR r0 r1 lR
  go_loopg [7, 8] (y - x) (fun gh v7 v8 wr => ∃ (i o : Nat) (W : World), W = wr ∧ gh = y - i ∧ x ≤ i ∧ i ≤ y ∧ v7 = .int .i64 (o : Int) ∧ v8 = .int .i64 (i : Int) ∧ o = Sp.tr C x (i - x) ∧ Only (fun _ => False) w0 W)
  case atStart => exact ⟨x, x, _, rfl, rfl, Nat.le_refl _, hx, rfl, rfl, by rw [Nat.sub_self]; rfl, Only.refl _ _⟩
  case round =>
    obtain ⟨i, o, W, hW, rfl, hi, hi2, rfl, rfl, ho, hoW⟩ := hrel
    subst hW
    have HG : Hid (o = Sp.tr C x (i - x) ∧ Only (fun _ => False) w0 W ∧ Only (fun _ => False) w W) := ⟨ho, hoW, H0.out.2.trans hoW⟩
    obtain ⟨r0, r1, lR⟩ := blk_two (blk_keep hoW H0.out.1)
    clear ho hoW
    by_cases hlt : i < y
    · have t1 : (i : Int) < (y : Int) := by omega
      have t2 : (i : Int) < (n : Int) := by omega
      obtain ⟨z, hz⟩ : ∃ z, C[i]? = some z := ⟨_, List.getElem?_eq_getElem (by rw [← HP.out.hn]; omega)⟩
      obtain ⟨xp, xl, xc, xk, rfl, hxc, hxk⟩ := HP.out.ok.nat hz
      obtain ⟨g, off, rfl, hg, c0, c1, c2, c3⟩ := (HP.out.vC.keep HG.out.2.2).cluster (k := i) hz
      simp only at c0 c1 c2 c3
      have HA : Hid (Sp.at' C (x + (i - x)) = ⟨xp, xl, (xc : Int), xk⟩ ∧ i + 1 - x = i - x + 1) := ⟨by rw [show x + (i - x) = i by omega]; exact at_some hz, by omega⟩
      clear hz
      cases hE : Sp.emp ⟨xp, xl, (xc : Int), xk⟩ with
      | true =>
        have HE : Hid (Sp.emp ⟨xp, xl, (xc : Int), xk⟩ = true) := hE
        clear hE
        go_wp2_with (first | (go_at_call 21; refine Calls.mono (refEmpty_any xp xl xc xk _ hxc hxk) ?_; rw [HE.out]; rintro e w2 ⟨rfl, ho2⟩; have H2 : Hid (Only (fun _ => False) w0 w2) := HG.out.2.1.trans ho2; clear ho2) | fail)
        go_roundg (y - (i + 1))
        case measure => omega
        case rel => exact ⟨i + 1, o, _, rfl, rfl, by omega, by omega, rfl, by go_num, by rw [HA.out.2, tr_yes (by rw [HA.out.1]; exact HE.out)]; exact HG.out.1, H2.out⟩
      | false =>
        have HE : Hid (Sp.emp ⟨xp, xl, (xc : Int), xk⟩ = false) := hE
        clear hE
        go_wp2_with (first | (go_at_call 21; refine Calls.mono (refEmpty_any xp xl xc xk _ hxc hxk) ?_; rw [HE.out]; rintro e w2 ⟨rfl, ho2⟩; have H2 : Hid (Only (fun _ => False) w0 w2) := HG.out.2.1.trans ho2; clear ho2) | fail)
        go_roundg (y - (i + 1))
        case measure => omega
        case rel => exact ⟨i + 1, i + 1, _, rfl, rfl, by omega, by omega, by go_num, by go_num, by rw [HA.out.2, tr_no (by rw [HA.out.1]; exact HE.out)]; omega, H2.out⟩
    · have t1 : decide ((i : Int) < (y : Int)) = false := decide_eq_false (by omega)
      have hin : i = y := by omega
      subst hin
      go_wp2_with fail
      go_ret
      exact ⟨by rw [HG.out.1]; rfl, HG.out.2.2⟩
end Go.Proofs.Ytegoadhnilmchaa

