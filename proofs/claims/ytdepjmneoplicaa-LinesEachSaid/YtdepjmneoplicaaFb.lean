/-
  first.lineEnd: where a line ends.
-/
import Derived.Test.YtdepjmneoplicaaFa
namespace Go.Proofs.Ytdepjmneoplicaa
open Go.RowKit Go.Maps
set_option linter.unusedVariables false
set_option linter.unusedSimpArgs false
theorem getD_some {O : List Nat} {k : Nat} (h : k < O.length) : ∃ e, O[k]? = some e ∧ O.getD k 0 = e := ⟨_, List.getElem?_eq_getElem h, by rw [List.getD_eq_getElem?_getD, List.getElem?_eq_getElem h]; rfl⟩
set_option maxRecDepth 100000 in
set_option maxHeartbeats 4000000 in
theorem lineEnd_any (C : List Ct) (O : List Nat) (n m : Nat) (aC aO : Option Addr) (cC cO a b wi t mo hy pr lo : Nat) (w : World) (hP : Pv w C O n m aC aO cC cO) (hm : n < m) (hab : a < b) (hb : b ≤ n) (hw : wi ≤ 1048576) (h0 : 0 < t) (ht : t ≤ 1000) :
    Calls Try.prog 29 #[.agg #[.slice aC n cC, .slice aO m cO], .int .i64 (a : Int), .int .i64 (b : Int), .agg #[.int .i64 (wi : Int), .int .i64 (t : Int), .int .u8 (mo : Int), .int .i64 (hy : Int), .int .i64 (pr : Int), .float .f64 lo]] w fun e w' => e = .returned (.tuple #[.int .i64 ((Sp.nxt C O t wi a b).1 : Int), .int .u8 ((Sp.nxt C O t wi a b).2 : Int)]) ∧ Only (fun _ => False) w w' := by
  have HP : Hid (Pv w C O n m aC aO cC cO) := hP
  have h1 := hP.few
  have HC : Hid (∀ i, i ≤ n → Sp.col C t a i ≤ 100200000) := fun i hi => col_small HP.out.ok h0 ht (by omega)
  obtain ⟨x1, hx1⟩ : ∃ x, x = (Sp.nxt C O t wi a b).1 := ⟨_, rfl⟩
  obtain ⟨x2, hx2⟩ : ∃ x, x = (Sp.nxt C O t wi a b).2 := ⟨_, rfl⟩
  rw [← hx1, ← hx2]
  have HX : Hid (x1 = (Sp.nxt C O t wi a b).1 ∧ x2 = (Sp.nxt C O t wi a b).2) := ⟨hx1, hx2⟩
  have HOL : Hid (m = O.length) := hP.hm
  have hfO := hP.fewO
  clear hP hx1 hx2
  go_enter Try.func29, Try.ntmps29
  go_wp2_with fail
  obtain ⟨R, B, w0, hw0, hB, hR, H0, lRB, lB, lB0⟩ := box26 w (.slice aC n cC) (.slice aO m cO) (.int .i64 (wi : Int)) (.int .i64 (t : Int)) (.int .u8 (mo : Int)) (.int .i64 (hy : Int)) (.int .i64 (pr : Int)) (.float .f64 lo) 31 35
  rw [hw0, hB, hR]
  clear hw0 hB hR
  have HS : Hid (∀ W', Only (fun _ => False) w0 W' → W'.cell? ⟨R, 0, none⟩ = some (.slice aC n cC) ∧ W'.cell? ⟨R, 1, none⟩ = some (.slice aO m cO) ∧ W'.cell? ⟨B, 0, none⟩ = some (.int .i64 (wi : Int)) ∧ W'.cell? ⟨B, 1, none⟩ = some (.int .i64 (t : Int)) ∧ R < W'.heap.size ∧ B < W'.heap.size) := fun W' ho =>
    ⟨(blk_two (blk_keep ho H0.out.1)).1, (blk_two (blk_keep ho H0.out.1)).2.1, (blk_six (blk_keep ho H0.out.2.1)).1, (blk_six (blk_keep ho H0.out.2.1)).2.1, (blk_two (blk_keep ho H0.out.1)).2.2, (Array.getElem?_eq_some_iff.1 (blk_keep ho H0.out.2.1)).1⟩
  have HPv : Hid (∀ W, Only (fun _ => False) w0 W → Pv W C O n m aC aO cC cO) := fun W ho => HP.out.keep (H0.out.2.2.trans ho)
  have HFIN : Hid (∀ q y, (Sp.fit C t wi a (b - a)).getD (a + 1) = q → O[q]? = some y → Sp.bst C O t wi a (b - a) = none → x1 = q ∧ x2 = if y = 1 ∨ y = 2 then y else 4) := fun q y h2 h3 h4 => by
    rw [HX.out.1, HX.out.2, nxt_none h4 h2 (show O.getD q 0 = y by rw [List.getD_eq_getElem?_getD, h3]; rfl)]
    exact ⟨rfl, rfl⟩
  have HFIS : Hid (∀ k, Sp.bst C O t wi a (b - a) = some k → x1 = k ∧ x2 = O.getD k 0) := fun k h => by
    rw [HX.out.1, HX.out.2, nxt_some h]
    exact ⟨rfl, rfl⟩
  go_loopg [10, 11, 12, 13, 14] (b - a) (fun gh v10 v11 v12 v13 v14 wr => ∃ (j q la ho co ce : Nat) (W : World), W = wr ∧ gh = b - q ∧ q = a + j ∧ q ≤ b ∧ v10 = .int .i64 (la : Int) ∧ v11 = .int .u8 (ho : Int) ∧ v12 = .int .i64 (q : Int) ∧ v13 = .int .i64 (co : Int) ∧ v14 = .int .i64 (ce : Int) ∧ (la, ho) = lstO O a (Sp.bst C O t wi a j) ∧ co = Sp.col C t a j ∧ ce = Sp.wd C t a j ∧ ce ≤ wi ∧ Only (fun _ => False) w0 W)
  case atStart => exact ⟨0, a, a, 0, 0, 0, _, rfl, rfl, rfl, by omega, rfl, rfl, rfl, rfl, rfl, rfl, rfl, (wd_zero C t a).symm, Nat.zero_le _, Only.refl _ _⟩
  case round =>
    obtain ⟨j, q, la, hw1, co, ce, W, hW, rfl, hq, hqb, rfl, rfl, rfl, rfl, rfl, hlst, hco, hce, hcw, hoW⟩ := hrel
    subst hW
    have hco1 : co ≤ 100200000 := by rw [hco]; exact HC.out _ (by omega)
    have HG : Hid (q = a + j ∧ (la, hw1) = lstO O a (Sp.bst C O t wi a j) ∧ co = Sp.col C t a j ∧ ce = Sp.wd C t a j ∧ Only (fun _ => False) w0 W) := ⟨hq, hlst, hco, hce, hoW⟩
    obtain ⟨r0, r1, k0, k1, lR, lBW⟩ := HS.out W hoW
    have hqa : a ≤ q := by omega
    clear hq hlst hco hce hoW
    by_cases hlt : q < b
    · have t1 : (q : Int) < (b : Int) := by omega
      have t2 : (q : Int) < (n : Int) := by omega
      obtain ⟨z, hz⟩ : ∃ z, C[q]? = some z := ⟨_, List.getElem?_eq_getElem (by rw [← HP.out.hn]; omega)⟩
      obtain ⟨xp, xl, xc, xk, rfl, hxc, hxk⟩ := HP.out.ok.nat hz
      obtain ⟨g, off, rfl, hg, c0, c1, c2, c3⟩ := ((HPv.out W HG.out.2.2.2.2).vC).cluster (k := q) hz
      simp only at c0 c1 c2 c3
      have HQ : Hid (Sp.nx ⟨xp, xl, (xc : Int), xk⟩ t co = Sp.col C t a (j + 1) ∧ Sp.at' C (a + j) = Sp.at' C q) := by
        rw [HG.out.2.2.1, HG.out.1]
        refine ⟨?_, rfl⟩
        show _ = Sp.nx (Sp.at' C (a + j)) t (Sp.col C t a j)
        rw [← HG.out.1, at_some hz]
      have HCL : Hid (∀ W', Only (fun _ => False) W W' → W'.cell? ⟨g, off + q * 4, none⟩ = some (.int .i64 (xp : Int)) ∧ W'.cell? ⟨g, off + q * 4 + 1, none⟩ = some (.int .i64 (xl : Int)) ∧ W'.cell? ⟨g, off + q * 4 + 2, none⟩ = some (.int .i64 (xc : Int)) ∧ W'.cell? ⟨g, off + q * 4 + 3, none⟩ = some (.int .u8 (xk : Int))) := fun W' ho => ⟨keep0 ho c0, keep0 ho c1, keep0 ho c2, keep0 ho c3⟩
      obtain ⟨e, hOe, hOd⟩ := getD_some (O := O) (k := q + 1) (by rw [← HOL.out]; omega)
      have HE8 : Hid (O[q + 1]? = some e ∧ O.getD (a + j + 1) 0 = e) := ⟨hOe, by rw [← HG.out.1]; exact hOd⟩
      clear hz hOe hOd
      obtain ⟨hh, hhh⟩ : ∃ x : Nat, x = if e = 3 then 1 else 0 := ⟨_, rfl⟩
      have hh1 : hh ≤ 1 := by rw [hhh]; split <;> omega
      have HHY : Hid (∀ W', Calls Try.prog 42 #[.int .u8 (e : Int)] W' fun r w' => r = .returned (.int .i64 (hh : Int)) ∧ w' = W') := fun W' => by rw [hhh]; exact fhyphen_any e W'
      obtain ⟨cp, hcp⟩ : ∃ x, x = Sp.col C t a (j + 1) := ⟨_, rfl⟩
      have hcp1 : cp ≤ 100200000 := by rw [hcp]; exact HC.out _ (by have := HG.out.1; omega)
      have HCP : Hid (cp = Sp.col C t a (j + 1)) := hcp
      rw [← hcp] at HQ
      have HWE : Hid (∀ v, Sp.wd C t a (j + 1) = v → Sp.wde C t a (a + j + 1) e = v + hh) := fun v hv => by unfold Sp.wde; rw [show a + j + 1 - a = j + 1 by omega, hv, hhh]
      clear hhh hcp
      cases hE : Sp.emp (Sp.at' C q) with
      | true =>
        have HE : Hid (Sp.emp (Sp.at' C q) = true) := hE
        clear hE
        have t4 : decide ((wi : Int) < (ce : Int)) = false := decide_eq_false (by omega)
        have HV : Hid (Sp.wd C t a (j + 1) = ce) := by rw [wd_yes (by rw [HQ.out.2]; exact HE.out)]; exact HG.out.2.2.2.1.symm
        by_cases he0 : e = 0
        · have HL : Hid ((la, hw1) = lstO O a (Sp.bst C O t wi a (j + 1))) := by rw [(bst_step (C := C) (O := O) (t := t) (W := wi) (a := a) (m := j)).2 ((ok_tf HE8.out.2).1 he0)]; exact HG.out.2.1
          have HEN : Hid (∀ W', Only (fun _ => False) w0 W' → Calls Try.prog 32 #[.agg #[.slice (some ⟨g, off, none⟩) n cC, .slice aO m cO], .int .i64 ((q : Int) + 1)] W' fun r w' => r = .returned (.tuple #[.int .u8 (e : Int), .bool false]) ∧ Only (fun _ => False) W' w') := fun W' ho => by
            have h := ends_any C O n m _ aO cC cO (q + 1) e W' (HPv.out _ ho) (by omega) HE8.out.1
            rw [decide_eq_false (fun h => h he0)] at h
            exact h
          clear he0
          go_wp2_with fail
          go_region_held3 (fun W' => (W'.cell? ⟨R, 0, none⟩ = some (.slice (some ⟨g, off, none⟩) n cC) ∧ W'.cell? ⟨B, 1, none⟩ = some (.int .i64 (t : Int))) ∧ W'.cell? ⟨g, off + q * 4, none⟩ = some (.int .i64 (xp : Int)) ∧ W'.cell? ⟨g, off + q * 4 + 1, none⟩ = some (.int .i64 (xl : Int)) ∧ W'.cell? ⟨g, off + q * 4 + 2, none⟩ = some (.int .i64 (xc : Int)) ∧ W'.cell? ⟨g, off + q * 4 + 3, none⟩ = some (.int .u8 (xk : Int))) ((first | exact ⟨⟨(HS.out _ HG.out.2.2.2.2.drew).1, (HS.out _ HG.out.2.2.2.2.drew).2.2.2.1⟩, HCL.out _ (Only.refl _ _).drew⟩ | exact ⟨⟨(HS.out _ H2.out.1).1, (HS.out _ H2.out.1).2.2.2.1⟩, HCL.out _ H2.out.2⟩)) ((go_at_call 40; refine Calls.mono (next_any xp xl xc xk co t _ hxc hxk (by omega) h0 ht) ?_; rw [HQ.out.1]; rintro e w2 ⟨rfl, ho2⟩; have H2 : Hid (Only (fun _ => False) w0 w2 ∧ Only (fun _ => False) W w2) := ⟨HG.out.2.2.2.2.drew.trans ho2, (Only.refl _ _).drew.trans ho2⟩; clear ho2))
          obtain ⟨s0, s1, u0, u1, lS, lU⟩ := HS.out w2 H2.out.1
          clear r0 r1 k0 k1 lR lBW c0 c1 c2 c3
          go_wp2_with fail
          refine Calls.mono (fempty_any C O n m _ aO cC cO q w2 (HPv.out _ H2.out.1) (by omega)) ?_
          rw [HE.out]
          rintro e w3 ⟨rfl, ho3⟩
          have H3 : Hid (Only (fun _ => False) w0 w3) := H2.out.1.trans ho3
          obtain ⟨x0, x1', y0, y1, lX, lY⟩ := HS.out w3 H3.out
          clear ho3 s0 s1 u0 u1 lS lU
          go_wp2_with fail
          refine Calls.mono (HEN.out _ H3.out) ?_
          rintro r w4 ⟨rfl, ho4⟩
          have H4 : Hid (Only (fun _ => False) w0 w4) := H3.out.trans ho4
          obtain ⟨z0, z1, z2, z3, lZ, lZ2⟩ := HS.out w4 H4.out
          clear ho4 x0 x1' y0 y1 lX lY
          go_wp2_with fail
          go_quiet ((go_at_call 42; exact Calls.quiet_of_same (HHY.out _)))
          go_wp2_with fail
          go_roundg (b - (q + 1))
          case measure => omega
          case rel => exact ⟨j + 1, q + 1, la, hw1, cp, ce, _, rfl, rfl, by rw [HG.out.1]; rfl, by omega, rfl, rfl, by go_num, rfl, rfl, HL.out, HCP.out, HV.out.symm, by omega, H4.out.drewN _⟩
        · by_cases hfi : ce + hh ≤ wi
          · have t5 : (ce : Int) + (hh : Int) ≤ (wi : Int) := by omega
            have HL : Hid ((q + 1, e) = lstO O a (Sp.bst C O t wi a (j + 1))) := by
              rw [(bst_step (C := C) (O := O) (t := t) (W := wi) (a := a) (m := j)).1 ((ok_tf HE8.out.2).2.1 he0 (by rw [HWE.out _ HV.out]; exact hfi))]
              show _ = (a + j + 1, O.getD (a + j + 1) 0)
              rw [HE8.out.2, HG.out.1]
            have HEN : Hid (∀ W', Only (fun _ => False) w0 W' → Calls Try.prog 32 #[.agg #[.slice (some ⟨g, off, none⟩) n cC, .slice aO m cO], .int .i64 ((q : Int) + 1)] W' fun r w' => r = .returned (.tuple #[.int .u8 (e : Int), .bool true]) ∧ Only (fun _ => False) W' w') := fun W' ho => by
              have h := ends_any C O n m _ aO cC cO (q + 1) e W' (HPv.out _ ho) (by omega) HE8.out.1
              rw [decide_eq_true he0] at h
              exact h
            clear he0
            go_wp2_with fail
            go_region_held3 (fun W' => (W'.cell? ⟨R, 0, none⟩ = some (.slice (some ⟨g, off, none⟩) n cC) ∧ W'.cell? ⟨B, 1, none⟩ = some (.int .i64 (t : Int))) ∧ W'.cell? ⟨g, off + q * 4, none⟩ = some (.int .i64 (xp : Int)) ∧ W'.cell? ⟨g, off + q * 4 + 1, none⟩ = some (.int .i64 (xl : Int)) ∧ W'.cell? ⟨g, off + q * 4 + 2, none⟩ = some (.int .i64 (xc : Int)) ∧ W'.cell? ⟨g, off + q * 4 + 3, none⟩ = some (.int .u8 (xk : Int))) ((first | exact ⟨⟨(HS.out _ HG.out.2.2.2.2.drew).1, (HS.out _ HG.out.2.2.2.2.drew).2.2.2.1⟩, HCL.out _ (Only.refl _ _).drew⟩ | exact ⟨⟨(HS.out _ H2.out.1).1, (HS.out _ H2.out.1).2.2.2.1⟩, HCL.out _ H2.out.2⟩)) ((go_at_call 40; refine Calls.mono (next_any xp xl xc xk co t _ hxc hxk (by omega) h0 ht) ?_; rw [HQ.out.1]; rintro e w2 ⟨rfl, ho2⟩; have H2 : Hid (Only (fun _ => False) w0 w2 ∧ Only (fun _ => False) W w2) := ⟨HG.out.2.2.2.2.drew.trans ho2, (Only.refl _ _).drew.trans ho2⟩; clear ho2))
            obtain ⟨s0, s1, u0, u1, lS, lU⟩ := HS.out w2 H2.out.1
            clear r0 r1 k0 k1 lR lBW c0 c1 c2 c3
            go_wp2_with fail
            refine Calls.mono (fempty_any C O n m _ aO cC cO q w2 (HPv.out _ H2.out.1) (by omega)) ?_
            rw [HE.out]
            rintro e w3 ⟨rfl, ho3⟩
            have H3 : Hid (Only (fun _ => False) w0 w3) := H2.out.1.trans ho3
            obtain ⟨x0, x1', y0, y1, lX, lY⟩ := HS.out w3 H3.out
            clear ho3 s0 s1 u0 u1 lS lU
            go_wp2_with fail
            refine Calls.mono (HEN.out _ H3.out) ?_
            rintro r w4 ⟨rfl, ho4⟩
            have H4 : Hid (Only (fun _ => False) w0 w4) := H3.out.trans ho4
            obtain ⟨z0, z1, z2, z3, lZ, lZ2⟩ := HS.out w4 H4.out
            clear ho4 x0 x1' y0 y1 lX lY
            go_wp2_with fail
            go_quiet ((go_at_call 42; exact Calls.quiet_of_same (HHY.out _)))
            go_wp2_with fail
            go_roundg (b - (q + 1))
            case measure => omega
            case rel => exact ⟨j + 1, q + 1, q + 1, e, cp, ce, _, rfl, rfl, by rw [HG.out.1]; rfl, by omega, by go_num, rfl, by go_num, rfl, rfl, HL.out, HCP.out, HV.out.symm, by omega, H4.out.drewN _⟩
          · have t5 : decide ((ce : Int) + (hh : Int) ≤ (wi : Int)) = false := decide_eq_false (by omega)
            have HL : Hid ((la, hw1) = lstO O a (Sp.bst C O t wi a (j + 1))) := by rw [(bst_step (C := C) (O := O) (t := t) (W := wi) (a := a) (m := j)).2 ((ok_tf HE8.out.2).2.2 (by rw [HWE.out _ HV.out]; exact hfi))]; exact HG.out.2.1
            have HEN : Hid (∀ W', Only (fun _ => False) w0 W' → Calls Try.prog 32 #[.agg #[.slice (some ⟨g, off, none⟩) n cC, .slice aO m cO], .int .i64 ((q : Int) + 1)] W' fun r w' => r = .returned (.tuple #[.int .u8 (e : Int), .bool true]) ∧ Only (fun _ => False) W' w') := fun W' ho => by
              have h := ends_any C O n m _ aO cC cO (q + 1) e W' (HPv.out _ ho) (by omega) HE8.out.1
              rw [decide_eq_true he0] at h
              exact h
            clear he0
            go_wp2_with fail
            go_region_held3 (fun W' => (W'.cell? ⟨R, 0, none⟩ = some (.slice (some ⟨g, off, none⟩) n cC) ∧ W'.cell? ⟨B, 1, none⟩ = some (.int .i64 (t : Int))) ∧ W'.cell? ⟨g, off + q * 4, none⟩ = some (.int .i64 (xp : Int)) ∧ W'.cell? ⟨g, off + q * 4 + 1, none⟩ = some (.int .i64 (xl : Int)) ∧ W'.cell? ⟨g, off + q * 4 + 2, none⟩ = some (.int .i64 (xc : Int)) ∧ W'.cell? ⟨g, off + q * 4 + 3, none⟩ = some (.int .u8 (xk : Int))) ((first | exact ⟨⟨(HS.out _ HG.out.2.2.2.2.drew).1, (HS.out _ HG.out.2.2.2.2.drew).2.2.2.1⟩, HCL.out _ (Only.refl _ _).drew⟩ | exact ⟨⟨(HS.out _ H2.out.1).1, (HS.out _ H2.out.1).2.2.2.1⟩, HCL.out _ H2.out.2⟩)) ((go_at_call 40; refine Calls.mono (next_any xp xl xc xk co t _ hxc hxk (by omega) h0 ht) ?_; rw [HQ.out.1]; rintro e w2 ⟨rfl, ho2⟩; have H2 : Hid (Only (fun _ => False) w0 w2 ∧ Only (fun _ => False) W w2) := ⟨HG.out.2.2.2.2.drew.trans ho2, (Only.refl _ _).drew.trans ho2⟩; clear ho2))
            obtain ⟨s0, s1, u0, u1, lS, lU⟩ := HS.out w2 H2.out.1
            clear r0 r1 k0 k1 lR lBW c0 c1 c2 c3
            go_wp2_with fail
            refine Calls.mono (fempty_any C O n m _ aO cC cO q w2 (HPv.out _ H2.out.1) (by omega)) ?_
            rw [HE.out]
            rintro e w3 ⟨rfl, ho3⟩
            have H3 : Hid (Only (fun _ => False) w0 w3) := H2.out.1.trans ho3
            obtain ⟨x0, x1', y0, y1, lX, lY⟩ := HS.out w3 H3.out
            clear ho3 s0 s1 u0 u1 lS lU
            go_wp2_with fail
            refine Calls.mono (HEN.out _ H3.out) ?_
            rintro r w4 ⟨rfl, ho4⟩
            have H4 : Hid (Only (fun _ => False) w0 w4) := H3.out.trans ho4
            obtain ⟨z0, z1, z2, z3, lZ, lZ2⟩ := HS.out w4 H4.out
            clear ho4 x0 x1' y0 y1 lX lY
            go_wp2_with fail
            go_quiet ((go_at_call 42; exact Calls.quiet_of_same (HHY.out _)))
            go_wp2_with fail
            go_roundg (b - (q + 1))
            case measure => omega
            case rel => exact ⟨j + 1, q + 1, la, hw1, cp, ce, _, rfl, rfl, by rw [HG.out.1]; rfl, by omega, rfl, rfl, by go_num, rfl, rfl, HL.out, HCP.out, HV.out.symm, by omega, H4.out.drewN _⟩
      | false =>
        have HE : Hid (Sp.emp (Sp.at' C q) = false) := hE
        clear hE
        have HWN : Hid (Sp.wd C t a (j + 1) = cp) := by rw [wd_no (by rw [HQ.out.2]; exact HE.out)]; exact HCP.out.symm
        by_cases hcw2 : cp ≤ wi
        · have t4 : decide ((wi : Int) < (cp : Int)) = false := decide_eq_false (by omega)
          have HV : Hid (Sp.wd C t a (j + 1) = cp) := HWN.out
          by_cases he0 : e = 0
          · have HL : Hid ((la, hw1) = lstO O a (Sp.bst C O t wi a (j + 1))) := by rw [(bst_step (C := C) (O := O) (t := t) (W := wi) (a := a) (m := j)).2 ((ok_tf HE8.out.2).1 he0)]; exact HG.out.2.1
            have HEN : Hid (∀ W', Only (fun _ => False) w0 W' → Calls Try.prog 32 #[.agg #[.slice (some ⟨g, off, none⟩) n cC, .slice aO m cO], .int .i64 ((q : Int) + 1)] W' fun r w' => r = .returned (.tuple #[.int .u8 (e : Int), .bool false]) ∧ Only (fun _ => False) W' w') := fun W' ho => by
              have h := ends_any C O n m _ aO cC cO (q + 1) e W' (HPv.out _ ho) (by omega) HE8.out.1
              rw [decide_eq_false (fun h => h he0)] at h
              exact h
            clear he0
            go_wp2_with fail
            go_region_held3 (fun W' => (W'.cell? ⟨R, 0, none⟩ = some (.slice (some ⟨g, off, none⟩) n cC) ∧ W'.cell? ⟨B, 1, none⟩ = some (.int .i64 (t : Int))) ∧ W'.cell? ⟨g, off + q * 4, none⟩ = some (.int .i64 (xp : Int)) ∧ W'.cell? ⟨g, off + q * 4 + 1, none⟩ = some (.int .i64 (xl : Int)) ∧ W'.cell? ⟨g, off + q * 4 + 2, none⟩ = some (.int .i64 (xc : Int)) ∧ W'.cell? ⟨g, off + q * 4 + 3, none⟩ = some (.int .u8 (xk : Int))) ((first | exact ⟨⟨(HS.out _ HG.out.2.2.2.2.drew).1, (HS.out _ HG.out.2.2.2.2.drew).2.2.2.1⟩, HCL.out _ (Only.refl _ _).drew⟩ | exact ⟨⟨(HS.out _ H2.out.1).1, (HS.out _ H2.out.1).2.2.2.1⟩, HCL.out _ H2.out.2⟩)) ((go_at_call 40; refine Calls.mono (next_any xp xl xc xk co t _ hxc hxk (by omega) h0 ht) ?_; rw [HQ.out.1]; rintro e w2 ⟨rfl, ho2⟩; have H2 : Hid (Only (fun _ => False) w0 w2 ∧ Only (fun _ => False) W w2) := ⟨HG.out.2.2.2.2.drew.trans ho2, (Only.refl _ _).drew.trans ho2⟩; clear ho2))
            obtain ⟨s0, s1, u0, u1, lS, lU⟩ := HS.out w2 H2.out.1
            clear r0 r1 k0 k1 lR lBW c0 c1 c2 c3
            go_wp2_with fail
            refine Calls.mono (fempty_any C O n m _ aO cC cO q w2 (HPv.out _ H2.out.1) (by omega)) ?_
            rw [HE.out]
            rintro e w3 ⟨rfl, ho3⟩
            have H3 : Hid (Only (fun _ => False) w0 w3) := H2.out.1.trans ho3
            obtain ⟨x0, x1', y0, y1, lX, lY⟩ := HS.out w3 H3.out
            clear ho3 s0 s1 u0 u1 lS lU
            go_wp2_with fail
            refine Calls.mono (HEN.out _ H3.out) ?_
            rintro r w4 ⟨rfl, ho4⟩
            have H4 : Hid (Only (fun _ => False) w0 w4) := H3.out.trans ho4
            obtain ⟨z0, z1, z2, z3, lZ, lZ2⟩ := HS.out w4 H4.out
            clear ho4 x0 x1' y0 y1 lX lY
            go_wp2_with fail
            go_quiet ((go_at_call 42; exact Calls.quiet_of_same (HHY.out _)))
            go_wp2_with fail
            go_roundg (b - (q + 1))
            case measure => omega
            case rel => exact ⟨j + 1, q + 1, la, hw1, cp, cp, _, rfl, rfl, by rw [HG.out.1]; rfl, by omega, rfl, rfl, by go_num, rfl, rfl, HL.out, HCP.out, HV.out.symm, by omega, H4.out.drewN _⟩
          · by_cases hfi : cp + hh ≤ wi
            · have t5 : (cp : Int) + (hh : Int) ≤ (wi : Int) := by omega
              have HL : Hid ((q + 1, e) = lstO O a (Sp.bst C O t wi a (j + 1))) := by
                rw [(bst_step (C := C) (O := O) (t := t) (W := wi) (a := a) (m := j)).1 ((ok_tf HE8.out.2).2.1 he0 (by rw [HWE.out _ HV.out]; exact hfi))]
                show _ = (a + j + 1, O.getD (a + j + 1) 0)
                rw [HE8.out.2, HG.out.1]
              have HEN : Hid (∀ W', Only (fun _ => False) w0 W' → Calls Try.prog 32 #[.agg #[.slice (some ⟨g, off, none⟩) n cC, .slice aO m cO], .int .i64 ((q : Int) + 1)] W' fun r w' => r = .returned (.tuple #[.int .u8 (e : Int), .bool true]) ∧ Only (fun _ => False) W' w') := fun W' ho => by
                have h := ends_any C O n m _ aO cC cO (q + 1) e W' (HPv.out _ ho) (by omega) HE8.out.1
                rw [decide_eq_true he0] at h
                exact h
              clear he0
              go_wp2_with fail
              go_region_held3 (fun W' => (W'.cell? ⟨R, 0, none⟩ = some (.slice (some ⟨g, off, none⟩) n cC) ∧ W'.cell? ⟨B, 1, none⟩ = some (.int .i64 (t : Int))) ∧ W'.cell? ⟨g, off + q * 4, none⟩ = some (.int .i64 (xp : Int)) ∧ W'.cell? ⟨g, off + q * 4 + 1, none⟩ = some (.int .i64 (xl : Int)) ∧ W'.cell? ⟨g, off + q * 4 + 2, none⟩ = some (.int .i64 (xc : Int)) ∧ W'.cell? ⟨g, off + q * 4 + 3, none⟩ = some (.int .u8 (xk : Int))) ((first | exact ⟨⟨(HS.out _ HG.out.2.2.2.2.drew).1, (HS.out _ HG.out.2.2.2.2.drew).2.2.2.1⟩, HCL.out _ (Only.refl _ _).drew⟩ | exact ⟨⟨(HS.out _ H2.out.1).1, (HS.out _ H2.out.1).2.2.2.1⟩, HCL.out _ H2.out.2⟩)) ((go_at_call 40; refine Calls.mono (next_any xp xl xc xk co t _ hxc hxk (by omega) h0 ht) ?_; rw [HQ.out.1]; rintro e w2 ⟨rfl, ho2⟩; have H2 : Hid (Only (fun _ => False) w0 w2 ∧ Only (fun _ => False) W w2) := ⟨HG.out.2.2.2.2.drew.trans ho2, (Only.refl _ _).drew.trans ho2⟩; clear ho2))
              obtain ⟨s0, s1, u0, u1, lS, lU⟩ := HS.out w2 H2.out.1
              clear r0 r1 k0 k1 lR lBW c0 c1 c2 c3
              go_wp2_with fail
              refine Calls.mono (fempty_any C O n m _ aO cC cO q w2 (HPv.out _ H2.out.1) (by omega)) ?_
              rw [HE.out]
              rintro e w3 ⟨rfl, ho3⟩
              have H3 : Hid (Only (fun _ => False) w0 w3) := H2.out.1.trans ho3
              obtain ⟨x0, x1', y0, y1, lX, lY⟩ := HS.out w3 H3.out
              clear ho3 s0 s1 u0 u1 lS lU
              go_wp2_with fail
              refine Calls.mono (HEN.out _ H3.out) ?_
              rintro r w4 ⟨rfl, ho4⟩
              have H4 : Hid (Only (fun _ => False) w0 w4) := H3.out.trans ho4
              obtain ⟨z0, z1, z2, z3, lZ, lZ2⟩ := HS.out w4 H4.out
              clear ho4 x0 x1' y0 y1 lX lY
              go_wp2_with fail
              go_quiet ((go_at_call 42; exact Calls.quiet_of_same (HHY.out _)))
              go_wp2_with fail
              go_roundg (b - (q + 1))
              case measure => omega
              case rel => exact ⟨j + 1, q + 1, q + 1, e, cp, cp, _, rfl, rfl, by rw [HG.out.1]; rfl, by omega, by go_num, rfl, by go_num, rfl, rfl, HL.out, HCP.out, HV.out.symm, by omega, H4.out.drewN _⟩
            · have t5 : decide ((cp : Int) + (hh : Int) ≤ (wi : Int)) = false := decide_eq_false (by omega)
              have HL : Hid ((la, hw1) = lstO O a (Sp.bst C O t wi a (j + 1))) := by rw [(bst_step (C := C) (O := O) (t := t) (W := wi) (a := a) (m := j)).2 ((ok_tf HE8.out.2).2.2 (by rw [HWE.out _ HV.out]; exact hfi))]; exact HG.out.2.1
              have HEN : Hid (∀ W', Only (fun _ => False) w0 W' → Calls Try.prog 32 #[.agg #[.slice (some ⟨g, off, none⟩) n cC, .slice aO m cO], .int .i64 ((q : Int) + 1)] W' fun r w' => r = .returned (.tuple #[.int .u8 (e : Int), .bool true]) ∧ Only (fun _ => False) W' w') := fun W' ho => by
                have h := ends_any C O n m _ aO cC cO (q + 1) e W' (HPv.out _ ho) (by omega) HE8.out.1
                rw [decide_eq_true he0] at h
                exact h
              clear he0
              go_wp2_with fail
              go_region_held3 (fun W' => (W'.cell? ⟨R, 0, none⟩ = some (.slice (some ⟨g, off, none⟩) n cC) ∧ W'.cell? ⟨B, 1, none⟩ = some (.int .i64 (t : Int))) ∧ W'.cell? ⟨g, off + q * 4, none⟩ = some (.int .i64 (xp : Int)) ∧ W'.cell? ⟨g, off + q * 4 + 1, none⟩ = some (.int .i64 (xl : Int)) ∧ W'.cell? ⟨g, off + q * 4 + 2, none⟩ = some (.int .i64 (xc : Int)) ∧ W'.cell? ⟨g, off + q * 4 + 3, none⟩ = some (.int .u8 (xk : Int))) ((first | exact ⟨⟨(HS.out _ HG.out.2.2.2.2.drew).1, (HS.out _ HG.out.2.2.2.2.drew).2.2.2.1⟩, HCL.out _ (Only.refl _ _).drew⟩ | exact ⟨⟨(HS.out _ H2.out.1).1, (HS.out _ H2.out.1).2.2.2.1⟩, HCL.out _ H2.out.2⟩)) ((go_at_call 40; refine Calls.mono (next_any xp xl xc xk co t _ hxc hxk (by omega) h0 ht) ?_; rw [HQ.out.1]; rintro e w2 ⟨rfl, ho2⟩; have H2 : Hid (Only (fun _ => False) w0 w2 ∧ Only (fun _ => False) W w2) := ⟨HG.out.2.2.2.2.drew.trans ho2, (Only.refl _ _).drew.trans ho2⟩; clear ho2))
              obtain ⟨s0, s1, u0, u1, lS, lU⟩ := HS.out w2 H2.out.1
              clear r0 r1 k0 k1 lR lBW c0 c1 c2 c3
              go_wp2_with fail
              refine Calls.mono (fempty_any C O n m _ aO cC cO q w2 (HPv.out _ H2.out.1) (by omega)) ?_
              rw [HE.out]
              rintro e w3 ⟨rfl, ho3⟩
              have H3 : Hid (Only (fun _ => False) w0 w3) := H2.out.1.trans ho3
              obtain ⟨x0, x1', y0, y1, lX, lY⟩ := HS.out w3 H3.out
              clear ho3 s0 s1 u0 u1 lS lU
              go_wp2_with fail
              refine Calls.mono (HEN.out _ H3.out) ?_
              rintro r w4 ⟨rfl, ho4⟩
              have H4 : Hid (Only (fun _ => False) w0 w4) := H3.out.trans ho4
              obtain ⟨z0, z1, z2, z3, lZ, lZ2⟩ := HS.out w4 H4.out
              clear ho4 x0 x1' y0 y1 lX lY
              go_wp2_with fail
              go_quiet ((go_at_call 42; exact Calls.quiet_of_same (HHY.out _)))
              go_wp2_with fail
              go_roundg (b - (q + 1))
              case measure => omega
              case rel => exact ⟨j + 1, q + 1, la, hw1, cp, cp, _, rfl, rfl, by rw [HG.out.1]; rfl, by omega, rfl, rfl, by go_num, rfl, rfl, HL.out, HCP.out, HV.out.symm, by omega, H4.out.drewN _⟩
        · have t4 : (wi : Int) < (cp : Int) := by omega
          have HST : Hid (wi < Sp.wd C t a (j + 1) ∧ Sp.wd C t a j ≤ wi ∧ b - a = j + (b - a - j) ∧ j < b - a) := ⟨by rw [HWN.out]; omega, by rw [← HG.out.2.2.2.1]; exact hcw, by have := HG.out.1; omega, by have := HG.out.1; omega⟩
          go_wp2_with fail
          go_region_held3 (fun W' => (W'.cell? ⟨R, 0, none⟩ = some (.slice (some ⟨g, off, none⟩) n cC) ∧ W'.cell? ⟨B, 1, none⟩ = some (.int .i64 (t : Int))) ∧ W'.cell? ⟨g, off + q * 4, none⟩ = some (.int .i64 (xp : Int)) ∧ W'.cell? ⟨g, off + q * 4 + 1, none⟩ = some (.int .i64 (xl : Int)) ∧ W'.cell? ⟨g, off + q * 4 + 2, none⟩ = some (.int .i64 (xc : Int)) ∧ W'.cell? ⟨g, off + q * 4 + 3, none⟩ = some (.int .u8 (xk : Int))) ((first | exact ⟨⟨(HS.out _ HG.out.2.2.2.2.drew).1, (HS.out _ HG.out.2.2.2.2.drew).2.2.2.1⟩, HCL.out _ (Only.refl _ _).drew⟩ | exact ⟨⟨(HS.out _ H2.out.1).1, (HS.out _ H2.out.1).2.2.2.1⟩, HCL.out _ H2.out.2⟩)) ((go_at_call 40; refine Calls.mono (next_any xp xl xc xk co t _ hxc hxk (by omega) h0 ht) ?_; rw [HQ.out.1]; rintro e w2 ⟨rfl, ho2⟩; have H2 : Hid (Only (fun _ => False) w0 w2 ∧ Only (fun _ => False) W w2) := ⟨HG.out.2.2.2.2.drew.trans ho2, (Only.refl _ _).drew.trans ho2⟩; clear ho2))
          obtain ⟨s0, s1, u0, u1, lS, lU⟩ := HS.out w2 H2.out.1
          clear r0 r1 k0 k1 lR lBW c0 c1 c2 c3
          go_wp2_with fail
          refine Calls.mono (fempty_any C O n m _ aO cC cO q w2 (HPv.out _ H2.out.1) (by omega)) ?_
          rw [HE.out]
          rintro e w3 ⟨rfl, ho3⟩
          have H3 : Hid (Only (fun _ => False) w0 w3) := H2.out.1.trans ho3
          obtain ⟨x0, x1', y0, y1, lX, lY⟩ := HS.out w3 H3.out
          clear ho3 s0 s1 u0 u1 lS lU
          cases hB : Sp.bst C O t wi a j with
          | some k =>
            have hk := Sp.bst_some hB
            have hle : la = k ∧ hw1 = O.getD k 0 := by have h := HG.out.2.1; rw [hB] at h; injection h with h1 h2; exact ⟨h1, h2⟩
            have HF : Hid (x1 = la ∧ x2 = hw1) := by rw [hle.1, hle.2]; exact HFIS.out k (by rw [HST.out.2.2.1, bst_stop h0 HST.out.1]; exact hB)
            have t6 : (a : Int) < (la : Int) := by have := hk.1; have := hle.1; omega
            clear hB hk hle
            go_wp2_with fail
            go_ret2
            exact ⟨by rw [HF.out.1, HF.out.2]; rfl, H0.out.2.2.trans (H3.out)⟩
          | none =>
            have hle : la = a := by have h := HG.out.2.1; rw [hB] at h; injection h with h1 h2
            have t6 : decide ((a : Int) < (la : Int)) = false := decide_eq_false (by omega)
            have t8 : la ≤ a := by omega
            by_cases hqa1 : q ≤ a
            · have t7 : (q : Int) < (a : Int) + 1 := by omega
              obtain ⟨y, hOy, _⟩ := getD_some (O := O) (k := a + 1) (by rw [← HOL.out]; omega)
              have HF : Hid (x1 = a + 1 ∧ x2 = if y = 1 ∨ y = 2 then y else 4) := HFIN.out (a + 1) y (Eq.trans (fit_stop h0 HST.out.2.1 HST.out.1 HST.out.2.2.2) (by have := HG.out.1; omega)) hOy (by rw [HST.out.2.2.1, bst_stop h0 HST.out.1]; exact hB)
              have HCT : Hid (∀ W', Only (fun _ => False) w0 W' → Calls Try.prog 43 #[.agg #[.slice (some ⟨g, off, none⟩) n cC, .slice aO m cO], .int .i64 ((a : Int) + 1)] W' fun r w' => r = .returned (.tuple #[.int .i64 (x1 : Int), .int .u8 (x2 : Int)]) ∧ Only (fun _ => False) W' w') := fun W' ho => by rw [HF.out.1, HF.out.2]; exact fcut_any C O n m _ aO cC cO (a + 1) y W' (HPv.out _ ho) (by omega) hOy
              clear hB hle hOy
              go_wp2_with fail
              refine Calls.mono (HCT.out _ (H3.out)) ?_
              rintro r w5 ⟨rfl, ho5⟩
              have H5 : Hid (Only (fun _ => False) w0 w5) := (H3.out).trans ho5
              clear ho5
              go_wp2_with fail
              go_ret2
              exact ⟨rfl, H0.out.2.2.trans H5.out⟩
            · have t7 : decide ((q : Int) < (a : Int) + 1) = false := decide_eq_false (by omega)
              obtain ⟨y, hOy, _⟩ := getD_some (O := O) (k := q) (by rw [← HOL.out]; omega)
              have HF : Hid (x1 = q ∧ x2 = if y = 1 ∨ y = 2 then y else 4) := HFIN.out (q) y (Eq.trans (fit_stop h0 HST.out.2.1 HST.out.1 HST.out.2.2.2) (by have := HG.out.1; omega)) hOy (by rw [HST.out.2.2.1, bst_stop h0 HST.out.1]; exact hB)
              have HCT : Hid (∀ W', Only (fun _ => False) w0 W' → Calls Try.prog 43 #[.agg #[.slice (some ⟨g, off, none⟩) n cC, .slice aO m cO], .int .i64 ((q : Int))] W' fun r w' => r = .returned (.tuple #[.int .i64 (x1 : Int), .int .u8 (x2 : Int)]) ∧ Only (fun _ => False) W' w') := fun W' ho => by rw [HF.out.1, HF.out.2]; exact fcut_any C O n m _ aO cC cO (q) y W' (HPv.out _ ho) (by omega) hOy
              clear hB hle hOy
              go_wp2_with fail
              refine Calls.mono (HCT.out _ (H3.out)) ?_
              rintro r w5 ⟨rfl, ho5⟩
              have H5 : Hid (Only (fun _ => False) w0 w5) := (H3.out).trans ho5
              clear ho5
              go_wp2_with fail
              go_ret2
              exact ⟨rfl, H0.out.2.2.trans H5.out⟩
    · have t1 : decide ((q : Int) < (b : Int)) = false := decide_eq_false (by omega)
      have HST : Hid (b - a = j ∧ 0 < j ∧ Sp.wd C t a j ≤ wi) := ⟨by have := HG.out.1; omega, by have := HG.out.1; omega, by rw [← HG.out.2.2.2.1]; exact hcw⟩
      cases hB : Sp.bst C O t wi a j with
      | some k =>
        have hk := Sp.bst_some hB
        have hle : la = k ∧ hw1 = O.getD k 0 := by have h := HG.out.2.1; rw [hB] at h; injection h with h1 h2; exact ⟨h1, h2⟩
        have HF : Hid (x1 = la ∧ x2 = hw1) := by rw [hle.1, hle.2]; exact HFIS.out k (by rw [HST.out.1]; exact hB)
        have t6 : (a : Int) < (la : Int) := by have := hk.1; have := hle.1; omega
        clear hB hk hle
        go_wp2_with fail
        go_ret2
        exact ⟨by rw [HF.out.1, HF.out.2]; rfl, H0.out.2.2.trans (HG.out.2.2.2.2)⟩
      | none =>
        have hle : la = a := by have h := HG.out.2.1; rw [hB] at h; injection h with h1 h2
        have t6 : decide ((a : Int) < (la : Int)) = false := decide_eq_false (by omega)
        have t8 : la ≤ a := by omega
        obtain ⟨y, hOy, _⟩ := getD_some (O := O) (k := q) (by rw [← HOL.out]; omega)
        have HF : Hid (x1 = q ∧ x2 = if y = 1 ∨ y = 2 then y else 4) := HFIN.out (q) y (Eq.trans (show (Sp.fit C t wi a (b - a)).getD (a + 1) = max (a + j) (a + 1) by rw [HST.out.1]; exact fit_end HST.out.2.1 HST.out.2.2) (by have := HG.out.1; omega)) hOy (by rw [HST.out.1]; exact hB)
        have HCT : Hid (∀ W', Only (fun _ => False) w0 W' → Calls Try.prog 43 #[.agg #[.slice aC n cC, .slice aO m cO], .int .i64 ((q : Int))] W' fun r w' => r = .returned (.tuple #[.int .i64 (x1 : Int), .int .u8 (x2 : Int)]) ∧ Only (fun _ => False) W' w') := fun W' ho => by rw [HF.out.1, HF.out.2]; exact fcut_any C O n m aC aO cC cO (q) y W' (HPv.out _ ho) (by omega) hOy
        clear hB hle hOy
        go_wp2_with fail
        refine Calls.mono (HCT.out _ (HG.out.2.2.2.2)) ?_
        rintro r w5 ⟨rfl, ho5⟩
        have H5 : Hid (Only (fun _ => False) w0 w5) := (HG.out.2.2.2.2).trans ho5
        clear ho5
        go_wp2_with fail
        go_ret2
        exact ⟨rfl, H0.out.2.2.trans H5.out⟩
end Go.Proofs.Ytdepjmneoplicaa

