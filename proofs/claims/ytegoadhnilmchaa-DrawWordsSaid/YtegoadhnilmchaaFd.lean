/-
  stanzaref13.First: the document's lines as long as may be.
-/
import Derived.Test.YtegoadhnilmchaaFc
namespace Go.Proofs.Ytegoadhnilmchaa
open Go.RowKit Go.Maps
set_option linter.unusedVariables false
set_option linter.unusedSimpArgs false
set_option maxRecDepth 100000 in
set_option maxHeartbeats 8000000 in
theorem refFirst_any (C : List Ct) (O : List Nat) (n m : Nat) (aC aO : Option Addr) (cC cO a b wi t mo hy pr lo : Nat) (w : World) (hP : Pv w C O n m aC aO cC cO) (hm : n < m) (hab : a ≤ b) (hb : b ≤ n) (hw : wi ≤ 1048576) (h0 : 0 < t) (ht : t ≤ 1000) :
    Calls Try.prog 29 #[.agg #[.slice aC n cC, .slice aO m cO], .int .i64 (a : Int), .int .i64 (b : Int), .agg #[.int .i64 (wi : Int), .int .i64 (t : Int), .int .u8 (mo : Int), .int .i64 (hy : Int), .int .i64 (pr : Int), .float .f64 lo]] w (lnP (Sp.lines C O t wi a b) w) := by
  obtain ⟨i3, g3, g30, g31, g32⟩ := info_parts infoLn
  have HP : Hid (Pv w C O n m aC aO cC cO) := hP
  have h1 := hP.few
  have hfO := hP.fewO
  have HOL : Hid (m = O.length) := hP.hm
  obtain ⟨bo, oo, rfl, hbo, hco⟩ := hP.vO.cells (by rw [u8s_len, ← hP.hm]; omega)
  have HCO : Hid (∀ W', Only (fun _ => False) w W' → ∀ k e : Nat, O[k]? = some e → W'.cell? ⟨bo, oo + k, none⟩ = some (.int .u8 (e : Int))) := fun W' ho k e hk => keep0 ho (hco k _ (u8s_at hk))
  have HBW : Hid (bo < w.heap.size) := hbo
  clear hP hbo hco
  go_enter Try.func29, Try.ntmps29
  go_wp2_with fail
  obtain ⟨R, B, w0, hw0, hB, hR, H0, lRB, lB, lB0⟩ := box26 w (.slice aC n cC) (.slice (some ⟨bo, oo, none⟩) m cO) (.int .i64 (wi : Int)) (.int .i64 (t : Int)) (.int .u8 (mo : Int)) (.int .i64 (hy : Int)) (.int .i64 (pr : Int)) (.float .f64 lo) 31 35
  rw [hw0, hB, hR]
  clear hw0 hB hR
  have HS : Hid (∀ W', Only (fun g => w0.heap.size ≤ g) w0 W' → (W'.cell? ⟨R, 0, none⟩ = some (.slice aC n cC) ∧ W'.cell? ⟨R, 1, none⟩ = some (.slice (some ⟨bo, oo, none⟩) m cO)) ∧ (W'.cell? ⟨B, 0, none⟩ = some (.int .i64 (wi : Int)) ∧ W'.cell? ⟨B, 1, none⟩ = some (.int .i64 (t : Int))) ∧ R < W'.heap.size ∧ B < W'.heap.size) := fun W' ho => by
    have lR := (Array.getElem?_eq_some_iff.1 H0.out.1).1
    have lB := (Array.getElem?_eq_some_iff.1 H0.out.2.1).1
    have e1 := (ho.block R lR (by omega)).trans H0.out.1
    have e2 := (ho.block B lB (by omega)).trans H0.out.2.1
    exact ⟨⟨(blk_two e1).1, (blk_two e1).2.1⟩, ⟨(blk_six e2).1, (blk_six e2).2.1⟩, (blk_two e1).2.2, (Array.getElem?_eq_some_iff.1 e2).1⟩
  have hs0 := H0.out.2.2.size
  go_loopg [1, 9] (b - a) (fun gh v1 v9 wr => ∃ (q k : Nat) (D : List Ln) (al : Option Addr) (c : Nat) (W : World), W = wr ∧ gh = b - q ∧ a ≤ q ∧ q ≤ b ∧ v1 = .int .i64 (q : Int) ∧ v9 = .slice al k c ∧ k ≤ q ∧ k + a ≤ q ∧ k = D.length ∧ Sp.lines C O t wi a b = D ++ Sp.lines C O t wi q b ∧ W.ownsRow w0.heap.size 43 4 (.slice al k c) k (lnC D) ∧ Only (fun g => w0.heap.size ≤ g) w0 W)
  case atStart => exact ⟨a, 0, [], none, 0, _, rfl, rfl, Nat.le_refl _, hab, rfl, rfl, Nat.zero_le _, by omega, rfl, rfl, ⟨rfl, Or.inl ⟨rfl, rfl⟩⟩, Only.refl _ _⟩
  case round =>
    obtain ⟨q, k, D, al, c, W, hW, rfl, hqa, hqb, rfl, rfl, hkq, hkq2, hkD, hLs, hown, hoW⟩ := hrel
    subst hW
    have HG : Hid (W.ownsRow w0.heap.size 43 4 (.slice al k c) k (lnC D) ∧ Only (fun g => w0.heap.size ≤ g) w0 W ∧ Only (fun _ => False) w W ∧ k = D.length ∧ Sp.lines C O t wi a b = D ++ Sp.lines C O t wi q b) := ⟨hown, hoW, H0.out.2.2.trans (hoW.old (fun b hb => Or.inl hb)), hkD, hLs⟩
    have hsz := hoW.size
    clear hown hoW hkD hLs
    by_cases hlt : q < b
    · have t1 : (q : Int) < (b : Int) := by omega
      obtain ⟨x1, hx1⟩ : ∃ x, x = (Sp.nxt C O t wi q b).1 := ⟨_, rfl⟩
      obtain ⟨x2, hx2⟩ : ∃ x, x = (Sp.nxt C O t wi q b).2 := ⟨_, rfl⟩
      have hin := Sp.nxt_in (C := C) (O := O) (t := t) (W := wi) hlt
      have hx28 : x2 < 256 := by rw [hx2]; exact nxt_lt HP.out.oO
      obtain ⟨ce, hce⟩ : ∃ x, x = Sp.cel C t q (x1 - q) x2 := ⟨_, rfl⟩
      have HN : Hid (Sp.ln C O t wi q b = ⟨q, x1, ce, x2⟩ ∧ x1 = (Sp.nxt C O t wi q b).1 ∧ x2 = (Sp.nxt C O t wi q b).2) := ⟨by rw [hce, ← wde_cel, hx1, hx2]; rfl, hx1, hx2⟩
      rw [← hx1] at hin
      have HMK : Hid (∀ W', Only (fun _ => False) w W' → Calls Try.prog 38 #[.agg #[.slice aC n cC, .slice (some ⟨bo, oo, none⟩) m cO], .int .i64 (q : Int), .int .i64 (x1 : Int), .int .u8 (x2 : Int), .int .i64 (t : Int)] W' fun e w' => e = .returned (.agg #[.int .i64 (q : Int), .int .i64 (x1 : Int), .int .i64 (ce : Int), .int .u8 (x2 : Int)]) ∧ Only (fun _ => False) W' w') := fun W' ho => by
        rw [hce]
        exact refLine_any C O n m aC _ cC cO q x1 t x2 W' (HP.out.keep ho) (by omega) (by omega) h0 ht hx28
      have HFIN : Hid (∀ q' y : Nat, (Sp.fit C t wi q (b - q)).getD (q + 1) = q' → O[q']? = some y → Sp.bst C O t wi q (b - q) = none → x1 = q' ∧ x2 = if y = 1 ∨ y = 2 then y else 4) := fun q' y h2 h3 h4 => by
        rw [HN.out.2.1, HN.out.2.2, nxt_none h4 h2 (show O.getD q' 0 = y by rw [List.getD_eq_getElem?_getD, h3]; rfl)]
        exact ⟨rfl, rfl⟩
      have HFIS : Hid (∀ k y : Nat, Sp.bst C O t wi q (b - q) = some k → O[k]? = some y → x1 = k ∧ x2 = y) := fun k y h h2 => by
        rw [HN.out.2.1, HN.out.2.2, nxt_some h, List.getD_eq_getElem?_getD, h2]
        exact ⟨rfl, rfl⟩
      clear hx1 hx2 hce
      go_wp2_with fail
      go_loopg [10, 11, 12] (b - q) (fun gh v10 v11 v12 wr => ∃ (j i : Nat) (V : World), V = wr ∧ gh = b - q - j ∧ j ≤ b - q ∧ i = q + j + 1 ∧ v10 = .int .i64 (encO (Sp.bst C O t wi q j)) ∧ v11 = .int .i64 (encO (Sp.fit C t wi q j)) ∧ v12 = .int .i64 (i : Int) ∧ Only (fun _ => False) W V)
      case atStart => exact ⟨0, q + 1, _, rfl, rfl, Nat.zero_le _, rfl, rfl, rfl, by go_num, Only.refl _ _⟩
      case round =>
        obtain ⟨j, i, V, hV, rfl, hj, hi, rfl, rfl, rfl, hoV⟩ := hrel
        subst hV
        have HV : Hid (Only (fun _ => False) W V ∧ Only (fun g => w0.heap.size ≤ g) w0 V ∧ Only (fun _ => False) w V ∧ i = q + j + 1) := ⟨hoV, HG.out.2.1.trans (hoV.mono (fun _ h => h.elim)), HG.out.2.2.1.trans hoV, hi⟩
        have hi1 : q < i := by omega
        have hi2 : i ≤ b + 1 := by omega
        obtain ⟨ev, hev⟩ : ∃ x, x = encO (Sp.bst C O t wi q j) := ⟨_, rfl⟩
        obtain ⟨fv, hfv⟩ : ∃ x, x = encO (Sp.fit C t wi q j) := ⟨_, rfl⟩
        rw [← hev, ← hfv]
        have HEV : Hid (ev = encO (Sp.bst C O t wi q j) ∧ fv = encO (Sp.fit C t wi q j)) := ⟨hev, hfv⟩
        clear hoV hi hev hfv
        by_cases hib : i ≤ b
        · have t2 : (i : Int) ≤ (b : Int) := by omega
          have t13 : (i : Int) < (m : Int) := by omega
          have t14 : i < m := by omega
          obtain ⟨e, hOe, hOd⟩ := getD_some (O := O) (k := i) (by rw [← HOL.out]; omega)
          have he8 : e < 256 := HP.out.oO e (List.mem_of_getElem? hOe)
          obtain ⟨v0, hv0⟩ : ∃ x, x = Sp.wd C t q (j + 1) := ⟨_, rfl⟩
          obtain ⟨v1, hv1⟩ : ∃ x, x = Sp.wde C t q (q + j + 1) e := ⟨_, rfl⟩
          have hij : i - q = j + 1 := by have := HV.out.2.2.2; omega
          have HE : Hid (O.getD (q + j + 1) 0 = e ∧ O[i]? = some e) := ⟨by rw [← HV.out.2.2.2]; exact hOd, hOe⟩
          have HK : Hid (v0 = Sp.wd C t q (j + 1) ∧ v1 = Sp.wde C t q (q + j + 1) e ∧ i = q + j + 1) := ⟨hv0, hv1, HV.out.2.2.2⟩
          have hv0s : v0 ≤ 100200001 := by rw [hv0]; have := cel_small HP.out.ok h0 ht (a := q) (k := j + 1) (e := 0) (by omega); rw [Sp.cel_no (by decide)] at this; exact this
          have hv1s : v1 ≤ 100200001 := by rw [hv1, wde_cel]; exact cel_small HP.out.ok h0 ht (by omega)
          have hv01 : v0 ≤ v1 := by rw [hv0, hv1]; unfold Sp.wde; rw [show q + j + 1 - q = j + 1 by omega]; exact Nat.le_add_right _ _
          have HC0 : Hid (∀ W', Only (fun _ => False) w W' → Calls Try.prog 26 #[.agg #[.slice aC n cC, .slice (some ⟨bo, oo, none⟩) m cO], .int .i64 (q : Int), .int .i64 (i : Int), .int .u8 0, .int .i64 (t : Int)] W' fun e w' => e = .returned (.int .i64 (v0 : Int)) ∧ Only (fun _ => False) W' w') := fun W' ho => by
            have h := refCells_any C O n m aC _ cC cO q i t 0 W' (HP.out.keep ho) (by omega) (by omega) h0 ht (by decide)
            rw [hij, Sp.cel_no (by decide), ← hv0] at h
            exact h
          have HC1 : Hid (∀ W', Only (fun _ => False) w W' → Calls Try.prog 26 #[.agg #[.slice aC n cC, .slice (some ⟨bo, oo, none⟩) m cO], .int .i64 (q : Int), .int .i64 (i : Int), .int .u8 (e : Int), .int .i64 (t : Int)] W' fun e w' => e = .returned (.int .i64 (v1 : Int)) ∧ Only (fun _ => False) W' w') := fun W' ho => by
            have h := refCells_any C O n m aC _ cC cO q i t e W' (HP.out.keep ho) (by omega) (by omega) h0 ht he8
            rw [← wde_cel, HK.out.2.2, ← hv1] at h
            rw [HK.out.2.2]
            exact h
          have HS7 : Hid (∀ W', Only (fun _ => False) V W' → ((W'.cell? ⟨R, 0, none⟩ = some (.slice aC n cC) ∧ W'.cell? ⟨R, 1, none⟩ = some (.slice (some ⟨bo, oo, none⟩) m cO)) ∧ (W'.cell? ⟨B, 0, none⟩ = some (.int .i64 (wi : Int)) ∧ W'.cell? ⟨B, 1, none⟩ = some (.int .i64 (t : Int)))) ∧ W'.cell? ⟨bo, oo + i, none⟩ = some (.int .u8 (e : Int))) := fun W' ho => ⟨⟨(HS.out W' (HV.out.2.1.trans (ho.mono (fun _ h => h.elim)))).1, (HS.out W' (HV.out.2.1.trans (ho.mono (fun _ h => h.elim)))).2.1⟩, HCO.out W' (HV.out.2.2.1.trans ho) i e HE.out.2⟩
          clear hOe hOd hv0 hv1 hij
          by_cases hw0 : v0 ≤ wi
          · have t3 : (v0 : Int) ≤ (wi : Int) := by omega
            have HFT : Hid (Sp.fit C t wi q (j + 1) = some i) := by rw [HK.out.2.2]; exact (fit_step (C := C) (t := t) (W := wi) (a := q) (m := j)).1 (by rw [← HK.out.1]; exact hw0)
            by_cases he0 : e = 0
            · have t4 : ((e : Int) != 0) = false := by simp; omega
              have HBT : Hid (Sp.bst C O t wi q (j + 1) = Sp.bst C O t wi q j) := (bst_step (C := C) (O := O) (t := t) (W := wi) (a := q) (m := j)).2 ((ok_tf HE.out.1).1 he0)
              clear he0
              go_wp2_with fail
              go_region_held3 (fun W' => ((W'.cell? ⟨R, 0, none⟩ = some (.slice aC n cC) ∧ W'.cell? ⟨R, 1, none⟩ = some (.slice (some ⟨bo, oo, none⟩) m cO)) ∧ (W'.cell? ⟨B, 0, none⟩ = some (.int .i64 (wi : Int)) ∧ W'.cell? ⟨B, 1, none⟩ = some (.int .i64 (t : Int)))) ∧ W'.cell? ⟨bo, oo + i, none⟩ = some (.int .u8 (e : Int))) ((first | exact HS7.out _ (Only.refl _ _).drew | exact HS7.out _ H2.out)) ((go_at_call 26; refine Calls.mono (HC0.out _ HV.out.2.2.1.drew) ?_; rintro r w2 ⟨rfl, ho2⟩; have H2 : Hid (Only (fun _ => False) V w2) := (Only.refl _ _).drew.trans ho2; clear ho2))
              go_wp2_with fail
              obtain ⟨⟨⟨r0, r1⟩, k0, k1⟩, c1⟩ := HS7.out w2 H2.out
              go_quiet (fail)
              go_wp2_with fail
              go_roundg (b - q - (j + 1))
              case measure => have := HK.out.2.2; omega
              case rel => exact ⟨j + 1, i + 1, _, rfl, rfl, by have := HK.out.2.2; omega, by have := HK.out.2.2; omega, by rw [HBT.out, ← HEV.out.1], by rw [HFT.out]; rfl, by go_num, HV.out.1.trans (H2.out.drewN _)⟩
            · have t4 : ((e : Int) != 0) = true := by simp; omega
              by_cases hw1 : v1 ≤ wi
              · have t5 : (v1 : Int) ≤ (wi : Int) := by omega
                have HBT : Hid (Sp.bst C O t wi q (j + 1) = some i) := by rw [HK.out.2.2]; exact (bst_step (C := C) (O := O) (t := t) (W := wi) (a := q) (m := j)).1 ((ok_tf HE.out.1).2.1 he0 (by rw [← HK.out.2.1]; exact hw1))
                clear he0
                go_wp2_with fail
                go_region_held3 (fun W' => ((W'.cell? ⟨R, 0, none⟩ = some (.slice aC n cC) ∧ W'.cell? ⟨R, 1, none⟩ = some (.slice (some ⟨bo, oo, none⟩) m cO)) ∧ (W'.cell? ⟨B, 0, none⟩ = some (.int .i64 (wi : Int)) ∧ W'.cell? ⟨B, 1, none⟩ = some (.int .i64 (t : Int)))) ∧ W'.cell? ⟨bo, oo + i, none⟩ = some (.int .u8 (e : Int))) ((first | exact HS7.out _ (Only.refl _ _).drew | exact HS7.out _ H2.out)) ((go_at_call 26; refine Calls.mono (HC0.out _ HV.out.2.2.1.drew) ?_; rintro r w2 ⟨rfl, ho2⟩; have H2 : Hid (Only (fun _ => False) V w2) := (Only.refl _ _).drew.trans ho2; clear ho2))
                go_wp2_with fail
                go_region_held3 (fun W' => ((W'.cell? ⟨R, 0, none⟩ = some (.slice aC n cC) ∧ W'.cell? ⟨R, 1, none⟩ = some (.slice (some ⟨bo, oo, none⟩) m cO)) ∧ (W'.cell? ⟨B, 0, none⟩ = some (.int .i64 (wi : Int)) ∧ W'.cell? ⟨B, 1, none⟩ = some (.int .i64 (t : Int)))) ∧ W'.cell? ⟨bo, oo + i, none⟩ = some (.int .u8 (e : Int))) ((first | exact HS7.out _ H2.out.drew | exact HS7.out _ H3.out)) ((go_at_call 26; refine Calls.mono (HC1.out _ (HV.out.2.2.1.trans H2.out.drew)) ?_; rintro r w3 ⟨rfl, ho3⟩; have H3 : Hid (Only (fun _ => False) V w3) := H2.out.drew.trans ho3; clear ho3))
                go_wp2_with fail
                go_roundg (b - q - (j + 1))
                case measure => have := HK.out.2.2; omega
                case rel => exact ⟨j + 1, i + 1, _, rfl, rfl, by have := HK.out.2.2; omega, by have := HK.out.2.2; omega, by rw [HBT.out]; rfl, by rw [HFT.out]; rfl, by go_num, HV.out.1.trans (H3.out)⟩
              · have t5 : decide ((v1 : Int) ≤ (wi : Int)) = false := decide_eq_false (by omega)
                have HBT : Hid (Sp.bst C O t wi q (j + 1) = Sp.bst C O t wi q j) := (bst_step (C := C) (O := O) (t := t) (W := wi) (a := q) (m := j)).2 ((ok_tf HE.out.1).2.2 (by rw [← HK.out.2.1]; exact hw1))
                clear he0
                go_wp2_with fail
                go_region_held3 (fun W' => ((W'.cell? ⟨R, 0, none⟩ = some (.slice aC n cC) ∧ W'.cell? ⟨R, 1, none⟩ = some (.slice (some ⟨bo, oo, none⟩) m cO)) ∧ (W'.cell? ⟨B, 0, none⟩ = some (.int .i64 (wi : Int)) ∧ W'.cell? ⟨B, 1, none⟩ = some (.int .i64 (t : Int)))) ∧ W'.cell? ⟨bo, oo + i, none⟩ = some (.int .u8 (e : Int))) ((first | exact HS7.out _ (Only.refl _ _).drew | exact HS7.out _ H2.out)) ((go_at_call 26; refine Calls.mono (HC0.out _ HV.out.2.2.1.drew) ?_; rintro r w2 ⟨rfl, ho2⟩; have H2 : Hid (Only (fun _ => False) V w2) := (Only.refl _ _).drew.trans ho2; clear ho2))
                go_wp2_with fail
                go_region_held3 (fun W' => ((W'.cell? ⟨R, 0, none⟩ = some (.slice aC n cC) ∧ W'.cell? ⟨R, 1, none⟩ = some (.slice (some ⟨bo, oo, none⟩) m cO)) ∧ (W'.cell? ⟨B, 0, none⟩ = some (.int .i64 (wi : Int)) ∧ W'.cell? ⟨B, 1, none⟩ = some (.int .i64 (t : Int)))) ∧ W'.cell? ⟨bo, oo + i, none⟩ = some (.int .u8 (e : Int))) ((first | exact HS7.out _ H2.out.drew | exact HS7.out _ H3.out)) ((go_at_call 26; refine Calls.mono (HC1.out _ (HV.out.2.2.1.trans H2.out.drew)) ?_; rintro r w3 ⟨rfl, ho3⟩; have H3 : Hid (Only (fun _ => False) V w3) := H2.out.drew.trans ho3; clear ho3))
                go_wp2_with fail
                go_roundg (b - q - (j + 1))
                case measure => have := HK.out.2.2; omega
                case rel => exact ⟨j + 1, i + 1, _, rfl, rfl, by have := HK.out.2.2; omega, by have := HK.out.2.2; omega, by rw [HBT.out, ← HEV.out.1], by rw [HFT.out]; rfl, by go_num, HV.out.1.trans (H3.out)⟩
          · have t3 : decide ((v0 : Int) ≤ (wi : Int)) = false := decide_eq_false (by omega)
            have HFT : Hid (Sp.fit C t wi q (j + 1) = Sp.fit C t wi q j) := (fit_step (C := C) (t := t) (W := wi) (a := q) (m := j)).2 (by rw [← HK.out.1]; exact hw0)
            have HBT : Hid (Sp.bst C O t wi q (j + 1) = Sp.bst C O t wi q j) := (bst_step (C := C) (O := O) (t := t) (W := wi) (a := q) (m := j)).2 ((ok_tf HE.out.1).2.2 (by rw [← HK.out.2.1]; omega))
            go_wp2_with fail
            go_region_held3 (fun W' => ((W'.cell? ⟨R, 0, none⟩ = some (.slice aC n cC) ∧ W'.cell? ⟨R, 1, none⟩ = some (.slice (some ⟨bo, oo, none⟩) m cO)) ∧ (W'.cell? ⟨B, 0, none⟩ = some (.int .i64 (wi : Int)) ∧ W'.cell? ⟨B, 1, none⟩ = some (.int .i64 (t : Int)))) ∧ W'.cell? ⟨bo, oo + i, none⟩ = some (.int .u8 (e : Int))) ((first | exact HS7.out _ (Only.refl _ _).drew | exact HS7.out _ H2.out)) ((go_at_call 26; refine Calls.mono (HC0.out _ HV.out.2.2.1.drew) ?_; rintro r w2 ⟨rfl, ho2⟩; have H2 : Hid (Only (fun _ => False) V w2) := (Only.refl _ _).drew.trans ho2; clear ho2))
            go_wp2_with fail
            go_roundg (b - q - (j + 1))
            case measure => have := HK.out.2.2; omega
            case rel => exact ⟨j + 1, i + 1, _, rfl, rfl, by have := HK.out.2.2; omega, by have := HK.out.2.2; omega, by rw [HBT.out, ← HEV.out.1], by rw [HFT.out, ← HEV.out.2], by go_num, HV.out.1.trans (H2.out)⟩
        · have t2 : decide ((i : Int) ≤ (b : Int)) = false := decide_eq_false (by omega)
          have hjj : b - q = j := by have := HV.out.2.2.2; omega
          rw [hjj] at HFIN HFIS
          have HS7 : Hid (∀ W', Only (fun _ => False) V W' → ((W'.cell? ⟨R, 0, none⟩ = some (.slice aC n cC) ∧ W'.cell? ⟨R, 1, none⟩ = some (.slice (some ⟨bo, oo, none⟩) m cO)) ∧ (W'.cell? ⟨B, 0, none⟩ = some (.int .i64 (wi : Int)) ∧ W'.cell? ⟨B, 1, none⟩ = some (.int .i64 (t : Int))) ∧ R < W'.heap.size ∧ B < W'.heap.size)) := fun W' ho => HS.out W' (HV.out.2.1.trans (ho.mono (fun _ h => h.elim)))
          obtain ⟨⟨r0, r1⟩, ⟨k0, k1⟩, lRV, lBV⟩ := HS7.out V (Only.refl _ _)
          cases hB : Sp.bst C O t wi q j with
          | some kk =>
            have hkk := Sp.bst_some hB
            obtain ⟨y, hOy, _⟩ := getD_some (O := O) (k := kk) (by rw [← HOL.out]; omega)
            obtain ⟨e1, e2⟩ := HFIS.out kk y hB hOy
            have c1 := HCO.out V HV.out.2.2.1 kk y hOy
            have HEV1 : Hid (ev = (kk : Int)) := by rw [HEV.out.1, hB]; exact rfl
            rw [HEV1.out]
            rw [← e1, ← e2] at c1
            rw [← e1]
            have t6 : (0 : Int) ≤ (x1 : Int) := by omega
            have t7 : (x1 : Int) < (m : Int) := by omega
            clear hB hkk hOy e1 e2 HFIN HFIS HEV HEV1
            go_wp2_with fail
            refine Calls.mono (HMK.out _ HV.out.2.2.1) ?_
            rintro r w3 ⟨rfl, ho3⟩
            have H3 : Hid (Only (fun _ => False) W w3 ∧ w3.ownsRow w0.heap.size 43 4 (.slice al k c) k (lnC D)) := ⟨HV.out.1.trans ho3, own_only HG.out.1 (HV.out.1.trans ho3) (fun _ _ h => h)⟩
            have HVA : Hid _ := blk1 w3 (.cells #[.int .i64 (q : Int), .int .i64 (x1 : Int), .int .i64 (ce : Int), .int .u8 (x2 : Int)] 43)
            clear ho3 r0 r1 k0 k1 lRV lBV
            go_wp2_with (at_builtin; (refine wpList_append_lies _ rfl _ _ 32 rfl w0.heap.size 43 i3 (.agg #[.int .i64 0, .int .i64 0, .int .i64 0, .int .u8 0]) 4 32 Try.underlying32 g3 g30 g31 g32 rfl (by decide) (.slice al k c) k (lnC D) rfl (H3.out.2.alloc _) ⟨w3.heap.size, 0, none⟩ 1 1 [.int .i64 (q : Int), .int .i64 (x1 : Int), .int .i64 (ce : Int), .int .u8 (x2 : Int)] rfl rfl (World.news_of_block (cs := #[.int .i64 (q : Int), .int .i64 (x1 : Int), .int .i64 (ce : Int), .int .u8 (x2 : Int)]) HVA.out.1) (fun u hu => by simp at hu; rcases hu with rfl | rfl | rfl | rfl <;> rfl) (by decide) (by unfold maxLen; omega) (by omega) (by rw [HVA.out.2]; have := H3.out.1.size; omega) (w3.heap.size + 1) HVA.out.2 ?_; intro g5 cap5 w5 hown5 hgrow5 hat5 hlt5; have hoo : Only (fun g => (Value.slice al k c).ownBlock = some g) w3 w5 := (((Only.refl (fun g => (Value.slice al k c).ownBlock = some g) w3).alloc _)).grown hgrow5 (fun k hk => hk); have H5 : Hid (w5.ownsRow w0.heap.size 43 4 (.slice (some ⟨g5, 0, none⟩) (k + 1) cap5) (k + 1) (lnC (D ++ [⟨q, x1, ce, x2⟩])) ∧ Only (fun g => w0.heap.size ≤ g) w0 w5) := ⟨by rw [lnC_snoc]; exact hown5, HG.out.2.1.trans ((H3.out.1.mono (fun _ h => h.elim)).trans (hoo.mono (fun g hg => (own_own H3.out.2 hg).1)))⟩; clear hown5 hgrow5 hat5 hoo))
            go_roundg (b - x1)
            case measure => omega
            case rel => exact ⟨x1, k + 1, D ++ [⟨q, x1, ce, x2⟩], _, _, _, rfl, rfl, by omega, by omega, rfl, rfl, by omega, by omega, by rw [List.length_append, ← HG.out.2.2.2.1]; rfl, by rw [← HN.out.1, HN.out.2.1]; exact lines_step HG.out.2.2.2.2 hlt, H5.out.1, H5.out.2⟩
          | none =>
            have HEV1 : Hid (ev = -1) := by rw [HEV.out.1, hB]; exact rfl
            rw [HEV1.out]
            have t6 : decide ((0 : Int) ≤ -1) = false := by decide
            cases hF : Sp.fit C t wi q j with
            | some kk =>
              have hkk := Sp.fit_some hF
              have HEV2 : Hid (fv = (kk : Int)) := by rw [HEV.out.2, hF]; exact rfl
              rw [HEV2.out]
              obtain ⟨y, hOy, _⟩ := getD_some (O := O) (k := kk) (by rw [← HOL.out]; omega)
              obtain ⟨e1, e2⟩ := HFIN.out (kk) y (by rw [hF]; rfl) hOy hB
              have c1 := HCO.out V HV.out.2.2.1 _ y hOy
              have hy8 : y < 256 := HP.out.oO y (List.mem_of_getElem? hOy)
              rw [← e1] at c1
              rw [← e1]
              have t8 : decide ((x1 : Int) < 0) = false := decide_eq_false (by omega)
              clear hF hkk HEV2
              have t7 : (x1 : Int) < (m : Int) := by omega
              clear hB hOy HFIN HFIS HEV HEV1
              by_cases hy2 : y = 2
              · have t9 : ((y : Int) == 2) = true := by rw [beq_iff_eq]; omega
                rw [if_pos (Or.inr hy2)] at e2
                rw [← e2] at c1 t9
                clear hy2 e2 e1 hy8
                go_wp2_with fail
                refine Calls.mono (HMK.out _ HV.out.2.2.1) ?_
                rintro r w3 ⟨rfl, ho3⟩
                have H3 : Hid (Only (fun _ => False) W w3 ∧ w3.ownsRow w0.heap.size 43 4 (.slice al k c) k (lnC D)) := ⟨HV.out.1.trans ho3, own_only HG.out.1 (HV.out.1.trans ho3) (fun _ _ h => h)⟩
                have HVA : Hid _ := blk1 w3 (.cells #[.int .i64 (q : Int), .int .i64 (x1 : Int), .int .i64 (ce : Int), .int .u8 (x2 : Int)] 43)
                clear ho3 r0 r1 k0 k1 lRV lBV
                go_wp2_with (at_builtin; (refine wpList_append_lies _ rfl _ _ 32 rfl w0.heap.size 43 i3 (.agg #[.int .i64 0, .int .i64 0, .int .i64 0, .int .u8 0]) 4 32 Try.underlying32 g3 g30 g31 g32 rfl (by decide) (.slice al k c) k (lnC D) rfl (H3.out.2.alloc _) ⟨w3.heap.size, 0, none⟩ 1 1 [.int .i64 (q : Int), .int .i64 (x1 : Int), .int .i64 (ce : Int), .int .u8 (x2 : Int)] rfl rfl (World.news_of_block (cs := #[.int .i64 (q : Int), .int .i64 (x1 : Int), .int .i64 (ce : Int), .int .u8 (x2 : Int)]) HVA.out.1) (fun u hu => by simp at hu; rcases hu with rfl | rfl | rfl | rfl <;> rfl) (by decide) (by unfold maxLen; omega) (by omega) (by rw [HVA.out.2]; have := H3.out.1.size; omega) (w3.heap.size + 1) HVA.out.2 ?_; intro g5 cap5 w5 hown5 hgrow5 hat5 hlt5; have hoo : Only (fun g => (Value.slice al k c).ownBlock = some g) w3 w5 := (((Only.refl (fun g => (Value.slice al k c).ownBlock = some g) w3).alloc _)).grown hgrow5 (fun k hk => hk); have H5 : Hid (w5.ownsRow w0.heap.size 43 4 (.slice (some ⟨g5, 0, none⟩) (k + 1) cap5) (k + 1) (lnC (D ++ [⟨q, x1, ce, x2⟩])) ∧ Only (fun g => w0.heap.size ≤ g) w0 w5) := ⟨by rw [lnC_snoc]; exact hown5, HG.out.2.1.trans ((H3.out.1.mono (fun _ h => h.elim)).trans (hoo.mono (fun g hg => (own_own H3.out.2 hg).1)))⟩; clear hown5 hgrow5 hat5 hoo))
                go_roundg (b - x1)
                case measure => omega
                case rel => exact ⟨x1, k + 1, D ++ [⟨q, x1, ce, x2⟩], _, _, _, rfl, rfl, by omega, by omega, rfl, rfl, by omega, by omega, by rw [List.length_append, ← HG.out.2.2.2.1]; rfl, by rw [← HN.out.1, HN.out.2.1]; exact lines_step HG.out.2.2.2.2 hlt, H5.out.1, H5.out.2⟩
              · have t9 : ((y : Int) == 2) = false := by rw [beq_eq_false_iff_ne]; omega
                by_cases hy1 : y = 1
                · have t10 : ((y : Int) == 1) = true := by rw [beq_iff_eq]; omega
                  rw [if_pos (Or.inl hy1)] at e2
                  rw [← e2] at c1 t9 t10
                  clear hy2 hy1 e2 e1 hy8
                  go_wp2_with fail
                  refine Calls.mono (HMK.out _ HV.out.2.2.1) ?_
                  rintro r w3 ⟨rfl, ho3⟩
                  have H3 : Hid (Only (fun _ => False) W w3 ∧ w3.ownsRow w0.heap.size 43 4 (.slice al k c) k (lnC D)) := ⟨HV.out.1.trans ho3, own_only HG.out.1 (HV.out.1.trans ho3) (fun _ _ h => h)⟩
                  have HVA : Hid _ := blk1 w3 (.cells #[.int .i64 (q : Int), .int .i64 (x1 : Int), .int .i64 (ce : Int), .int .u8 (x2 : Int)] 43)
                  clear ho3 r0 r1 k0 k1 lRV lBV
                  go_wp2_with (at_builtin; (refine wpList_append_lies _ rfl _ _ 32 rfl w0.heap.size 43 i3 (.agg #[.int .i64 0, .int .i64 0, .int .i64 0, .int .u8 0]) 4 32 Try.underlying32 g3 g30 g31 g32 rfl (by decide) (.slice al k c) k (lnC D) rfl (H3.out.2.alloc _) ⟨w3.heap.size, 0, none⟩ 1 1 [.int .i64 (q : Int), .int .i64 (x1 : Int), .int .i64 (ce : Int), .int .u8 (x2 : Int)] rfl rfl (World.news_of_block (cs := #[.int .i64 (q : Int), .int .i64 (x1 : Int), .int .i64 (ce : Int), .int .u8 (x2 : Int)]) HVA.out.1) (fun u hu => by simp at hu; rcases hu with rfl | rfl | rfl | rfl <;> rfl) (by decide) (by unfold maxLen; omega) (by omega) (by rw [HVA.out.2]; have := H3.out.1.size; omega) (w3.heap.size + 1) HVA.out.2 ?_; intro g5 cap5 w5 hown5 hgrow5 hat5 hlt5; have hoo : Only (fun g => (Value.slice al k c).ownBlock = some g) w3 w5 := (((Only.refl (fun g => (Value.slice al k c).ownBlock = some g) w3).alloc _)).grown hgrow5 (fun k hk => hk); have H5 : Hid (w5.ownsRow w0.heap.size 43 4 (.slice (some ⟨g5, 0, none⟩) (k + 1) cap5) (k + 1) (lnC (D ++ [⟨q, x1, ce, x2⟩])) ∧ Only (fun g => w0.heap.size ≤ g) w0 w5) := ⟨by rw [lnC_snoc]; exact hown5, HG.out.2.1.trans ((H3.out.1.mono (fun _ h => h.elim)).trans (hoo.mono (fun g hg => (own_own H3.out.2 hg).1)))⟩; clear hown5 hgrow5 hat5 hoo))
                  go_roundg (b - x1)
                  case measure => omega
                  case rel => exact ⟨x1, k + 1, D ++ [⟨q, x1, ce, x2⟩], _, _, _, rfl, rfl, by omega, by omega, rfl, rfl, by omega, by omega, by rw [List.length_append, ← HG.out.2.2.2.1]; rfl, by rw [← HN.out.1, HN.out.2.1]; exact lines_step HG.out.2.2.2.2 hlt, H5.out.1, H5.out.2⟩
                · have t10 : ((y : Int) == 1) = false := by rw [beq_eq_false_iff_ne]; omega
                  rw [if_neg (by omega)] at e2
                  subst e2
                  clear hy2 hy1 e1
                  have HM4 : Hid (∀ W', Only (fun _ => False) w W' → Calls Try.prog 38 #[.agg #[.slice aC n cC, .slice (some ⟨bo, oo, none⟩) m cO], .int .i64 (q : Int), .int .i64 (x1 : Int), .int .u8 4, .int .i64 (t : Int)] W' fun e w' => e = .returned (.agg #[.int .i64 (q : Int), .int .i64 (x1 : Int), .int .i64 (ce : Int), .int .u8 4]) ∧ Only (fun _ => False) W' w') := HMK.out
                  clear HMK
                  go_wp2_with fail
                  refine Calls.mono (HM4.out _ HV.out.2.2.1) ?_
                  rintro r w3 ⟨rfl, ho3⟩
                  have H3 : Hid (Only (fun _ => False) W w3 ∧ w3.ownsRow w0.heap.size 43 4 (.slice al k c) k (lnC D)) := ⟨HV.out.1.trans ho3, own_only HG.out.1 (HV.out.1.trans ho3) (fun _ _ h => h)⟩
                  have HVA : Hid _ := blk1 w3 (.cells #[.int .i64 (q : Int), .int .i64 (x1 : Int), .int .i64 (ce : Int), .int .u8 4] 43)
                  clear ho3 r0 r1 k0 k1 lRV lBV
                  go_wp2_with (at_builtin; (refine wpList_append_lies _ rfl _ _ 32 rfl w0.heap.size 43 i3 (.agg #[.int .i64 0, .int .i64 0, .int .i64 0, .int .u8 0]) 4 32 Try.underlying32 g3 g30 g31 g32 rfl (by decide) (.slice al k c) k (lnC D) rfl (H3.out.2.alloc _) ⟨w3.heap.size, 0, none⟩ 1 1 [.int .i64 (q : Int), .int .i64 (x1 : Int), .int .i64 (ce : Int), .int .u8 4] rfl rfl (World.news_of_block (cs := #[.int .i64 (q : Int), .int .i64 (x1 : Int), .int .i64 (ce : Int), .int .u8 4]) HVA.out.1) (fun u hu => by simp at hu; rcases hu with rfl | rfl | rfl | rfl <;> rfl) (by decide) (by unfold maxLen; omega) (by omega) (by rw [HVA.out.2]; have := H3.out.1.size; omega) (w3.heap.size + 1) HVA.out.2 ?_; intro g5 cap5 w5 hown5 hgrow5 hat5 hlt5; have hoo : Only (fun g => (Value.slice al k c).ownBlock = some g) w3 w5 := (((Only.refl (fun g => (Value.slice al k c).ownBlock = some g) w3).alloc _)).grown hgrow5 (fun k hk => hk); have H5 : Hid (w5.ownsRow w0.heap.size 43 4 (.slice (some ⟨g5, 0, none⟩) (k + 1) cap5) (k + 1) (lnC (D ++ [⟨q, x1, ce, 4⟩])) ∧ Only (fun g => w0.heap.size ≤ g) w0 w5) := ⟨by rw [lnC_snoc]; exact hown5, HG.out.2.1.trans ((H3.out.1.mono (fun _ h => h.elim)).trans (hoo.mono (fun g hg => (own_own H3.out.2 hg).1)))⟩; clear hown5 hgrow5 hat5 hoo))
                  go_roundg (b - x1)
                  case measure => omega
                  case rel => exact ⟨x1, k + 1, D ++ [⟨q, x1, ce, 4⟩], _, _, _, rfl, rfl, by omega, by omega, rfl, rfl, by omega, by omega, by rw [List.length_append, ← HG.out.2.2.2.1]; rfl, by rw [← HN.out.1, HN.out.2.1]; exact lines_step HG.out.2.2.2.2 hlt, H5.out.1, H5.out.2⟩
            | none =>
              have HEV2 : Hid (fv = -1) := by rw [HEV.out.2, hF]; exact rfl
              rw [HEV2.out]
              obtain ⟨y, hOy, _⟩ := getD_some (O := O) (k := q + 1) (by rw [← HOL.out]; omega)
              obtain ⟨e1, e2⟩ := HFIN.out (q + 1) y (by rw [hF]; rfl) hOy hB
              have c1 := HCO.out V HV.out.2.2.1 _ y hOy
              have hy8 : y < 256 := HP.out.oO y (List.mem_of_getElem? hOy)
              rw [← e1] at c1
              have t8 : (-1 : Int) < 0 := by decide
              have t11 : (q : Int) + 1 = (x1 : Int) := by omega
              have t12 : IntKind.i64.wrap ((q : Int) + 1) = (x1 : Int) := by rw [t11]; exact wrap_sm _ (by omega) (by omega)
              clear hF HEV2
              have t7 : (x1 : Int) < (m : Int) := by omega
              clear hB hOy HFIN HFIS HEV HEV1
              by_cases hy2 : y = 2
              · have t9 : ((y : Int) == 2) = true := by rw [beq_iff_eq]; omega
                rw [if_pos (Or.inr hy2)] at e2
                rw [← e2] at c1 t9
                clear hy2 e2 e1 hy8
                go_wp2_with fail
                refine Calls.mono (HMK.out _ HV.out.2.2.1) ?_
                rintro r w3 ⟨rfl, ho3⟩
                have H3 : Hid (Only (fun _ => False) W w3 ∧ w3.ownsRow w0.heap.size 43 4 (.slice al k c) k (lnC D)) := ⟨HV.out.1.trans ho3, own_only HG.out.1 (HV.out.1.trans ho3) (fun _ _ h => h)⟩
                have HVA : Hid _ := blk1 w3 (.cells #[.int .i64 (q : Int), .int .i64 (x1 : Int), .int .i64 (ce : Int), .int .u8 (x2 : Int)] 43)
                clear ho3 r0 r1 k0 k1 lRV lBV
                go_wp2_with (at_builtin; (refine wpList_append_lies _ rfl _ _ 32 rfl w0.heap.size 43 i3 (.agg #[.int .i64 0, .int .i64 0, .int .i64 0, .int .u8 0]) 4 32 Try.underlying32 g3 g30 g31 g32 rfl (by decide) (.slice al k c) k (lnC D) rfl (H3.out.2.alloc _) ⟨w3.heap.size, 0, none⟩ 1 1 [.int .i64 (q : Int), .int .i64 (x1 : Int), .int .i64 (ce : Int), .int .u8 (x2 : Int)] rfl rfl (World.news_of_block (cs := #[.int .i64 (q : Int), .int .i64 (x1 : Int), .int .i64 (ce : Int), .int .u8 (x2 : Int)]) HVA.out.1) (fun u hu => by simp at hu; rcases hu with rfl | rfl | rfl | rfl <;> rfl) (by decide) (by unfold maxLen; omega) (by omega) (by rw [HVA.out.2]; have := H3.out.1.size; omega) (w3.heap.size + 1) HVA.out.2 ?_; intro g5 cap5 w5 hown5 hgrow5 hat5 hlt5; have hoo : Only (fun g => (Value.slice al k c).ownBlock = some g) w3 w5 := (((Only.refl (fun g => (Value.slice al k c).ownBlock = some g) w3).alloc _)).grown hgrow5 (fun k hk => hk); have H5 : Hid (w5.ownsRow w0.heap.size 43 4 (.slice (some ⟨g5, 0, none⟩) (k + 1) cap5) (k + 1) (lnC (D ++ [⟨q, x1, ce, x2⟩])) ∧ Only (fun g => w0.heap.size ≤ g) w0 w5) := ⟨by rw [lnC_snoc]; exact hown5, HG.out.2.1.trans ((H3.out.1.mono (fun _ h => h.elim)).trans (hoo.mono (fun g hg => (own_own H3.out.2 hg).1)))⟩; clear hown5 hgrow5 hat5 hoo))
                go_roundg (b - x1)
                case measure => omega
                case rel => exact ⟨x1, k + 1, D ++ [⟨q, x1, ce, x2⟩], _, _, _, rfl, rfl, by omega, by omega, rfl, rfl, by omega, by omega, by rw [List.length_append, ← HG.out.2.2.2.1]; rfl, by rw [← HN.out.1, HN.out.2.1]; exact lines_step HG.out.2.2.2.2 hlt, H5.out.1, H5.out.2⟩
              · have t9 : ((y : Int) == 2) = false := by rw [beq_eq_false_iff_ne]; omega
                by_cases hy1 : y = 1
                · have t10 : ((y : Int) == 1) = true := by rw [beq_iff_eq]; omega
                  rw [if_pos (Or.inl hy1)] at e2
                  rw [← e2] at c1 t9 t10
                  clear hy2 hy1 e2 e1 hy8
                  go_wp2_with fail
                  refine Calls.mono (HMK.out _ HV.out.2.2.1) ?_
                  rintro r w3 ⟨rfl, ho3⟩
                  have H3 : Hid (Only (fun _ => False) W w3 ∧ w3.ownsRow w0.heap.size 43 4 (.slice al k c) k (lnC D)) := ⟨HV.out.1.trans ho3, own_only HG.out.1 (HV.out.1.trans ho3) (fun _ _ h => h)⟩
                  have HVA : Hid _ := blk1 w3 (.cells #[.int .i64 (q : Int), .int .i64 (x1 : Int), .int .i64 (ce : Int), .int .u8 (x2 : Int)] 43)
                  clear ho3 r0 r1 k0 k1 lRV lBV
                  go_wp2_with (at_builtin; (refine wpList_append_lies _ rfl _ _ 32 rfl w0.heap.size 43 i3 (.agg #[.int .i64 0, .int .i64 0, .int .i64 0, .int .u8 0]) 4 32 Try.underlying32 g3 g30 g31 g32 rfl (by decide) (.slice al k c) k (lnC D) rfl (H3.out.2.alloc _) ⟨w3.heap.size, 0, none⟩ 1 1 [.int .i64 (q : Int), .int .i64 (x1 : Int), .int .i64 (ce : Int), .int .u8 (x2 : Int)] rfl rfl (World.news_of_block (cs := #[.int .i64 (q : Int), .int .i64 (x1 : Int), .int .i64 (ce : Int), .int .u8 (x2 : Int)]) HVA.out.1) (fun u hu => by simp at hu; rcases hu with rfl | rfl | rfl | rfl <;> rfl) (by decide) (by unfold maxLen; omega) (by omega) (by rw [HVA.out.2]; have := H3.out.1.size; omega) (w3.heap.size + 1) HVA.out.2 ?_; intro g5 cap5 w5 hown5 hgrow5 hat5 hlt5; have hoo : Only (fun g => (Value.slice al k c).ownBlock = some g) w3 w5 := (((Only.refl (fun g => (Value.slice al k c).ownBlock = some g) w3).alloc _)).grown hgrow5 (fun k hk => hk); have H5 : Hid (w5.ownsRow w0.heap.size 43 4 (.slice (some ⟨g5, 0, none⟩) (k + 1) cap5) (k + 1) (lnC (D ++ [⟨q, x1, ce, x2⟩])) ∧ Only (fun g => w0.heap.size ≤ g) w0 w5) := ⟨by rw [lnC_snoc]; exact hown5, HG.out.2.1.trans ((H3.out.1.mono (fun _ h => h.elim)).trans (hoo.mono (fun g hg => (own_own H3.out.2 hg).1)))⟩; clear hown5 hgrow5 hat5 hoo))
                  go_roundg (b - x1)
                  case measure => omega
                  case rel => exact ⟨x1, k + 1, D ++ [⟨q, x1, ce, x2⟩], _, _, _, rfl, rfl, by omega, by omega, rfl, rfl, by omega, by omega, by rw [List.length_append, ← HG.out.2.2.2.1]; rfl, by rw [← HN.out.1, HN.out.2.1]; exact lines_step HG.out.2.2.2.2 hlt, H5.out.1, H5.out.2⟩
                · have t10 : ((y : Int) == 1) = false := by rw [beq_eq_false_iff_ne]; omega
                  rw [if_neg (by omega)] at e2
                  subst e2
                  clear hy2 hy1 e1
                  have HM4 : Hid (∀ W', Only (fun _ => False) w W' → Calls Try.prog 38 #[.agg #[.slice aC n cC, .slice (some ⟨bo, oo, none⟩) m cO], .int .i64 (q : Int), .int .i64 (x1 : Int), .int .u8 4, .int .i64 (t : Int)] W' fun e w' => e = .returned (.agg #[.int .i64 (q : Int), .int .i64 (x1 : Int), .int .i64 (ce : Int), .int .u8 4]) ∧ Only (fun _ => False) W' w') := HMK.out
                  clear HMK
                  go_wp2_with fail
                  refine Calls.mono (HM4.out _ HV.out.2.2.1) ?_
                  rintro r w3 ⟨rfl, ho3⟩
                  have H3 : Hid (Only (fun _ => False) W w3 ∧ w3.ownsRow w0.heap.size 43 4 (.slice al k c) k (lnC D)) := ⟨HV.out.1.trans ho3, own_only HG.out.1 (HV.out.1.trans ho3) (fun _ _ h => h)⟩
                  have HVA : Hid _ := blk1 w3 (.cells #[.int .i64 (q : Int), .int .i64 (x1 : Int), .int .i64 (ce : Int), .int .u8 4] 43)
                  clear ho3 r0 r1 k0 k1 lRV lBV
                  go_wp2_with (at_builtin; (refine wpList_append_lies _ rfl _ _ 32 rfl w0.heap.size 43 i3 (.agg #[.int .i64 0, .int .i64 0, .int .i64 0, .int .u8 0]) 4 32 Try.underlying32 g3 g30 g31 g32 rfl (by decide) (.slice al k c) k (lnC D) rfl (H3.out.2.alloc _) ⟨w3.heap.size, 0, none⟩ 1 1 [.int .i64 (q : Int), .int .i64 (x1 : Int), .int .i64 (ce : Int), .int .u8 4] rfl rfl (World.news_of_block (cs := #[.int .i64 (q : Int), .int .i64 (x1 : Int), .int .i64 (ce : Int), .int .u8 4]) HVA.out.1) (fun u hu => by simp at hu; rcases hu with rfl | rfl | rfl | rfl <;> rfl) (by decide) (by unfold maxLen; omega) (by omega) (by rw [HVA.out.2]; have := H3.out.1.size; omega) (w3.heap.size + 1) HVA.out.2 ?_; intro g5 cap5 w5 hown5 hgrow5 hat5 hlt5; have hoo : Only (fun g => (Value.slice al k c).ownBlock = some g) w3 w5 := (((Only.refl (fun g => (Value.slice al k c).ownBlock = some g) w3).alloc _)).grown hgrow5 (fun k hk => hk); have H5 : Hid (w5.ownsRow w0.heap.size 43 4 (.slice (some ⟨g5, 0, none⟩) (k + 1) cap5) (k + 1) (lnC (D ++ [⟨q, x1, ce, 4⟩])) ∧ Only (fun g => w0.heap.size ≤ g) w0 w5) := ⟨by rw [lnC_snoc]; exact hown5, HG.out.2.1.trans ((H3.out.1.mono (fun _ h => h.elim)).trans (hoo.mono (fun g hg => (own_own H3.out.2 hg).1)))⟩; clear hown5 hgrow5 hat5 hoo))
                  go_roundg (b - x1)
                  case measure => omega
                  case rel => exact ⟨x1, k + 1, D ++ [⟨q, x1, ce, 4⟩], _, _, _, rfl, rfl, by omega, by omega, rfl, rfl, by omega, by omega, by rw [List.length_append, ← HG.out.2.2.2.1]; rfl, by rw [← HN.out.1, HN.out.2.1]; exact lines_step HG.out.2.2.2.2 hlt, H5.out.1, H5.out.2⟩
    · have t1 : decide ((q : Int) < (b : Int)) = false := decide_eq_false (by omega)
      have HL : Hid (Sp.lines C O t wi a b = D) := by rw [HG.out.2.2.2.2, Sp.lines_nil (show b ≤ q by omega)]; exact List.append_nil _
      go_wp2_with fail
      go_ret
      exact ⟨k, al, c, by rw [HL.out]; exact HG.out.2.2.2.1, rfl, by rw [HL.out]; exact own_base2 HG.out.1 hs0, HG.out.2.2.1⟩
end Go.Proofs.Ytegoadhnilmchaa

