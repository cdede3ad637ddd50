/-
  stanzalaw15.all: what a row of ends costs.
-/
import Derived.Test.YthckdomljfdmpaaBp
import Derived.Test.YthckdomljfdmpaaLq
namespace Go.Proofs.Ythckdomljfdmpaa
open Go.RowKit Go.Maps
set_option linter.unusedVariables false
set_option linter.unusedSimpArgs false
set_option maxRecDepth 100000 in
set_option maxHeartbeats 4000000 in
theorem all_any (C : List Ct) (O : List Nat) (n m : Nat) (aC aO : Option Addr) (cC cO b wi t mo hy pr lo ne cE : Nat) (aE : Option Addr) (E : List Nat) (w : World) (hP : Pv w C O n m aC aO cC cO) (hm : n < m) (hb : b ≤ n) (hw : wi ≤ 1048576) (h0 : 0 < t) (ht : t ≤ 1000) (hhy : hy ≤ 2097152) (hpr : pr ≤ 1048576) (hne : ne = E.length) (hE : Ds.Row b 0 E) (hV : Vw w aE (natI E)) :
    Calls Try.prog 19 #[.agg #[.slice aC n cC, .slice aO m cO], .slice aE ne cE, .agg #[.int .i64 (wi : Int), .int .i64 (t : Int), .int .u8 (mo : Int), .int .i64 (hy : Int), .int .i64 (pr : Int), .float .f64 lo]] w fun e w' => e = .returned (Sp.cosV (Ds.cst (bsF C O t wi hy pr lo b) 0 E)) ∧ Only (fun _ => False) w w' := by
  have h1 := hP.few
  have HP : Hid (Pv w C O n m aC aO cC cO) := hP
  obtain ⟨f, hf⟩ : ∃ f, f = bsF C O t wi hy pr lo b := ⟨_, rfl⟩
  have HFM : Hid (∀ i j y, f i j = some y → y ≤ 200000000) := fun i j y h => by rw [hf] at h; exact (cos_le hhy hpr h).1
  have HCS : Hid (∀ W' i k (la : Bool), Only (fun _ => False) w W' → i ≤ n → k ≤ n → la = decide (k = b) → Calls Try.prog 17 #[.agg #[.slice aC n cC, .slice aO m cO], .int .i64 ((i : Nat) : Int), .int .i64 ((k : Nat) : Int), .bool la, .agg #[.int .i64 (wi : Int), .int .i64 (t : Int), .int .u8 (mo : Int), .int .i64 (hy : Int), .int .i64 (pr : Int), .float .f64 lo]] W' fun e w' => e = .returned (Sp.cosV (f i k)) ∧ Only (fun _ => False) W' w') := fun W' i k la ho hi hk hla => by
    rw [hf]
    unfold bsF
    rw [← hla]
    exact cost_any C O n m aC aO cC cO i k wi t mo hy pr lo la W' (HP.out.keep ho) hm hi hk hw h0 ht hhy hpr
  rw [← hf]
  obtain ⟨rs, hrs⟩ : ∃ r, r = Ds.cst f 0 E := ⟨_, rfl⟩
  rw [← hrs]
  have HE : Hid (rs = Ds.cst f 0 E ∧ ne = E.length ∧ Ds.Row b 0 E ∧ Vw w aE (natI E)) := ⟨hrs, hne, hE, hV⟩
  have hnel : ne ≤ 100000 := by have := hE.length; omega
  clear hP hf hrs hne hE hV
  go_enter Try.func19, Try.ntmps19
  go_upto_region 1 with fail
  obtain ⟨R, B, w0, hw0, hB, hR, H0, lRB, lB, lB0⟩ := box26 w (.slice aC n cC) (.slice aO m cO) (.int .i64 (wi : Int)) (.int .i64 (t : Int)) (.int .u8 (mo : Int)) (.int .i64 (hy : Int)) (.int .i64 (pr : Int)) (.float .f64 lo) 31 35
  rw [hw0, hB, hR]
  clear hw0 hB hR
  have HS : Hid (∀ W', Only (fun _ => False) w0 W' → (W'.cell? ⟨R, 0, none⟩ = some (.slice aC n cC) ∧ W'.cell? ⟨R, 1, none⟩ = some (.slice aO m cO)) ∧ (W'.cell? ⟨B, 0, none⟩ = some (.int .i64 (wi : Int)) ∧ W'.cell? ⟨B, 1, none⟩ = some (.int .i64 (t : Int)) ∧ W'.cell? ⟨B, 2, none⟩ = some (.int .u8 (mo : Int)) ∧ W'.cell? ⟨B, 3, none⟩ = some (.int .i64 (hy : Int)) ∧ W'.cell? ⟨B, 4, none⟩ = some (.int .i64 (pr : Int)) ∧ W'.cell? ⟨B, 5, none⟩ = some (.float .f64 lo)) ∧ R < W'.heap.size ∧ B < W'.heap.size) := fun W' ho => ⟨⟨(blk_two (blk_keep ho H0.out.1)).1, (blk_two (blk_keep ho H0.out.1)).2.1⟩, blk_six (blk_keep ho H0.out.2.1), (blk_two (blk_keep ho H0.out.1)).2.2, (Array.getElem?_eq_some_iff.1 (blk_keep ho H0.out.2.1)).1⟩
  go_wp2_with fail
  go_loopg [8, 9, 16] ne (fun gh v8 v9 v16 wr => ∃ (i s q : Nat) (W : World), W = wr ∧ gh = ne - i ∧ i ≤ ne ∧ v8 = .int .i64 (s : Int) ∧ v9 = .int .i64 (q : Int) ∧ v16 = .int .i64 (i : Int) ∧ s ≤ i * 200000000 ∧ Ds.Row b q (E.drop i) ∧ rs = (Ds.cst f q (E.drop i)).map (s + ·) ∧ Only (fun _ => False) w0 W)
  case atStart => exact ⟨0, 0, 0, _, rfl, rfl, Nat.zero_le _, rfl, rfl, rfl, Nat.zero_le _, HE.out.2.2.1, by rw [HE.out.1]; exact (show ∀ o : Option Nat, o = o.map (0 + ·) from fun o => by cases o <;> simp) _, Only.refl _ _⟩
  case round =>
    obtain ⟨i, s, q, W, hW, rfl, hi, rfl, rfl, rfl, hs, hrow, hcs, hoW⟩ := hrel
    subst hW
    have HG : Hid (Ds.Row b q (E.drop i) ∧ rs = (Ds.cst f q (E.drop i)).map (s + ·) ∧ Only (fun _ => False) w0 W ∧ Only (fun _ => False) w W) := ⟨hrow, hcs, hoW, H0.out.2.2.trans hoW⟩
    have hsl : s ≤ 20000000000000 := by have : i * 200000000 ≤ 100000 * 200000000 := Nat.mul_le_mul_right _ (by omega); omega
    by_cases hlt : i < ne
    · have t1 : (i : Int) < (ne : Int) := by omega
      have hid : i < E.length := by rw [← HE.out.2.1]; exact hlt
      obtain ⟨x, hx⟩ : ∃ x, E[i]? = some x := ⟨_, List.getElem?_eq_getElem hid⟩
      have hdr : E.drop i = x :: E.drop (i + 1) := by
        rw [List.drop_eq_getElem_cons hid]
        rw [List.getElem?_eq_getElem hid] at hx
        injection hx with hx
        rw [hx]
      rw [hdr] at hrow hcs
      have hqx := hrow.1
      have hxb := hrow.2.le
      have hqn : q ≤ n := by omega
      have hxn : x ≤ n := by omega
      obtain ⟨g, off, rfl, hg, hc⟩ := (HE.out.2.2.2.keep HG.out.2.2.2).cells (by rw [natI_len]; omega)
      have c0 := hc i _ (natI_get hx)
      obtain ⟨nd, hnd⟩ : ∃ x, x = ne - 1 := ⟨_, rfl⟩
      have e1 : (ne : Int) - 1 = (nd : Int) := by omega
      obtain ⟨la, hla⟩ : ∃ z, z = decide (x = b) := ⟨_, rfl⟩
      have e2 : ((i : Int) == (nd : Int)) = la := by
        have h := Ds.Row.lastIff HE.out.2.2.1 hx
        rw [← HE.out.2.1] at h
        rw [hla]
        by_cases qq : x = b
        · rw [decide_eq_true qq, beq_iff_eq]
          have := h.2 qq
          omega
        · rw [decide_eq_false qq, beq_eq_false_iff_ne]
          intro e
          exact qq (h.1 (by omega))
      have HLA : Hid (la = decide (x = b)) := hla
      obtain ⟨v, hv⟩ : ∃ v, v = f q x := ⟨_, rfl⟩
      have HV : Hid (v = f q x ∧ Ds.Row b x (E.drop (i + 1)) ∧ rs = (Ds.cst f q (x :: E.drop (i + 1))).map (s + ·)) := ⟨hv, hrow.2, hcs⟩
      obtain ⟨⟨r0, r1⟩, ⟨k0, k1, k2, k3, k4, k5⟩, lR, lBz⟩ := HS.out W hoW
      clear hrow hcs hoW hx hdr hc hid hla hv hnd
      go_wp2_with fail
      refine Calls.mono (HCS.out _ q x la HG.out.2.2.2 hqn hxn HLA.out) ?_
      rw [← HV.out.1]
      rintro r W2 ⟨rfl, ho2⟩
      have H2 : Hid (Only (fun _ => False) w0 W2 ∧ Only (fun _ => False) w W2) := ⟨HG.out.2.2.1.trans ho2, HG.out.2.2.2.trans ho2⟩
      clear ho2 r0 r1 k0 k1 k2 k3 k4 k5 lR lBz c0 hg
      unfold Sp.cosV
      cases v with
      | none =>
        have HX : Hid (rs = none) := by rw [HV.out.2.2, Ds.cst_step, ← HV.out.1]; exact rfl
        simp only [Option.getD_none, Option.isSome_none]
        go_wp2_with fail
        go_ret2
        exact ⟨by rw [HX.out]; rfl, H2.out.2⟩
      | some y =>
        have hyl : y ≤ 200000000 := HFM.out q x y HV.out.1.symm
        have HX : Hid (rs = (Ds.cst f x (E.drop (i + 1))).map ((s + y) + ·)) := by
          rw [HV.out.2.2, Ds.cst_step, ← HV.out.1]
          cases Ds.cst f x (E.drop (i + 1)) with
          | none => exact rfl
          | some u => show some (s + (y + u)) = some (s + y + u); rw [Nat.add_assoc]
        simp only [Option.getD_some, Option.isSome_some]
        go_wp2_with fail
        go_roundg (ne - (i + 1))
        case measure => omega
        case rel => exact ⟨i + 1, s + y, x, _, rfl, rfl, by omega, by go_num, rfl, by go_num, by omega, HV.out.2.1, HX.out, H2.out.1⟩
    · have t1 : decide ((i : Int) < (ne : Int)) = false := decide_eq_false (by omega)
      have HX : Hid (rs = some s) := by
        have h := HG.out.2.1
        rw [List.drop_of_length_le (by rw [← HE.out.2.1]; omega)] at h
        rw [h]
        exact rfl
      clear hrow hcs hoW
      go_wp2_with fail
      go_ret2
      exact ⟨by rw [HX.out]; rfl, HG.out.2.2.2⟩
end Go.Proofs.Ythckdomljfdmpaa
