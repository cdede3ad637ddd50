/-
  best.Cost: what a line costs.
-/
import Derived.Test.YtdepjmneoplicaaKa
import Derived.Test.YtdepjmneoplicaaPc
import Derived.Test.YtdepjmneoplicaaSa7
import Derived.Deep.CutRange
namespace Go.Proofs.Ytdepjmneoplicaa
open Go.RowKit Go.Maps
set_option linter.unusedVariables false
set_option linter.unusedSimpArgs false
theorem five_one (a b c d : Int) (l : Bool) : (#[Value.int .i64 a, .int .i64 b, .int .u8 c, .int .u8 d, .bool l].all fun x => x.oneCell') = true := by
  simp [Value.oneCell']
set_option maxRecDepth 100000 in
set_option maxHeartbeats 8000000 in
theorem cost_any (C : List Ct) (O : List Nat) (n m : Nat) (aC aO : Option Addr) (cC cO a b wi t mo hy pr lo : Nat) (la : Bool) (w : World) (hP : Pv w C O n m aC aO cC cO) (hm : n < m) (ha : a ≤ n) (hb : b ≤ n) (hw : wi ≤ 1048576) (h0 : 0 < t) (ht : t ≤ 1000) (hhy : hy ≤ 2097152) (hpr : pr ≤ 1048576) :
    Calls Try.prog 33 #[.agg #[.slice aC n cC, .slice aO m cO], .int .i64 (a : Int), .int .i64 (b : Int), .bool la, .agg #[.int .i64 (wi : Int), .int .i64 (t : Int), .int .u8 (mo : Int), .int .i64 (hy : Int), .int .i64 (pr : Int), .float .f64 lo]] w fun e w' => e = .returned (Sp.cosV (Sp.cos C O t wi hy pr lo la a b)) ∧ Only (fun _ => False) w w' := by
  have h1 := hP.few
  have hfO := hP.fewO
  obtain ⟨e, hOe, hDe⟩ := getD_some' (O := O) (k := b) (by rw [← hP.hm]; omega)
  obtain ⟨f, hOf, hDf⟩ := getD_some' (O := O) (k := a) (by rw [← hP.hm]; omega)
  have he8 : e < 256 := hP.oO e (List.mem_of_getElem? hOe)
  have hf8 : f < 256 := hP.oO f (List.mem_of_getElem? hOf)
  have HE1 : Hid (∀ W', Only (fun _ => False) w W' → Calls Try.prog 32 #[.agg #[.slice aC n cC, .slice aO m cO], .int .i64 (b : Int)] W' fun r w' => r = .returned (.tuple #[.int .u8 (e : Int), .bool (decide (e ≠ 0))]) ∧ Only (fun _ => False) W' w') := fun W' ho => ends_any C O n m aC aO cC cO b e W' (hP.keep ho) (by omega) hOe
  have HE2 : Hid (∀ W', Only (fun _ => False) w W' → Calls Try.prog 32 #[.agg #[.slice aC n cC, .slice aO m cO], .int .i64 (a : Int)] W' fun r w' => r = .returned (.tuple #[.int .u8 (f : Int), .bool (decide (f ≠ 0))]) ∧ Only (fun _ => False) W' w') := fun W' ho => ends_any C O n m aC aO cC cO a f W' (hP.keep ho) (by omega) hOf
  obtain ⟨rs, hrs⟩ : ∃ r, r = Sp.cosV (Sp.cos C O t wi hy pr lo la a b) := ⟨_, rfl⟩
  rw [← hrs]
  have HP : Hid (Pv w C O n m aC aO cC cO) := hP
  have HD : Hid (O.getD b 0 = e ∧ O.getD a 0 = f) := ⟨hDe, hDf⟩
  clear hP hOe hOf hDe hDf
  obtain ⟨q, hq⟩ : ∃ q, q = decide (f ≠ 0) := ⟨_, rfl⟩
  rw [← hq] at HE2
  clear hq
  by_cases hab : a < b
  · have v1 : decide ((b : Int) ≤ (a : Int)) = false := decide_eq_false (by omega)
    have v1n : decide (b ≤ a) = false := decide_eq_false (by omega)
    by_cases he0 : e = 0
    · have HX : Hid (rs = .tuple #[.int .i64 0, .bool false]) := by rw [hrs, Sp.cos_none (Or.inr (by rw [HD.out.1]; exact he0))]; exact rfl
      rw [show decide (e ≠ 0) = false from decide_eq_false (by omega)] at HE1
      clear hrs he0
      go_enter Try.func33, Try.ntmps33
      go_upto_region 1 with fail
      obtain ⟨R, B, w0, hw0, hB, hR, H0, lRB, lB, lB0⟩ := box26 w (.slice aC n cC) (.slice aO m cO) (.int .i64 (wi : Int)) (.int .i64 (t : Int)) (.int .u8 (mo : Int)) (.int .i64 (hy : Int)) (.int .i64 (pr : Int)) (.float .f64 lo) 31 35
      rw [hw0, hB, hR]
      clear hw0 hB hR
      have HS : Hid (∀ W', Only (fun _ => False) w0 W' → (W'.cell? ⟨R, 0, none⟩ = some (.slice aC n cC) ∧ W'.cell? ⟨R, 1, none⟩ = some (.slice aO m cO)) ∧ (W'.cell? ⟨B, 0, none⟩ = some (.int .i64 (wi : Int)) ∧ W'.cell? ⟨B, 1, none⟩ = some (.int .i64 (t : Int)) ∧ W'.cell? ⟨B, 2, none⟩ = some (.int .u8 (mo : Int)) ∧ W'.cell? ⟨B, 3, none⟩ = some (.int .i64 (hy : Int)) ∧ W'.cell? ⟨B, 4, none⟩ = some (.int .i64 (pr : Int)) ∧ W'.cell? ⟨B, 5, none⟩ = some (.float .f64 lo)) ∧ R < W'.heap.size ∧ B < W'.heap.size) := fun W' ho => ⟨⟨(blk_two (blk_keep ho H0.out.1)).1, (blk_two (blk_keep ho H0.out.1)).2.1⟩, blk_six (blk_keep ho H0.out.2.1), (blk_two (blk_keep ho H0.out.1)).2.2, (Array.getElem?_eq_some_iff.1 (blk_keep ho H0.out.2.1)).1⟩
      obtain ⟨⟨r0, r1⟩, ⟨k0, k1, k2, k3, k4, k5⟩, lR, lBz⟩ := HS.out w0 (Only.refl _ _)
      go_wp2_with fail
      refine Calls.mono (HE1.out _ H0.out.2.2) ?_
      rintro r w1 ⟨rfl, ho1⟩
      have H1 : Hid (Only (fun _ => False) w w1 ∧ Only (fun _ => False) w0 w1) := ⟨H0.out.2.2.trans ho1, ho1⟩
      clear ho1 r0 r1 k0 k1 k2 k3 k4 k5 lR lBz
      obtain ⟨⟨r0, r1⟩, ⟨k0, k1, k2, k3, k4, k5⟩, lR, lBz⟩ := HS.out w1 H1.out.2
      go_wp2_with fail
      go_ret2
      exact ⟨by rw [HX.out]; rfl, H1.out.1⟩
    · obtain ⟨ce, hce⟩ : ∃ x, x = Sp.wde C t a b e := ⟨_, rfl⟩
      obtain ⟨ga, hga⟩ : ∃ x, x = Sp.gp C a (b - a) := ⟨_, rfl⟩
      have hce2 : ce ≤ 100200001 := by rw [hce, wde_cel]; exact cel_small HP.out.ok h0 ht (by omega)
      have hga2 : ga ≤ 100000 := by rw [hga]; exact Nat.le_trans (gp_le C a _) (by omega)
      have HX : Hid (rs = Sp.cosV (Sp.shp wi hy pr lo ce ga f e la)) := by rw [hrs, Sp.cos_shp hab (by rw [HD.out.1]; exact he0), HD.out.1, HD.out.2, hce, hga]; exact rfl
      rw [show decide (e ≠ 0) = true from decide_eq_true he0] at HE1
      have HC1 : Hid (∀ W', Only (fun _ => False) w W' → Calls Try.prog 44 #[.agg #[.slice aC n cC, .slice aO m cO], .int .i64 (a : Int), .int .i64 (b : Int), .int .u8 (e : Int), .int .i64 (t : Int)] W' fun r w' => r = .returned (.int .i64 (ce : Int)) ∧ Only (fun _ => False) W' w') := fun W' ho => by
        rw [hce, wde_cel]
        exact cells_any C O n m aC aO cC cO a b t e W' (HP.out.keep ho) (by omega) hb h0 ht he8
      have HG1 : Hid (∀ W', Only (fun _ => False) w W' → Calls Try.prog 46 #[.agg #[.slice aC n cC, .slice aO m cO], .int .i64 (a : Int), .int .i64 (b : Int)] W' fun r w' => r = .returned (.int .i64 (ga : Int)) ∧ Only (fun _ => False) W' w') := fun W' ho => by
        rw [hga]
        exact gaps_any C O n m aC aO cC cO a b W' (HP.out.keep ho) (by omega) hb
      have HSH : Hid (∀ W', Calls Try.prog 47 #[.agg #[.int .i64 (ce : Int), .int .i64 (ga : Int), .int .u8 (f : Int), .int .u8 (e : Int), .bool la], .agg #[.int .i64 (wi : Int), .int .i64 (t : Int), .int .u8 (mo : Int), .int .i64 (hy : Int), .int .i64 (pr : Int), .float .f64 lo]] W' fun r w' => r = .returned rs ∧ Only (fun _ => False) W' w') := fun W' => by
        rw [HX.out]
        exact shape_any ce ga f e wi t mo hy pr lo la W' hce2 hga2 hw hhy hpr
      have HRV : Hid (∃ (x : Nat) (y : Bool), rs = .tuple #[.int .i64 (x : Int), .bool y]) := ⟨_, _, hrs⟩
      clear hrs he0 hce hga HX
      obtain ⟨rx, ry, hrxy⟩ := HRV.out
      subst hrxy
      clear HRV
      go_enter Try.func33, Try.ntmps33
      go_upto_region 1 with fail
      obtain ⟨R, B, w0, hw0, hB, hR, H0, lRB, lB, lB0⟩ := box26 w (.slice aC n cC) (.slice aO m cO) (.int .i64 (wi : Int)) (.int .i64 (t : Int)) (.int .u8 (mo : Int)) (.int .i64 (hy : Int)) (.int .i64 (pr : Int)) (.float .f64 lo) 31 35
      rw [hw0, hB, hR]
      clear hw0 hB hR
      have HS : Hid (∀ W', Only (fun _ => False) w0 W' → (W'.cell? ⟨R, 0, none⟩ = some (.slice aC n cC) ∧ W'.cell? ⟨R, 1, none⟩ = some (.slice aO m cO)) ∧ (W'.cell? ⟨B, 0, none⟩ = some (.int .i64 (wi : Int)) ∧ W'.cell? ⟨B, 1, none⟩ = some (.int .i64 (t : Int)) ∧ W'.cell? ⟨B, 2, none⟩ = some (.int .u8 (mo : Int)) ∧ W'.cell? ⟨B, 3, none⟩ = some (.int .i64 (hy : Int)) ∧ W'.cell? ⟨B, 4, none⟩ = some (.int .i64 (pr : Int)) ∧ W'.cell? ⟨B, 5, none⟩ = some (.float .f64 lo)) ∧ R < W'.heap.size ∧ B < W'.heap.size) := fun W' ho => ⟨⟨(blk_two (blk_keep ho H0.out.1)).1, (blk_two (blk_keep ho H0.out.1)).2.1⟩, blk_six (blk_keep ho H0.out.2.1), (blk_two (blk_keep ho H0.out.1)).2.2, (Array.getElem?_eq_some_iff.1 (blk_keep ho H0.out.2.1)).1⟩
      obtain ⟨⟨r0, r1⟩, ⟨k0, k1, k2, k3, k4, k5⟩, lR, lBz⟩ := HS.out w0 (Only.refl _ _)
      go_wp2_with fail
      refine Calls.mono (HE1.out _ H0.out.2.2) ?_
      rintro r w1 ⟨rfl, ho1⟩
      have H1 : Hid (Only (fun _ => False) w w1 ∧ Only (fun _ => False) w0 w1) := ⟨H0.out.2.2.trans ho1, ho1⟩
      clear ho1 r0 r1 k0 k1 k2 k3 k4 k5 lR lBz
      obtain ⟨⟨r0, r1⟩, ⟨k0, k1, k2, k3, k4, k5⟩, lR, lBz⟩ := HS.out w1 H1.out.2
      go_wp2_with fail
      refine Calls.mono (HE2.out _ H1.out.1) ?_
      rintro r w2 ⟨rfl, ho2⟩
      have H2 : Hid (Only (fun _ => False) w w2 ∧ Only (fun _ => False) w0 w2) := ⟨H1.out.1.trans ho2, H1.out.2.trans ho2⟩
      clear ho2 r0 r1 k0 k1 k2 k3 k4 k5 lR lBz
      go_upto_region 5 with fail
      go_cut [16] from 36 to 50 (fun v16 wr => ∃ (B7 : Nat) (X : World), X = wr ∧ v16 = .pointer (some ⟨B7, 0, none⟩) ∧ Blk w2 X B7 86 #[.int .i64 (ce : Int), .int .i64 (ga : Int), .int .u8 (f : Int), .int .u8 (e : Int), .bool la] ∧ Only (fun _ => False) w2 X)
      case first =>
        have HSS : Hid (∀ W', Only (fun _ => False) w2 W' → (fun W' => W'.cell? ⟨R, 0, none⟩ = some (.slice aC n cC) ∧ W'.cell? ⟨R, 1, none⟩ = some (.slice aO m cO) ∧ W'.cell? ⟨B, 1, none⟩ = some (.int .i64 (t : Int))) W') := fun W' ho => ⟨(HS.out _ (H2.out.2.trans ho)).1.1, (HS.out _ (H2.out.2.trans ho)).1.2, (HS.out _ (H2.out.2.trans ho)).2.1.2.1⟩
        have HXD : Hid (Only (fun _ => False) w2 w2.drew) := (Only.refl _ _).drew
        refine wp_region_held_drew (S := (fun W' => W'.cell? ⟨R, 0, none⟩ = some (.slice aC n cC) ∧ W'.cell? ⟨R, 1, none⟩ = some (.slice aO m cO) ∧ W'.cell? ⟨B, 1, none⟩ = some (.int .i64 (t : Int)))) (by kernel_rfl) (HSS.out _ HXD.out) (fun hHeld => ?_)
        refine wpAnyH_take (i := 0) (oi := { dst := some 36, op := _, type := _, pos := _, after := _, guard := _ }) (v := .agg #[.slice aC n cC, .slice aO m cO]) rfl (by kernel_rfl) (by kernel_rfl) (by kernel_rfl) (fun _ _ _ h => h) (Or.inl ⟨by rfl, fun w hSw => by obtain ⟨y0, y1, y2⟩ := hSw; first | (go_simp; done) | go_simp⟩) (by assumption) ?_
        (try simp only [Act.put, List.setIfInBounds_toArray, List.set_cons_zero, List.set_cons_succ])
        refine wpAnyH_take (i := 1) (oi := { dst := some 37, op := _, type := _, pos := _, after := _, guard := _ }) (v := .int .i64 (a : Int)) rfl (by kernel_rfl) (by kernel_rfl) (by kernel_rfl) (fun _ _ _ h => h) (Or.inl ⟨by rfl, fun w hSw => by obtain ⟨y0, y1, y2⟩ := hSw; first | (go_simp; done) | go_simp⟩) (by assumption) ?_
        (try simp only [Act.put, List.setIfInBounds_toArray, List.set_cons_zero, List.set_cons_succ])
        refine wpAnyH_take (i := 2) (oi := { dst := some 38, op := _, type := _, pos := _, after := _, guard := _ }) (v := .int .i64 (b : Int)) rfl (by kernel_rfl) (by kernel_rfl) (by kernel_rfl) (fun _ _ _ h => h) (Or.inl ⟨by rfl, fun w hSw => by obtain ⟨y0, y1, y2⟩ := hSw; first | (go_simp; done) | go_simp⟩) (by assumption) ?_
        (try simp only [Act.put, List.setIfInBounds_toArray, List.set_cons_zero, List.set_cons_succ])
        refine wpAnyH_take (i := 3) (oi := { dst := some 39, op := _, type := _, pos := _, after := _, guard := _ }) (v := .int .u8 (e : Int)) rfl (by kernel_rfl) (by kernel_rfl) (by kernel_rfl) (fun _ _ _ h => h) (Or.inl ⟨by rfl, fun w hSw => by obtain ⟨y0, y1, y2⟩ := hSw; first | (go_simp; done) | go_simp⟩) (by assumption) ?_
        (try simp only [Act.put, List.setIfInBounds_toArray, List.set_cons_zero, List.set_cons_succ])
        refine wpAnyH_take (i := 4) (oi := { dst := some 40, op := _, type := _, pos := _, after := _, guard := _ }) (v := .pointer (some ⟨B, 1, none⟩)) rfl (by kernel_rfl) (by kernel_rfl) (by kernel_rfl) (fun _ _ _ h => h) (Or.inl ⟨by rfl, fun w hSw => by obtain ⟨y0, y1, y2⟩ := hSw; first | (go_simp; done) | go_simp⟩) (by assumption) ?_
        (try simp only [Act.put, List.setIfInBounds_toArray, List.set_cons_zero, List.set_cons_succ])
        refine wpAnyH_take (i := 5) (oi := { dst := some 41, op := _, type := _, pos := _, after := _, guard := _ }) (v := .int .i64 (t : Int)) rfl (by kernel_rfl) (by kernel_rfl) (by kernel_rfl) (fun _ _ _ h => h) (Or.inl ⟨by rfl, fun w hSw => by obtain ⟨y0, y1, y2⟩ := hSw; first | (go_simp; done) | go_simp⟩) (by assumption) ?_
        (try simp only [Act.put, List.setIfInBounds_toArray, List.set_cons_zero, List.set_cons_succ])
        refine wpAnyH_take (i := 7) (oi := { dst := some 43, op := _, type := _, pos := _, after := _, guard := _ }) (v := .agg #[.slice aC n cC, .slice aO m cO]) rfl (by kernel_rfl) (by kernel_rfl) (by kernel_rfl) (fun _ _ _ h => h) (Or.inl ⟨by rfl, fun w hSw => by obtain ⟨y0, y1, y2⟩ := hSw; first | (go_simp; done) | go_simp⟩) (by assumption) ?_
        (try simp only [Act.put, List.setIfInBounds_toArray, List.set_cons_zero, List.set_cons_succ])
        refine wpAnyH_take (i := 8) (oi := { dst := some 44, op := _, type := _, pos := _, after := _, guard := _ }) (v := .int .i64 (a : Int)) rfl (by kernel_rfl) (by kernel_rfl) (by kernel_rfl) (fun _ _ _ h => h) (Or.inl ⟨by rfl, fun w hSw => by obtain ⟨y0, y1, y2⟩ := hSw; first | (go_simp; done) | go_simp⟩) (by assumption) ?_
        (try simp only [Act.put, List.setIfInBounds_toArray, List.set_cons_zero, List.set_cons_succ])
        refine wpAnyH_take (i := 9) (oi := { dst := some 45, op := _, type := _, pos := _, after := _, guard := _ }) (v := .int .i64 (b : Int)) rfl (by kernel_rfl) (by kernel_rfl) (by kernel_rfl) (fun _ _ _ h => h) (Or.inl ⟨by rfl, fun w hSw => by obtain ⟨y0, y1, y2⟩ := hSw; first | (go_simp; done) | go_simp⟩) (by assumption) ?_
        (try simp only [Act.put, List.setIfInBounds_toArray, List.set_cons_zero, List.set_cons_succ])
        refine wpAnyH_take (i := 11) (oi := { dst := some 47, op := _, type := _, pos := _, after := _, guard := _ }) (v := .int .u8 (f : Int)) rfl (by kernel_rfl) (by kernel_rfl) (by kernel_rfl) (fun _ _ _ h => h) (Or.inl ⟨by rfl, fun w hSw => by obtain ⟨y0, y1, y2⟩ := hSw; first | (go_simp; done) | go_simp⟩) (by assumption) ?_
        (try simp only [Act.put, List.setIfInBounds_toArray, List.set_cons_zero, List.set_cons_succ])
        refine wpAnyH_take (i := 12) (oi := { dst := some 48, op := _, type := _, pos := _, after := _, guard := _ }) (v := .int .u8 (e : Int)) rfl (by kernel_rfl) (by kernel_rfl) (by kernel_rfl) (fun _ _ _ h => h) (Or.inl ⟨by rfl, fun w hSw => by obtain ⟨y0, y1, y2⟩ := hSw; first | (go_simp; done) | go_simp⟩) (by assumption) ?_
        (try simp only [Act.put, List.setIfInBounds_toArray, List.set_cons_zero, List.set_cons_succ])
        refine wpAnyH_take (i := 13) (oi := { dst := some 49, op := _, type := _, pos := _, after := _, guard := _ }) (v := .bool la) rfl (by kernel_rfl) (by kernel_rfl) (by kernel_rfl) (fun _ _ _ h => h) (Or.inl ⟨by rfl, fun w hSw => by obtain ⟨y0, y1, y2⟩ := hSw; first | (go_simp; done) | go_simp⟩) (by assumption) ?_
        (try simp only [Act.put, List.setIfInBounds_toArray, List.set_cons_zero, List.set_cons_succ])
        refine wpAnyH_ready (rs := [6, 15]) (by kernel_rfl) (by simp) ?_
        refine AllReadyH.cons rfl (fun K hK => ?_) (AllReadyH.cons rfl (fun K hK => ?_) AllReadyH.nil)
        · rw [if_pos (by rfl)]
          go_simp
          refine Calls.mono (HC1.out _ (H2.out.1.trans HXD.out)) ?_
          rintro e y1 ⟨rfl, ho⟩
          have HXy1 : Hid (Only (fun _ => False) w2 y1) := HXD.out.trans ho
          clear ho
          refine hK.out _ _ (HSS.out _ HXy1.out) (fun hHeld => ?_)
          clear hK
          (try simp only [Act.put, List.setIfInBounds_toArray, List.set_cons_zero, List.set_cons_succ])
          refine wpAnyH_ready (rs := [10, 15]) (by kernel_rfl) (by simp) ?_
          refine AllReadyH.cons rfl (fun K hK => ?_) (AllReadyH.cons rfl (fun K hK => ?_) AllReadyH.nil)
          · rw [if_pos (by rfl)]
            go_simp
            refine Calls.mono (HG1.out _ (H2.out.1.trans HXy1.out)) ?_
            rintro e y2 ⟨rfl, ho⟩
            have HXy2 : Hid (Only (fun _ => False) w2 y2) := HXy1.out.trans ho
            clear ho
            refine hK.out _ _ (HSS.out _ HXy2.out) (fun hHeld => ?_)
            clear hK
            (try simp only [Act.put, List.setIfInBounds_toArray, List.set_cons_zero, List.set_cons_succ])
            refine wpAnyH_take (i := 14) (oi := { dst := some 50, op := _, type := _, pos := _, after := _, guard := _ }) (v := .agg #[.int .i64 (ce : Int), .int .i64 (ga : Int), .int .u8 (f : Int), .int .u8 (e : Int), .bool la]) rfl (by kernel_rfl) (by kernel_rfl) (by kernel_rfl) (fun _ _ _ h => h) (Or.inl ⟨by rfl, fun w hSw => by obtain ⟨y0, y1, y2⟩ := hSw; first | (go_simp; done) | go_simp⟩) (by assumption) ?_
            (try simp only [Act.put, List.setIfInBounds_toArray, List.set_cons_zero, List.set_cons_succ])
            refine wpAnyH_ready (rs := [15]) (by kernel_rfl) (by simp) ?_
            refine AllReadyH.cons rfl (fun K hK => ?_) AllReadyH.nil
            rw [if_pos (by rfl)]
            go_simp
            obtain ⟨y3, hy3⟩ : ∃ Y, Y = y2.alloc (.cells #[.int .i64 0, .int .i64 0, .int .u8 0, .int .u8 0, .bool false] 86) := ⟨_, rfl⟩
            obtain ⟨B7, hB7⟩ : ∃ b, b = y2.heap.size := ⟨_, rfl⟩
            have ho : Only (fun _ => False) y2 y3 := by rw [hy3]; exact (Only.refl _ _).alloc _
            have HXy3 : Hid (Only (fun _ => False) w2 y3) := HXy2.out.trans ho
            have HB7y3 : Hid (Blk w2 y3 B7 86 #[.int .i64 0, .int .i64 0, .int .u8 0, .int .u8 0, .bool false]) := by rw [hy3, hB7]; exact Blk.made HXy2.out _ _
            rw [← hy3, ← hB7]
            clear hy3 hB7 ho
            refine hK.out _ _ (HSS.out _ HXy3.out) (fun hHeld => ?_)
            clear hK
            (try simp only [Act.put, List.setIfInBounds_toArray, List.set_cons_zero, List.set_cons_succ])
            refine wpAnyH_ready (rs := [16]) (by kernel_rfl) (by simp) ?_
            refine AllReadyH.cons rfl (fun K hK => ?_) AllReadyH.nil
            rw [if_pos (by rfl)]
            have HXa : Hid (Only (fun _ => False) w2 (y3.setRow B7 #[.int .i64 (ce : Int), .int .i64 (ga : Int), .int .u8 (f : Int), .int .u8 (e : Int), .bool la])) := HXy3.out.setRowNew HB7y3.out.2 _
            refine wp_store_row 86 _ _ rfl B7 #[.int .i64 (ce : Int), .int .i64 (ga : Int), .int .u8 (f : Int), .int .u8 (e : Int), .bool la] rfl rfl 86 _ HB7y3.out.1 (by kernel_rfl) rfl (five_one _ _ _ _ _) ?_
            have HMa : Hid (Blk w2 (y3.setRow B7 #[.int .i64 (ce : Int), .int .i64 (ga : Int), .int .u8 (f : Int), .int .u8 (e : Int), .bool la]) B7 86 #[.int .i64 (ce : Int), .int .i64 (ga : Int), .int .u8 (f : Int), .int .u8 (e : Int), .bool la]) := HB7y3.out.put _
            obtain ⟨za, hza⟩ : ∃ Y, Y = y3.setRow B7 #[.int .i64 (ce : Int), .int .i64 (ga : Int), .int .u8 (f : Int), .int .u8 (e : Int), .bool la] := ⟨_, rfl⟩
            rw [← hza] at HXa HMa ⊢
            clear hza
            refine hK.out _ _ (HSS.out _ HXa.out) (fun hHeld => ?_)
            clear hK
            (try simp only [Act.put, List.setIfInBounds_toArray, List.set_cons_zero, List.set_cons_succ])
            refine wpAnyH_done (by kernel_rfl) ?_ _
            clear hHeld
            go_wp2_with fail
            go_meet
            exact ⟨B7, _, rfl, rfl, HMa.out, HXa.out⟩
          · rw [if_pos (by rfl)]
            go_simp
            obtain ⟨y2, hy2⟩ : ∃ Y, Y = y1.alloc (.cells #[.int .i64 0, .int .i64 0, .int .u8 0, .int .u8 0, .bool false] 86) := ⟨_, rfl⟩
            obtain ⟨B7, hB7⟩ : ∃ b, b = y1.heap.size := ⟨_, rfl⟩
            have ho : Only (fun _ => False) y1 y2 := by rw [hy2]; exact (Only.refl _ _).alloc _
            have HXy2 : Hid (Only (fun _ => False) w2 y2) := HXy1.out.trans ho
            have HB7y2 : Hid (Blk w2 y2 B7 86 #[.int .i64 0, .int .i64 0, .int .u8 0, .int .u8 0, .bool false]) := by rw [hy2, hB7]; exact Blk.made HXy1.out _ _
            rw [← hy2, ← hB7]
            clear hy2 hB7 ho
            refine hK.out _ _ (HSS.out _ HXy2.out) (fun hHeld => ?_)
            clear hK
            (try simp only [Act.put, List.setIfInBounds_toArray, List.set_cons_zero, List.set_cons_succ])
            refine wpAnyH_ready (rs := [10]) (by kernel_rfl) (by simp) ?_
            refine AllReadyH.cons rfl (fun K hK => ?_) AllReadyH.nil
            rw [if_pos (by rfl)]
            go_simp
            refine Calls.mono (HG1.out _ (H2.out.1.trans HXy2.out)) ?_
            rintro e y3 ⟨rfl, ho⟩
            have HXy3 : Hid (Only (fun _ => False) w2 y3) := HXy2.out.trans ho
            have HB7y3 : Hid (Blk w2 y3 B7 86 #[.int .i64 0, .int .i64 0, .int .u8 0, .int .u8 0, .bool false]) := HB7y2.out.keep ho
            clear ho
            refine hK.out _ _ (HSS.out _ HXy3.out) (fun hHeld => ?_)
            clear hK
            (try simp only [Act.put, List.setIfInBounds_toArray, List.set_cons_zero, List.set_cons_succ])
            refine wpAnyH_take (i := 14) (oi := { dst := some 50, op := _, type := _, pos := _, after := _, guard := _ }) (v := .agg #[.int .i64 (ce : Int), .int .i64 (ga : Int), .int .u8 (f : Int), .int .u8 (e : Int), .bool la]) rfl (by kernel_rfl) (by kernel_rfl) (by kernel_rfl) (fun _ _ _ h => h) (Or.inl ⟨by rfl, fun w hSw => by obtain ⟨y0, y1, y2⟩ := hSw; first | (go_simp; done) | go_simp⟩) (by assumption) ?_
            (try simp only [Act.put, List.setIfInBounds_toArray, List.set_cons_zero, List.set_cons_succ])
            refine wpAnyH_ready (rs := [16]) (by kernel_rfl) (by simp) ?_
            refine AllReadyH.cons rfl (fun K hK => ?_) AllReadyH.nil
            rw [if_pos (by rfl)]
            have HXa : Hid (Only (fun _ => False) w2 (y3.setRow B7 #[.int .i64 (ce : Int), .int .i64 (ga : Int), .int .u8 (f : Int), .int .u8 (e : Int), .bool la])) := HXy3.out.setRowNew HB7y3.out.2 _
            refine wp_store_row 86 _ _ rfl B7 #[.int .i64 (ce : Int), .int .i64 (ga : Int), .int .u8 (f : Int), .int .u8 (e : Int), .bool la] rfl rfl 86 _ HB7y3.out.1 (by kernel_rfl) rfl (five_one _ _ _ _ _) ?_
            have HMa : Hid (Blk w2 (y3.setRow B7 #[.int .i64 (ce : Int), .int .i64 (ga : Int), .int .u8 (f : Int), .int .u8 (e : Int), .bool la]) B7 86 #[.int .i64 (ce : Int), .int .i64 (ga : Int), .int .u8 (f : Int), .int .u8 (e : Int), .bool la]) := HB7y3.out.put _
            obtain ⟨za, hza⟩ : ∃ Y, Y = y3.setRow B7 #[.int .i64 (ce : Int), .int .i64 (ga : Int), .int .u8 (f : Int), .int .u8 (e : Int), .bool la] := ⟨_, rfl⟩
            rw [← hza] at HXa HMa ⊢
            clear hza
            refine hK.out _ _ (HSS.out _ HXa.out) (fun hHeld => ?_)
            clear hK
            (try simp only [Act.put, List.setIfInBounds_toArray, List.set_cons_zero, List.set_cons_succ])
            refine wpAnyH_done (by kernel_rfl) ?_ _
            clear hHeld
            go_wp2_with fail
            go_meet
            exact ⟨B7, _, rfl, rfl, HMa.out, HXa.out⟩
        · rw [if_pos (by rfl)]
          go_simp
          obtain ⟨y1, hy1⟩ : ∃ Y, Y = (w2.alloc (.cells #[.int .i64 0, .int .i64 0, .int .u8 0, .int .u8 0, .bool false] 86)).drew := ⟨_, rfl⟩
          obtain ⟨B7, hB7⟩ : ∃ b, b = w2.heap.size := ⟨_, rfl⟩
          have ho : Only (fun _ => False) w2 y1 := by rw [hy1]; exact ((Only.refl _ _).alloc _).drew
          have HXy1 : Hid (Only (fun _ => False) w2 y1) := ho
          have HB7y1 : Hid (Blk w2 y1 B7 86 #[.int .i64 0, .int .i64 0, .int .u8 0, .int .u8 0, .bool false]) := by rw [hy1, hB7]; exact (Blk.made (Only.refl _ _) _ _).drew
          rw [← hy1, ← hB7]
          clear hy1 hB7 ho
          refine hK.out _ _ (HSS.out _ HXy1.out) (fun hHeld => ?_)
          clear hK
          (try simp only [Act.put, List.setIfInBounds_toArray, List.set_cons_zero, List.set_cons_succ])
          refine wpAnyH_ready (rs := [6]) (by kernel_rfl) (by simp) ?_
          refine AllReadyH.cons rfl (fun K hK => ?_) AllReadyH.nil
          rw [if_pos (by rfl)]
          go_simp
          refine Calls.mono (HC1.out _ (H2.out.1.trans HXy1.out)) ?_
          rintro e y2 ⟨rfl, ho⟩
          have HXy2 : Hid (Only (fun _ => False) w2 y2) := HXy1.out.trans ho
          have HB7y2 : Hid (Blk w2 y2 B7 86 #[.int .i64 0, .int .i64 0, .int .u8 0, .int .u8 0, .bool false]) := HB7y1.out.keep ho
          clear ho
          refine hK.out _ _ (HSS.out _ HXy2.out) (fun hHeld => ?_)
          clear hK
          (try simp only [Act.put, List.setIfInBounds_toArray, List.set_cons_zero, List.set_cons_succ])
          refine wpAnyH_ready (rs := [10]) (by kernel_rfl) (by simp) ?_
          refine AllReadyH.cons rfl (fun K hK => ?_) AllReadyH.nil
          rw [if_pos (by rfl)]
          go_simp
          refine Calls.mono (HG1.out _ (H2.out.1.trans HXy2.out)) ?_
          rintro e y3 ⟨rfl, ho⟩
          have HXy3 : Hid (Only (fun _ => False) w2 y3) := HXy2.out.trans ho
          have HB7y3 : Hid (Blk w2 y3 B7 86 #[.int .i64 0, .int .i64 0, .int .u8 0, .int .u8 0, .bool false]) := HB7y2.out.keep ho
          clear ho
          refine hK.out _ _ (HSS.out _ HXy3.out) (fun hHeld => ?_)
          clear hK
          (try simp only [Act.put, List.setIfInBounds_toArray, List.set_cons_zero, List.set_cons_succ])
          refine wpAnyH_take (i := 14) (oi := { dst := some 50, op := _, type := _, pos := _, after := _, guard := _ }) (v := .agg #[.int .i64 (ce : Int), .int .i64 (ga : Int), .int .u8 (f : Int), .int .u8 (e : Int), .bool la]) rfl (by kernel_rfl) (by kernel_rfl) (by kernel_rfl) (fun _ _ _ h => h) (Or.inl ⟨by rfl, fun w hSw => by obtain ⟨y0, y1, y2⟩ := hSw; first | (go_simp; done) | go_simp⟩) (by assumption) ?_
          (try simp only [Act.put, List.setIfInBounds_toArray, List.set_cons_zero, List.set_cons_succ])
          refine wpAnyH_ready (rs := [16]) (by kernel_rfl) (by simp) ?_
          refine AllReadyH.cons rfl (fun K hK => ?_) AllReadyH.nil
          rw [if_pos (by rfl)]
          have HXa : Hid (Only (fun _ => False) w2 (y3.setRow B7 #[.int .i64 (ce : Int), .int .i64 (ga : Int), .int .u8 (f : Int), .int .u8 (e : Int), .bool la])) := HXy3.out.setRowNew HB7y3.out.2 _
          refine wp_store_row 86 _ _ rfl B7 #[.int .i64 (ce : Int), .int .i64 (ga : Int), .int .u8 (f : Int), .int .u8 (e : Int), .bool la] rfl rfl 86 _ HB7y3.out.1 (by kernel_rfl) rfl (five_one _ _ _ _ _) ?_
          have HMa : Hid (Blk w2 (y3.setRow B7 #[.int .i64 (ce : Int), .int .i64 (ga : Int), .int .u8 (f : Int), .int .u8 (e : Int), .bool la]) B7 86 #[.int .i64 (ce : Int), .int .i64 (ga : Int), .int .u8 (f : Int), .int .u8 (e : Int), .bool la]) := HB7y3.out.put _
          obtain ⟨za, hza⟩ : ∃ Y, Y = y3.setRow B7 #[.int .i64 (ce : Int), .int .i64 (ga : Int), .int .u8 (f : Int), .int .u8 (e : Int), .bool la] := ⟨_, rfl⟩
          rw [← hza] at HXa HMa ⊢
          clear hza
          refine hK.out _ _ (HSS.out _ HXa.out) (fun hHeld => ?_)
          clear hK
          (try simp only [Act.put, List.setIfInBounds_toArray, List.set_cons_zero, List.set_cons_succ])
          refine wpAnyH_done (by kernel_rfl) ?_ _
          clear hHeld
          go_wp2_with fail
          go_meet
          exact ⟨B7, _, rfl, rfl, HMa.out, HXa.out⟩
      case rest =>
        obtain ⟨B7, X, hX, rfl, hbl, hoX⟩ := hcut
        subst hX
        have H3 : Hid (Only (fun _ => False) w X) := H2.out.1.trans hoX
        obtain ⟨⟨r0, r1⟩, ⟨k0, k1, k2, k3, k4, k5⟩, lR, lBz⟩ := HS.out X (H2.out.2.trans hoX)
        obtain ⟨s0, s1, s2, s3, s4⟩ := blk_five hbl.1
        have lB7 : B7 < X.heap.size := (Array.getElem?_eq_some_iff.1 hbl.1).1
        clear hbl hoX
        go_wp2_with fail
        refine Calls.mono (HSH.out _) ?_
        rintro r w3 ⟨rfl, ho3⟩
        have H4 : Hid (Only (fun _ => False) w w3) := H3.out.trans ho3
        clear ho3
        go_wp2_with fail
        go_ret2
        exact ⟨rfl, H4.out⟩
  · have v1 : (b : Int) ≤ (a : Int) := by omega
    have v1n : b ≤ a := by omega
    have HX : Hid (rs = .tuple #[.int .i64 0, .bool false]) := by rw [hrs, Sp.cos_none (Or.inl hab)]; exact rfl
    obtain ⟨q1, hq1⟩ : ∃ q, q = decide (e ≠ 0) := ⟨_, rfl⟩
    rw [← hq1] at HE1
    clear hq1 hrs hab
    go_enter Try.func33, Try.ntmps33
    go_upto_region 1 with fail
    obtain ⟨R, B, w0, hw0, hB, hR, H0, lRB, lB, lB0⟩ := box26 w (.slice aC n cC) (.slice aO m cO) (.int .i64 (wi : Int)) (.int .i64 (t : Int)) (.int .u8 (mo : Int)) (.int .i64 (hy : Int)) (.int .i64 (pr : Int)) (.float .f64 lo) 31 35
    rw [hw0, hB, hR]
    clear hw0 hB hR
    have HS : Hid (∀ W', Only (fun _ => False) w0 W' → (W'.cell? ⟨R, 0, none⟩ = some (.slice aC n cC) ∧ W'.cell? ⟨R, 1, none⟩ = some (.slice aO m cO)) ∧ (W'.cell? ⟨B, 0, none⟩ = some (.int .i64 (wi : Int)) ∧ W'.cell? ⟨B, 1, none⟩ = some (.int .i64 (t : Int)) ∧ W'.cell? ⟨B, 2, none⟩ = some (.int .u8 (mo : Int)) ∧ W'.cell? ⟨B, 3, none⟩ = some (.int .i64 (hy : Int)) ∧ W'.cell? ⟨B, 4, none⟩ = some (.int .i64 (pr : Int)) ∧ W'.cell? ⟨B, 5, none⟩ = some (.float .f64 lo)) ∧ R < W'.heap.size ∧ B < W'.heap.size) := fun W' ho => ⟨⟨(blk_two (blk_keep ho H0.out.1)).1, (blk_two (blk_keep ho H0.out.1)).2.1⟩, blk_six (blk_keep ho H0.out.2.1), (blk_two (blk_keep ho H0.out.1)).2.2, (Array.getElem?_eq_some_iff.1 (blk_keep ho H0.out.2.1)).1⟩
    obtain ⟨⟨r0, r1⟩, ⟨k0, k1, k2, k3, k4, k5⟩, lR, lBz⟩ := HS.out w0 (Only.refl _ _)
    go_wp2_with fail
    refine Calls.mono (HE1.out _ H0.out.2.2) ?_
    rintro r w1 ⟨rfl, ho1⟩
    have H1 : Hid (Only (fun _ => False) w w1 ∧ Only (fun _ => False) w0 w1) := ⟨H0.out.2.2.trans ho1, ho1⟩
    clear ho1 r0 r1 k0 k1 k2 k3 k4 k5 lR lBz
    obtain ⟨⟨r0, r1⟩, ⟨k0, k1, k2, k3, k4, k5⟩, lR, lBz⟩ := HS.out w1 H1.out.2
    go_wp2_with fail
    go_ret2
    exact ⟨by rw [HX.out]; rfl, H1.out.1⟩
end Go.Proofs.Ytdepjmneoplicaa
