/-
  What a line costs, in plain words; the document's Cost.
-/
import Derived.Test.YtdepjmneoplicaaBr
import Derived.Test.YtdepjmneoplicaaFf
namespace Go.Proofs.Ytdepjmneoplicaa
open Go.RowKit Go.Maps
set_option linter.unusedVariables false
set_option linter.unusedSimpArgs false
namespace Fl
/-- is it looser than may be? -/
def loose (lo v : Nat) : Bool := !(nn v) && (FloatKind.f64.format.order v lo == some .gt)
def badN (v : Nat) : Nat := if nn v then 0 else bad (rung v)
theorem badN_le (v : Nat) : badN v ≤ 10000 := by
  unfold badN
  split
  · exact Nat.zero_le _
  · exact bad_le _
theorem sm_loose {r v lo : Nat} (h : Sm r v) (hr : r < 18446744073709551616) : (FloatKind.f64.format.order r lo == some .gt) = loose lo v := by
  have hn : nn r = true → (FloatKind.f64.format.order r lo == some .gt) = false := fun h => by
    rw [fmt, order_nan1 hr (nn_t h)]
    rfl
  unfold loose
  rcases h with ⟨h1, h2⟩ | rfl
  · rw [hn h1, h2]; rfl
  · cases g : nn r with
    | true => rw [hn g]; rfl
    | false => rfl
theorem sm_bad {r v : Nat} (h : Sm r v) : bd r = (badN v : Int) := by
  unfold bd badN
  rcases h with ⟨h1, h2⟩ | rfl
  · rw [h1, h2]; rfl
  · cases g : nn r with
    | true => rfl
    | false => rfl
end Fl
namespace Sp
/-- how loose a line is. -/
def rat (C : List Ct) (O : List Nat) (t W a b : Nat) : Nat := Fl.ofN ((W : Int) - (wde C t a b (O.getD b 0) : Int)) (gp C a (b - a) : Int)
/-- what hyphens cost. -/
def ext (O : List Nat) (hy pr a b : Nat) : Nat := if O.getD b 0 = 3 then hy + (if O.getD a 0 = 3 then pr else 0) else 0
/-- may a line be, but for how loose it is? -/
def can (C : List Ct) (O : List Nat) (t W a b : Nat) : Bool := decide (a < b) && (O.getD b 0 != 0 && decide (wde C t a b (O.getD b 0) ≤ W))
/-- what a line costs; none: it may not be. -/
def cos (C : List Ct) (O : List Nat) (t W hy pr lo : Nat) (last : Bool) (a b : Nat) : Option Nat :=
  if can C O t W a b then
    if last then some (100 + ext O hy pr a b)
    else if Fl.loose lo (rat C O t W a b) then none
    else some (100 + 20 * Fl.badN (rat C O t W a b) + Fl.badN (rat C O t W a b) * Fl.badN (rat C O t W a b) + ext O hy pr a b)
  else none
theorem can_no {C : List Ct} {O : List Nat} {t W a b : Nat} (h : ¬ a < b ∨ O.getD b 0 = 0 ∨ ¬ wde C t a b (O.getD b 0) ≤ W) : can C O t W a b = false := by
  unfold can
  rcases h with h | h | h
  · rw [decide_eq_false h]; rfl
  · rw [h]; simp
  · rw [decide_eq_false h]; simp
theorem can_yes {C : List Ct} {O : List Nat} {t W a b : Nat} (h1 : a < b) (h2 : O.getD b 0 ≠ 0) (h3 : wde C t a b (O.getD b 0) ≤ W) : can C O t W a b = true := by
  unfold can
  rw [decide_eq_true h1, decide_eq_true h3]
  simp
  exact h2
theorem cos_no {C : List Ct} {O : List Nat} {t W hy pr lo a b : Nat} {last : Bool} (h : can C O t W a b = false) : cos C O t W hy pr lo last a b = none := by
  unfold cos; rw [if_neg (by rw [h]; decide)]
theorem cos_last {C : List Ct} {O : List Nat} {t W hy pr lo a b : Nat} (h : can C O t W a b = true) : cos C O t W hy pr lo true a b = some (100 + ext O hy pr a b) := by
  unfold cos; rw [if_pos h, if_pos rfl]
theorem cos_loose {C : List Ct} {O : List Nat} {t W hy pr lo a b : Nat} (h : can C O t W a b = true) (hl : Fl.loose lo (rat C O t W a b) = true) : cos C O t W hy pr lo false a b = none := by
  unfold cos; rw [if_pos h, if_neg (by decide), if_pos hl]
theorem cos_fit {C : List Ct} {O : List Nat} {t W hy pr lo a b : Nat} (h : can C O t W a b = true) (hl : Fl.loose lo (rat C O t W a b) = false) : cos C O t W hy pr lo false a b = some (100 + 20 * Fl.badN (rat C O t W a b) + Fl.badN (rat C O t W a b) * Fl.badN (rat C O t W a b) + ext O hy pr a b) := by
  unfold cos; rw [if_pos h, if_neg (by decide), if_neg (by rw [hl]; decide)]
/-- what is told of a line's cost. -/
def cosV (x : Option Nat) : Value := .tuple #[.int .i64 ((x.getD 0 : Nat) : Int), .bool x.isSome]
end Sp
theorem gp_le (C : List Ct) (a k : Nat) : Sp.gp C a k ≤ k := by
  unfold Sp.gp
  have h1 := sps_le C a (Sp.tr C a k - a)
  have h2 := (Sp.tr_ge C a k).2
  omega
theorem dr_only {w w' : World} (h : Fl.Dr w w') : Only (fun _ => False) w w' := by
  obtain ⟨n, rfl⟩ := h
  exact (Only.refl _ _).drewN n
theorem getD_some' {O : List Nat} {k : Nat} (h : k < O.length) : ∃ e, O[k]? = some e ∧ O.getD k 0 = e := ⟨_, List.getElem?_eq_getElem h, by rw [List.getD_eq_getElem?_getD, List.getElem?_eq_getElem h]; rfl⟩
set_option maxRecDepth 100000 in
set_option maxHeartbeats 8000000 in
theorem refCost_any (C : List Ct) (O : List Nat) (n m : Nat) (aC aO : Option Addr) (cC cO a b wi t mo hy pr lo : Nat) (la : Bool) (w : World) (hP : Pv w C O n m aC aO cC cO) (hm : n < m) (ha : a ≤ n) (hb : b ≤ n) (hw : wi ≤ 1048576) (h0 : 0 < t) (ht : t ≤ 1000) (hhy : hy ≤ 2097152) (hpr : pr ≤ 1048576) :
    Calls Try.prog 25 #[.agg #[.slice aC n cC, .slice aO m cO], .int .i64 (a : Int), .int .i64 (b : Int), .bool la, .agg #[.int .i64 (wi : Int), .int .i64 (t : Int), .int .u8 (mo : Int), .int .i64 (hy : Int), .int .i64 (pr : Int), .float .f64 lo]] w fun e w' => e = .returned (Sp.cosV (Sp.cos C O t wi hy pr lo la a b)) ∧ Only (fun _ => False) w w' := by
  have h1 := hP.few
  have hfO := hP.fewO
  obtain ⟨bo, oo, rfl, hbo, hco⟩ := hP.vO.cells (by rw [u8s_len, ← hP.hm]; omega)
  obtain ⟨e, hOe, hDe⟩ := getD_some' (O := O) (k := b) (by rw [← hP.hm]; omega)
  obtain ⟨f, hOf, hDf⟩ := getD_some' (O := O) (k := a) (by rw [← hP.hm]; omega)
  have he8 : e < 256 := hP.oO e (List.mem_of_getElem? hOe)
  have hf8 : f < 256 := hP.oO f (List.mem_of_getElem? hOf)
  have HCO : Hid (∀ W', Only (fun _ => False) w W' → W'.cell? ⟨bo, oo + b, none⟩ = some (.int .u8 (e : Int)) ∧ W'.cell? ⟨bo, oo + a, none⟩ = some (.int .u8 (f : Int))) := fun W' ho => ⟨keep0 ho (hco b _ (u8s_at hOe)), keep0 ho (hco a _ (u8s_at hOf))⟩
  obtain ⟨rs, hrs⟩ : ∃ r, r = Sp.cosV (Sp.cos C O t wi hy pr lo la a b) := ⟨_, rfl⟩
  rw [← hrs]
  have HP : Hid (Pv w C O n m aC (some ⟨bo, oo, none⟩) cC cO) := hP
  have HRS : Hid (rs = Sp.cosV (Sp.cos C O t wi hy pr lo la a b) ∧ O.getD b 0 = e ∧ O.getD a 0 = f) := ⟨hrs, hDe, hDf⟩
  clear hP hbo hco hOe hOf hDe hDf hrs
  by_cases hab : a < b
  · have v1 : decide ((b : Int) ≤ (a : Int)) = false := decide_eq_false (by omega)
    have v2 : (b : Int) < (m : Int) := by omega
    have v3 : (a : Int) < (m : Int) := by omega
    have v2n : b < m := by omega
    have v3n : a < m := by omega
    by_cases he0 : e = 0
    · have v4 : ((e : Int) == 0) = true := by rw [beq_iff_eq]; omega
      have HX : Hid (rs = .tuple #[.int .i64 0, .bool false]) := by rw [HRS.out.1, Sp.cos_no (Sp.can_no (Or.inr (Or.inl (by rw [HRS.out.2.1]; exact he0))))]; exact rfl
      clear he0
      go_enter Try.func25, Try.ntmps25
      go_upto_region 1 with fail
      obtain ⟨R, B, w0, hw0, hB, hR, H0, lRB, lB, lB0⟩ := box26 w (.slice aC n cC) (.slice (some ⟨bo, oo, none⟩) m cO) (.int .i64 (wi : Int)) (.int .i64 (t : Int)) (.int .u8 (mo : Int)) (.int .i64 (hy : Int)) (.int .i64 (pr : Int)) (.float .f64 lo) 31 35
      rw [hw0, hB, hR]
      clear hw0 hB hR
      have HS : Hid (∀ W', Only (fun _ => False) w0 W' → ((W'.cell? ⟨R, 0, none⟩ = some (.slice aC n cC) ∧ W'.cell? ⟨R, 1, none⟩ = some (.slice (some ⟨bo, oo, none⟩) m cO)) ∧ W'.cell? ⟨B, 0, none⟩ = some (.int .i64 (wi : Int)) ∧ W'.cell? ⟨B, 1, none⟩ = some (.int .i64 (t : Int)) ∧ W'.cell? ⟨B, 2, none⟩ = some (.int .u8 (mo : Int)) ∧ W'.cell? ⟨B, 3, none⟩ = some (.int .i64 (hy : Int)) ∧ W'.cell? ⟨B, 4, none⟩ = some (.int .i64 (pr : Int)) ∧ W'.cell? ⟨B, 5, none⟩ = some (.float .f64 lo)) ∧ W'.cell? ⟨bo, oo + b, none⟩ = some (.int .u8 (e : Int)) ∧ W'.cell? ⟨bo, oo + a, none⟩ = some (.int .u8 (f : Int))) := fun W' ho => ⟨⟨⟨(blk_two (blk_keep ho H0.out.1)).1, (blk_two (blk_keep ho H0.out.1)).2.1⟩, blk_six (blk_keep ho H0.out.2.1)⟩, HCO.out W' (H0.out.2.2.trans ho)⟩
      have HL : Hid (∀ W', Only (fun _ => False) w0 W' → R < W'.heap.size ∧ B < W'.heap.size) := fun W' ho => ⟨(Array.getElem?_eq_some_iff.1 (blk_keep ho H0.out.1)).1, (Array.getElem?_eq_some_iff.1 (blk_keep ho H0.out.2.1)).1⟩
      obtain ⟨⟨⟨r0, r1⟩, k0, k1, k2, k3, k4, k5⟩, x0, x1⟩ := HS.out w0 (Only.refl _ _)
      obtain ⟨lR, lBz⟩ := HL.out w0 (Only.refl _ _)
      go_wp2_with fail
      go_ret2
      exact ⟨by rw [HX.out]; rfl, H0.out.2.2⟩
    · have v4 : ((e : Int) == 0) = false := by rw [beq_eq_false_iff_ne]; omega
      obtain ⟨nn, hnn⟩ : ∃ x, x = Sp.wde C t a b e := ⟨_, rfl⟩
      have hnn2 : nn ≤ 100200001 := by rw [hnn, wde_cel]; exact cel_small HP.out.ok h0 ht (by omega)
      have HNN : Hid (nn = Sp.wde C t a b (O.getD b 0)) := by rw [HRS.out.2.1]; exact hnn
      have HC1 : Hid (∀ W', Only (fun _ => False) w W' → Calls Try.prog 34 #[.agg #[.slice aC n cC, .slice (some ⟨bo, oo, none⟩) m cO], .int .i64 (a : Int), .int .i64 (b : Int), .int .u8 (e : Int), .int .i64 (t : Int)] W' fun r w' => r = .returned (.int .i64 (nn : Int)) ∧ Only (fun _ => False) W' w') := fun W' ho => by
        rw [hnn, wde_cel]
        exact refCells_any C O n m aC _ cC cO a b t e W' (HP.out.keep ho) (by omega) hb h0 ht he8
      clear hnn
      by_cases hnw : nn ≤ wi
      · have v5 : decide ((wi : Int) < (nn : Int)) = false := decide_eq_false (by omega)
        have HCAN : Hid (Sp.can C O t wi a b = true) := Sp.can_yes hab (by rw [HRS.out.2.1]; exact he0) (by rw [← HNN.out]; exact hnw)
        clear he0
        cases la with
        | true =>
          by_cases he3 : e = 3
          · have q1 : ((e : Int) == 3) = true := by rw [beq_iff_eq]; omega
            by_cases hf3 : f = 3
            · have q2 : ((f : Int) == 3) = true := by rw [beq_iff_eq]; omega
              have HX : Hid (rs = .tuple #[.int .i64 (100 + (hy : Int) + (pr : Int)), .bool true]) := by rw [HRS.out.1, Sp.cos_last HCAN.out]; unfold Sp.ext; rw [HRS.out.2.1, HRS.out.2.2, if_pos he3, if_pos hf3]; exact (by unfold Sp.cosV; simp only [Option.getD_some, Option.isSome_some] <;> (congr 4 <;> omega))
              clear he3 hf3
              go_enter Try.func25, Try.ntmps25
              go_upto_region 1 with fail
              obtain ⟨R, B, w0, hw0, hB, hR, H0, lRB, lB, lB0⟩ := box26 w (.slice aC n cC) (.slice (some ⟨bo, oo, none⟩) m cO) (.int .i64 (wi : Int)) (.int .i64 (t : Int)) (.int .u8 (mo : Int)) (.int .i64 (hy : Int)) (.int .i64 (pr : Int)) (.float .f64 lo) 31 35
              rw [hw0, hB, hR]
              clear hw0 hB hR
              have HS : Hid (∀ W', Only (fun _ => False) w0 W' → ((W'.cell? ⟨R, 0, none⟩ = some (.slice aC n cC) ∧ W'.cell? ⟨R, 1, none⟩ = some (.slice (some ⟨bo, oo, none⟩) m cO)) ∧ W'.cell? ⟨B, 0, none⟩ = some (.int .i64 (wi : Int)) ∧ W'.cell? ⟨B, 1, none⟩ = some (.int .i64 (t : Int)) ∧ W'.cell? ⟨B, 2, none⟩ = some (.int .u8 (mo : Int)) ∧ W'.cell? ⟨B, 3, none⟩ = some (.int .i64 (hy : Int)) ∧ W'.cell? ⟨B, 4, none⟩ = some (.int .i64 (pr : Int)) ∧ W'.cell? ⟨B, 5, none⟩ = some (.float .f64 lo)) ∧ W'.cell? ⟨bo, oo + b, none⟩ = some (.int .u8 (e : Int)) ∧ W'.cell? ⟨bo, oo + a, none⟩ = some (.int .u8 (f : Int))) := fun W' ho => ⟨⟨⟨(blk_two (blk_keep ho H0.out.1)).1, (blk_two (blk_keep ho H0.out.1)).2.1⟩, blk_six (blk_keep ho H0.out.2.1)⟩, HCO.out W' (H0.out.2.2.trans ho)⟩
              have HL : Hid (∀ W', Only (fun _ => False) w0 W' → R < W'.heap.size ∧ B < W'.heap.size) := fun W' ho => ⟨(Array.getElem?_eq_some_iff.1 (blk_keep ho H0.out.1)).1, (Array.getElem?_eq_some_iff.1 (blk_keep ho H0.out.2.1)).1⟩
              obtain ⟨⟨⟨r0, r1⟩, k0, k1, k2, k3, k4, k5⟩, x0, x1⟩ := HS.out w0 (Only.refl _ _)
              obtain ⟨lR, lBz⟩ := HL.out w0 (Only.refl _ _)
              go_wp2_with fail
              go_region_held3 (fun W' => ((W'.cell? ⟨R, 0, none⟩ = some (.slice aC n cC) ∧ W'.cell? ⟨R, 1, none⟩ = some (.slice (some ⟨bo, oo, none⟩) m cO)) ∧ W'.cell? ⟨B, 0, none⟩ = some (.int .i64 (wi : Int)) ∧ W'.cell? ⟨B, 1, none⟩ = some (.int .i64 (t : Int)) ∧ W'.cell? ⟨B, 2, none⟩ = some (.int .u8 (mo : Int)) ∧ W'.cell? ⟨B, 3, none⟩ = some (.int .i64 (hy : Int)) ∧ W'.cell? ⟨B, 4, none⟩ = some (.int .i64 (pr : Int)) ∧ W'.cell? ⟨B, 5, none⟩ = some (.float .f64 lo)) ∧ W'.cell? ⟨bo, oo + b, none⟩ = some (.int .u8 (e : Int)) ∧ W'.cell? ⟨bo, oo + a, none⟩ = some (.int .u8 (f : Int))) ((first | exact HS.out _ (Only.refl _ _).drew | exact HS.out _ H2.out.2)) ((go_at_call 34; refine Calls.mono (HC1.out _ H0.out.2.2.drew) ?_; rintro r w2 ⟨rfl, ho2⟩; have H2 : Hid (Only (fun _ => False) w w2 ∧ Only (fun _ => False) w0 w2) := ⟨H0.out.2.2.drew.trans ho2, (Only.refl _ _).drew.trans ho2⟩; clear ho2))
              clear r0 r1 k0 k1 k2 k3 k4 k5 x0 x1 lR lBz
              obtain ⟨⟨⟨s0, s1⟩, z0, z1, z2, z3, z4, z5⟩, y0, y1⟩ := HS.out w2 H2.out.2
              obtain ⟨ls, lz⟩ := HL.out w2 H2.out.2
              go_wp2_with fail
              go_ret2
              exact ⟨by rw [HX.out]; first | rfl | (congr 4; omega), H2.out.1⟩
            · have q2 : ((f : Int) == 3) = false := by rw [beq_eq_false_iff_ne]; omega
              have HX : Hid (rs = .tuple #[.int .i64 (100 + (hy : Int)), .bool true]) := by rw [HRS.out.1, Sp.cos_last HCAN.out]; unfold Sp.ext; rw [HRS.out.2.1, HRS.out.2.2, if_pos he3, if_neg hf3]; exact (by unfold Sp.cosV; simp only [Option.getD_some, Option.isSome_some] <;> (congr 4 <;> omega))
              clear he3 hf3
              go_enter Try.func25, Try.ntmps25
              go_upto_region 1 with fail
              obtain ⟨R, B, w0, hw0, hB, hR, H0, lRB, lB, lB0⟩ := box26 w (.slice aC n cC) (.slice (some ⟨bo, oo, none⟩) m cO) (.int .i64 (wi : Int)) (.int .i64 (t : Int)) (.int .u8 (mo : Int)) (.int .i64 (hy : Int)) (.int .i64 (pr : Int)) (.float .f64 lo) 31 35
              rw [hw0, hB, hR]
              clear hw0 hB hR
              have HS : Hid (∀ W', Only (fun _ => False) w0 W' → ((W'.cell? ⟨R, 0, none⟩ = some (.slice aC n cC) ∧ W'.cell? ⟨R, 1, none⟩ = some (.slice (some ⟨bo, oo, none⟩) m cO)) ∧ W'.cell? ⟨B, 0, none⟩ = some (.int .i64 (wi : Int)) ∧ W'.cell? ⟨B, 1, none⟩ = some (.int .i64 (t : Int)) ∧ W'.cell? ⟨B, 2, none⟩ = some (.int .u8 (mo : Int)) ∧ W'.cell? ⟨B, 3, none⟩ = some (.int .i64 (hy : Int)) ∧ W'.cell? ⟨B, 4, none⟩ = some (.int .i64 (pr : Int)) ∧ W'.cell? ⟨B, 5, none⟩ = some (.float .f64 lo)) ∧ W'.cell? ⟨bo, oo + b, none⟩ = some (.int .u8 (e : Int)) ∧ W'.cell? ⟨bo, oo + a, none⟩ = some (.int .u8 (f : Int))) := fun W' ho => ⟨⟨⟨(blk_two (blk_keep ho H0.out.1)).1, (blk_two (blk_keep ho H0.out.1)).2.1⟩, blk_six (blk_keep ho H0.out.2.1)⟩, HCO.out W' (H0.out.2.2.trans ho)⟩
              have HL : Hid (∀ W', Only (fun _ => False) w0 W' → R < W'.heap.size ∧ B < W'.heap.size) := fun W' ho => ⟨(Array.getElem?_eq_some_iff.1 (blk_keep ho H0.out.1)).1, (Array.getElem?_eq_some_iff.1 (blk_keep ho H0.out.2.1)).1⟩
              obtain ⟨⟨⟨r0, r1⟩, k0, k1, k2, k3, k4, k5⟩, x0, x1⟩ := HS.out w0 (Only.refl _ _)
              obtain ⟨lR, lBz⟩ := HL.out w0 (Only.refl _ _)
              go_wp2_with fail
              go_region_held3 (fun W' => ((W'.cell? ⟨R, 0, none⟩ = some (.slice aC n cC) ∧ W'.cell? ⟨R, 1, none⟩ = some (.slice (some ⟨bo, oo, none⟩) m cO)) ∧ W'.cell? ⟨B, 0, none⟩ = some (.int .i64 (wi : Int)) ∧ W'.cell? ⟨B, 1, none⟩ = some (.int .i64 (t : Int)) ∧ W'.cell? ⟨B, 2, none⟩ = some (.int .u8 (mo : Int)) ∧ W'.cell? ⟨B, 3, none⟩ = some (.int .i64 (hy : Int)) ∧ W'.cell? ⟨B, 4, none⟩ = some (.int .i64 (pr : Int)) ∧ W'.cell? ⟨B, 5, none⟩ = some (.float .f64 lo)) ∧ W'.cell? ⟨bo, oo + b, none⟩ = some (.int .u8 (e : Int)) ∧ W'.cell? ⟨bo, oo + a, none⟩ = some (.int .u8 (f : Int))) ((first | exact HS.out _ (Only.refl _ _).drew | exact HS.out _ H2.out.2)) ((go_at_call 34; refine Calls.mono (HC1.out _ H0.out.2.2.drew) ?_; rintro r w2 ⟨rfl, ho2⟩; have H2 : Hid (Only (fun _ => False) w w2 ∧ Only (fun _ => False) w0 w2) := ⟨H0.out.2.2.drew.trans ho2, (Only.refl _ _).drew.trans ho2⟩; clear ho2))
              clear r0 r1 k0 k1 k2 k3 k4 k5 x0 x1 lR lBz
              obtain ⟨⟨⟨s0, s1⟩, z0, z1, z2, z3, z4, z5⟩, y0, y1⟩ := HS.out w2 H2.out.2
              obtain ⟨ls, lz⟩ := HL.out w2 H2.out.2
              go_wp2_with fail
              go_ret2
              exact ⟨by rw [HX.out]; first | rfl | (congr 4; omega), H2.out.1⟩
          · have q1 : ((e : Int) == 3) = false := by rw [beq_eq_false_iff_ne]; omega
            have HX : Hid (rs = .tuple #[.int .i64 (100), .bool true]) := by rw [HRS.out.1, Sp.cos_last HCAN.out]; unfold Sp.ext; rw [HRS.out.2.1, if_neg he3]; exact (by unfold Sp.cosV; simp only [Option.getD_some, Option.isSome_some] <;> (congr 4 <;> omega))
            clear he3
            go_enter Try.func25, Try.ntmps25
            go_upto_region 1 with fail
            obtain ⟨R, B, w0, hw0, hB, hR, H0, lRB, lB, lB0⟩ := box26 w (.slice aC n cC) (.slice (some ⟨bo, oo, none⟩) m cO) (.int .i64 (wi : Int)) (.int .i64 (t : Int)) (.int .u8 (mo : Int)) (.int .i64 (hy : Int)) (.int .i64 (pr : Int)) (.float .f64 lo) 31 35
            rw [hw0, hB, hR]
            clear hw0 hB hR
            have HS : Hid (∀ W', Only (fun _ => False) w0 W' → ((W'.cell? ⟨R, 0, none⟩ = some (.slice aC n cC) ∧ W'.cell? ⟨R, 1, none⟩ = some (.slice (some ⟨bo, oo, none⟩) m cO)) ∧ W'.cell? ⟨B, 0, none⟩ = some (.int .i64 (wi : Int)) ∧ W'.cell? ⟨B, 1, none⟩ = some (.int .i64 (t : Int)) ∧ W'.cell? ⟨B, 2, none⟩ = some (.int .u8 (mo : Int)) ∧ W'.cell? ⟨B, 3, none⟩ = some (.int .i64 (hy : Int)) ∧ W'.cell? ⟨B, 4, none⟩ = some (.int .i64 (pr : Int)) ∧ W'.cell? ⟨B, 5, none⟩ = some (.float .f64 lo)) ∧ W'.cell? ⟨bo, oo + b, none⟩ = some (.int .u8 (e : Int)) ∧ W'.cell? ⟨bo, oo + a, none⟩ = some (.int .u8 (f : Int))) := fun W' ho => ⟨⟨⟨(blk_two (blk_keep ho H0.out.1)).1, (blk_two (blk_keep ho H0.out.1)).2.1⟩, blk_six (blk_keep ho H0.out.2.1)⟩, HCO.out W' (H0.out.2.2.trans ho)⟩
            have HL : Hid (∀ W', Only (fun _ => False) w0 W' → R < W'.heap.size ∧ B < W'.heap.size) := fun W' ho => ⟨(Array.getElem?_eq_some_iff.1 (blk_keep ho H0.out.1)).1, (Array.getElem?_eq_some_iff.1 (blk_keep ho H0.out.2.1)).1⟩
            obtain ⟨⟨⟨r0, r1⟩, k0, k1, k2, k3, k4, k5⟩, x0, x1⟩ := HS.out w0 (Only.refl _ _)
            obtain ⟨lR, lBz⟩ := HL.out w0 (Only.refl _ _)
            go_wp2_with fail
            go_region_held3 (fun W' => ((W'.cell? ⟨R, 0, none⟩ = some (.slice aC n cC) ∧ W'.cell? ⟨R, 1, none⟩ = some (.slice (some ⟨bo, oo, none⟩) m cO)) ∧ W'.cell? ⟨B, 0, none⟩ = some (.int .i64 (wi : Int)) ∧ W'.cell? ⟨B, 1, none⟩ = some (.int .i64 (t : Int)) ∧ W'.cell? ⟨B, 2, none⟩ = some (.int .u8 (mo : Int)) ∧ W'.cell? ⟨B, 3, none⟩ = some (.int .i64 (hy : Int)) ∧ W'.cell? ⟨B, 4, none⟩ = some (.int .i64 (pr : Int)) ∧ W'.cell? ⟨B, 5, none⟩ = some (.float .f64 lo)) ∧ W'.cell? ⟨bo, oo + b, none⟩ = some (.int .u8 (e : Int)) ∧ W'.cell? ⟨bo, oo + a, none⟩ = some (.int .u8 (f : Int))) ((first | exact HS.out _ (Only.refl _ _).drew | exact HS.out _ H2.out.2)) ((go_at_call 34; refine Calls.mono (HC1.out _ H0.out.2.2.drew) ?_; rintro r w2 ⟨rfl, ho2⟩; have H2 : Hid (Only (fun _ => False) w w2 ∧ Only (fun _ => False) w0 w2) := ⟨H0.out.2.2.drew.trans ho2, (Only.refl _ _).drew.trans ho2⟩; clear ho2))
            clear r0 r1 k0 k1 k2 k3 k4 k5 x0 x1 lR lBz
            obtain ⟨⟨⟨s0, s1⟩, z0, z1, z2, z3, z4, z5⟩, y0, y1⟩ := HS.out w2 H2.out.2
            obtain ⟨ls, lz⟩ := HL.out w2 H2.out.2
            go_wp2_with fail
            go_ret2
            exact ⟨by rw [HX.out]; first | rfl | (congr 4; omega), H2.out.1⟩
        | false =>
          obtain ⟨rm, hrm⟩ : ∃ x, x = wi - nn := ⟨_, rfl⟩
          have v6 : (wi : Int) - (nn : Int) = (rm : Int) := by omega
          have hrm2 : rm ≤ 1048576 := by omega
          clear hrm
          obtain ⟨gp, hgp⟩ : ∃ x, x = Sp.gp C a (b - a) := ⟨_, rfl⟩
          have hgp2 : gp ≤ 100000 := by rw [hgp]; exact Nat.le_trans (gp_le C a _) (by omega)
          have HGP : Hid (∀ W', Only (fun _ => False) w W' → Calls Try.prog 36 #[.agg #[.slice aC n cC, .slice (some ⟨bo, oo, none⟩) m cO], .int .i64 (a : Int), .int .i64 (b : Int)] W' fun r w' => r = .returned (.int .i64 (gp : Int)) ∧ Only (fun _ => False) W' w') := fun W' ho => by
            rw [hgp]
            exact refGaps_any C O n m aC _ cC cO a b W' (HP.out.keep ho) (by omega) hb
          obtain ⟨vr, hvr⟩ : ∃ x, x = Sp.rat C O t wi a b := ⟨_, rfl⟩
          have HVR : Hid (Fl.ofN (rm : Int) (gp : Int) = vr ∧ vr = Sp.rat C O t wi a b) := ⟨by rw [hvr, ← v6, hgp, HNN.out]; exact rfl, hvr⟩
          have HOF : Hid (∀ W', Calls Try.prog 35 #[.int .i64 (rm : Int), .int .i64 (gp : Int)] W' fun r w' => ∃ x, r = .returned (.float .f64 x) ∧ x < 18446744073709551616 ∧ (FloatKind.f64.format.order x lo == some .gt) = Fl.loose lo vr ∧ Fl.bd x = (Fl.badN vr : Int) ∧ Only (fun _ => False) W' w') := fun W' => by
            refine (refOf_any (rm : Int) (gp : Int) W').mono ?_
            rintro r w' ⟨x, hr, hx, hs, hd⟩
            rw [HVR.out.1] at hs
            exact ⟨x, hr, hx, Fl.sm_loose hs hx, Fl.sm_bad hs, dr_only hd⟩
          have w6 : IntKind.i64.wrap ((wi : Int) - (nn : Int)) = (rm : Int) := by rw [v6]; exact wrap_sm _ (by omega) (by omega)
          clear hgp hvr v6
          cases hlo : Fl.loose lo vr with
          | true =>
            rw [hlo] at HOF
            have HX : Hid (rs = .tuple #[.int .i64 0, .bool false]) := by rw [HRS.out.1, Sp.cos_loose HCAN.out (by rw [← HVR.out.2]; exact hlo)]; exact rfl
            clear hlo
            go_enter Try.func25, Try.ntmps25
            go_upto_region 1 with fail
            obtain ⟨R, B, w0, hw0, hB, hR, H0, lRB, lB, lB0⟩ := box26 w (.slice aC n cC) (.slice (some ⟨bo, oo, none⟩) m cO) (.int .i64 (wi : Int)) (.int .i64 (t : Int)) (.int .u8 (mo : Int)) (.int .i64 (hy : Int)) (.int .i64 (pr : Int)) (.float .f64 lo) 31 35
            rw [hw0, hB, hR]
            clear hw0 hB hR
            have HS : Hid (∀ W', Only (fun _ => False) w0 W' → ((W'.cell? ⟨R, 0, none⟩ = some (.slice aC n cC) ∧ W'.cell? ⟨R, 1, none⟩ = some (.slice (some ⟨bo, oo, none⟩) m cO)) ∧ W'.cell? ⟨B, 0, none⟩ = some (.int .i64 (wi : Int)) ∧ W'.cell? ⟨B, 1, none⟩ = some (.int .i64 (t : Int)) ∧ W'.cell? ⟨B, 2, none⟩ = some (.int .u8 (mo : Int)) ∧ W'.cell? ⟨B, 3, none⟩ = some (.int .i64 (hy : Int)) ∧ W'.cell? ⟨B, 4, none⟩ = some (.int .i64 (pr : Int)) ∧ W'.cell? ⟨B, 5, none⟩ = some (.float .f64 lo)) ∧ W'.cell? ⟨bo, oo + b, none⟩ = some (.int .u8 (e : Int)) ∧ W'.cell? ⟨bo, oo + a, none⟩ = some (.int .u8 (f : Int))) := fun W' ho => ⟨⟨⟨(blk_two (blk_keep ho H0.out.1)).1, (blk_two (blk_keep ho H0.out.1)).2.1⟩, blk_six (blk_keep ho H0.out.2.1)⟩, HCO.out W' (H0.out.2.2.trans ho)⟩
            have HL : Hid (∀ W', Only (fun _ => False) w0 W' → R < W'.heap.size ∧ B < W'.heap.size) := fun W' ho => ⟨(Array.getElem?_eq_some_iff.1 (blk_keep ho H0.out.1)).1, (Array.getElem?_eq_some_iff.1 (blk_keep ho H0.out.2.1)).1⟩
            obtain ⟨⟨⟨r0, r1⟩, k0, k1, k2, k3, k4, k5⟩, x0, x1⟩ := HS.out w0 (Only.refl _ _)
            obtain ⟨lR, lBz⟩ := HL.out w0 (Only.refl _ _)
            go_wp2_with fail
            go_region_held3 (fun W' => ((W'.cell? ⟨R, 0, none⟩ = some (.slice aC n cC) ∧ W'.cell? ⟨R, 1, none⟩ = some (.slice (some ⟨bo, oo, none⟩) m cO)) ∧ W'.cell? ⟨B, 0, none⟩ = some (.int .i64 (wi : Int)) ∧ W'.cell? ⟨B, 1, none⟩ = some (.int .i64 (t : Int)) ∧ W'.cell? ⟨B, 2, none⟩ = some (.int .u8 (mo : Int)) ∧ W'.cell? ⟨B, 3, none⟩ = some (.int .i64 (hy : Int)) ∧ W'.cell? ⟨B, 4, none⟩ = some (.int .i64 (pr : Int)) ∧ W'.cell? ⟨B, 5, none⟩ = some (.float .f64 lo)) ∧ W'.cell? ⟨bo, oo + b, none⟩ = some (.int .u8 (e : Int)) ∧ W'.cell? ⟨bo, oo + a, none⟩ = some (.int .u8 (f : Int))) ((first | exact HS.out _ (Only.refl _ _).drew | exact HS.out _ H2.out.2)) ((go_at_call 34; refine Calls.mono (HC1.out _ H0.out.2.2.drew) ?_; rintro r w2 ⟨rfl, ho2⟩; have H2 : Hid (Only (fun _ => False) w w2 ∧ Only (fun _ => False) w0 w2) := ⟨H0.out.2.2.drew.trans ho2, (Only.refl _ _).drew.trans ho2⟩; clear ho2))
            clear r0 r1 k0 k1 k2 k3 k4 k5 x0 x1 lR lBz
            obtain ⟨⟨⟨s0, s1⟩, z0, z1, z2, z3, z4, z5⟩, y0, y1⟩ := HS.out w2 H2.out.2
            obtain ⟨ls, lz⟩ := HL.out w2 H2.out.2
            go_wp2_with fail
            go_region_held3 (fun W' => ((W'.cell? ⟨R, 0, none⟩ = some (.slice aC n cC) ∧ W'.cell? ⟨R, 1, none⟩ = some (.slice (some ⟨bo, oo, none⟩) m cO)) ∧ W'.cell? ⟨B, 0, none⟩ = some (.int .i64 (wi : Int)) ∧ W'.cell? ⟨B, 1, none⟩ = some (.int .i64 (t : Int)) ∧ W'.cell? ⟨B, 2, none⟩ = some (.int .u8 (mo : Int)) ∧ W'.cell? ⟨B, 3, none⟩ = some (.int .i64 (hy : Int)) ∧ W'.cell? ⟨B, 4, none⟩ = some (.int .i64 (pr : Int)) ∧ W'.cell? ⟨B, 5, none⟩ = some (.float .f64 lo)) ∧ W'.cell? ⟨bo, oo + b, none⟩ = some (.int .u8 (e : Int)) ∧ W'.cell? ⟨bo, oo + a, none⟩ = some (.int .u8 (f : Int))) ((first | exact HS.out _ H2.out.2.drew | exact HS.out _ H3.out.2 | exact HS.out _ H4.out.2)) ((first | (go_at_call 36; refine Calls.mono (HGP.out _ H2.out.1.drew) ?_; rintro r w3 ⟨rfl, ho3⟩; have H3 : Hid (Only (fun _ => False) w w3 ∧ Only (fun _ => False) w0 w3) := ⟨H2.out.1.drew.trans ho3, H2.out.2.drew.trans ho3⟩; clear ho3) | (go_at_call 35; refine Calls.mono (HOF.out _) ?_; rintro r w4 ⟨x, rfl, hx64, hgt, hbdx, ho4⟩; have H4 : Hid (Only (fun _ => False) w w4 ∧ Only (fun _ => False) w0 w4) := ⟨H3.out.1.trans ho4, H3.out.2.trans ho4⟩; have HXX : Hid (x < 18446744073709551616 ∧ True) := ⟨hx64, trivial⟩; clear ho4 hx64 hbdx)))
            clear s0 s1 z0 z1 z2 z3 z4 z5 y0 y1 ls lz
            obtain ⟨⟨⟨s0, s1⟩, z0, z1, z2, z3, z4, z5⟩, y0, y1⟩ := HS.out w4 H4.out.2
            obtain ⟨ls, lz⟩ := HL.out w4 H4.out.2
            go_wp2_with fail
            go_ret2
            exact ⟨by rw [HX.out]; rfl, H4.out.1⟩
          | false =>
            rw [hlo] at HOF
            obtain ⟨bd, hbd⟩ : ∃ x, x = Fl.badN vr := ⟨_, rfl⟩
            have hbd2 : bd ≤ 10000 := by rw [hbd]; exact Fl.badN_le vr
            rw [← hbd] at HOF
            obtain ⟨b2, hb2⟩ : ∃ x, x = 20 * bd := ⟨_, rfl⟩
            obtain ⟨b3, hb3⟩ : ∃ x, x = bd * bd := ⟨_, rfl⟩
            have hb3l : b3 ≤ 100000000 := by rw [hb3]; exact Nat.mul_le_mul hbd2 hbd2
            have m1 : (20 : Int) * (bd : Int) = (b2 : Int) := by rw [hb2]; omega
            have m2 : (bd : Int) * (bd : Int) = (b3 : Int) := by rw [hb3]; exact (Int.natCast_mul bd bd).symm
            have hb2l : b2 ≤ 200000 := by omega
            have HBS : Hid (Sp.cos C O t wi hy pr lo false a b = some (100 + b2 + b3 + Sp.ext O hy pr a b)) := by rw [Sp.cos_fit HCAN.out (by rw [← HVR.out.2]; exact hlo), ← HVR.out.2, ← hbd, hb2, hb3]; exact rfl
            have HBD : Hid (∀ x W', x < 18446744073709551616 → Fl.bd x = (bd : Int) → Calls Try.prog 37 #[.float .f64 x] W' fun r w' => r = .returned (.int .i64 (bd : Int)) ∧ W' = w') := fun x W' hx hb => by
              have h := refBad_any x hx W'
              rw [hb] at h
              exact h
            clear hlo hbd hb2 hb3
            by_cases he3 : e = 3
            · have q1 : ((e : Int) == 3) = true := by rw [beq_iff_eq]; omega
              by_cases hf3 : f = 3
              · have q2 : ((f : Int) == 3) = true := by rw [beq_iff_eq]; omega
                have HX : Hid (rs = .tuple #[.int .i64 (100 + (b2 : Int) + (b3 : Int) + (hy : Int) + (pr : Int)), .bool true]) := by rw [HRS.out.1, HBS.out]; unfold Sp.ext; rw [HRS.out.2.1, HRS.out.2.2, if_pos he3, if_pos hf3]; exact (by unfold Sp.cosV; simp only [Option.getD_some, Option.isSome_some] <;> (congr 4 <;> omega))
                clear he3 hf3
                go_enter Try.func25, Try.ntmps25
                go_upto_region 1 with fail
                obtain ⟨R, B, w0, hw0, hB, hR, H0, lRB, lB, lB0⟩ := box26 w (.slice aC n cC) (.slice (some ⟨bo, oo, none⟩) m cO) (.int .i64 (wi : Int)) (.int .i64 (t : Int)) (.int .u8 (mo : Int)) (.int .i64 (hy : Int)) (.int .i64 (pr : Int)) (.float .f64 lo) 31 35
                rw [hw0, hB, hR]
                clear hw0 hB hR
                have HS : Hid (∀ W', Only (fun _ => False) w0 W' → ((W'.cell? ⟨R, 0, none⟩ = some (.slice aC n cC) ∧ W'.cell? ⟨R, 1, none⟩ = some (.slice (some ⟨bo, oo, none⟩) m cO)) ∧ W'.cell? ⟨B, 0, none⟩ = some (.int .i64 (wi : Int)) ∧ W'.cell? ⟨B, 1, none⟩ = some (.int .i64 (t : Int)) ∧ W'.cell? ⟨B, 2, none⟩ = some (.int .u8 (mo : Int)) ∧ W'.cell? ⟨B, 3, none⟩ = some (.int .i64 (hy : Int)) ∧ W'.cell? ⟨B, 4, none⟩ = some (.int .i64 (pr : Int)) ∧ W'.cell? ⟨B, 5, none⟩ = some (.float .f64 lo)) ∧ W'.cell? ⟨bo, oo + b, none⟩ = some (.int .u8 (e : Int)) ∧ W'.cell? ⟨bo, oo + a, none⟩ = some (.int .u8 (f : Int))) := fun W' ho => ⟨⟨⟨(blk_two (blk_keep ho H0.out.1)).1, (blk_two (blk_keep ho H0.out.1)).2.1⟩, blk_six (blk_keep ho H0.out.2.1)⟩, HCO.out W' (H0.out.2.2.trans ho)⟩
                have HL : Hid (∀ W', Only (fun _ => False) w0 W' → R < W'.heap.size ∧ B < W'.heap.size) := fun W' ho => ⟨(Array.getElem?_eq_some_iff.1 (blk_keep ho H0.out.1)).1, (Array.getElem?_eq_some_iff.1 (blk_keep ho H0.out.2.1)).1⟩
                obtain ⟨⟨⟨r0, r1⟩, k0, k1, k2, k3, k4, k5⟩, x0, x1⟩ := HS.out w0 (Only.refl _ _)
                obtain ⟨lR, lBz⟩ := HL.out w0 (Only.refl _ _)
                go_wp2_with fail
                go_region_held3 (fun W' => ((W'.cell? ⟨R, 0, none⟩ = some (.slice aC n cC) ∧ W'.cell? ⟨R, 1, none⟩ = some (.slice (some ⟨bo, oo, none⟩) m cO)) ∧ W'.cell? ⟨B, 0, none⟩ = some (.int .i64 (wi : Int)) ∧ W'.cell? ⟨B, 1, none⟩ = some (.int .i64 (t : Int)) ∧ W'.cell? ⟨B, 2, none⟩ = some (.int .u8 (mo : Int)) ∧ W'.cell? ⟨B, 3, none⟩ = some (.int .i64 (hy : Int)) ∧ W'.cell? ⟨B, 4, none⟩ = some (.int .i64 (pr : Int)) ∧ W'.cell? ⟨B, 5, none⟩ = some (.float .f64 lo)) ∧ W'.cell? ⟨bo, oo + b, none⟩ = some (.int .u8 (e : Int)) ∧ W'.cell? ⟨bo, oo + a, none⟩ = some (.int .u8 (f : Int))) ((first | exact HS.out _ (Only.refl _ _).drew | exact HS.out _ H2.out.2)) ((go_at_call 34; refine Calls.mono (HC1.out _ H0.out.2.2.drew) ?_; rintro r w2 ⟨rfl, ho2⟩; have H2 : Hid (Only (fun _ => False) w w2 ∧ Only (fun _ => False) w0 w2) := ⟨H0.out.2.2.drew.trans ho2, (Only.refl _ _).drew.trans ho2⟩; clear ho2))
                clear r0 r1 k0 k1 k2 k3 k4 k5 x0 x1 lR lBz
                obtain ⟨⟨⟨s0, s1⟩, z0, z1, z2, z3, z4, z5⟩, y0, y1⟩ := HS.out w2 H2.out.2
                obtain ⟨ls, lz⟩ := HL.out w2 H2.out.2
                go_wp2_with fail
                go_region_held3 (fun W' => ((W'.cell? ⟨R, 0, none⟩ = some (.slice aC n cC) ∧ W'.cell? ⟨R, 1, none⟩ = some (.slice (some ⟨bo, oo, none⟩) m cO)) ∧ W'.cell? ⟨B, 0, none⟩ = some (.int .i64 (wi : Int)) ∧ W'.cell? ⟨B, 1, none⟩ = some (.int .i64 (t : Int)) ∧ W'.cell? ⟨B, 2, none⟩ = some (.int .u8 (mo : Int)) ∧ W'.cell? ⟨B, 3, none⟩ = some (.int .i64 (hy : Int)) ∧ W'.cell? ⟨B, 4, none⟩ = some (.int .i64 (pr : Int)) ∧ W'.cell? ⟨B, 5, none⟩ = some (.float .f64 lo)) ∧ W'.cell? ⟨bo, oo + b, none⟩ = some (.int .u8 (e : Int)) ∧ W'.cell? ⟨bo, oo + a, none⟩ = some (.int .u8 (f : Int))) ((first | exact HS.out _ H2.out.2.drew | exact HS.out _ H3.out.2 | exact HS.out _ H4.out.2)) ((first | (go_at_call 36; refine Calls.mono (HGP.out _ H2.out.1.drew) ?_; rintro r w3 ⟨rfl, ho3⟩; have H3 : Hid (Only (fun _ => False) w w3 ∧ Only (fun _ => False) w0 w3) := ⟨H2.out.1.drew.trans ho3, H2.out.2.drew.trans ho3⟩; clear ho3) | (go_at_call 35; refine Calls.mono (HOF.out _) ?_; rintro r w4 ⟨x, rfl, hx64, hgt, hbdx, ho4⟩; have H4 : Hid (Only (fun _ => False) w w4 ∧ Only (fun _ => False) w0 w4) := ⟨H3.out.1.trans ho4, H3.out.2.trans ho4⟩; have HXX : Hid (x < 18446744073709551616 ∧ Fl.bd x = (bd : Int)) := ⟨hx64, hbdx⟩; clear ho4 hx64 hbdx)))
                clear s0 s1 z0 z1 z2 z3 z4 z5 y0 y1 ls lz
                obtain ⟨⟨⟨s0, s1⟩, z0, z1, z2, z3, z4, z5⟩, y0, y1⟩ := HS.out w4 H4.out.2
                obtain ⟨ls, lz⟩ := HL.out w4 H4.out.2
                go_wp2_with fail
                refine Calls.mono (HBD.out _ _ HXX.out.1 HXX.out.2) ?_
                rintro r w5 ⟨rfl, hw5⟩
                subst hw5
                go_wp2_with fail
                go_ret2
                exact ⟨by rw [HX.out]; first | rfl | (congr 4; omega), H4.out.1⟩
              · have q2 : ((f : Int) == 3) = false := by rw [beq_eq_false_iff_ne]; omega
                have HX : Hid (rs = .tuple #[.int .i64 (100 + (b2 : Int) + (b3 : Int) + (hy : Int)), .bool true]) := by rw [HRS.out.1, HBS.out]; unfold Sp.ext; rw [HRS.out.2.1, HRS.out.2.2, if_pos he3, if_neg hf3]; exact (by unfold Sp.cosV; simp only [Option.getD_some, Option.isSome_some] <;> (congr 4 <;> omega))
                clear he3 hf3
                go_enter Try.func25, Try.ntmps25
                go_upto_region 1 with fail
                obtain ⟨R, B, w0, hw0, hB, hR, H0, lRB, lB, lB0⟩ := box26 w (.slice aC n cC) (.slice (some ⟨bo, oo, none⟩) m cO) (.int .i64 (wi : Int)) (.int .i64 (t : Int)) (.int .u8 (mo : Int)) (.int .i64 (hy : Int)) (.int .i64 (pr : Int)) (.float .f64 lo) 31 35
                rw [hw0, hB, hR]
                clear hw0 hB hR
                have HS : Hid (∀ W', Only (fun _ => False) w0 W' → ((W'.cell? ⟨R, 0, none⟩ = some (.slice aC n cC) ∧ W'.cell? ⟨R, 1, none⟩ = some (.slice (some ⟨bo, oo, none⟩) m cO)) ∧ W'.cell? ⟨B, 0, none⟩ = some (.int .i64 (wi : Int)) ∧ W'.cell? ⟨B, 1, none⟩ = some (.int .i64 (t : Int)) ∧ W'.cell? ⟨B, 2, none⟩ = some (.int .u8 (mo : Int)) ∧ W'.cell? ⟨B, 3, none⟩ = some (.int .i64 (hy : Int)) ∧ W'.cell? ⟨B, 4, none⟩ = some (.int .i64 (pr : Int)) ∧ W'.cell? ⟨B, 5, none⟩ = some (.float .f64 lo)) ∧ W'.cell? ⟨bo, oo + b, none⟩ = some (.int .u8 (e : Int)) ∧ W'.cell? ⟨bo, oo + a, none⟩ = some (.int .u8 (f : Int))) := fun W' ho => ⟨⟨⟨(blk_two (blk_keep ho H0.out.1)).1, (blk_two (blk_keep ho H0.out.1)).2.1⟩, blk_six (blk_keep ho H0.out.2.1)⟩, HCO.out W' (H0.out.2.2.trans ho)⟩
                have HL : Hid (∀ W', Only (fun _ => False) w0 W' → R < W'.heap.size ∧ B < W'.heap.size) := fun W' ho => ⟨(Array.getElem?_eq_some_iff.1 (blk_keep ho H0.out.1)).1, (Array.getElem?_eq_some_iff.1 (blk_keep ho H0.out.2.1)).1⟩
                obtain ⟨⟨⟨r0, r1⟩, k0, k1, k2, k3, k4, k5⟩, x0, x1⟩ := HS.out w0 (Only.refl _ _)
                obtain ⟨lR, lBz⟩ := HL.out w0 (Only.refl _ _)
                go_wp2_with fail
                go_region_held3 (fun W' => ((W'.cell? ⟨R, 0, none⟩ = some (.slice aC n cC) ∧ W'.cell? ⟨R, 1, none⟩ = some (.slice (some ⟨bo, oo, none⟩) m cO)) ∧ W'.cell? ⟨B, 0, none⟩ = some (.int .i64 (wi : Int)) ∧ W'.cell? ⟨B, 1, none⟩ = some (.int .i64 (t : Int)) ∧ W'.cell? ⟨B, 2, none⟩ = some (.int .u8 (mo : Int)) ∧ W'.cell? ⟨B, 3, none⟩ = some (.int .i64 (hy : Int)) ∧ W'.cell? ⟨B, 4, none⟩ = some (.int .i64 (pr : Int)) ∧ W'.cell? ⟨B, 5, none⟩ = some (.float .f64 lo)) ∧ W'.cell? ⟨bo, oo + b, none⟩ = some (.int .u8 (e : Int)) ∧ W'.cell? ⟨bo, oo + a, none⟩ = some (.int .u8 (f : Int))) ((first | exact HS.out _ (Only.refl _ _).drew | exact HS.out _ H2.out.2)) ((go_at_call 34; refine Calls.mono (HC1.out _ H0.out.2.2.drew) ?_; rintro r w2 ⟨rfl, ho2⟩; have H2 : Hid (Only (fun _ => False) w w2 ∧ Only (fun _ => False) w0 w2) := ⟨H0.out.2.2.drew.trans ho2, (Only.refl _ _).drew.trans ho2⟩; clear ho2))
                clear r0 r1 k0 k1 k2 k3 k4 k5 x0 x1 lR lBz
                obtain ⟨⟨⟨s0, s1⟩, z0, z1, z2, z3, z4, z5⟩, y0, y1⟩ := HS.out w2 H2.out.2
                obtain ⟨ls, lz⟩ := HL.out w2 H2.out.2
                go_wp2_with fail
                go_region_held3 (fun W' => ((W'.cell? ⟨R, 0, none⟩ = some (.slice aC n cC) ∧ W'.cell? ⟨R, 1, none⟩ = some (.slice (some ⟨bo, oo, none⟩) m cO)) ∧ W'.cell? ⟨B, 0, none⟩ = some (.int .i64 (wi : Int)) ∧ W'.cell? ⟨B, 1, none⟩ = some (.int .i64 (t : Int)) ∧ W'.cell? ⟨B, 2, none⟩ = some (.int .u8 (mo : Int)) ∧ W'.cell? ⟨B, 3, none⟩ = some (.int .i64 (hy : Int)) ∧ W'.cell? ⟨B, 4, none⟩ = some (.int .i64 (pr : Int)) ∧ W'.cell? ⟨B, 5, none⟩ = some (.float .f64 lo)) ∧ W'.cell? ⟨bo, oo + b, none⟩ = some (.int .u8 (e : Int)) ∧ W'.cell? ⟨bo, oo + a, none⟩ = some (.int .u8 (f : Int))) ((first | exact HS.out _ H2.out.2.drew | exact HS.out _ H3.out.2 | exact HS.out _ H4.out.2)) ((first | (go_at_call 36; refine Calls.mono (HGP.out _ H2.out.1.drew) ?_; rintro r w3 ⟨rfl, ho3⟩; have H3 : Hid (Only (fun _ => False) w w3 ∧ Only (fun _ => False) w0 w3) := ⟨H2.out.1.drew.trans ho3, H2.out.2.drew.trans ho3⟩; clear ho3) | (go_at_call 35; refine Calls.mono (HOF.out _) ?_; rintro r w4 ⟨x, rfl, hx64, hgt, hbdx, ho4⟩; have H4 : Hid (Only (fun _ => False) w w4 ∧ Only (fun _ => False) w0 w4) := ⟨H3.out.1.trans ho4, H3.out.2.trans ho4⟩; have HXX : Hid (x < 18446744073709551616 ∧ Fl.bd x = (bd : Int)) := ⟨hx64, hbdx⟩; clear ho4 hx64 hbdx)))
                clear s0 s1 z0 z1 z2 z3 z4 z5 y0 y1 ls lz
                obtain ⟨⟨⟨s0, s1⟩, z0, z1, z2, z3, z4, z5⟩, y0, y1⟩ := HS.out w4 H4.out.2
                obtain ⟨ls, lz⟩ := HL.out w4 H4.out.2
                go_wp2_with fail
                refine Calls.mono (HBD.out _ _ HXX.out.1 HXX.out.2) ?_
                rintro r w5 ⟨rfl, hw5⟩
                subst hw5
                go_wp2_with fail
                go_ret2
                exact ⟨by rw [HX.out]; first | rfl | (congr 4; omega), H4.out.1⟩
            · have q1 : ((e : Int) == 3) = false := by rw [beq_eq_false_iff_ne]; omega
              have HX : Hid (rs = .tuple #[.int .i64 (100 + (b2 : Int) + (b3 : Int)), .bool true]) := by rw [HRS.out.1, HBS.out]; unfold Sp.ext; rw [HRS.out.2.1, if_neg he3]; exact (by unfold Sp.cosV; simp only [Option.getD_some, Option.isSome_some] <;> (congr 4 <;> omega))
              clear he3
              go_enter Try.func25, Try.ntmps25
              go_upto_region 1 with fail
              obtain ⟨R, B, w0, hw0, hB, hR, H0, lRB, lB, lB0⟩ := box26 w (.slice aC n cC) (.slice (some ⟨bo, oo, none⟩) m cO) (.int .i64 (wi : Int)) (.int .i64 (t : Int)) (.int .u8 (mo : Int)) (.int .i64 (hy : Int)) (.int .i64 (pr : Int)) (.float .f64 lo) 31 35
              rw [hw0, hB, hR]
              clear hw0 hB hR
              have HS : Hid (∀ W', Only (fun _ => False) w0 W' → ((W'.cell? ⟨R, 0, none⟩ = some (.slice aC n cC) ∧ W'.cell? ⟨R, 1, none⟩ = some (.slice (some ⟨bo, oo, none⟩) m cO)) ∧ W'.cell? ⟨B, 0, none⟩ = some (.int .i64 (wi : Int)) ∧ W'.cell? ⟨B, 1, none⟩ = some (.int .i64 (t : Int)) ∧ W'.cell? ⟨B, 2, none⟩ = some (.int .u8 (mo : Int)) ∧ W'.cell? ⟨B, 3, none⟩ = some (.int .i64 (hy : Int)) ∧ W'.cell? ⟨B, 4, none⟩ = some (.int .i64 (pr : Int)) ∧ W'.cell? ⟨B, 5, none⟩ = some (.float .f64 lo)) ∧ W'.cell? ⟨bo, oo + b, none⟩ = some (.int .u8 (e : Int)) ∧ W'.cell? ⟨bo, oo + a, none⟩ = some (.int .u8 (f : Int))) := fun W' ho => ⟨⟨⟨(blk_two (blk_keep ho H0.out.1)).1, (blk_two (blk_keep ho H0.out.1)).2.1⟩, blk_six (blk_keep ho H0.out.2.1)⟩, HCO.out W' (H0.out.2.2.trans ho)⟩
              have HL : Hid (∀ W', Only (fun _ => False) w0 W' → R < W'.heap.size ∧ B < W'.heap.size) := fun W' ho => ⟨(Array.getElem?_eq_some_iff.1 (blk_keep ho H0.out.1)).1, (Array.getElem?_eq_some_iff.1 (blk_keep ho H0.out.2.1)).1⟩
              obtain ⟨⟨⟨r0, r1⟩, k0, k1, k2, k3, k4, k5⟩, x0, x1⟩ := HS.out w0 (Only.refl _ _)
              obtain ⟨lR, lBz⟩ := HL.out w0 (Only.refl _ _)
              go_wp2_with fail
              go_region_held3 (fun W' => ((W'.cell? ⟨R, 0, none⟩ = some (.slice aC n cC) ∧ W'.cell? ⟨R, 1, none⟩ = some (.slice (some ⟨bo, oo, none⟩) m cO)) ∧ W'.cell? ⟨B, 0, none⟩ = some (.int .i64 (wi : Int)) ∧ W'.cell? ⟨B, 1, none⟩ = some (.int .i64 (t : Int)) ∧ W'.cell? ⟨B, 2, none⟩ = some (.int .u8 (mo : Int)) ∧ W'.cell? ⟨B, 3, none⟩ = some (.int .i64 (hy : Int)) ∧ W'.cell? ⟨B, 4, none⟩ = some (.int .i64 (pr : Int)) ∧ W'.cell? ⟨B, 5, none⟩ = some (.float .f64 lo)) ∧ W'.cell? ⟨bo, oo + b, none⟩ = some (.int .u8 (e : Int)) ∧ W'.cell? ⟨bo, oo + a, none⟩ = some (.int .u8 (f : Int))) ((first | exact HS.out _ (Only.refl _ _).drew | exact HS.out _ H2.out.2)) ((go_at_call 34; refine Calls.mono (HC1.out _ H0.out.2.2.drew) ?_; rintro r w2 ⟨rfl, ho2⟩; have H2 : Hid (Only (fun _ => False) w w2 ∧ Only (fun _ => False) w0 w2) := ⟨H0.out.2.2.drew.trans ho2, (Only.refl _ _).drew.trans ho2⟩; clear ho2))
              clear r0 r1 k0 k1 k2 k3 k4 k5 x0 x1 lR lBz
              obtain ⟨⟨⟨s0, s1⟩, z0, z1, z2, z3, z4, z5⟩, y0, y1⟩ := HS.out w2 H2.out.2
              obtain ⟨ls, lz⟩ := HL.out w2 H2.out.2
              go_wp2_with fail
              go_region_held3 (fun W' => ((W'.cell? ⟨R, 0, none⟩ = some (.slice aC n cC) ∧ W'.cell? ⟨R, 1, none⟩ = some (.slice (some ⟨bo, oo, none⟩) m cO)) ∧ W'.cell? ⟨B, 0, none⟩ = some (.int .i64 (wi : Int)) ∧ W'.cell? ⟨B, 1, none⟩ = some (.int .i64 (t : Int)) ∧ W'.cell? ⟨B, 2, none⟩ = some (.int .u8 (mo : Int)) ∧ W'.cell? ⟨B, 3, none⟩ = some (.int .i64 (hy : Int)) ∧ W'.cell? ⟨B, 4, none⟩ = some (.int .i64 (pr : Int)) ∧ W'.cell? ⟨B, 5, none⟩ = some (.float .f64 lo)) ∧ W'.cell? ⟨bo, oo + b, none⟩ = some (.int .u8 (e : Int)) ∧ W'.cell? ⟨bo, oo + a, none⟩ = some (.int .u8 (f : Int))) ((first | exact HS.out _ H2.out.2.drew | exact HS.out _ H3.out.2 | exact HS.out _ H4.out.2)) ((first | (go_at_call 36; refine Calls.mono (HGP.out _ H2.out.1.drew) ?_; rintro r w3 ⟨rfl, ho3⟩; have H3 : Hid (Only (fun _ => False) w w3 ∧ Only (fun _ => False) w0 w3) := ⟨H2.out.1.drew.trans ho3, H2.out.2.drew.trans ho3⟩; clear ho3) | (go_at_call 35; refine Calls.mono (HOF.out _) ?_; rintro r w4 ⟨x, rfl, hx64, hgt, hbdx, ho4⟩; have H4 : Hid (Only (fun _ => False) w w4 ∧ Only (fun _ => False) w0 w4) := ⟨H3.out.1.trans ho4, H3.out.2.trans ho4⟩; have HXX : Hid (x < 18446744073709551616 ∧ Fl.bd x = (bd : Int)) := ⟨hx64, hbdx⟩; clear ho4 hx64 hbdx)))
              clear s0 s1 z0 z1 z2 z3 z4 z5 y0 y1 ls lz
              obtain ⟨⟨⟨s0, s1⟩, z0, z1, z2, z3, z4, z5⟩, y0, y1⟩ := HS.out w4 H4.out.2
              obtain ⟨ls, lz⟩ := HL.out w4 H4.out.2
              go_wp2_with fail
              refine Calls.mono (HBD.out _ _ HXX.out.1 HXX.out.2) ?_
              rintro r w5 ⟨rfl, hw5⟩
              subst hw5
              go_wp2_with fail
              go_ret2
              exact ⟨by rw [HX.out]; first | rfl | (congr 4; omega), H4.out.1⟩
      · have v5 : (wi : Int) < (nn : Int) := by omega
        have HX : Hid (rs = .tuple #[.int .i64 0, .bool false]) := by rw [HRS.out.1, Sp.cos_no (Sp.can_no (Or.inr (Or.inr (by rw [← HNN.out]; exact hnw))))]; exact rfl
        clear he0
        go_enter Try.func25, Try.ntmps25
        go_upto_region 1 with fail
        obtain ⟨R, B, w0, hw0, hB, hR, H0, lRB, lB, lB0⟩ := box26 w (.slice aC n cC) (.slice (some ⟨bo, oo, none⟩) m cO) (.int .i64 (wi : Int)) (.int .i64 (t : Int)) (.int .u8 (mo : Int)) (.int .i64 (hy : Int)) (.int .i64 (pr : Int)) (.float .f64 lo) 31 35
        rw [hw0, hB, hR]
        clear hw0 hB hR
        have HS : Hid (∀ W', Only (fun _ => False) w0 W' → ((W'.cell? ⟨R, 0, none⟩ = some (.slice aC n cC) ∧ W'.cell? ⟨R, 1, none⟩ = some (.slice (some ⟨bo, oo, none⟩) m cO)) ∧ W'.cell? ⟨B, 0, none⟩ = some (.int .i64 (wi : Int)) ∧ W'.cell? ⟨B, 1, none⟩ = some (.int .i64 (t : Int)) ∧ W'.cell? ⟨B, 2, none⟩ = some (.int .u8 (mo : Int)) ∧ W'.cell? ⟨B, 3, none⟩ = some (.int .i64 (hy : Int)) ∧ W'.cell? ⟨B, 4, none⟩ = some (.int .i64 (pr : Int)) ∧ W'.cell? ⟨B, 5, none⟩ = some (.float .f64 lo)) ∧ W'.cell? ⟨bo, oo + b, none⟩ = some (.int .u8 (e : Int)) ∧ W'.cell? ⟨bo, oo + a, none⟩ = some (.int .u8 (f : Int))) := fun W' ho => ⟨⟨⟨(blk_two (blk_keep ho H0.out.1)).1, (blk_two (blk_keep ho H0.out.1)).2.1⟩, blk_six (blk_keep ho H0.out.2.1)⟩, HCO.out W' (H0.out.2.2.trans ho)⟩
        have HL : Hid (∀ W', Only (fun _ => False) w0 W' → R < W'.heap.size ∧ B < W'.heap.size) := fun W' ho => ⟨(Array.getElem?_eq_some_iff.1 (blk_keep ho H0.out.1)).1, (Array.getElem?_eq_some_iff.1 (blk_keep ho H0.out.2.1)).1⟩
        obtain ⟨⟨⟨r0, r1⟩, k0, k1, k2, k3, k4, k5⟩, x0, x1⟩ := HS.out w0 (Only.refl _ _)
        obtain ⟨lR, lBz⟩ := HL.out w0 (Only.refl _ _)
        go_wp2_with fail
        go_region_held3 (fun W' => ((W'.cell? ⟨R, 0, none⟩ = some (.slice aC n cC) ∧ W'.cell? ⟨R, 1, none⟩ = some (.slice (some ⟨bo, oo, none⟩) m cO)) ∧ W'.cell? ⟨B, 0, none⟩ = some (.int .i64 (wi : Int)) ∧ W'.cell? ⟨B, 1, none⟩ = some (.int .i64 (t : Int)) ∧ W'.cell? ⟨B, 2, none⟩ = some (.int .u8 (mo : Int)) ∧ W'.cell? ⟨B, 3, none⟩ = some (.int .i64 (hy : Int)) ∧ W'.cell? ⟨B, 4, none⟩ = some (.int .i64 (pr : Int)) ∧ W'.cell? ⟨B, 5, none⟩ = some (.float .f64 lo)) ∧ W'.cell? ⟨bo, oo + b, none⟩ = some (.int .u8 (e : Int)) ∧ W'.cell? ⟨bo, oo + a, none⟩ = some (.int .u8 (f : Int))) ((first | exact HS.out _ (Only.refl _ _).drew | exact HS.out _ H2.out.2)) ((go_at_call 34; refine Calls.mono (HC1.out _ H0.out.2.2.drew) ?_; rintro r w2 ⟨rfl, ho2⟩; have H2 : Hid (Only (fun _ => False) w w2 ∧ Only (fun _ => False) w0 w2) := ⟨H0.out.2.2.drew.trans ho2, (Only.refl _ _).drew.trans ho2⟩; clear ho2))
        clear r0 r1 k0 k1 k2 k3 k4 k5 x0 x1 lR lBz
        obtain ⟨⟨⟨s0, s1⟩, z0, z1, z2, z3, z4, z5⟩, y0, y1⟩ := HS.out w2 H2.out.2
        obtain ⟨ls, lz⟩ := HL.out w2 H2.out.2
        go_wp2_with fail
        go_ret2
        exact ⟨by rw [HX.out]; rfl, H2.out.1⟩
  · have v1 : (b : Int) ≤ (a : Int) := by omega
    have HX : Hid (rs = .tuple #[.int .i64 0, .bool false]) := by rw [HRS.out.1, Sp.cos_no (Sp.can_no (Or.inl hab))]; exact rfl
    go_enter Try.func25, Try.ntmps25
    go_wp2_with fail
    go_ret2
    exact ⟨by rw [HX.out]; rfl, ((Only.refl _ _).alloc _).alloc _⟩
end Go.Proofs.Ytdepjmneoplicaa

