/-
  best's leaves: what a line's shape costs; what hyphens cost.
-/
import Derived.Test.YtdepjmneoplicaaCo
namespace Go.Proofs.Ytdepjmneoplicaa
open Go.RowKit Go.Maps
set_option linter.unusedVariables false
set_option linter.unusedSimpArgs false
namespace Sp
/-- what hyphens cost. -/
def hyC (hy pr f e : Nat) : Nat := if e = 3 then hy + (if f = 3 then pr else 0) else 0
/-- what a shape costs. -/
def shp (wi hy pr lo ce ga f e : Nat) (la : Bool) : Option Nat :=
  if ce ≤ wi then
    if la then some (100 + hyC hy pr f e)
    else if Fl.loose lo (Fl.ofN ((wi : Int) - (ce : Int)) (ga : Int)) then none
    else some (100 + 20 * Fl.badN (Fl.ofN ((wi : Int) - (ce : Int)) (ga : Int)) + Fl.badN (Fl.ofN ((wi : Int) - (ce : Int)) (ga : Int)) * Fl.badN (Fl.ofN ((wi : Int) - (ce : Int)) (ga : Int)) + hyC hy pr f e)
  else none
theorem cos_none {C : List Ct} {O : List Nat} {t W hy pr lo a b : Nat} {la : Bool} (h : ¬ a < b ∨ O.getD b 0 = 0) : cos C O t W hy pr lo la a b = none := cos_no (can_no (h.elim Or.inl (fun h => Or.inr (Or.inl h))))
theorem cos_shp {C : List Ct} {O : List Nat} {t W hy pr lo a b : Nat} {la : Bool} (h1 : a < b) (h2 : O.getD b 0 ≠ 0) : cos C O t W hy pr lo la a b = shp W hy pr lo (wde C t a b (O.getD b 0)) (gp C a (b - a)) (O.getD a 0) (O.getD b 0) la := by
  have hx : ext O hy pr a b = hyC hy pr (O.getD a 0) (O.getD b 0) := rfl
  have hr : rat C O t W a b = Fl.ofN ((W : Int) - (wde C t a b (O.getD b 0) : Int)) (gp C a (b - a) : Int) := rfl
  unfold shp
  by_cases h3 : wde C t a b (O.getD b 0) ≤ W
  · have hc := can_yes h1 h2 h3
    rw [if_pos h3]
    cases la with
    | true => rw [cos_last hc, if_pos rfl, hx]
    | false =>
      rw [if_neg (by decide), ← hr, ← hx]
      cases hl : Fl.loose lo (rat C O t W a b) with
      | true => rw [cos_loose hc hl, if_pos rfl]
      | false => rw [cos_fit hc hl, if_neg (by decide)]
  · rw [if_neg h3, cos_no (can_no (Or.inr (Or.inr h3)))]
theorem hyC_le {hy pr f e : Nat} (h1 : hy ≤ 2097152) (h2 : pr ≤ 1048576) : hyC hy pr f e ≤ 3145728 := by
  unfold hyC
  split
  · split <;> omega
  · omega
end Sp
theorem blk_five {w : World} {R : Nat} {t : TypeId} {v0 v1 v2 v3 v4 : Value} (h : w.heap[R]? = some (.cells #[v0, v1, v2, v3, v4] t (0, 0))) : w.cell? ⟨R, 0, none⟩ = some v0 ∧ w.cell? ⟨R, 1, none⟩ = some v1 ∧ w.cell? ⟨R, 2, none⟩ = some v2 ∧ w.cell? ⟨R, 3, none⟩ = some v3 ∧ w.cell? ⟨R, 4, none⟩ = some v4 := ⟨cell_blk h, cell_blk h, cell_blk h, cell_blk h, cell_blk h⟩
theorem box56 (w : World) (v0 v1 v2 v3 v4 u0 u1 u2 u3 u4 u5 : Value) (t t' : TypeId) : ∃ R b w1, (w.alloc (.cells #[v0, v1, v2, v3, v4] t)).alloc (.cells #[u0, u1, u2, u3, u4, u5] t') = w1 ∧ w.heap.size + 1 = b ∧ w.heap.size = R ∧ Hid (w1.heap[R]? = some (.cells #[v0, v1, v2, v3, v4] t (0, 0)) ∧ w1.heap[b]? = some (.cells #[u0, u1, u2, u3, u4, u5] t' (0, 0)) ∧ Only (fun _ => False) w w1) ∧ R < b ∧ w.heap.size ≤ b ∧ b < w1.heap.size :=
  ⟨_, _, _, rfl, rfl, rfl, ⟨bx_made w _ _, heap_alloc2_new w _ _, ((Only.refl _ _).alloc _).alloc _⟩, Nat.lt_succ_self _, Nat.le_succ _, (Array.getElem?_eq_some_iff.1 (heap_alloc2_new w _ _)).1⟩
set_option maxRecDepth 100000 in
set_option maxHeartbeats 1000000 in
theorem hyphenCells_any (e : Nat) (w : World) :
    Calls Try.prog 56 #[.int .u8 (e : Int)] w fun r w' => r = .returned (.int .i64 ((if e = 3 then 1 else 0 : Nat) : Int)) ∧ w = w' := by
  by_cases h : e = 3
  · have t1 : ((e : Int) == 3) = true := by rw [beq_iff_eq]; omega
    rw [if_pos h]
    clear h
    go_enter Try.func56, Try.ntmps56
    go_wp2_with fail
    go_ret
    exact ⟨rfl, rfl⟩
  · have t1 : ((e : Int) == 3) = false := by rw [beq_eq_false_iff_ne]; omega
    rw [if_neg h]
    clear h
    go_enter Try.func56, Try.ntmps56
    go_wp2_with fail
    go_ret
    exact ⟨rfl, rfl⟩
set_option maxRecDepth 100000 in
set_option maxHeartbeats 2000000 in
theorem hyphens_any (ce ga f e wi t mo hy pr lo : Nat) (la : Bool) (w : World) (hhy : hy ≤ 2097152) (hpr : pr ≤ 1048576) :
    Calls Try.prog 60 #[.agg #[.int .i64 (ce : Int), .int .i64 (ga : Int), .int .u8 (f : Int), .int .u8 (e : Int), .bool la], .agg #[.int .i64 (wi : Int), .int .i64 (t : Int), .int .u8 (mo : Int), .int .i64 (hy : Int), .int .i64 (pr : Int), .float .f64 lo]] w fun r w' => r = .returned (.int .i64 (Sp.hyC hy pr f e : Int)) ∧ Only (fun _ => False) w w' := by
  unfold Sp.hyC
  by_cases h : e = 3
  · have t1 : ((e : Int) != 3) = false := by simp; omega
    rw [if_pos h]
    by_cases h2 : f = 3
    · have t2 : ((f : Int) != 3) = false := by simp; omega
      rw [if_pos h2]
      clear h h2
      go_enter Try.func60, Try.ntmps60
      go_upto_region 1 with fail
      obtain ⟨R, B, w0, hw0, hB, hR, H0, lRB, lB, lB0⟩ := box56 w (.int .i64 (ce : Int)) (.int .i64 (ga : Int)) (.int .u8 (f : Int)) (.int .u8 (e : Int)) (.bool la) (.int .i64 (wi : Int)) (.int .i64 (t : Int)) (.int .u8 (mo : Int)) (.int .i64 (hy : Int)) (.int .i64 (pr : Int)) (.float .f64 lo) 86 35
      rw [hw0, hB, hR]
      clear hw0 hB hR
      obtain ⟨r0, r1, r2, r3, r4⟩ := blk_five H0.out.1
      obtain ⟨k0, k1, k2, k3, k4, k5⟩ := blk_six H0.out.2.1
      have lR : R < w0.heap.size := by omega
      go_wp2_with fail
      go_ret
      exact ⟨by go_num, H0.out.2.2⟩
    · have t2 : ((f : Int) != 3) = true := by simp; omega
      rw [if_neg h2]
      clear h h2
      go_enter Try.func60, Try.ntmps60
      go_upto_region 1 with fail
      obtain ⟨R, B, w0, hw0, hB, hR, H0, lRB, lB, lB0⟩ := box56 w (.int .i64 (ce : Int)) (.int .i64 (ga : Int)) (.int .u8 (f : Int)) (.int .u8 (e : Int)) (.bool la) (.int .i64 (wi : Int)) (.int .i64 (t : Int)) (.int .u8 (mo : Int)) (.int .i64 (hy : Int)) (.int .i64 (pr : Int)) (.float .f64 lo) 86 35
      rw [hw0, hB, hR]
      clear hw0 hB hR
      obtain ⟨r0, r1, r2, r3, r4⟩ := blk_five H0.out.1
      obtain ⟨k0, k1, k2, k3, k4, k5⟩ := blk_six H0.out.2.1
      have lR : R < w0.heap.size := by omega
      go_wp2_with fail
      go_ret
      exact ⟨rfl, H0.out.2.2⟩
  · have t1 : ((e : Int) != 3) = true := by simp; omega
    rw [if_neg h]
    clear h
    go_enter Try.func60, Try.ntmps60
    go_upto_region 1 with fail
    obtain ⟨R, B, w0, hw0, hB, hR, H0, lRB, lB, lB0⟩ := box56 w (.int .i64 (ce : Int)) (.int .i64 (ga : Int)) (.int .u8 (f : Int)) (.int .u8 (e : Int)) (.bool la) (.int .i64 (wi : Int)) (.int .i64 (t : Int)) (.int .u8 (mo : Int)) (.int .i64 (hy : Int)) (.int .i64 (pr : Int)) (.float .f64 lo) 86 35
    rw [hw0, hB, hR]
    clear hw0 hB hR
    obtain ⟨r0, r1, r2, r3, r4⟩ := blk_five H0.out.1
    have lR : R < w0.heap.size := by omega
    go_wp2_with fail
    go_ret
    exact ⟨rfl, H0.out.2.2⟩
set_option maxRecDepth 100000 in
set_option maxHeartbeats 4000000 in
theorem shape_any (ce ga f e wi t mo hy pr lo : Nat) (la : Bool) (w : World) (hce : ce ≤ 100200001) (hga : ga ≤ 100000) (hw : wi ≤ 1048576) (hhy : hy ≤ 2097152) (hpr : pr ≤ 1048576) :
    Calls Try.prog 47 #[.agg #[.int .i64 (ce : Int), .int .i64 (ga : Int), .int .u8 (f : Int), .int .u8 (e : Int), .bool la], .agg #[.int .i64 (wi : Int), .int .i64 (t : Int), .int .u8 (mo : Int), .int .i64 (hy : Int), .int .i64 (pr : Int), .float .f64 lo]] w fun r w' => r = .returned (Sp.cosV (Sp.shp wi hy pr lo ce ga f e la)) ∧ Only (fun _ => False) w w' := by
  obtain ⟨rs, hrs⟩ : ∃ r, r = Sp.cosV (Sp.shp wi hy pr lo ce ga f e la) := ⟨_, rfl⟩
  rw [← hrs]
  obtain ⟨hc, hhc⟩ : ∃ x, x = Sp.hyC hy pr f e := ⟨_, rfl⟩
  have hcl : hc ≤ 3145728 := by rw [hhc]; exact Sp.hyC_le hhy hpr
  have HH : Hid (∀ W', Calls Try.prog 60 #[.agg #[.int .i64 (ce : Int), .int .i64 (ga : Int), .int .u8 (f : Int), .int .u8 (e : Int), .bool la], .agg #[.int .i64 (wi : Int), .int .i64 (t : Int), .int .u8 (mo : Int), .int .i64 (hy : Int), .int .i64 (pr : Int), .float .f64 lo]] W' fun r w' => r = .returned (.int .i64 (hc : Int)) ∧ Only (fun _ => False) W' w') := fun W' => by rw [hhc]; exact hyphens_any ce ga f e wi t mo hy pr lo la W' hhy hpr
  unfold Sp.shp at hrs
  rw [← hhc] at hrs
  clear hhc
  by_cases h : ce ≤ wi
  · rw [if_pos h] at hrs
    have v1 : decide ((wi : Int) < (ce : Int)) = false := decide_eq_false (by omega)
    have v1n : decide (wi < ce) = false := decide_eq_false (by omega)
    cases la with
    | true =>
      rw [if_pos rfl] at hrs
      have HX : Hid (rs = .tuple #[.int .i64 ((100 + hc : Nat) : Int), .bool true]) := hrs
      clear hrs h
      go_enter Try.func47, Try.ntmps47
      go_upto_region 1 with fail
      obtain ⟨R, B, w0, hw0, hB, hR, H0, lRB, lB, lB0⟩ := box56 w (.int .i64 (ce : Int)) (.int .i64 (ga : Int)) (.int .u8 (f : Int)) (.int .u8 (e : Int)) (.bool true) (.int .i64 (wi : Int)) (.int .i64 (t : Int)) (.int .u8 (mo : Int)) (.int .i64 (hy : Int)) (.int .i64 (pr : Int)) (.float .f64 lo) 86 35
      rw [hw0, hB, hR]
      clear hw0 hB hR
      obtain ⟨r0, r1, r2, r3, r4⟩ := blk_five H0.out.1
      obtain ⟨k0, k1, k2, k3, k4, k5⟩ := blk_six H0.out.2.1
      have lR : R < w0.heap.size := by omega
      go_wp2_with fail
      refine Calls.mono (HH.out _) ?_
      rintro r w2 ⟨rfl, ho2⟩
      have H2 : Hid (Only (fun _ => False) w w2) := H0.out.2.2.trans ho2
      clear ho2
      go_wp2_with fail
      go_ret2
      exact ⟨by rw [HX.out]; first | rfl | (congr 4; omega), H2.out⟩
    | false =>
      rw [if_neg (by decide)] at hrs
      obtain ⟨rm, hrm⟩ : ∃ x, x = wi - ce := ⟨_, rfl⟩
      have v6 : (wi : Int) - (ce : Int) = (rm : Int) := by omega
      have hrm2 : rm ≤ 1048576 := by omega
      rw [v6] at hrs
      obtain ⟨vr, hvr⟩ : ∃ x, x = Fl.ofN (rm : Int) (ga : Int) := ⟨_, rfl⟩
      rw [← hvr] at hrs
      have HOF : Hid (∀ W', Calls Try.prog 57 #[.int .i64 (rm : Int), .int .i64 (ga : Int)] W' fun r w' => ∃ x, r = .returned (.float .f64 x) ∧ x < 18446744073709551616 ∧ (FloatKind.f64.format.order x lo == some .gt) = Fl.loose lo vr ∧ Fl.bd x = (Fl.badN vr : Int) ∧ Only (fun _ => False) W' w') := fun W' => by
        refine (of_any (rm : Int) (ga : Int) W').mono ?_
        rintro r w' ⟨x, hr, hx, hs, hd⟩
        rw [← hvr] at hs
        exact ⟨x, hr, hx, Fl.sm_loose hs hx, Fl.sm_bad hs, dr_only hd⟩
      clear hvr hrm h
      cases hlo : Fl.loose lo vr with
      | true =>
        rw [hlo] at HOF
        rw [hlo, if_pos rfl] at hrs
        have HFT : Hid (∀ x W', (FloatKind.f64.format.order x lo == some .gt) = true → Calls Try.prog 58 #[.float .f64 x, .float .f64 lo] W' fun r w' => r = .returned (.bool false) ∧ W' = w') := fun x W' hx => by
          have h := fits_any x lo W'
          rw [hx] at h
          exact h
        have HX : Hid (rs = .tuple #[.int .i64 0, .bool false]) := hrs
        clear hrs hlo
        go_enter Try.func47, Try.ntmps47
        go_upto_region 1 with fail
        obtain ⟨R, B, w0, hw0, hB, hR, H0, lRB, lB, lB0⟩ := box56 w (.int .i64 (ce : Int)) (.int .i64 (ga : Int)) (.int .u8 (f : Int)) (.int .u8 (e : Int)) (.bool false) (.int .i64 (wi : Int)) (.int .i64 (t : Int)) (.int .u8 (mo : Int)) (.int .i64 (hy : Int)) (.int .i64 (pr : Int)) (.float .f64 lo) 86 35
        rw [hw0, hB, hR]
        clear hw0 hB hR
        obtain ⟨r0, r1, r2, r3, r4⟩ := blk_five H0.out.1
        obtain ⟨k0, k1, k2, k3, k4, k5⟩ := blk_six H0.out.2.1
        have lR : R < w0.heap.size := by omega
        go_wp2_with fail
        refine Calls.mono (HOF.out _) ?_
        rintro r w2 ⟨x, rfl, hx1, hx2, hx3, ho2⟩
        have H2 : Hid (Only (fun _ => False) w w2 ∧ (FloatKind.f64.format.order x lo == some .gt) = true) := ⟨H0.out.2.2.trans ho2, hx2⟩
        clear r0 r1 r2 r3 r4 k0 k1 k2 k3 k4 k5 hx1 hx2 hx3
        obtain ⟨k0, k1, k2, k3, k4, k5⟩ := blk_six (blk_keep ho2 H0.out.2.1)
        have lB2 : B < w2.heap.size := Nat.lt_of_lt_of_le lB0 ho2.size
        clear ho2
        go_wp2_with fail
        refine Calls.mono (HFT.out _ _ H2.out.2) ?_
        rintro r w3 ⟨rfl, hw3⟩
        have hw3 := hw3.symm
        subst hw3
        go_wp2_with fail
        go_ret2
        exact ⟨by rw [HX.out]; rfl, H2.out.1⟩
      | false =>
        rw [hlo] at HOF
        rw [hlo, if_neg (by decide)] at hrs
        have HFT : Hid (∀ x W', (FloatKind.f64.format.order x lo == some .gt) = false → Calls Try.prog 58 #[.float .f64 x, .float .f64 lo] W' fun r w' => r = .returned (.bool true) ∧ W' = w') := fun x W' hx => by
          have h := fits_any x lo W'
          rw [hx] at h
          exact h
        obtain ⟨bd, hbd⟩ : ∃ x, x = Fl.badN vr := ⟨_, rfl⟩
        have hbd2 : bd ≤ 10000 := by rw [hbd]; exact Fl.badN_le vr
        rw [← hbd] at HOF hrs
        have HBD : Hid (∀ x W', x < 18446744073709551616 → Fl.bd x = (bd : Int) → Calls Try.prog 59 #[.float .f64 x] W' fun r w' => r = .returned (.int .i64 (bd : Int)) ∧ W' = w') := fun x W' hx hb => by
          have h := badness_any x hx W'
          rw [hb] at h
          exact h
        obtain ⟨sq, hsq⟩ : ∃ x, x = 100 + 20 * bd + bd * bd := ⟨_, rfl⟩
        have hsql : sq ≤ 100300100 := by rw [hsq]; have := Nat.mul_le_mul hbd2 hbd2; omega
        have m1 : ((10 : Int) + (bd : Int)) * ((10 : Int) + (bd : Int)) = (sq : Int) := by
          rw [hsq, Int.add_mul, Int.mul_add, Int.mul_add, Int.natCast_add, Int.natCast_mul bd bd]
          generalize (bd : Int) * (bd : Int) = z
          omega
        rw [← hsq] at hrs
        have HX : Hid (rs = .tuple #[.int .i64 ((sq + hc : Nat) : Int), .bool true]) := hrs
        clear hrs hlo hsq hbd
        go_enter Try.func47, Try.ntmps47
        go_upto_region 1 with fail
        obtain ⟨R, B, w0, hw0, hB, hR, H0, lRB, lB, lB0⟩ := box56 w (.int .i64 (ce : Int)) (.int .i64 (ga : Int)) (.int .u8 (f : Int)) (.int .u8 (e : Int)) (.bool false) (.int .i64 (wi : Int)) (.int .i64 (t : Int)) (.int .u8 (mo : Int)) (.int .i64 (hy : Int)) (.int .i64 (pr : Int)) (.float .f64 lo) 86 35
        rw [hw0, hB, hR]
        clear hw0 hB hR
        obtain ⟨r0, r1, r2, r3, r4⟩ := blk_five H0.out.1
        obtain ⟨k0, k1, k2, k3, k4, k5⟩ := blk_six H0.out.2.1
        have lR : R < w0.heap.size := by omega
        go_wp2_with fail
        refine Calls.mono (HOF.out _) ?_
        rintro r w2 ⟨x, rfl, hx1, hx2, hx3, ho2⟩
        have H2 : Hid (Only (fun _ => False) w w2 ∧ (FloatKind.f64.format.order x lo == some .gt) = false ∧ x < 18446744073709551616 ∧ Fl.bd x = (bd : Int)) := ⟨H0.out.2.2.trans ho2, hx2, hx1, hx3⟩
        clear r0 r1 r2 r3 r4 k0 k1 k2 k3 k4 k5 hx1 hx2 hx3
        obtain ⟨r0, r1, r2, r3, r4⟩ := blk_five (blk_keep ho2 H0.out.1)
        obtain ⟨k0, k1, k2, k3, k4, k5⟩ := blk_six (blk_keep ho2 H0.out.2.1)
        have lB2 : B < w2.heap.size := Nat.lt_of_lt_of_le lB0 ho2.size
        have lR2 : R < w2.heap.size := Nat.lt_of_lt_of_le lR ho2.size
        clear ho2
        go_wp2_with fail
        refine Calls.mono (HFT.out _ _ H2.out.2.1) ?_
        rintro r w3 ⟨rfl, hw3⟩
        have hw3 := hw3.symm
        subst hw3
        go_wp2_with fail
        refine Calls.mono (HBD.out _ _ H2.out.2.2.1 H2.out.2.2.2) ?_
        rintro r w4 ⟨rfl, hw4⟩
        have hw4 := hw4.symm
        subst hw4
        go_wp2_with fail
        refine Calls.mono (HH.out _) ?_
        rintro r w5 ⟨rfl, ho5⟩
        have H5 : Hid (Only (fun _ => False) w w5) := H2.out.1.trans ho5
        clear ho5
        go_wp2_with fail
        go_ret2
        exact ⟨by rw [HX.out]; first | rfl | (congr 4; omega), H5.out⟩
  · rw [if_neg h] at hrs
    have v1 : (wi : Int) < (ce : Int) := by omega
    have v1n : wi < ce := by omega
    have HX : Hid (rs = .tuple #[.int .i64 0, .bool false]) := hrs
    clear hrs h
    go_enter Try.func47, Try.ntmps47
    go_upto_region 1 with fail
    obtain ⟨R, B, w0, hw0, hB, hR, H0, lRB, lB, lB0⟩ := box56 w (.int .i64 (ce : Int)) (.int .i64 (ga : Int)) (.int .u8 (f : Int)) (.int .u8 (e : Int)) (.bool la) (.int .i64 (wi : Int)) (.int .i64 (t : Int)) (.int .u8 (mo : Int)) (.int .i64 (hy : Int)) (.int .i64 (pr : Int)) (.float .f64 lo) 86 35
    rw [hw0, hB, hR]
    clear hw0 hB hR
    obtain ⟨r0, r1, r2, r3, r4⟩ := blk_five H0.out.1
    obtain ⟨k0, k1, k2, k3, k4, k5⟩ := blk_six H0.out.2.1
    have lR : R < w0.heap.size := by omega
    go_wp2_with fail
    go_ret2
    exact ⟨by rw [HX.out]; rfl, H0.out.2.2⟩
end Go.Proofs.Ytdepjmneoplicaa
