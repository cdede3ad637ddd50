/-
  Layer 12: Round, both ways.
-/
import Derived.Test.YtihdfoigobijjaaBr
namespace Go.Proofs.Ytihdfoigobijjaa
open Go.RowKit Go.Maps
set_option linter.unusedVariables false
set_option linter.unusedSimpArgs false
namespace Fl
/-- the whole number nearest to it. -/
def wh (x : Nat) : Int := ((Ieee.double.read (Ieee.double.write ((Ieee.double.read x).integral .even))).toInt .zero).getD 0
def rn (x : Nat) : Int := if nn x then 0 else if key 4746794007244308480 ≤ key x then 2147483647 else if key x ≤ key 13970166044103278592 then -2147483648 else wh x
theorem k_max : key 4746794007244308480 = 4746794007244308480 := by decide
theorem k_min : key 13970166044103278592 = -4746794007248502784 := by decide
theorem k_half : key 4602678819172646912 = 4602678819172646912 := by decide
theorem mid_rung {x : Nat} (h1 : ¬ key 4746794007244308480 ≤ key x) (h2 : ¬ key x ≤ key 13970166044103278592) : rung x < big := by
  rw [k_max] at h1
  rw [k_min] at h2
  have hb : big = 4746794007248502784 := rfl
  rw [hb]
  have kx : key x = if neg x then -(rung x : Int) else rung x := rfl
  rw [kx] at h1 h2
  generalize rung x = r at *
  cases hn : neg x <;> rw [hn] at h1 h2 <;> simp at h1 h2 <;> omega
theorem ord_at {x y : Nat} (hx : x < 18446744073709551616) (hy : y < 18446744073709551616) (nx : rung x ≤ inf) (ny : rung y ≤ inf) :
    (key x < key y → FloatKind.f64.format.order x y = some .lt) ∧ (key x = key y → FloatKind.f64.format.order x y = some .eq) ∧ (key y < key x → FloatKind.f64.format.order x y = some .gt) := by
  have e : FloatKind.f64.format.order x y = some (compare (key x) (key y)) := order_key hx hy nx ny
  rw [e]
  generalize key x = p
  generalize key y = q
  refine ⟨fun h => by rw [cmp_l h], fun h => by rw [cmp_e h], fun h => by rw [cmp_g h]⟩
end Fl
theorem toI_num (nm : String) (way : Ieee.Toward) (x : Nat) {s : Bool} {m : Nat} {i : Int} (hd : FloatKind.f64.decode x = .number s m i) : Extern.MathFloor.toIntegral nm way #[.float .f64 x] = pure (.float .f64 (FloatKind.f64.encode ((Ieee.Datum.number s m i).integral way))) := by
  delta Extern.MathFloor.toIntegral
  conv => lhs; whnf
  rw [hd]
theorem toI_inf (nm : String) (way : Ieee.Toward) (x : Nat) {s : Bool} (hd : FloatKind.f64.decode x = .infinity s) : Extern.MathFloor.toIntegral nm way #[.float .f64 x] = pure (.float .f64 (FloatKind.f64.encode ((Ieee.Datum.infinity s).integral way))) := by
  delta Extern.MathFloor.toIntegral
  conv => lhs; whnf
  rw [hd]
theorem even_run (x : Nat) (hx : x < 18446744073709551616) (h : Fl.rung x ≤ Fl.inf) : ∀ w : World, (callFunc 39 #[.float .f64 x]).run Try.prog w = .ok (.value (.float .f64 (Ieee.double.write ((Ieee.double.read x).integral .even)))) w := by
  intro w
  rw [run_callFunc_extern Try.func39 (by kernel_rfl) (by kernel_rfl) (by kernel_rfl) (e := Extern.MathFloor.toIntegral "math.RoundToEven" .even) (by kernel_rfl)]
  rcases Nat.lt_or_ge (Fl.rung x) Fl.inf with g | g
  · obtain ⟨m, k, e, -⟩ := Fl.read_fin hx g
    rw [toI_num _ _ x e, e]; rfl
  · have e := Fl.read_inf hx (Nat.le_antisymm h g)
    rw [toI_inf _ _ x e, e]; rfl
theorem down_run (x : Nat) (hx : x < 18446744073709551616) (h : Fl.rung x ≤ Fl.inf) : ∀ w : World, (callFunc 41 #[.float .f64 x]).run Try.prog w = .ok (.value (.float .f64 (Ieee.double.write ((Ieee.double.read x).integral .down)))) w := by
  intro w
  rw [run_callFunc_extern Try.func41 (by kernel_rfl) (by kernel_rfl) (by kernel_rfl) (e := Extern.MathFloor.toIntegral "math.archFloor" .down) (by kernel_rfl)]
  rcases Nat.lt_or_ge (Fl.rung x) Fl.inf with g | g
  · obtain ⟨m, k, e, -⟩ := Fl.read_fin hx g
    rw [toI_num _ _ x e, e]; rfl
  · have e := Fl.read_inf hx (Nat.le_antisymm h g)
    rw [toI_inf _ _ x e, e]; rfl
set_option maxRecDepth 100000 in
set_option maxHeartbeats 2000000 in
theorem floor_any (x : Nat) (hx : x < 18446744073709551616) (h : Fl.rung x ≤ Fl.inf) (w : World) : Calls Try.prog 40 #[.float .f64 x] w fun e w' => e = .returned (.float .f64 (Ieee.double.write ((Ieee.double.read x).integral .down))) ∧ w = w' := by
  have H := down_run x hx h
  generalize Ieee.double.write ((Ieee.double.read x).integral .down) = r at *
  go_enter Try.func40, Try.ntmps40
  go_wp2_with fail
  go_ret
  exact ⟨rfl, rfl⟩
theorem conv_int {z : Nat} {n : Int} (h : (Ieee.double.read z).toInt .zero = some n) (h1 : -2147483648 ≤ n) (h2 : n ≤ 2147483648) : ∀ W, (convert 22 3 (.float .f64 z)).run Try.prog W = .ok (.int .i64 n) W := by
  intro W
  refine run_convert_float_int W 22 3 .f64 .i64 z _ (by kernel_rfl) (by kernel_rfl) ?_
  unfold floatToIntVal
  have e : (FloatKind.f64.decode z).toInt .zero = some n := h
  rw [e]
  have m1 : IntKind.i64.min = -9223372036854775808 := by decide
  have m2 : IntKind.i64.max = 9223372036854775807 := by decide
  rw [m1, m2]
  exact if_pos (by omega)
set_option maxRecDepth 100000 in
set_option maxHeartbeats 2000000 in
theorem round_any (x : Nat) (hx : x < 18446744073709551616) (w : World) : Calls Try.prog 24 #[.float .f64 x] w fun e w' => e = .returned (.int .i64 (Fl.rn x)) ∧ w = w' := by
  have HN : Hid (∀ w, Calls Try.prog 31 #[.float .f64 x] w fun e w' => e = .returned (.bool (Fl.nn x)) ∧ w = w') := isNaN_any x hx
  unfold Fl.rn
  cases c : Fl.nn x
  · rw [c] at HN
    have l := Fl.nn_f c
    clear c
    obtain ⟨a1, a2, a3⟩ := Fl.ord_at hx (y := 4746794007244308480) (by decide) l (by decide)
    obtain ⟨b1, b2, b3⟩ := Fl.ord_at hx (y := 13970166044103278592) (by decide) l (by decide)
    rw [if_neg (by decide)]
    by_cases h1 : Fl.key 4746794007244308480 ≤ Fl.key x
    · rw [if_pos h1]
      rcases Int.lt_or_eq_of_le h1 with g | g
      · have e := a3 g
        clear a1 a2 a3 b1 b2 b3 h1 g hx l
        go_enter Try.func24, Try.ntmps24
        go_wp2_with fail
        refine Calls.mono (HN.out _) ?_
        rintro e w1 ⟨rfl, rfl⟩
        go_wp2_with fail
        go_ret
        exact ⟨rfl, rfl⟩
      · have e := a2 g.symm
        clear a1 a2 a3 b1 b2 b3 h1 g hx l
        go_enter Try.func24, Try.ntmps24
        go_wp2_with fail
        refine Calls.mono (HN.out _) ?_
        rintro e w1 ⟨rfl, rfl⟩
        go_wp2_with fail
        go_ret
        exact ⟨rfl, rfl⟩
    · rw [if_neg h1]
      have e := a1 (Int.lt_of_not_ge h1)
      by_cases h2 : Fl.key x ≤ Fl.key 13970166044103278592
      · rw [if_pos h2]
        rcases Int.lt_or_eq_of_le h2 with g | g
        · have e2 := b1 g
          clear a1 a2 a3 b1 b2 b3 h1 h2 g hx l
          go_enter Try.func24, Try.ntmps24
          go_wp2_with fail
          refine Calls.mono (HN.out _) ?_
          rintro e w1 ⟨rfl, rfl⟩
          go_wp2_with fail
          go_ret
          exact ⟨rfl, rfl⟩
        · have e2 := b2 g
          clear a1 a2 a3 b1 b2 b3 h1 h2 g hx l
          go_enter Try.func24, Try.ntmps24
          go_wp2_with fail
          refine Calls.mono (HN.out _) ?_
          rintro e w1 ⟨rfl, rfl⟩
          go_wp2_with fail
          go_ret
          exact ⟨rfl, rfl⟩
      · rw [if_neg h2]
        have e2 := b3 (Int.lt_of_not_ge h2)
        obtain ⟨A, n, p, E1, -, -, -, -, -, -, l1, l2, -, -⟩ := Fl.round_fin hx (Fl.mid_rung h1 h2)
        have hw : Fl.wh x = A := by unfold Fl.wh; rw [E1]; rfl
        have hc := conv_int E1 l1 l2
        have he := even_run x hx l
        rw [hw]
        clear a1 a2 a3 b1 b2 b3 h1 h2 hx l E1 hw
        generalize Ieee.double.write ((Ieee.double.read x).integral .even) = r at *
        go_enter Try.func24, Try.ntmps24
        go_wp2_with fail
        refine Calls.mono (HN.out _) ?_
        rintro e w1 ⟨rfl, rfl⟩
        go_wp2_with fail
        go_ret
        exact ⟨rfl, rfl⟩
  · rw [c] at HN
    clear c hx
    rw [if_pos (by decide)]
    go_enter Try.func24, Try.ntmps24
    go_wp2_with fail
    refine Calls.mono (HN.out _) ?_
    rintro e w1 ⟨rfl, rfl⟩
    go_wp2_with fail
    go_ret
    exact ⟨rfl, rfl⟩
set_option maxRecDepth 100000 in
set_option maxHeartbeats 2000000 in
theorem refRound_any (x : Nat) (hx : x < 18446744073709551616) (w : World) : Calls Try.prog 25 #[.float .f64 x] w fun e w' => e = .returned (.int .i64 (Fl.rn x)) ∧ w = w' := by
  have HN : Hid (∀ w, Calls Try.prog 32 #[.float .f64 x] w fun e w' => e = .returned (.bool (Fl.nn x)) ∧ w = w') := none_any x hx
  unfold Fl.rn
  cases c : Fl.nn x
  · rw [c] at HN
    have l := Fl.nn_f c
    clear c
    obtain ⟨a1, a2, a3⟩ := Fl.ord_at hx (y := 4746794007244308480) (by decide) l (by decide)
    obtain ⟨b1, b2, b3⟩ := Fl.ord_at hx (y := 13970166044103278592) (by decide) l (by decide)
    rw [if_neg (by decide)]
    by_cases h1 : Fl.key 4746794007244308480 ≤ Fl.key x
    · rw [if_pos h1]
      rcases Int.lt_or_eq_of_le h1 with g | g
      · have e := a3 g
        clear a1 a2 a3 b1 b2 b3 h1 g hx l
        go_enter Try.func25, Try.ntmps25
        go_wp2_with fail
        refine Calls.mono (HN.out _) ?_
        rintro e w1 ⟨rfl, rfl⟩
        go_wp2_with fail
        go_ret
        exact ⟨rfl, rfl⟩
      · have e := a2 g.symm
        clear a1 a2 a3 b1 b2 b3 h1 g hx l
        go_enter Try.func25, Try.ntmps25
        go_wp2_with fail
        refine Calls.mono (HN.out _) ?_
        rintro e w1 ⟨rfl, rfl⟩
        go_wp2_with fail
        go_ret
        exact ⟨rfl, rfl⟩
    · rw [if_neg h1]
      have e := a1 (Int.lt_of_not_ge h1)
      by_cases h2 : Fl.key x ≤ Fl.key 13970166044103278592
      · rw [if_pos h2]
        rcases Int.lt_or_eq_of_le h2 with g | g
        · have e2 := b1 g
          clear a1 a2 a3 b1 b2 b3 h1 h2 g hx l
          go_enter Try.func25, Try.ntmps25
          go_wp2_with fail
          refine Calls.mono (HN.out _) ?_
          rintro e w1 ⟨rfl, rfl⟩
          go_wp2_with fail
          go_ret
          exact ⟨rfl, rfl⟩
        · have e2 := b2 g
          clear a1 a2 a3 b1 b2 b3 h1 h2 g hx l
          go_enter Try.func25, Try.ntmps25
          go_wp2_with fail
          refine Calls.mono (HN.out _) ?_
          rintro e w1 ⟨rfl, rfl⟩
          go_wp2_with fail
          go_ret
          exact ⟨rfl, rfl⟩
      · rw [if_neg h2]
        have e2 := b3 (Int.lt_of_not_ge h2)
        obtain ⟨A, n, p, E1, E2, E3, lp, np, n1, n2, l1, l2, yes, no⟩ := Fl.round_fin hx (Fl.mid_rung h1 h2)
        have hw : Fl.wh x = A := by unfold Fl.wh; rw [E1]; rfl
        have hc := conv_int E2 n1 n2
        have hf : Hid (∀ w, Calls Try.prog 40 #[.float .f64 x] w fun e w' => e = .returned (.float .f64 (Ieee.double.write ((Ieee.double.read x).integral .down))) ∧ w = w') := floor_any x hx l
        obtain ⟨c1, c2, c3⟩ := Fl.ord_at lp (y := 4602678819172646912) (by decide) np (by decide)
        have hs : ∀ W, (binOp .sub 22 (.float .f64 x) (.float .f64 (floatOfInt .f64 n))).run Try.prog W = .ok (.float .f64 p) W := fun W => run_float_arith W .sub 22 .f64 x _ p E3
        rw [hw]
        clear a1 a2 a3 b1 b2 b3 h1 h2 hx l E1 E2 E3 hw
        generalize Ieee.double.write ((Ieee.double.read x).integral .down) = r at *
        unfold Fl.half at yes no
        rcases Int.lt_trichotomy (Fl.key p) (Fl.key 4602678819172646912) with g | g | g
        · have e3 := c1 g
          have eA := no (by omega)
          rw [eA]
          clear c1 c2 c3 yes no g eA lp np
          go_enter Try.func25, Try.ntmps25
          go_wp2_with fail
          refine Calls.mono (HN.out _) ?_
          rintro e w1 ⟨rfl, rfl⟩
          go_wp2_with fail
          refine Calls.mono (hf.out _) ?_
          rintro e w1 ⟨rfl, rfl⟩
          go_wp2_with fail
          go_ret
          exact ⟨rfl, rfl⟩
        · have e3 := c2 g
          by_cases h2 : n % 2 = 0
          · have eA := no (by omega)
            rw [eA]
            have q0 : n.tmod 2 = 0 := Int.tmod_eq_zero_of_dvd (Int.dvd_of_emod_eq_zero h2)
            clear c1 c2 c3 yes no g eA lp np h2
            go_enter Try.func25, Try.ntmps25
            go_wp2_with fail
            refine Calls.mono (HN.out _) ?_
            rintro e w1 ⟨rfl, rfl⟩
            go_wp2_with fail
            refine Calls.mono (hf.out _) ?_
            rintro e w1 ⟨rfl, rfl⟩
            go_wp2_with fail
            go_ret
            exact ⟨rfl, rfl⟩
          · have eA := yes (Or.inr ⟨g, h2⟩)
            rw [eA]
            obtain ⟨q, hq⟩ : ∃ q, n.tmod 2 = q := ⟨_, rfl⟩
            have q0 : ¬ q = 0 := fun z => h2 (Int.emod_eq_zero_of_dvd (Int.dvd_of_tmod_eq_zero (hq.trans z)))
            have q1 : (q != 0) = true := by simpa using q0
            clear c1 c2 c3 yes no g eA lp np h2
            go_enter Try.func25, Try.ntmps25
            go_wp2_with fail
            refine Calls.mono (HN.out _) ?_
            rintro e w1 ⟨rfl, rfl⟩
            go_wp2_with fail
            refine Calls.mono (hf.out _) ?_
            rintro e w1 ⟨rfl, rfl⟩
            go_wp2_with fail
            go_ret
            exact ⟨rfl, rfl⟩
        · have e3 := c3 g
          have eA := yes (Or.inl g)
          rw [eA]
          clear c1 c2 c3 yes no g eA lp np
          go_enter Try.func25, Try.ntmps25
          go_wp2_with fail
          refine Calls.mono (HN.out _) ?_
          rintro e w1 ⟨rfl, rfl⟩
          go_wp2_with fail
          refine Calls.mono (hf.out _) ?_
          rintro e w1 ⟨rfl, rfl⟩
          go_wp2_with fail
          go_ret
          exact ⟨rfl, rfl⟩
  · rw [c] at HN
    clear c hx
    rw [if_pos (by decide)]
    go_enter Try.func25, Try.ntmps25
    go_wp2_with fail
    refine Calls.mono (HN.out _) ?_
    rintro e w1 ⟨rfl, rfl⟩
    go_wp2_with fail
    go_ret
    exact ⟨rfl, rfl⟩
end Go.Proofs.Ytihdfoigobijjaa
