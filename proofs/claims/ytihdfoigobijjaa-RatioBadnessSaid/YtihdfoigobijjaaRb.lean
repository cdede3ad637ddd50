/-
  stanzalaw12.RatioBadness: its walk.
-/
import Derived.Test.YtihdfoigobijjaaRf
namespace Go.Proofs.Ytihdfoigobijjaa
open Go.RowKit Go.Maps
set_option linter.unusedVariables false
set_option linter.unusedSimpArgs false
namespace ratioBadness
theorem rung_rung (x : Nat) : Fl.rung (Fl.rung x) = Fl.rung x ∧ Fl.rung x < 18446744073709551616 := by
  unfold Fl.rung
  omega
theorem bd_le (x : Nat) : 0 ≤ Fl.bd x ∧ Fl.bd x ≤ 10000 := by
  unfold Fl.bd
  have := Fl.bad_le (Fl.rung x)
  split <;> omega
theorem ab_cases (x y : Nat) : (∃ c, (c = .lt ∨ c = .eq) ∧ FloatKind.f64.format.order (Fl.rung x) (Fl.rung y) = some c ∧ Fl.bd x ≤ Fl.bd y) ∨ (∃ o, (o = none ∨ o = some .gt) ∧ FloatKind.f64.format.order (Fl.rung x) (Fl.rung y) = o) := by
  obtain ⟨rx, lx⟩ := rung_rung x
  obtain ⟨ry, ly⟩ := rung_rung y
  cases nx : Fl.nn x
  · cases ny : Fl.nn y
    · have hx := Fl.nn_f nx
      have hy := Fl.nn_f ny
      have e := Fl.order_low hx hy
      have m : Fl.rung x ≤ Fl.rung y → Fl.bd x ≤ Fl.bd y := by
        intro h
        unfold Fl.bd
        rw [nx, ny]
        have := Fl.bad_mono h hy
        simp
        exact this
      rw [e]
      generalize Fl.rung x = p at *
      generalize Fl.rung y = q at *
      rcases Nat.lt_trichotomy p q with g | g | g
      · exact Or.inl ⟨.lt, Or.inl rfl, by rw [Fl.cmp_l (by omega)], m (by omega)⟩
      · exact Or.inl ⟨.eq, Or.inr rfl, by rw [Fl.cmp_e (by omega)], m (by omega)⟩
      · exact Or.inr ⟨_, Or.inr rfl, by rw [Fl.cmp_g (by omega)]⟩
    · exact Or.inr ⟨_, Or.inl rfl, Fl.order_nan2 ly (by rw [ry]; exact Fl.nn_t ny)⟩
  · exact Or.inr ⟨_, Or.inl rfl, Fl.order_nan1 lx (by rw [rx]; exact Fl.nn_t nx)⟩
set_option maxRecDepth 100000 in
set_option maxHeartbeats 4000000 in
theorem walk (r : Nat) (room gaps : Int) (hr : r < 18446744073709551616) (h0 : -9223372036854775808 ≤ room ∧ room ≤ 9223372036854775807) (h1 : -9223372036854775808 ≤ gaps ∧ gaps ≤ 9223372036854775807) (w : World) : Calls Try.prog 6 #[.float .f64 r, .int .i64 room, .int .i64 gaps] w fun e w' => e = .returned (.bool true) ∧ Only (fun _ => False) w w' := by
  obtain ⟨i22, g22, g220, g221, g222⟩ := info_parts info22
  have HA : Hid (∀ w, Calls Try.prog 10 #[] w fun e w' => e = .returned (.bool true) ∧ Fl.Dr w w') := awake_any
  have HE : Hid (∀ w, Calls Try.prog 12 #[] w (edP w)) := edges_any
  have HO : Hid (∀ a b w, Calls Try.prog 11 #[.int .i64 a, .int .i64 b] w (Fl.P (Fl.ofN a b) w)) := of_any
  have HR : Hid (r < 18446744073709551616) := hr
  clear hr
  go_enter Try.func6, Try.ntmps6
  go_wp2_with fail
  refine Calls.mono (HA.out _) ?_
  rintro e w1 ⟨rfl, d1⟩
  have O1 : Hid (Only (fun _ => False) w w1) := d1.only
  clear d1
  go_wp2_with fail
  refine Calls.mono (HE.out _) ?_
  rintro e x1 ⟨g1, rfl, hw, ho⟩
  have E1 : Hid (x1.ownsRow w1.heap.size 22 1 (.slice (some ⟨g1, 0, none⟩) 23 23) 23 (fls eL) ∧ Only (fun _ => False) w1 x1) := ⟨hw, ho⟩
  have sz1 : w1.heap.size ≤ x1.heap.size := ho.size
  clear hw ho
  go_wp2_with fail
  refine Calls.mono (HO.out _ _ _) ?_
  rintro e v1 ⟨q, rfl, hq, _, d1⟩
  have E1n : Hid (v1.ownsRow w1.heap.size 22 1 (.slice (some ⟨g1, 0, none⟩) 23 23) 23 (fls eL) ∧ Only (fun _ => False) w1 v1) := ⟨own_only E1.out.1 d1.only (fun _ _ h => h), E1.out.2.trans d1.only⟩
  clear E1 sz1 d1
  have E1 := E1n
  have sz1 : w1.heap.size ≤ v1.heap.size := E1.out.2.size
  have HWD : Hid (∀ x, x = r ∨ x = q → x < 18446744073709551616) := by
    rintro x (rfl | rfl)
    · exact HR.out
    · exact hq
  clear E1n hq h0 h1
  have HS1 : (v1.alloc (.cells #[.float .f64 r, .float .f64 q] 22)).heap.size = v1.heap.size + 1 := by simp
  go_wp2_with (at_builtin; (refine wpList_append_lies _ rfl _ _ 25 rfl w1.heap.size 22 i22 (.float .f64 0) 1 8 Try.underlying25 g22 g220 g221 g222 rfl (by decide) (.slice (some ⟨g1, 0, none⟩) 23 23) 23 (fls eL) rfl (E1.out.1.alloc _) ⟨v1.heap.size, 0, none⟩ 2 2 (fls [r, q]) rfl rfl (news_fl v1 [r, q]) (fls_one _) (by decide) (by decide) (by decide) (by rw [HS1]; omega) (v1.heap.size + 1) HS1 ?_; intro y1 cap1 z1 hown5 hgrow5 hat5 hlt5; have H1 : Hid (Vw z1 (some ⟨y1, 0, none⟩) (fls (eL ++ [r, q])) ∧ Only (fun _ => False) w1 z1) := app_post E1.out.2 E1.out.1 hown5 hgrow5; clear hown5 hgrow5 hat5 hlt5))
  have HW1 : Hid (Wds (eL ++ [r, q])) := by
    intro x hx
    rcases List.mem_append.1 hx with h | h
    · exact eL_wds x h
    · exact HWD.out x (by simp at h ⊢; omega)
  have HL1 : Hid ((eL ++ [r, q]).length = 25) := rfl
  obtain ⟨Q1, hQ⟩ : ∃ Q, Q = eL ++ [r, q] := ⟨_, rfl⟩
  rw [← hQ] at H1 HW1 HL1
  clear hQ HS1 sz1
  clear HWD
  have HWD : Hid (∀ x, x = r → x < 18446744073709551616) := by
    rintro x rfl
    exact HR.out
  go_loopg [24] 25 (fun gh v wr => ∃ (k : Nat) (W : World), W = wr ∧ gh = 25 - k ∧ k ≤ 25 ∧ v = .int .i64 (k : Int) ∧ Only (fun _ => False) z1 W)
  case atStart => exact ⟨0, _, rfl, rfl, Nat.zero_le _, rfl, Only.refl _ _⟩
  case round =>
    obtain ⟨k, W, hW, rfl, hk, rfl, hoW⟩ := hrel
    subst hW
    have OW : Hid (Only (fun _ => False) z1 W) := hoW
    clear hoW
    by_cases hlt1 : k < 25
    · have t1 : (k : Int) < 25 := by omega
      obtain ⟨x, hx⟩ := get_some HL1.out.symm hlt1
      obtain ⟨bq, off, e5, c1⟩ := (H1.out.1.keep OW.out).fl hx
      have e6 : y1 = bq ∧ 0 = off := by injection e5 with h; injection h with h1 h2; exact ⟨h1, h2⟩
      obtain ⟨e7, e8⟩ := e6
      subst e7 e8
      rw [Nat.zero_add] at c1
      have Xx : Hid (x < 18446744073709551616) := HW1.out.get hx
      clear e5 hx
      have B1 : Hid (∀ w, Calls Try.prog 21 #[.float .f64 x] w fun e w' => e = .returned (.int .i64 (Fl.bd x)) ∧ w = w') := badness_any x Xx.out
      have B2 : Hid (∀ w, Calls Try.prog 22 #[.float .f64 x] w fun e w' => e = .returned (.int .i64 (Fl.bd x)) ∧ w = w') := refBad_any x Xx.out
      have B3 : Hid (∀ w, Calls Try.prog 21 #[.float .f64 (Fl.ng x)] w fun e w' => e = .returned (.int .i64 (Fl.bd x)) ∧ w = w') := bad_at _ _ (Fl.ng_lt Xx.out) Fl.bd_ng
      have AX : Hid (∀ w, Calls Try.prog 23 #[.float .f64 x] w fun e w' => e = .returned (.float .f64 (Fl.rung x)) ∧ w = w') := abs_any x Xx.out
      have NG := Fl.ng_run x
      have CA : Hid (∀ y, _) := fun y => ab_cases x y
      obtain ⟨n1, n2⟩ := bd_le x
      generalize Fl.bd x = n at *
      generalize Fl.ng x = nx at *
      have u1 : decide (n < 0) = false := decide_eq_false (by omega)
      have u2 : decide (10000 < n) = false := decide_eq_false (by omega)
      go_wp2_with fail
      refine Calls.mono (B1.out _) ?_
      rintro e v ⟨rfl, rfl⟩
      go_wp2_with fail
      refine Calls.mono (B2.out _) ?_
      rintro e v ⟨rfl, rfl⟩
      go_wp2_with fail
      refine Calls.mono (B3.out _) ?_
      rintro e v ⟨rfl, rfl⟩
      go_wp2_with fail
      refine Calls.mono (HE.out _) ?_
      rintro e x2 ⟨g2, rfl, hw, ho⟩
      have E2 : Hid (x2.ownsRow W.heap.size 22 1 (.slice (some ⟨g2, 0, none⟩) 23 23) 23 (fls eL) ∧ Only (fun _ => False) W x2) := ⟨hw, ho⟩
      have sz2 : W.heap.size ≤ x2.heap.size := ho.size
      clear hw ho
      have HS2 : (x2.alloc (.cells #[.float .f64 r] 22)).heap.size = x2.heap.size + 1 := by simp
      go_wp2_with (at_builtin; (refine wpList_append_lies _ rfl _ _ 25 rfl W.heap.size 22 i22 (.float .f64 0) 1 8 Try.underlying25 g22 g220 g221 g222 rfl (by decide) (.slice (some ⟨g2, 0, none⟩) 23 23) 23 (fls eL) rfl (E2.out.1.alloc _) ⟨x2.heap.size, 0, none⟩ 1 1 (fls [r]) rfl rfl (news_fl x2 [r]) (fls_one _) (by decide) (by decide) (by decide) (by rw [HS2]; omega) (x2.heap.size + 1) HS2 ?_; intro y2 cap2 z2 hown5 hgrow5 hat5 hlt5; have H2 : Hid (Vw z2 (some ⟨y2, 0, none⟩) (fls (eL ++ [r])) ∧ Only (fun _ => False) W z2) := app_post E2.out.2 E2.out.1 hown5 hgrow5; clear hown5 hgrow5 hat5 hlt5))
      have HW2 : Hid (Wds (eL ++ [r])) := by
        intro x hx
        rcases List.mem_append.1 hx with h | h
        · exact eL_wds x h
        · exact HWD.out x (by simp at h ⊢; omega)
      have HL2 : Hid ((eL ++ [r]).length = 24) := rfl
      obtain ⟨Q2, hQ⟩ : ∃ Q, Q = eL ++ [r] := ⟨_, rfl⟩
      rw [← hQ] at H2 HW2 HL2
      clear hQ HS2 sz2
      go_loopg [54] 24 (fun gh v wr => ∃ (j : Nat), gh = 24 - j ∧ j ≤ 24 ∧ v = .int .i64 (j : Int) ∧ wr = z2)
      case atStart => exact ⟨0, rfl, Nat.zero_le _, rfl, rfl⟩
      case round =>
        obtain ⟨j, rfl, hj, rfl, rfl⟩ := hrel
        by_cases hlt2 : j < 24
        · have t2 : (j : Int) < 24 := by omega
          obtain ⟨y, hx⟩ := get_some HL2.out.symm hlt2
          obtain ⟨bq, off, e5, c2⟩ := (H2.out.1.keep (Only.refl _ _)).fl hx
          have e6 : y2 = bq ∧ 0 = off := by injection e5 with h; injection h with h1 h2; exact ⟨h1, h2⟩
          obtain ⟨e7, e8⟩ := e6
          subst e7 e8
          rw [Nat.zero_add] at c2
          have Xy : Hid (y < 18446744073709551616) := HW2.out.get hx
          clear e5 hx
          have AY : Hid (∀ w, Calls Try.prog 23 #[.float .f64 y] w fun e w' => e = .returned (.float .f64 (Fl.rung y)) ∧ w = w') := abs_any y Xy.out
          have BY : Hid (∀ w, Calls Try.prog 21 #[.float .f64 y] w fun e w' => e = .returned (.int .i64 (Fl.bd y)) ∧ w = w') := badness_any y Xy.out
          rcases CA.out y with ⟨c, hc, ho, hle⟩ | ⟨o, hc, ho⟩
          · generalize Fl.bd y = m at *
            generalize Fl.rung y = ry at *
            have u3 : decide (m < n) = false := decide_eq_false (by omega)
            rcases hc with rfl | rfl
            all_goals
              go_wp2_with fail
              refine Calls.mono (AX.out _) ?_
              rintro e v ⟨rfl, rfl⟩
              go_wp2_with fail
              refine Calls.mono (AY.out _) ?_
              rintro e v ⟨rfl, rfl⟩
              go_wp2_with fail
              refine Calls.mono (BY.out _) ?_
              rintro e v ⟨rfl, rfl⟩
              go_wp2_with fail
              go_roundg (24 - (j + 1))
              case measure => omega
              case rel => exact ⟨j + 1, rfl, hlt2, by go_num, rfl⟩
          · generalize Fl.rung y = ry at *
            rcases hc with rfl | rfl
            all_goals
              go_wp2_with fail
              refine Calls.mono (AX.out _) ?_
              rintro e v ⟨rfl, rfl⟩
              go_wp2_with fail
              refine Calls.mono (AY.out _) ?_
              rintro e v ⟨rfl, rfl⟩
              go_wp2_with fail
              go_roundg (24 - (j + 1))
              case measure => omega
              case rel => exact ⟨j + 1, rfl, hlt2, by go_num, rfl⟩
        · have t3 : decide ((j : Int) < 24) = false := decide_eq_false (by omega)
          go_wp2_with fail
          go_roundg (25 - (k + 1))
          case measure => omega
          case rel => exact ⟨k + 1, _, rfl, rfl, hlt1, by go_num, OW.out.trans H2.out.2⟩
    · have t2 : decide ((k : Int) < 25) = false := decide_eq_false (by omega)
      go_wp2_with fail
      go_ret
      exact ⟨rfl, (O1.out.trans H1.out.2).trans OW.out⟩
end ratioBadness
end Go.Proofs.Ytihdfoigobijjaa
