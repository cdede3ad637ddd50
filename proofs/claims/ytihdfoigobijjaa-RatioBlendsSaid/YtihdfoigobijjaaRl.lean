/-
  stanzalaw12.RatioBlends: its walk.
-/
import Derived.Test.YtihdfoigobijjaaRf
namespace Go.Proofs.Ytihdfoigobijjaa
open Go.RowKit Go.Maps
set_option linter.unusedVariables false
set_option linter.unusedSimpArgs false
namespace ratioBlends
set_option maxRecDepth 100000 in
set_option maxHeartbeats 4000000 in
theorem walk (a b t : Nat) (ha : a < 18446744073709551616) (hb : b < 18446744073709551616) (ht : t < 18446744073709551616) (w : World) : Calls Try.prog 8 #[.float .f64 a, .float .f64 b, .float .f64 t] w fun e w' => e = .returned (.bool true) ∧ Only (fun _ => False) w w' := by
  obtain ⟨i22, g22, g220, g221, g222⟩ := info_parts info22
  have HA : Hid (∀ w, Calls Try.prog 10 #[] w fun e w' => e = .returned (.bool true) ∧ Fl.Dr w w') := awake_any
  have HE : Hid (∀ w, Calls Try.prog 12 #[] w (edP w)) := edges_any
  have HWD : Hid (∀ x, x = t → x < 18446744073709551616) := by
    rintro x rfl
    exact ht
  have HX : Hid (a < 18446744073709551616 ∧ b < 18446744073709551616) := ⟨ha, hb⟩
  have HB : Hid (∀ x, x < 18446744073709551616 → ∀ w, Calls Try.prog 26 #[.float .f64 a, .float .f64 b, .float .f64 x] w (Fl.P (Fl.bl a b x) w)) := fun x hx w => blend_any a b x ha hb hx w
  have HR : Hid (∀ x, x < 18446744073709551616 → ∀ w, Calls Try.prog 27 #[.float .f64 a, .float .f64 b, .float .f64 x] w (Fl.P (Fl.bl a b x) w)) := fun x hx w => refBlend_any a b x ha hb hx w
  have HS : Hid (∀ x y, x < 18446744073709551616 → y < 18446744073709551616 → Fl.Sm x y → ∀ w, Calls Try.prog 14 #[.float .f64 x, .float .f64 y] w fun e w' => e = .returned (.bool true) ∧ ∃ n, w' = w.drewN n) := by
    intro x y hx hy h w
    have := same_any x y hx hy w
    rw [Fl.sm_of h] at this
    exact this
  have HC : Hid (∀ w, Calls Try.prog 18 #[.float .f64 0, .float .f64 13830554455654793216] w fun e w' => e = .returned (.float .f64 9223372036854775808) ∧ ∃ n, w' = w.drewN n) := copysign_any
  have K1 : Hid (Fl.bl a b 0 = a) := by
    show Fl.bl a b 0 = a
    unfold Fl.bl
    exact if_pos (by decide +kernel)
  have K2 : Hid (Fl.bl a b 9223372036854775808 = a) := by
    show Fl.bl a b 9223372036854775808 = a
    unfold Fl.bl
    exact if_pos (by decide +kernel)
  have K3 : Hid (Fl.bl a b 4607182418800017408 = b) := by
    show Fl.bl a b 4607182418800017408 = b
    unfold Fl.bl
    rw [if_neg (by decide +kernel)]
    exact if_pos (by decide +kernel)
  clear ha hb ht
  go_enter Try.func8, Try.ntmps8
  go_wp2_with fail
  refine Calls.mono (HA.out _) ?_
  rintro e w1 ⟨rfl, d1⟩
  have O1 : Hid (Only (fun _ => False) w w1) := d1.only
  clear d1
  go_wp2_with fail
  refine Calls.mono (HE.out _) ?_
  rintro e x1 ⟨g1, rfl, hw, ho⟩
  have E1 : Hid (x1.ownsRow w1.heap.size 22 1 (.slice (some ⟨g1, 0, none⟩) 23 23) 23 (fls eL) ∧ Only (fun _ => False) w1 x1) := ⟨hw, ho⟩
  have sz1 : w1.heap.size ≤ x1.heap.size := ho.size
  clear hw ho
  have HS1 : (x1.alloc (.cells #[.float .f64 t] 22)).heap.size = x1.heap.size + 1 := by simp
  go_wp2_with (at_builtin; (refine wpList_append_lies _ rfl _ _ 25 rfl w1.heap.size 22 i22 (.float .f64 0) 1 8 Try.underlying25 g22 g220 g221 g222 rfl (by decide) (.slice (some ⟨g1, 0, none⟩) 23 23) 23 (fls eL) rfl (E1.out.1.alloc _) ⟨x1.heap.size, 0, none⟩ 1 1 (fls [t]) rfl rfl (news_fl x1 [t]) (fls_one _) (by decide) (by decide) (by decide) (by rw [HS1]; omega) (x1.heap.size + 1) HS1 ?_; intro y1 cap1 z1 hown5 hgrow5 hat5 hlt5; have H1 : Hid (Vw z1 (some ⟨y1, 0, none⟩) (fls (eL ++ [t])) ∧ Only (fun _ => False) w1 z1) := app_post E1.out.2 E1.out.1 hown5 hgrow5; clear hown5 hgrow5 hat5 hlt5))
  have HW1 : Hid (Wds (eL ++ [t])) := by
    intro x hx
    rcases List.mem_append.1 hx with h | h
    · exact eL_wds x h
    · exact HWD.out x (by simp at h ⊢; omega)
  have HL1 : Hid ((eL ++ [t]).length = 24) := rfl
  obtain ⟨Q1, hQ⟩ : ∃ Q, Q = eL ++ [t] := ⟨_, rfl⟩
  rw [← hQ] at H1 HW1 HL1
  clear hQ HS1 sz1
  go_loopg [16] 24 (fun gh v wr => ∃ (k m : Nat), gh = 24 - k ∧ k ≤ 24 ∧ v = .int .i64 (k : Int) ∧ wr = z1.drewN m)
  case atStart => exact ⟨0, 0, rfl, Nat.zero_le _, rfl, rfl⟩
  case round =>
    obtain ⟨k, m, rfl, hk, rfl, rfl⟩ := hrel
    by_cases hlt1 : k < 24
    · have t1 : (k : Int) < 24 := by omega
      obtain ⟨x, hx⟩ := get_some HL1.out.symm hlt1
      obtain ⟨bq, off, e5, c1⟩ := (H1.out.1.keep (Only.refl _ _)).fl hx
      have e6 : y1 = bq ∧ 0 = off := by injection e5 with h; injection h with h1 h2; exact ⟨h1, h2⟩
      obtain ⟨e7, e8⟩ := e6
      subst e7 e8
      rw [Nat.zero_add] at c1
      have Xx : Hid (x < 18446744073709551616) := HW1.out.get hx
      clear e5 hx
      go_wp2_with fail
      refine Calls.mono (HB.out x Xx.out _) ?_
      rintro e v1 ⟨p, rfl, lp, sp, d1⟩
      have D1 : Hid (p < 18446744073709551616 ∧ Fl.Sm p (Fl.bl a b x) ∧ Fl.Dr z1 v1) := ⟨lp, sp, Fl.Dr.trans ⟨m, rfl⟩ d1⟩
      clear lp sp d1
      go_wp2_with fail
      refine Calls.mono (HR.out x Xx.out _) ?_
      rintro e v2 ⟨q, rfl, lq, sq, d2⟩
      have D2 : Hid (q < 18446744073709551616 ∧ Fl.Sm p q ∧ Fl.Dr z1 v2) := ⟨lq, D1.out.2.1.trans sq.symm, D1.out.2.2.trans d2⟩
      clear lq sq d2
      go_wp2_with fail
      refine Calls.mono (HS.out p q D1.out.1 D2.out.1 D2.out.2.1 _) ?_
      rintro e v3 ⟨rfl, d3⟩
      obtain ⟨m3, e3⟩ := D2.out.2.2.trans d3
      have E4 : Hid (v3 = z1.drewN m3) := e3
      clear d3 e3
      go_wp2_with fail
      go_roundg (24 - (k + 1))
      case measure => omega
      case rel => exact ⟨k + 1, m3, rfl, hlt1, by go_num, E4.out⟩
    · have t2 : decide ((k : Int) < 24) = false := decide_eq_false (by omega)
      go_wp2_with fail
      refine Calls.mono (HB.out 0 (by decide) _) ?_
      rintro e v1 ⟨p, rfl, lp, sp, d1⟩
      have D1 : Hid (p < 18446744073709551616 ∧ Fl.Sm p a ∧ Fl.Dr z1 v1) := ⟨lp, by rw [K1.out] at sp; exact sp, Fl.Dr.trans ⟨m, rfl⟩ d1⟩
      clear lp sp d1
      go_wp2_with fail
      refine Calls.mono (HS.out p a D1.out.1 HX.out.1 D1.out.2.1 _) ?_
      rintro e v2 ⟨rfl, d2⟩
      have D2 : Hid (Fl.Dr z1 v2) := D1.out.2.2.trans d2
      clear d2
      go_wp2_with fail
      refine Calls.mono (HC.out _) ?_
      rintro e v3 ⟨rfl, d3⟩
      have D3 : Hid (Fl.Dr z1 v3) := D2.out.trans d3
      clear d3
      go_wp2_with fail
      refine Calls.mono (HB.out 9223372036854775808 (by decide) _) ?_
      rintro e v4 ⟨p2, rfl, lp, sp, d4⟩
      have D4 : Hid (p2 < 18446744073709551616 ∧ Fl.Sm p2 a ∧ Fl.Dr z1 v4) := ⟨lp, by rw [K2.out] at sp; exact sp, D3.out.trans d4⟩
      clear lp sp d4
      go_wp2_with fail
      refine Calls.mono (HS.out p2 a D4.out.1 HX.out.1 D4.out.2.1 _) ?_
      rintro e v5 ⟨rfl, d5⟩
      have D5 : Hid (Fl.Dr z1 v5) := D4.out.2.2.trans d5
      clear d5
      go_wp2_with fail
      refine Calls.mono (HB.out 4607182418800017408 (by decide) _) ?_
      rintro e v6 ⟨p3, rfl, lp, sp, d6⟩
      have D6 : Hid (p3 < 18446744073709551616 ∧ Fl.Sm p3 b ∧ Fl.Dr z1 v6) := ⟨lp, by rw [K3.out] at sp; exact sp, D5.out.trans d6⟩
      clear lp sp d6
      go_wp2_with fail
      refine Calls.mono (HS.out p3 b D6.out.1 HX.out.2 D6.out.2.1 _) ?_
      rintro e v7 ⟨rfl, d7⟩
      have D7 : Hid (Fl.Dr z1 v7) := D6.out.2.2.trans d7
      clear d7
      go_wp2_with fail
      go_ret
      exact ⟨rfl, (O1.out.trans H1.out.2).trans D7.out.only⟩
end ratioBlends
end Go.Proofs.Ytihdfoigobijjaa
