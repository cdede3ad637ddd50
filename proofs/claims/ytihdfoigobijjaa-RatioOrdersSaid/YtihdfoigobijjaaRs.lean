/-
  stanzalaw12.RatioOrders: its walk.
-/
import Derived.Test.YtihdfoigobijjaaRf
namespace Go.Proofs.Ytihdfoigobijjaa
open Go.RowKit Go.Maps
set_option linter.unusedVariables false
set_option linter.unusedSimpArgs false
namespace ratioOrders
set_option maxRecDepth 100000 in
set_option maxHeartbeats 4000000 in
theorem walk (a b : Nat) (ha : a < 18446744073709551616) (hb : b < 18446744073709551616) (w : World) : Calls Try.prog 4 #[.float .f64 a, .float .f64 b] w fun e w' => e = .returned (.bool true) ∧ Only (fun _ => False) w w' := by
  obtain ⟨i22, g22, g220, g221, g222⟩ := info_parts info22
  have HA : Hid (∀ w, Calls Try.prog 10 #[] w fun e w' => e = .returned (.bool true) ∧ Fl.Dr w w') := awake_any
  have HE : Hid (∀ w, Calls Try.prog 12 #[] w (edP w)) := edges_any
  have HWD : Hid (∀ x, x = a ∨ x = b → x < 18446744073709551616) := by
    rintro x (rfl | rfl)
    · exact ha
    · exact hb
  clear ha hb
  go_enter Try.func4, Try.ntmps4
  go_wp2_with fail
  refine Calls.mono (HA.out _) ?_
  rintro e w1 ⟨rfl, d1⟩
  have O1 : Hid (Only (fun _ => False) w w1) := d1.only
  clear d1
  go_wp2_with fail
  refine Calls.mono (HE.out _) ?_
  rintro e x1 ⟨g1, rfl, hw, ho⟩
  have E1 : Hid (x1.ownsRow w1.heap.size 22 1 (.slice (some ⟨g1, 0, none⟩) 23 23) 23 (fls eL) ∧ Only (fun _ => False) w1 x1) := ⟨hw, ho⟩
  have sz1 : w1.heap.size ≤ x1.heap.size := ho.size
  clear hw ho
  have HS1 : (x1.alloc (.cells #[.float .f64 a, .float .f64 b] 22)).heap.size = x1.heap.size + 1 := by simp
  go_wp2_with (at_builtin; (refine wpList_append_lies _ rfl _ _ 25 rfl w1.heap.size 22 i22 (.float .f64 0) 1 8 Try.underlying25 g22 g220 g221 g222 rfl (by decide) (.slice (some ⟨g1, 0, none⟩) 23 23) 23 (fls eL) rfl (E1.out.1.alloc _) ⟨x1.heap.size, 0, none⟩ 2 2 (fls [a, b]) rfl rfl (news_fl x1 [a, b]) (fls_one _) (by decide) (by decide) (by decide) (by rw [HS1]; omega) (x1.heap.size + 1) HS1 ?_; intro y1 cap1 z1 hown5 hgrow5 hat5 hlt5; have H1 : Hid (Vw z1 (some ⟨y1, 0, none⟩) (fls (eL ++ [a, b])) ∧ Only (fun _ => False) w1 z1) := app_post E1.out.2 E1.out.1 hown5 hgrow5; clear hown5 hgrow5 hat5 hlt5))
  have HW1 : Hid (Wds (eL ++ [a, b])) := by
    intro x hx
    rcases List.mem_append.1 hx with h | h
    · exact eL_wds x h
    · exact HWD.out x (by simp at h ⊢; omega)
  have HL1 : Hid ((eL ++ [a, b]).length = 25) := rfl
  obtain ⟨Q1, hQ⟩ : ∃ Q, Q = eL ++ [a, b] := ⟨_, rfl⟩
  rw [← hQ] at H1 HW1 HL1
  clear hQ HS1 sz1
  go_loopg [17] 25 (fun gh v wr => ∃ (k : Nat) (W : World), W = wr ∧ gh = 25 - k ∧ k ≤ 25 ∧ v = .int .i64 (k : Int) ∧ Only (fun _ => False) z1 W)
  case atStart => exact ⟨0, _, rfl, rfl, Nat.zero_le _, rfl, Only.refl _ _⟩
  case round =>
    obtain ⟨k, W, hW, rfl, hk, rfl, hoW⟩ := hrel
    subst hW
    have OW : Hid (Only (fun _ => False) z1 W) := hoW
    clear hoW
    by_cases hlt1 : k < 25
    · have t1 : (k : Int) < 25 := by omega
      obtain ⟨x, hx⟩ := get_some HL1.out.symm hlt1
      obtain ⟨bq, off, e5, c1⟩ := (H1.out.1.keep OW.out).fl hx
      have e6 : y1 = bq ∧ 0 = off := by injection e5 with h; injection h with h1 h2; exact ⟨h1, h2⟩
      obtain ⟨e7, e8⟩ := e6
      subst e7 e8
      rw [Nat.zero_add] at c1
      have Xx : Hid (x < 18446744073709551616) := HW1.out.get hx
      clear e5 hx
      go_wp2_with fail
      refine Calls.mono (HE.out _) ?_
      rintro e x2 ⟨g2, rfl, hw, ho⟩
      have E2 : Hid (x2.ownsRow W.heap.size 22 1 (.slice (some ⟨g2, 0, none⟩) 23 23) 23 (fls eL) ∧ Only (fun _ => False) W x2) := ⟨hw, ho⟩
      have sz2 : W.heap.size ≤ x2.heap.size := ho.size
      clear hw ho
      have HS2 : (x2.alloc (.cells #[.float .f64 a, .float .f64 b] 22)).heap.size = x2.heap.size + 1 := by simp
      go_wp2_with (at_builtin; (refine wpList_append_lies _ rfl _ _ 25 rfl W.heap.size 22 i22 (.float .f64 0) 1 8 Try.underlying25 g22 g220 g221 g222 rfl (by decide) (.slice (some ⟨g2, 0, none⟩) 23 23) 23 (fls eL) rfl (E2.out.1.alloc _) ⟨x2.heap.size, 0, none⟩ 2 2 (fls [a, b]) rfl rfl (news_fl x2 [a, b]) (fls_one _) (by decide) (by decide) (by decide) (by rw [HS2]; omega) (x2.heap.size + 1) HS2 ?_; intro y2 cap2 z2 hown5 hgrow5 hat5 hlt5; have H2 : Hid (Vw z2 (some ⟨y2, 0, none⟩) (fls (eL ++ [a, b])) ∧ Only (fun _ => False) W z2) := app_post E2.out.2 E2.out.1 hown5 hgrow5; clear hown5 hgrow5 hat5 hlt5))
      have HW2 : Hid (Wds (eL ++ [a, b])) := by
        intro x hx
        rcases List.mem_append.1 hx with h | h
        · exact eL_wds x h
        · exact HWD.out x (by simp at h ⊢; omega)
      have HL2 : Hid ((eL ++ [a, b]).length = 25) := rfl
      obtain ⟨Q2, hQ⟩ : ∃ Q, Q = eL ++ [a, b] := ⟨_, rfl⟩
      rw [← hQ] at H2 HW2 HL2
      clear hQ HS2 sz2
      go_loopg [27] 25 (fun gh v wr => ∃ (j m : Nat), gh = 25 - j ∧ j ≤ 25 ∧ v = .int .i64 (j : Int) ∧ wr = z2.drewN m)
      case atStart => exact ⟨0, 0, rfl, Nat.zero_le _, rfl, rfl⟩
      case round =>
        obtain ⟨j, m, rfl, hj, rfl, rfl⟩ := hrel
        by_cases hlt2 : j < 25
        · have t2 : (j : Int) < 25 := by omega
          obtain ⟨y, hx⟩ := get_some HL2.out.symm hlt2
          obtain ⟨bq, off, e5, c2⟩ := (H2.out.1.keep (Only.refl _ _)).fl hx
          have e6 : y2 = bq ∧ 0 = off := by injection e5 with h; injection h with h1 h2; exact ⟨h1, h2⟩
          obtain ⟨e7, e8⟩ := e6
          subst e7 e8
          rw [Nat.zero_add] at c2
          have Xy : Hid (y < 18446744073709551616) := HW2.out.get hx
          clear e5 hx
          have HO1 : Hid (∀ w, Calls Try.prog 16 #[.float .f64 x, .float .f64 y] w fun e w' => e = .returned (.int .i64 (Fl.od x y)) ∧ ∃ n, w' = w.drewN n) := order_any x y Xx.out Xy.out
          have HO2 : Hid (∀ w, Calls Try.prog 17 #[.float .f64 x, .float .f64 y] w fun e w' => e = .returned (.int .i64 (Fl.od x y)) ∧ ∃ n, w' = w.drewN n) := refOrder_any x y Xx.out Xy.out
          generalize Fl.od x y = o at *
          go_wp2_with fail
          refine Calls.mono (HO1.out _) ?_
          rintro e v1 ⟨rfl, m1, rfl⟩
          go_wp2_with fail
          refine Calls.mono (HO2.out _) ?_
          rintro e v2 ⟨rfl, m2, rfl⟩
          go_wp2_with fail
          go_roundg (25 - (j + 1))
          case measure => omega
          case rel => exact ⟨j + 1, m + m1 + m2, rfl, hlt2, by go_num, by simp [World.drewN, Nat.add_assoc]⟩
        · have t3 : decide ((j : Int) < 25) = false := decide_eq_false (by omega)
          go_wp2_with fail
          go_roundg (25 - (k + 1))
          case measure => omega
          case rel => exact ⟨k + 1, _, rfl, rfl, hlt1, by go_num, (OW.out.trans H2.out.2).drewN m⟩
    · have t2 : decide ((k : Int) < 25) = false := decide_eq_false (by omega)
      go_wp2_with fail
      go_ret
      exact ⟨rfl, (O1.out.trans H1.out.2).trans OW.out⟩
end ratioOrders
end Go.Proofs.Ytihdfoigobijjaa
