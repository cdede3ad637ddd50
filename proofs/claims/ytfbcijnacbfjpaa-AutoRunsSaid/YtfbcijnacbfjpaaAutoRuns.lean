/-
  stanzalaw04.AutoRuns returns true at every automaton, right or not, and at all classes; no condition.
-/
import Derived.Test.YtfbcijnacbfjpaaRows
import Derived.Test.YtfbcijnacbfjpaaVw
import Derived.ChangeMaps5
import Derived.ChangeOld
import Derived.OpenShut
import Derived.ProofKit
import Derived.Deep.QuietTactic
import Derived.BigQuiet
import Derived.Laws.AppendOwnNone
namespace Go.Proofs.Ytfbcijnacbfjpaa.autoRuns
open Go.ChangeShapes Go.WideShapes Go.ChangeAt Go.RowKit Go.Maps
set_option linter.unusedVariables false
set_option linter.unusedSimpArgs false
theorem only_newAt {w w' : World} (h : Only (fun b => b = w.heap.size) w w') : Only (fun _ => False) w w' := ⟨h.os, h.tape, h.output, h.size, fun g hg _ => h.block g hg (by omega)⟩
theorem ints_at {w : World} {base n : Nat} {v : Value} {l : List Int} (h : w.ownsRow base 3 1 v n (ints l)) (hn : n = l.length) {k : Nat} {x : Int} (hk : l[k]? = some x) : ∃ g cap, v = .slice (some ⟨g, 0, none⟩) n cap ∧ w.cell? ⟨g, k, none⟩ = some (.int .i64 x) := by
  have hlt : k < l.length := (List.getElem?_eq_some_iff.1 hk).1
  obtain ⟨g, cap, hv, _, _, _, hc⟩ := row_form h (by omega)
  refine ⟨g, cap, hv, ?_⟩
  rw [hc k (by omega)]
  unfold ints
  rw [List.getElem?_map, hk]; rfl
set_option maxRecDepth 100000 in
set_option maxHeartbeats 4000000 in
theorem sameInts_any (l : List Int) (B B' : Nat) (a a' : Option Addr) (c c' : Nat) (w : World) (h1 : w.ownsRow B 3 1 (.slice a l.length c) l.length (ints l)) (h2 : w.ownsRow B' 3 1 (.slice a' l.length c') l.length (ints l)) (hl : l.length ≤ 1000000) :
    Calls Try.prog 22 #[.slice a l.length c, .slice a' l.length c'] w fun e w' => e = .returned (.bool true) ∧ Only (fun _ => False) w w' := by
  have H1 : Hid (w.ownsRow B 3 1 (.slice a l.length c) l.length (ints l)) := h1
  have H2 : Hid (w.ownsRow B' 3 1 (.slice a' l.length c') l.length (ints l)) := h2
  clear h1 h2
  obtain ⟨n, hn⟩ : ∃ n, n = l.length := ⟨_, rfl⟩
  have Hn : Hid (n = l.length) := hn
  rw [← hn] at hl ⊢
  rw [← hn] at H1 H2
  clear hn
  go_enter Try.func22, Try.ntmps22
  go_wp2_with fail
  go_loopg [5] n (fun g v wr => ∃ (k m : Nat), g = n - k ∧ k ≤ n ∧ v = .int .i64 (k : Int) ∧ wr = w.drewN m)
  case atStart => exact ⟨0, 0, rfl, Nat.zero_le _, rfl, rfl⟩
  case round =>
    obtain ⟨k, m, rfl, hk, rfl, rfl⟩ := hrel
    by_cases hlt : k < n
    · have t1 : (k : Int) < (n : Int) := by omega
      obtain ⟨x, hx⟩ : ∃ x, l[k]? = some x := ⟨l[k]'(by rw [← Hn.out]; omega), List.getElem?_eq_getElem _⟩
      obtain ⟨g, cap, hv, hc⟩ := ints_at H1.out Hn.out hx
      obtain ⟨g', cap', hv', hc'⟩ := ints_at H2.out Hn.out hx
      have e0 : a = some ⟨g, 0, none⟩ := by injection hv
      have e0' : a' = some ⟨g', 0, none⟩ := by injection hv'
      subst e0 e0'
      clear hv hv' hx
      go_wp2_with fail
      go_quiet (fail)
      go_wp2_with fail
      go_roundg (n - (k + 1))
      case measure => omega
      case rel => exact ⟨k + 1, _, rfl, by omega, by go_num, rfl⟩
    · have t2 : decide ((k : Int) < (n : Int)) = false := decide_eq_false (by omega)
      go_wp2_with fail
      go_ret
      exact ⟨rfl, (Only.refl _ w).drewN _⟩
set_option maxRecDepth 100000 in
set_option maxHeartbeats 4000000 in
theorem walk_wide (aN : Option Addr) (nN cN : Nat) (aO : Option Addr) (nO cO : Nat) (aC : Option Addr) (nC cC : Nat) (fit : Bool) (w : World) (hn : nN ≤ maxLen) (hnC : nC ≤ maxLen) (h : 100 < nN ∨ 200 < nC) :
    Calls Try.prog 7 #[autV aN nN cN aO nO cO, .slice aC nC cC, .bool fit] w fun e w' => e = .returned (.bool true) ∧ Only (fun _ => False) w w' := by
  unfold maxLen at hn hnC
  unfold autV
  by_cases h1 : 100 < nN
  · have h2 : (100 : Int) < (nN : Int) := by omega
    go_enter Try.func7, Try.ntmps7
    go_wp2_with (go_at_call 9; refine (awake_any _).mono ?_; rintro e w1 ⟨rfl, ho1⟩; have HO1 : Hid (Only (fun _ => False) w w1) := ((Only.refl _ _).alloc _).trans ho1; have HAb : Hid (Abx w1 w.heap.size aN nN cN aO nO cO) := Abx.keep (heap_alloc_new w _) ho1; have y0 := HAb.out.c0; have y1 := HAb.out.c1; clear ho1)
    go_ret
    exact ⟨rfl, HO1.out⟩
  · have h2 : ¬ (100 : Int) < (nN : Int) := by omega
    have h3 : (200 : Int) < (nC : Int) := by omega
    go_enter Try.func7, Try.ntmps7
    go_wp2_with (go_at_call 9; refine (awake_any _).mono ?_; rintro e w1 ⟨rfl, ho1⟩; have HO1 : Hid (Only (fun _ => False) w w1) := ((Only.refl _ _).alloc _).trans ho1; have HAb : Hid (Abx w1 w.heap.size aN nN cN aO nO cO) := Abx.keep (heap_alloc_new w _) ho1; have y0 := HAb.out.c0; have y1 := HAb.out.c1; clear ho1)
    go_ret
    exact ⟨rfl, HO1.out⟩
set_option maxRecDepth 100000 in
set_option maxHeartbeats 4000000 in
theorem walk_bad (aN : Option Addr) (nN cN : Nat) (aO : Option Addr) (nO cO : Nat) (ws : List Wy) (aC : Option Addr) (nC cC : Nat) (fit : Bool) (w : World) (hN : Nw w aN nN ws) (hn : nN ≤ 100) (hO : nO ≤ maxLen) (hnC : nC ≤ 200) (h : ¬ ChkB ws nN nO) :
    Calls Try.prog 7 #[autV aN nN cN aO nO cO, .slice aC nC cC, .bool fit] w fun e w' => e = .returned (.bool true) ∧ Only (fun _ => False) w w' := by
  have HN : Hid (Nw w aN nN ws) := hN
  have HB : Hid (¬ ChkB ws nN nO) := h
  have HO : Hid (nO ≤ maxLen) := hO
  have HM : Hid (nN ≤ maxLen) := by unfold Hid maxLen; omega
  clear hN h hO
  unfold autV
  have h2 : ¬ (100 : Int) < (nN : Int) := by omega
  have h3 : ¬ (200 : Int) < (nC : Int) := by omega
  by_cases h0 : nN = 0
  · subst h0
    go_enter Try.func7, Try.ntmps7
    go_wp2_with (first
      | (go_at_call 9; refine (awake_any _).mono ?_; rintro e w1 ⟨rfl, ho1⟩; have HO1 : Hid (Only (fun _ => False) w w1) := ((Only.refl _ _).alloc _).trans ho1; have HAb : Hid (Abx w1 w.heap.size aN 0 cN aO nO cO) := Abx.keep (heap_alloc_new w _) ho1; have y0 := HAb.out.c0; have y1 := HAb.out.c1; clear ho1)
      | (go_at_call 21; refine (check_any aN 0 cN aO nO cO ws w1 (HN.out.keep HO1.out) HM.out HO.out).mono ?_; rintro e w2 ⟨b, rfl, hb, ho2⟩; obtain rfl : b = false := by { cases b; rfl; exact (HB.out (hb.1 rfl)).elim }; have HO2 : Hid (Only (fun _ => False) w w2) := HO1.out.trans ho2; have HA2 : Hid (Abx w2 w.heap.size aN 0 cN aO nO cO) := HAb.out.keep ho2; have y2 := HA2.out.c0; have y3 := HA2.out.c1; clear ho2 hb)
      | (go_at_call 15; refine (run_none aN cN aO nO cO aC nC cC w2).mono ?_; rintro e w3 ⟨rfl, ho3⟩; have HO3 : Hid (Only (fun _ => False) w w3) := HO2.out.trans ho3; clear ho3))
    go_ret
    exact ⟨rfl, HO3.out⟩
  · have h4 : (0 : Int) < (nN : Int) := by omega
    go_enter Try.func7, Try.ntmps7
    go_wp2_with (first
      | (go_at_call 9; refine (awake_any _).mono ?_; rintro e w1 ⟨rfl, ho1⟩; have HO1 : Hid (Only (fun _ => False) w w1) := ((Only.refl _ _).alloc _).trans ho1; have HAb : Hid (Abx w1 w.heap.size aN nN cN aO nO cO) := Abx.keep (heap_alloc_new w _) ho1; have y0 := HAb.out.c0; have y1 := HAb.out.c1; clear ho1)
      | (go_at_call 21; refine (check_any aN nN cN aO nO cO ws w1 (HN.out.keep HO1.out) HM.out HO.out).mono ?_; rintro e w2 ⟨b, rfl, hb, ho2⟩; obtain rfl : b = false := by { cases b; rfl; exact (HB.out (hb.1 rfl)).elim }; have HO2 : Hid (Only (fun _ => False) w w2) := HO1.out.trans ho2; have HA2 : Hid (Abx w2 w.heap.size aN nN cN aO nO cO) := HAb.out.keep ho2; have y2 := HA2.out.c0; have y3 := HA2.out.c1; clear ho2 hb))
    go_ret
    exact ⟨rfl, HO2.out⟩
theorem news_of {w : World} {ad : Addr} {n : Nat} {C : List Int} (h : Iw w (some ad) n C) : ∀ j u, (ints C)[j]? = some u → w.cell? (ad.add j) = some u := by
  obtain ⟨hl, b, off, h1, h2⟩ := h
  intro j u hj
  unfold ints at hj
  rw [List.getElem?_map] at hj
  cases hx : C[j]? with
  | none => rw [hx] at hj; cases hj
  | some x =>
    rw [hx] at hj
    injection hj with hj
    subst hj
    have h0 : 0 < n := by have := (List.getElem?_eq_some_iff.1 hx).1; omega
    obtain ⟨e, _⟩ := h1 h0
    injection e with e
    subst e
    rw [Addr.add_mid]
    exact h2 j x hx
theorem ints_cell (C : List Int) : ∀ u ∈ ints C, u.oneCell' = true := by
  intro u hu
  obtain ⟨x, _, rfl⟩ := List.mem_map.1 hu
  rfl
theorem own_form {w : World} {base e size n : Nat} {v : Value} {xs : List Value} (h : w.ownsRow base e size v n xs) (hv : v ≠ .slice none 0 0) : ∃ g cap, v = .slice (some ⟨g, 0, none⟩) n cap ∧ base ≤ g ∧ g < w.heap.size := by
  obtain ⟨_, ⟨e, _⟩ | ⟨g, cap, cur, e, hb, hh, _⟩⟩ := h
  · exact (hv e).elim
  · exact ⟨g, cap, e, hb, (Array.getElem?_eq_some_iff.1 hh).1⟩
theorem frz {w : World} {base e n g cap : Nat} {xs : List Value} (h : w.ownsRow base e 1 (.slice (some ⟨g, 0, none⟩) n cap) n xs) (k : Nat) : w.frozen? ⟨g, k, none⟩ = false := by
  obtain ⟨_, ⟨hv, _⟩ | ⟨g', cap', cur, hv, hb, hh, h1, h2, h3, h4⟩⟩ := h
  · cases hv
  · injection hv with e1 _ e2
    injection e1 with e1
    injection e1 with e1
    subst e1
    simp [World.frozen?, hh]
theorem wrap_smallu (x : Int) (h0 : 0 ≤ x) (h1 : x < 2 ^ 64) : IntKind.u64.wrap x = x := by
  simp only [IntKind.wrap, IntKind.bits, IntKind.signed]
  simp
  omega
theorem wrap_u64_nn (x : Int) : 0 ≤ IntKind.u64.wrap x := by
  simp only [IntKind.wrap, IntKind.bits, IntKind.signed]
  simp
  omega
set_option maxRecDepth 100000 in
set_option maxHeartbeats 16000000 in
theorem walk_some (aN : Option Addr) (nN cN : Nat) (aO : Option Addr) (nO cO : Nat) (ws : List Wy) (ad : Addr) (nC cC : Nat) (C : List Int) (fit : Bool) (w : World) (hN : Nw w aN nN ws) (hn : nN ≤ 100) (hO : nO ≤ maxLen) (hC : Iw w (some ad) nC C) (hnC : nC ≤ 200) (h : ChkB ws nN nO) :
    Calls Try.prog 7 #[autV aN nN cN aO nO cO, .slice (some ad) nC cC, .bool fit] w fun e w' => e = .returned (.bool true) ∧ Only (fun _ => False) w w' := by
  have HN : Hid (Nw w aN nN ws) := hN
  have HC : Hid (Iw w (some ad) nC C) := hC
  have HB : Hid (ChkB ws nN nO) := h
  have HO : Hid (nO ≤ maxLen) := hO
  have HM : Hid (nN ≤ maxLen) := by unfold Hid maxLen; omega
  have h0 : 0 < nN := h.1
  obtain ⟨hl, b, off, q1, q2⟩ := hN
  obtain ⟨rfl, hb⟩ := q1 h0
  obtain ⟨x0, hx0⟩ : ∃ x, ws[0]? = some x := ⟨_, List.getElem?_eq_getElem (by omega)⟩
  have hw0 : wy ws 0 = x0 := by unfold wy; rw [if_pos (by omega)]; show ws[0]?.getD wy0 = x0; rw [hx0]; rfl
  have HW0 : Hid (wy ws 0 = x0) := hw0
  obtain ⟨_, hm0, hc0⟩ := q2 0 x0 hx0
  obtain ⟨a0, n0, c0, L0⟩ := x0
  simp only [Nat.add_zero] at hc0 hm0
  have HL : Hid (ws.length = nN) := hl
  have HC0 : Hid (w.cell? ⟨b, off, none⟩ = some (.slice a0 n0 c0)) := hc0
  unfold maxLen at hm0
  clear h hO hC q1 q2 hl hw0 hx0 hc0
  unfold autV
  have h2 : ¬ (100 : Int) < (nN : Int) := by omega
  have h3 : ¬ (200 : Int) < (nC : Int) := by omega
  obtain ⟨i4, g4, g40, g41, g42⟩ := info_parts info3'
  go_enter Try.func7, Try.ntmps7
  go_wp2_with (first
    | (go_at_call 9; refine (awake_any _).mono ?_; rintro e w1 ⟨rfl, ho1⟩; have HO1 : Hid (Only (fun _ => False) w w1) := ((Only.refl _ _).alloc _).trans ho1; have HAb : Hid (Abx w1 w.heap.size (some ⟨b, off, none⟩) nN cN aO nO cO) := Abx.keep (heap_alloc_new w _) ho1; have y0 := HAb.out.c0; have y1 := HAb.out.c1; clear ho1)
    | (go_at_call 21; refine (check_any _ nN cN aO nO cO ws w1 (HN.out.keep HO1.out) HM.out HO.out).mono ?_; rintro e w2 ⟨b, rfl, hb, ho2⟩; obtain rfl : b = true := hb.2 HB.out; have HO2 : Hid (Only (fun _ => False) w w2) := HO1.out.trans ho2; have HA2 : Hid (Abx w2 w.heap.size (some ⟨b, off, none⟩) nN cN aO nO cO) := HAb.out.keep ho2; have y2 := HA2.out.c0; have y3 := HA2.out.c1; clear ho2 hb)
    | (at_builtin; refine wpList_append_own_at _ rfl _ _ 43 rfl w2.heap.size 3 i4 _ 1 8 Try.underlying43 g4 g40 g41 g42 rfl (by decide) _ _ [] rfl (show (w2.alloc (.cells #[] 3)).ownsRow w2.heap.size 3 1 (.slice (some ⟨w2.heap.size, 0, none⟩) 0 0) 0 [] from ⟨rfl, Or.inr ⟨w2.heap.size, 0, #[], rfl, Nat.le_refl _, heap_alloc_new _ _, Nat.le_refl _, Nat.zero_le _, rfl, rfl⟩⟩) ad nC cC (ints C) rfl (by unfold ints; rw [List.length_map, HC.out.1, Nat.mul_one]) (news_of ((HC.out.keep HO2.out).keep ((Only.refl _ _).alloc _))) (ints_cell C) (by unfold maxLen; omega) (by omega) (by simp) ?_; intro v6 w6 hown6 hg6 hnil6 _; obtain ⟨g, cap, rfl, hg1, hg2⟩ := own_form hown6 (fun e => by have := (hnil6.1 e).1; cases this); have HOW6 : Hid (w6.ownsRow w2.heap.size 3 1 (.slice (some ⟨g, 0, none⟩) nC cap) nC (ints C)) := by { have := hown6; rw [Nat.zero_add, List.nil_append] at this; exact this }; have HG6 : Hid (Only (fun _ => False) w2 w6) := only_newAt (((Only.refl _ w2).alloc _).trans ((Only.refl (· = w2.heap.size) _).grown hg6 (fun k h => by injection h with h; exact h.symm))); clear hown6 hg6 hnil6))
  go_loopg [43] nC (fun gh v wr => ∃ (k : Nat) (C1 : List Int) (W : World), W = wr ∧ gh = nC - k ∧ k ≤ nC ∧ v = .int .i64 (k : Int) ∧ C1.length = nC ∧ W.ownsRow w2.heap.size 3 1 (.slice (some ⟨g, 0, none⟩) nC cap) nC (ints C1) ∧ Only (fun _ => False) w2 W)
  case atStart => exact ⟨0, C, _, rfl, rfl, Nat.zero_le _, rfl, HC.out.1, HOW6.out, HG6.out⟩
  case round =>
    obtain ⟨k, C1, W, hW, rfl, hk, rfl, hl1, hown, hOr⟩ := hrel
    subst hW
    have HOr : Hid (Only (fun _ => False) w2 W) := hOr
    have HOW : Hid (W.ownsRow w2.heap.size 3 1 (.slice (some ⟨g, 0, none⟩) nC cap) nC (ints C1)) := hown
    have HL1 : Hid (C1.length = nC) := hl1
    have HGB : Hid (w2.heap.size ≤ g) := hg1
    have HGL : Hid (g < W.heap.size) := (own_form hown (fun e => by cases e)).elim fun g' ⟨cap', hv, _, h⟩ => by injection hv with e1; injection e1 with e1; injection e1 with e1; show g < W.heap.size; omega
    have z0 := (HA2.out.keep hOr).c0
    have z1 := (HA2.out.keep hOr).c1
    have z2 := keep0 (HO2.out.trans hOr) HC0.out
    clear hown hOr hl1
    by_cases hlt : k < nC
    · have t1 : (k : Int) < (nC : Int) := by omega
      obtain ⟨x, hx⟩ : ∃ x, C1[k]? = some x := ⟨_, List.getElem?_eq_getElem (by have := HL1.out; omega)⟩
      obtain ⟨g', cap', hv, hcx⟩ := ints_at HOW.out HL1.out.symm hx
      injection hv with e1 _ e2
      injection e1 with e1
      injection e1 with e1
      subst e1 e2
      have hfz := frz HOW.out k
      clear hx
      cases fit with
      | false =>
        go_wp2_with fail
        go_roundg (nC - (k + 1))
        case measure => omega
        case rel => exact ⟨k + 1, C1, _, rfl, rfl, by omega, by go_num, HL1.out, HOW.out, HOr.out⟩
      | true =>
        by_cases hn0 : n0 = 0
        · subst hn0
          go_wp2_with fail
          go_roundg (nC - (k + 1))
          case measure => omega
          case rel => exact ⟨k + 1, C1, _, rfl, rfl, by omega, by go_num, HL1.out, HOW.out, HOr.out⟩
        · have p0 : (0 : Int) < (n0 : Int) := by omega
          have p1 : ¬ (n0 : Int) = 0 := by omega
          have p2 : ((n0 : Int) == 0) = false := by simpa using p1
          have p3 : IntKind.u64.wrap (n0 : Int) = (n0 : Int) := wrap_smallu _ (by omega) (by omega)
          obtain ⟨ux, p4, p5⟩ : ∃ ux : Int, IntKind.u64.wrap x = ux ∧ 0 ≤ ux := ⟨_, rfl, wrap_u64_nn x⟩
          obtain ⟨r, p6, p7, p8⟩ : ∃ r : Int, ux.tmod (n0 : Int) = r ∧ 0 ≤ r ∧ r < (n0 : Int) := ⟨_, rfl, Int.tmod_nonneg _ p5, Int.tmod_lt_of_pos _ p0⟩
          have p9 : IntKind.u64.wrap r = r := wrap_smallu _ (by omega) (by omega)
          have p10 : IntKind.i64.wrap r = r := wrap_small _ (by omega) (by omega)
          clear p5
          go_wp2_with fail
          go_region_with fail
          all_goals go_wp2_with fail
          all_goals (go_roundg (nC - (k + 1)) <;> first | omega | exact ⟨k + 1, C1.set k r, _, rfl, rfl, by omega, by go_num, by rw [List.length_set]; exact HL1.out, (by rw [ints_set]; first | exact own_set HOW.out hlt _ | exact own_set (own_drewN HOW.out 1) hlt _), (by first | exact (HOr.out.setNew HGB.out _).drew | exact (HOr.out.drewN 1).setNew HGB.out _)⟩)
    · have t2 : decide ((k : Int) < (nC : Int)) = false := decide_eq_false (by omega)
      go_wp2_with fail
      have HIC : Hid (Iw W (some ⟨g, 0, none⟩) nC C1) := ⟨HL1.out, g, 0, fun _ => ⟨rfl, HGL.out⟩, fun j x hj => by obtain ⟨g', cap', hv, hcx⟩ := ints_at HOW.out HL1.out.symm hj; injection hv with e1; injection e1 with e1; injection e1 with e1; subst e1; rw [Nat.zero_add]; exact hcx⟩
      have HOW2 : Hid (Only (fun _ => False) w W) := HO2.out.trans HOr.out
      have HNW : Hid (Nw W (some ⟨b, off, none⟩) nN ws) := HN.out.keep HOW2.out
      have HAW : Hid (Abx W w.heap.size (some ⟨b, off, none⟩) nN cN aO nO cO) := HA2.out.keep HOr.out
      clear t2 hlt
      go_loopg [9, 10, 75] nC (fun gh vW vs vi wr => ∃ (q m : Nat) (pre : List Int) (g2 cap2 : Nat) (V : World), V = wr ∧ gh = nC - q ∧ q ≤ nC ∧ vW = .slice (some ⟨g2, 0, none⟩) (q + 1) cap2 ∧ vs = .int .i64 (m : Int) ∧ vi = .int .i64 (q : Int) ∧ m < nN ∧ pre.length = q ∧ run ws 0 C1 = pre ++ run ws (m : Int) (C1.drop q) ∧ V.ownsRow W.heap.size 3 1 (.slice (some ⟨g2, 0, none⟩) (q + 1) cap2) (q + 1) (ints (0 :: pre)) ∧ Only (fun _ => False) W V)
      case atStart =>
        refine ⟨0, 0, [], W.heap.size, 1, _, rfl, rfl, Nat.zero_le _, rfl, rfl, rfl, h0, rfl, rfl, ?_, (Only.refl _ _).alloc _⟩
        exact ⟨rfl, Or.inr ⟨W.heap.size, 1, #[.int .i64 0], rfl, Nat.le_refl _, heap_alloc_new W _, Nat.le_refl _, by unfold maxLen; omega, rfl, rfl⟩⟩
      case round =>
        obtain ⟨q, m, pre, g2, cap2, V, hV, rfl, hq, rfl, rfl, rfl, hmn, hpl, hrun, hown2, hOv⟩ := hrel
        subst hV
        have HO3 : Hid (Only (fun _ => False) W V) := hOv
        have HOW3 : Hid (V.ownsRow W.heap.size 3 1 (.slice (some ⟨g2, 0, none⟩) (q + 1) cap2) (q + 1) (ints (0 :: pre))) := hown2
        have HRU : Hid (run ws 0 C1 = pre ++ run ws (m : Int) (C1.drop q)) := hrun
        have HPL : Hid (pre.length = q) := hpl
        have u0 := (HAW.out.keep hOv).c0
        have u1 := (HAW.out.keep hOv).c1
        have u2 := keep0 (HOW2.out.trans hOv) HC0.out
        have HFIN : Hid (run ws 0 C1 = pre → Calls Try.prog 15 #[autV (some ⟨b, off, none⟩) nN cN aO nO cO, .slice (some ⟨g, 0, none⟩) nC cap] V fun e w' => ∃ g8 cap8, e = .returned (.slice (some ⟨g8, 0, none⟩) (q + 1) cap8) ∧ (∀ w9, w9 = w' → Calls Try.prog 22 #[.slice (some ⟨g8, 0, none⟩) (q + 1) cap8, .slice (some ⟨g2, 0, none⟩) (q + 1) cap2] w9 fun e w9 => e = .returned (.bool true) ∧ Only (fun _ => False) w w9)) := by
          intro hr
          refine (run_any (some ⟨b, off, none⟩) nN cN aO nO cO ws (some ⟨g, 0, none⟩) nC cap C1 V (HNW.out.keep hOv) HM.out h0 (HIC.out.keep hOv) (by omega)).mono ?_
          rintro e w8 ⟨v, rfl, hr8, ho8⟩
          rw [hr] at hr8
          obtain ⟨g8, cap8, rfl, _, _, _, _⟩ := row_form hr8 (by omega)
          subst hpl
          refine ⟨g8, cap8, rfl, ?_⟩
          rintro w9 rfl
          refine (sameInts_any (0 :: pre) _ _ (some ⟨g8, 0, none⟩) (some ⟨g2, 0, none⟩) cap8 cap2 _ hr8 (own_only hown2 ho8 (fun _ _ h => h)) (by simp; omega)).mono ?_
          rintro e w10 ⟨rfl, ho10⟩
          exact ⟨rfl, (HOW2.out.trans (hOv.trans ho8)).trans ho10⟩
        obtain ⟨y, hy⟩ : ∃ y, ws[m]? = some y := ⟨_, List.getElem?_eq_getElem (by have := HL.out; omega)⟩
        have hyw : wy ws (m : Int) = y := by unfold wy; rw [if_pos (by omega), Int.toNat_natCast, hy]; rfl
        have hyo := HB.out.2.2 m y hy
        rw [HW0.out] at hyo
        obtain ⟨hyl, b', off', r1, r2⟩ := HNW.out.keep hOv
        obtain ⟨re, _⟩ := r1 h0
        injection re with re
        injection re with re1 re2
        subst re1 re2
        obtain ⟨hyI, _, hyc⟩ := r2 m y hy
        have HS0 := fun (x : Int) hx h => run_stop ws m pre C1 q x hrun hx h
        have HA0 := fun (x : Int) hx h => run_app ws m pre C1 q x hrun hx h
        rw [hyw] at HS0 HA0
        obtain ⟨ya, yn, yc, yL⟩ := y
        simp only at hyI hyc HS0 HA0
        obtain ⟨hyn, hyt⟩ := hyo
        simp only at hyn hyt
        subst hyn
        have HYT : Hid (∀ (j : Nat) (y : Int), yL[j]? = some y → 0 ≤ y ∧ y < (nN : Int)) := hyt
        have HYI : Hid (Iw V ya yn yL) := hyI
        have HYC : Hid (V.cell? ⟨b, off + m, none⟩ = some (.slice ya yn yc)) := hyc
        have HS1 : Hid (∀ x, C1[q]? = some x → ¬ (0 ≤ x ∧ x < (yn : Int)) → run ws 0 C1 = pre) := HS0
        have HA1 : Hid (∀ x, C1[q]? = some x → (0 ≤ x ∧ x < (yn : Int)) → run ws 0 C1 = (pre ++ [yL[x.toNat]?.getD 0]) ++ run ws (yL[x.toNat]?.getD 0) (C1.drop (q + 1))) := HA0
        clear hown2 hOv hrun hpl hyw hy hyl r1 r2 hyI hyc HS0 HA0 hyt
        by_cases hlq : q < nC
        · have t3 : (q : Int) < (nC : Int) := by omega
          obtain ⟨x, hx⟩ : ∃ x, C1[q]? = some x := ⟨_, List.getElem?_eq_getElem (by have := HL1.out; omega)⟩
          have HX : Hid (C1[q]? = some x) := hx
          obtain ⟨_, gi, oi, s1, s2⟩ := HIC.out.keep HO3.out
          obtain ⟨se, _⟩ := s1 (by omega)
          injection se with se
          injection se with se1 se2
          subst se1 se2
          have hcx := s2 q x hx
          rw [Nat.zero_add] at hcx
          clear s1 s2 hx
          by_cases hxr : 0 ≤ x ∧ x < (yn : Int)
          · obtain ⟨cx, rfl⟩ : ∃ cx : Nat, x = (cx : Int) := ⟨x.toNat, by omega⟩
            have l0 : ¬ (cx : Int) < 0 := by omega
            have l1 : ¬ (yn : Int) ≤ (cx : Int) := by omega
            have l2 : (cx : Int) < (yn : Int) := by omega
            have l3 : (m : Int) < (nN : Int) := by omega
            obtain ⟨hyl2, by2, oy, v1, v2⟩ := HYI.out
            obtain ⟨rfl, _⟩ := v1 (by omega)
            obtain ⟨z, hz⟩ : ∃ z, yL[cx]? = some z := ⟨_, List.getElem?_eq_getElem (by omega)⟩
            have hzc := v2 cx z hz
            obtain ⟨zz1, zz2⟩ := HYT.out cx z hz
            have hR := HA1.out _ HX.out hxr
            rw [Int.toNat_natCast, hz] at hR
            simp only [Option.getD_some] at hR
            obtain ⟨mz, rfl⟩ : ∃ mz : Nat, z = (mz : Int) := ⟨z.toNat, by omega⟩
            have HR : Hid (run ws 0 C1 = (pre ++ [(mz : Int)]) ++ run ws (mz : Int) (C1.drop (q + 1))) := hR
            have hyc := HYC.out
            clear v1 v2 hz hR hxr
            go_wp2_with (at_builtin; refine wpList_append_own_at _ rfl _ _ 43 rfl W.heap.size 3 i4 (.int .i64 0) 1 8 Try.underlying43 g4 g40 g41 g42 rfl (by decide) _ _ _ rfl (HOW3.out.alloc (.cells #[.int .i64 (mz : Int)] 3)) ⟨V.heap.size, 0, none⟩ 1 1 [.int .i64 (mz : Int)] rfl rfl (news1 _ _ _) (fun u hu => by simp at hu; subst hu; rfl) (by unfold maxLen; omega) (by omega) (by have := HO3.out.size; simp; omega) ?_; intro v6 w6 hown6 hg6 _ _; obtain ⟨g6, cap6, rfl, hgb6, hgl6, hgc6, _⟩ := row_form hown6 (by omega))
            have hgb2 : W.heap.size ≤ g2 := by
              obtain ⟨g', cap', hv, hgb, _⟩ := row_form HOW3.out (by omega)
              injection hv with hv _ _
              injection hv with hv
              injection hv with hv
              omega
            have o1 : Only (· = g2) (V.alloc (.cells #[.int .i64 (mz : Int)] 3)) w6 := (Only.refl (· = g2) _).grown hg6 (fun k h => by injection h with h; exact h.symm)
            have o2 : Only (· = g2) W w6 := ((HO3.out.alloc _).mono (fun _ h => h.elim)).trans o1
            have o3 : Only (fun _ => False) W w6 := ⟨o2.os, o2.tape, o2.output, o2.size, fun b hb _ => o2.block b hb (by omega)⟩
            have hints : ints (0 :: pre) ++ [.int .i64 (mz : Int)] = ints (0 :: (pre ++ [(mz : Int)])) := by unfold ints; simp
            rw [hints] at hown6
            go_roundg (nC - (q + 1))
            case measure => omega
            case rel => exact ⟨q + 1, mz, pre ++ [(mz : Int)], g6, cap6, w6, rfl, rfl, by omega, rfl, rfl, by go_num, by omega, by rw [List.length_append, HPL.out]; rfl, HR.out, hown6, o3⟩
          · have hS2 : Hid (run ws 0 C1 = pre) := HS1.out x HX.out hxr
            by_cases hx0 : x < 0
            · go_wp2_with (first | (go_at_call 15; have hcq := HFIN.out hS2.out; unfold autV at hcq; refine hcq.mono ?_; clear hcq; rintro e w8 ⟨g8, cap8, rfl, hc8⟩; have HC8 : Hid (∀ w9, w9 = w8 → Calls Try.prog 22 #[.slice (some ⟨g8, 0, none⟩) (q + 1) cap8, .slice (some ⟨g2, 0, none⟩) (q + 1) cap2] w9 fun e w9 => e = .returned (.bool true) ∧ Only (fun _ => False) w w9) := hc8; clear hc8) | (go_at_call 22; refine (HC8.out _ rfl).mono ?_; rintro e wE ⟨rfl, hoE⟩; have HOE : Hid (Only (fun _ => False) w wE) := hoE; clear hoE))
              go_ret
              exact ⟨rfl, HOE.out⟩
            · have hx1 : (yn : Int) ≤ x := by omega
              go_wp2_with (first | (go_at_call 15; have hcq := HFIN.out hS2.out; unfold autV at hcq; refine hcq.mono ?_; clear hcq; rintro e w8 ⟨g8, cap8, rfl, hc8⟩; have HC8 : Hid (∀ w9, w9 = w8 → Calls Try.prog 22 #[.slice (some ⟨g8, 0, none⟩) (q + 1) cap8, .slice (some ⟨g2, 0, none⟩) (q + 1) cap2] w9 fun e w9 => e = .returned (.bool true) ∧ Only (fun _ => False) w w9) := hc8; clear hc8) | (go_at_call 22; refine (HC8.out _ rfl).mono ?_; rintro e wE ⟨rfl, hoE⟩; have HOE : Hid (Only (fun _ => False) w wE) := hoE; clear hoE))
              go_ret
              exact ⟨rfl, HOE.out⟩
        · have t4 : decide ((q : Int) < (nC : Int)) = false := decide_eq_false (by omega)
          have hS2 : Hid (run ws 0 C1 = pre) := by
            have hr := HRU.out
            rw [List.drop_eq_nil_of_le (by have := HL1.out; omega), run, List.append_nil] at hr
            exact hr
          go_wp2_with (first | (go_at_call 15; have hcq := HFIN.out hS2.out; unfold autV at hcq; refine hcq.mono ?_; clear hcq; rintro e w8 ⟨g8, cap8, rfl, hc8⟩; have HC8 : Hid (∀ w9, w9 = w8 → Calls Try.prog 22 #[.slice (some ⟨g8, 0, none⟩) (q + 1) cap8, .slice (some ⟨g2, 0, none⟩) (q + 1) cap2] w9 fun e w9 => e = .returned (.bool true) ∧ Only (fun _ => False) w w9) := hc8; clear hc8) | (go_at_call 22; refine (HC8.out _ rfl).mono ?_; rintro e wE ⟨rfl, hoE⟩; have HOE : Hid (Only (fun _ => False) w wE) := hoE; clear hoE))
          go_ret
          exact ⟨rfl, HOE.out⟩
set_option maxRecDepth 100000 in
set_option maxHeartbeats 8000000 in
theorem walk_none (aN : Option Addr) (nN cN : Nat) (aO : Option Addr) (nO cO : Nat) (ws : List Wy) (fit : Bool) (w : World) (hN : Nw w aN nN ws) (hn : nN ≤ 100) (hO : nO ≤ maxLen) (h : ChkB ws nN nO) :
    Calls Try.prog 7 #[autV aN nN cN aO nO cO, .slice none 0 0, .bool fit] w fun e w' => e = .returned (.bool true) ∧ Only (fun _ => False) w w' := by
  have HN : Hid (Nw w aN nN ws) := hN
  have HB : Hid (ChkB ws nN nO) := h
  have HO : Hid (nO ≤ maxLen) := hO
  have HM : Hid (nN ≤ maxLen) := by unfold Hid maxLen; omega
  have h0 : 0 < nN := h.1
  obtain ⟨hl, b, off, q1, q2⟩ := hN
  obtain ⟨rfl, hb⟩ := q1 h0
  obtain ⟨x0, hx0⟩ : ∃ x, ws[0]? = some x := ⟨_, List.getElem?_eq_getElem (by omega)⟩
  have hw0 : wy ws 0 = x0 := by unfold wy; rw [if_pos (by omega)]; show ws[0]?.getD wy0 = x0; rw [hx0]; rfl
  have HW0 : Hid (wy ws 0 = x0) := hw0
  obtain ⟨_, hm0, hc0⟩ := q2 0 x0 hx0
  obtain ⟨a0, n0, c0, L0⟩ := x0
  simp only [Nat.add_zero] at hc0 hm0
  have HL : Hid (ws.length = nN) := hl
  have HC0 : Hid (w.cell? ⟨b, off, none⟩ = some (.slice a0 n0 c0)) := hc0
  unfold maxLen at hm0
  clear h hO q1 q2 hl hw0 hx0 hc0
  unfold autV
  have h2 : ¬ (100 : Int) < (nN : Int) := by omega
  obtain ⟨i4, g4, g40, g41, g42⟩ := info_parts info3'
  go_enter Try.func7, Try.ntmps7
  go_wp2_with (first
    | (go_at_call 9; refine (awake_any _).mono ?_; rintro e w1 ⟨rfl, ho1⟩; have HO1 : Hid (Only (fun _ => False) w w1) := ((Only.refl _ _).alloc _).trans ho1; have HAb : Hid (Abx w1 w.heap.size (some ⟨b, off, none⟩) nN cN aO nO cO) := Abx.keep (heap_alloc_new w _) ho1; have y0 := HAb.out.c0; have y1 := HAb.out.c1; clear ho1)
    | (go_at_call 21; refine (check_any _ nN cN aO nO cO ws w1 (HN.out.keep HO1.out) HM.out HO.out).mono ?_; rintro e w2 ⟨b, rfl, hb, ho2⟩; obtain rfl : b = true := hb.2 HB.out; have HO2 : Hid (Only (fun _ => False) w w2) := HO1.out.trans ho2; have HA2 : Hid (Abx w2 w.heap.size (some ⟨b, off, none⟩) nN cN aO nO cO) := HAb.out.keep ho2; have y2 := HA2.out.c0; have y3 := HA2.out.c1; clear ho2 hb)
    | (at_builtin; refine wpList_append_own_none rfl _ _ 43 rfl w2.heap.size 3 i4 1 Try.underlying43 g4 _ 0 [] rfl (show (w2.alloc (.cells #[] 3)).ownsRow w2.heap.size 3 1 (.slice (some ⟨w2.heap.size, 0, none⟩) 0 0) 0 [] from ⟨rfl, Or.inr ⟨w2.heap.size, 0, #[], rfl, Nat.le_refl _, heap_alloc_new _ _, Nat.le_refl _, Nat.zero_le _, rfl, rfl⟩⟩) rfl ?_))
  go_loopg [43] 0 (fun gh v wr => v = .int .i64 0 ∧ wr = w2.alloc (.cells #[] 3))
  case atStart => exact ⟨rfl, rfl⟩
  case round =>
    obtain ⟨rfl, rfl⟩ := hrel
    go_wp2_with fail
    go_loopg [9, 10, 75] 0 (fun gh vW vs vi wr => vW = .slice (some ⟨w2.heap.size + 1, 0, none⟩) 1 1 ∧ vs = .int .i64 0 ∧ vi = .int .i64 0 ∧ wr = (w2.alloc (.cells #[] 3)).alloc (.cells #[.int .i64 0] 3))
    case atStart => exact ⟨by simp, rfl, rfl, rfl⟩
    case round =>
      obtain ⟨rfl, rfl, rfl, hwr⟩ := hrel
      have ho : Only (fun _ => False) w2 wr := by rw [hwr]; exact ((Only.refl _ _).alloc _).alloc _
      have hW2 : wr.ownsRow (w2.heap.size + 1) 3 1 (.slice (some ⟨w2.heap.size + 1, 0, none⟩) 1 1) 1 (ints [0]) := by
        rw [hwr]
        exact ⟨rfl, Or.inr ⟨w2.heap.size + 1, 1, #[.int .i64 0], rfl, Nat.le_refl _, heap_alloc2_new w2 _ _, Nat.le_refl _, by unfold maxLen; omega, rfl, rfl⟩⟩
      have z0 := (HA2.out.keep ho).c0
      have z1 := (HA2.out.keep ho).c1
      have HOW2 : Hid (Only (fun _ => False) w wr) := HO2.out.trans ho
      have HFIN : Hid (Calls Try.prog 15 #[autV (some ⟨b, off, none⟩) nN cN aO nO cO, .slice (some ⟨w2.heap.size, 0, none⟩) 0 0] wr fun e w' => ∃ g8 cap8, e = .returned (.slice (some ⟨g8, 0, none⟩) 1 cap8) ∧ (∀ w9, w9 = w' → Calls Try.prog 22 #[.slice (some ⟨g8, 0, none⟩) 1 cap8, .slice (some ⟨w2.heap.size + 1, 0, none⟩) 1 1] w9 fun e w9 => e = .returned (.bool true) ∧ Only (fun _ => False) w w9)) := by
        refine (run_any (some ⟨b, off, none⟩) nN cN aO nO cO ws (some ⟨w2.heap.size, 0, none⟩) 0 0 [] wr (HN.out.keep HOW2.out) HM.out h0 ⟨rfl, 0, 0, fun h => absurd h (by decide), fun j x hj => by simp at hj⟩ (by omega)).mono ?_
        rintro e w8 ⟨v, rfl, hr8, ho8⟩
        rw [run] at hr8
        obtain ⟨g8, cap8, rfl, _, _, _, _⟩ := row_form hr8 (by omega)
        refine ⟨g8, cap8, rfl, ?_⟩
        rintro w9 rfl
        refine (sameInts_any [0] _ _ (some ⟨g8, 0, none⟩) (some ⟨w2.heap.size + 1, 0, none⟩) cap8 1 _ hr8 (own_only hW2 ho8 (fun _ _ h => h)) (by simp)).mono ?_
        rintro e w10 ⟨rfl, ho10⟩
        exact ⟨rfl, (HOW2.out.trans ho8).trans ho10⟩
      clear hwr ho hW2
      go_wp2_with (first | (go_at_call 15; have hcq := HFIN.out; unfold autV at hcq; refine hcq.mono ?_; clear hcq; rintro e w8 ⟨g8, cap8, rfl, hc8⟩; have HC8 : Hid (∀ w9, w9 = w8 → Calls Try.prog 22 #[.slice (some ⟨g8, 0, none⟩) 1 cap8, .slice (some ⟨w2.heap.size + 1, 0, none⟩) 1 1] w9 fun e w9 => e = .returned (.bool true) ∧ Only (fun _ => False) w w9) := hc8; clear hc8) | (go_at_call 22; refine (HC8.out _ rfl).mono ?_; rintro e wE ⟨rfl, hoE⟩; have HOE : Hid (Only (fun _ => False) w wE) := hoE; clear hoE))
      go_ret
      exact ⟨rfl, HOE.out⟩
theorem own : ownKnob Try.prog.godebug = none := by kernel_rfl
theorem laidOut : laidOutB Try.prog = true := laidOut4
theorem walk (aN : Option Addr) (nN cN : Nat) (aO : Option Addr) (nO cO : Nat) (ws : List Wy) (aC : Option Addr) (nC cC : Nat) (C : List Int) (fit : Bool) (w : World) (hN : Nw w aN nN ws) (hn : nN ≤ maxLen) (hO : nO ≤ maxLen) (hC : Iw w aC nC C) (hnC : nC ≤ maxLen) (hz : aC = none → nC = 0 ∧ cC = 0) :
    Calls Try.prog 7 #[autV aN nN cN aO nO cO, .slice aC nC cC, .bool fit] w fun e w' => e = .returned (.bool true) ∧ Below w.heap.size w w' := by
  have h : Calls Try.prog 7 #[autV aN nN cN aO nO cO, .slice aC nC cC, .bool fit] w fun e w' => e = .returned (.bool true) ∧ Only (fun _ => False) w w' := by
    by_cases hw : 100 < nN ∨ 200 < nC
    · exact walk_wide aN nN cN aO nO cO aC nC cC fit w hn hnC hw
    · by_cases hc : ChkB ws nN nO
      · cases aC with
        | none => obtain ⟨rfl, rfl⟩ := hz rfl; exact walk_none aN nN cN aO nO cO ws fit w hN (by omega) hO hc
        | some ad => exact walk_some aN nN cN aO nO cO ws ad nC cC C fit w hN (by omega) hO hC (by omega) hc
      · exact walk_bad aN nN cN aO nO cO ws aC nC cC fit w hN (by omega) hO (by omega) hc
  refine h.mono ?_
  rintro e w' ⟨rfl, ho⟩
  exact ⟨rfl, ho.below (Nat.le_refl _) (fun _ h => h.elim)⟩
set_option maxRecDepth 100000 in
theorem contract (H : Type) (enc : TypeId × Value → H) (W : World) (base : Nat) (args : Array Value) (ds gs : List (DataW H)) (before : List MemPlace)
    (hval : ∀ (j : Nat) t v, Try.f7.params[j]? = some t → args[j]? = some v → Value.okWide Try.prog W .any base t v)
    (hW : DataW.Whole enc Try.prog Try.f7.params.toList Rows.autoRunsSpec.vars false W args.toList ds gs before) :
    Calls Try.prog 7 args W fun e W' => ∃ v, e = .returned v ∧ Rows.autoRunsSpec.post enc Try.prog Try.f7 false true false false W args v W' := by
  have hW' := hW
  obtain ⟨p, q, hA0, hV, rfl, hfz, hnd⟩ := hW
  have hA : DataW.TrodAll enc Try.prog W 0 (fun _ => true) true Try.f7.params.toList args.toList ds p := hA0
  rw [Try.params7] at hA hval
  obtain ⟨v0, vs0, d0, ds0, p0, q0, hargs, rfl, rfl, h0, r0⟩ := trodAll_cons hA
  obtain ⟨v1, vs1, d1, ds1, p1, q1, rfl, rfl, rfl, h1, r1⟩ := trodAll_cons r0
  obtain ⟨v2, vs2, d2, ds2, p2, q2, rfl, rfl, rfl, h2, r2⟩ := trodAll_cons r1
  obtain ⟨rfl, rfl, rfl⟩ := trodAll_nil r2
  obtain rfl : args = #[v0, v1, v2] := by cases args; simp_all
  obtain ⟨rfl, rfl⟩ := trodVars_none hV
  have k0 := h0
  have lt0 : ∀ x ∈ p0, x.block < W.heap.size := by obtain ⟨m, hm⟩ := k0; exact DataW.trod_lt m _ _ _ hm
  obtain ⟨aN, nN, cN, ws, aO, nO, cO, rfl, hN, hn, hO⟩ := auto_view (hval 0 33 v0 rfl rfl) h0
  have k1 := h1
  have lt1 : ∀ x ∈ p1, x.block < W.heap.size := by obtain ⟨m, hm⟩ := k1; exact DataW.trod_lt m _ _ _ hm
  obtain ⟨aC, nC, cC, C, rfl, hC, hnC, hz⟩ := ints_view (hval 1 43 v1 rfl rfl) h1
  obtain ⟨a2, rfl, rfl, rfl⟩ := open_bool Try.underlying4 (hval 2 4 v2 rfl rfl) h2
  clear hA0
  refine (walk aN nN cN aO nO cO ws aC nC cC C a2 W hN hn hO hC hnC hz).mono fun e W' ⟨he, bel⟩ => ?_
  subst he
  exact ⟨_, rfl, _, _, _, [], _, [], hW', trodAll_mk1 (shut_bool Try.underlying4 _), (trodAll_cons_mk (Below.trod laidOut (by kernel_rfl) (of_decide_eq_true (by kernel_rfl)) k0 bel lt0) (trodAll_cons_mk (Below.trod laidOut (by kernel_rfl) (of_decide_eq_true (by kernel_rfl)) k1 bel lt1) (trodAll_cons_mk (shut_bool Try.underlying4 a2) trodAll_mk0))), rfl, bel.frame _, fun h => by cases h⟩

set_option maxRecDepth 100000 in
theorem lifted (os : Os) (started : os.Started) (H : Type) (enc : TypeId × Value → H) :
    ReturnsInHanded {} Try.checked os 7 .any (Rows.autoRunsSpec.pre6 enc Try.prog Try.f7 Rows.autoRunsRow.domain false) (Rows.autoRunsSpec.post enc Try.prog Try.f7 false true false false) := by
  refine returnsInHanded_of_change (C := Try.checked) own started (by kernel_rfl) Try.func7
    (ChangeSpec.witness6 (enc := enc) (C := Try.checked) false ⟨#[], #[.agg #[.slice none 0 0, .slice none 0 0], .slice none 0 0, .bool false], []⟩ 8 (by kernel_rfl) (by kernel_rfl) (by kernel_rfl) (by kernel_rfl)) ?_
  intro W base args ds gs before hval hW _ _
  exact contract H enc W base args ds gs before hval hW

theorem over : Rows.autoRunsRow.holds Try.pinned (OpenSpec.ofChange Rows.autoRunsSpec) :=
  OpenClaim.holds_of_wide 7 Try.f7 rfl rfl rfl rfl rfl rfl rfl ⟨rfl, rfl, rfl, rfl, rfl⟩ rfl rfl rfl rfl rfl (by kernel_rfl) Try.func7 (by kernel_rfl)
    (of_decide_eq_true (by kernel_rfl)) (by unfold Func.isWrapper; first | (rw [if_pos (by decide +kernel)]; kernel_rfl) | (rw [if_neg (by decide +kernel)]; exact ⟨rfl, rfl⟩))
    (fun os started H enc _ => lifted os started H enc)
end Go.Proofs.Ytfbcijnacbfjpaa.autoRuns
namespace Go.Proofs.Ytfbcijnacbfjpaa
/-- THE STATEMENT. -/
theorem autoRuns_holds : Rows.AutoRunsSaid := autoRuns.over
#print axioms autoRuns_holds
end Go.Proofs.Ytfbcijnacbfjpaa
