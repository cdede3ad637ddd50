/-
  stanzalaw01.ScalMost returns true at every slice of bytes, which reads afterwards as it read before; unicode/utf8's two tables are as the program's text lays them (the card ties them).
-/
import Derived.Test.YtaddjinjfdignabDoorCards
import Derived.Test.YtaddjinjfdignabDoorTie
import Derived.Test.YtaddjinjfdignabDoorView
import Derived.Test.YtaddjinjfdignabDoorBad
namespace Go.Proofs.YtaddjinjfdignabDoor.scalMost
open Go.ChangeShapes Go.WideShapes Go.ChangeAt Go.RowKit
set_option linter.unusedVariables false

theorem kept_cells {wr w3 w4 : World} {u0 u1 u2 : Value} (h0 : w3.cell? ⟨wr.heap.size, 0, none⟩ = some u0) (h1 : w3.cell? ⟨wr.heap.size, 1, none⟩ = some u1) (h2 : w3.cell? ⟨wr.heap.size, 2, none⟩ = some u2) (hs : wr.heap.size < w3.heap.size) (h : Below w3.heap.size w3 w4) :
    w4.cell? ⟨wr.heap.size, 0, none⟩ = some u0 ∧ w4.cell? ⟨wr.heap.size, 1, none⟩ = some u1 ∧ w4.cell? ⟨wr.heap.size, 2, none⟩ = some u2 :=
  ⟨(h.cell (p := ⟨wr.heap.size, 0, none⟩) hs).trans h0, (h.cell (p := ⟨wr.heap.size, 1, none⟩) hs).trans h1, (h.cell (p := ⟨wr.heap.size, 2, none⟩) hs).trans h2⟩

set_option maxRecDepth 100000 in
set_option maxHeartbeats 8000000 in
theorem walk (a : Option Addr) (n cap : Nat) (x : Nat → Nat) (b off : Nat) (w : World) (hcap : n ≤ cap) (hmax : cap ≤ maxLen) (ha : 0 < n → a = some ⟨b, off, none⟩)
    (hb : 0 < n → b < w.heap.size) (hz : 2 ≤ w.heap.size) (hx : ∀ j, x j < 256) (hT : Lib.Utf8Tabs 0 1 w)
    (hc : ∀ j, j < n → w.cell? ⟨b, off + j, none⟩ = some (.int .u8 (x j : Nat))) :
    Calls Tryd.prog 4 #[.slice a n cap] w fun e w' => e = .returned (.bool true) ∧ Below w.heap.size w w' := by
  have hcH : Hid (∀ j, j < n → w.cell? ⟨b, off + j, none⟩ = some (.int .u8 (x j : Nat))) := hc
  have hTH : Hid (Lib.Utf8Tabs 0 1 w) := hT
  have hxH : Hid (∀ j, x j < 256) := hx
  have haH : Hid (0 < n → a = some ⟨b, off, none⟩) := ha
  have hbH : Hid (0 < n → b < w.heap.size) := hb
  clear hc hT hx ha hb
  unfold maxLen at hmax
  have hmax' : cap ≤ 9223372036854775807 := by omega
  by_cases hbig : 3000 < n
  · go_enter Tryd.func4, Tryd.ntmps4
    go_wp2_with (go_at_call 5; refine (awake_any _ hz hTH.out).mono ?_; rintro e w1 ⟨rfl, hb1⟩)
    go_ret
    exact ⟨rfl, by assumption⟩
  · have hbig' : decide ((3000 : Int) < (n : Int)) = false := decide_eq_false (by omega)
    go_enter Tryd.func4, Tryd.ntmps4
    go_wp2_with (go_at_call 5; refine (awake_any _ hz hTH.out).mono ?_; rintro e w1 ⟨rfl, hb1⟩)
    have hs1 := hb1.size
    refine (all_any n x a b off cap w1 hcap (by omega) haH.out (fun h => Nat.lt_of_lt_of_le (hbH.out h) hs1) (by omega) hxH.out (tabs_below hTH.out hz hb1) (fun j hj => (hb1.cell (p := ⟨b, off + j, none⟩) (hbH.out (by omega))).trans (hcH.out j hj))).mono ?_
    rintro e w2 ⟨v2, rfl, ho2, hb2⟩
    obtain ⟨a2, g2, c2, rfl, hc2, ha2, hg2, hgb2, hcc2⟩ := row_view ho2
    have hs2 := hb2.size
    have hB2 : Hid (Below w.heap.size w w2) := hb1.trans (hb2.mono hs1)
    have ha2H : Hid (0 < (Sg.all n x).length → a2 = some ⟨g2, 0, none⟩) := ha2
    have hg2H : Hid (0 < (Sg.all n x).length → g2 < w2.heap.size) := hg2
    have hcc2H : Hid (∀ j, j < (Sg.all n x).length * 3 → w2.cell? ⟨g2, j, none⟩ = (sgCells (Sg.all n x))[j]?) := hcc2
    have hN : (Sg.all n x).length ≤ 3000 := Nat.le_trans (Sg.rest_len n x n 0 (by omega)) (by omega)
    clear ho2 hb1 hb2 ha2 hg2 hcc2 hgb2
    obtain ⟨N, hNN⟩ : ∃ N, N = (Sg.all n x).length := ⟨_, rfl⟩
    rw [← hNN] at hN hc2 ⊢
    have hNH : Hid (N = (Sg.all n x).length) := hNN
    clear hNN
    go_wp2_with fail
    go_loopw [14] (fun vi wr => ∃ (i p : Nat) (W : World), W = wr ∧ p ≤ n ∧ i ≤ N ∧ vi = .int .i64 i ∧ (Sg.all n x).drop i = Sg.rest n x p ∧ Below w2.heap.size w2 W) (fun vi _ => N - (intOf vi).toNat)
    case atStart => exact ⟨0, 0, _, rfl, by omega, by omega, rfl, rfl, Below.refl _ _⟩
    case round =>
      obtain ⟨i, p, W, rfl, hp, hi, rfl, hdr, hbel⟩ := hrel
      have hD : Hid ((Sg.all n x).drop i = Sg.rest n x p) := hdr
      have hBr : Hid (Below w2.heap.size w2 W) := hbel
      have hsr := hbel.size
      clear hdr hbel
      by_cases hlt : i < N
      · obtain ⟨hpn, hat, hnx⟩ := at_place hD.out (by have := hNH.out; omega) hp
        have hL1 := Sg.cnt_pos (n - p) (fun j => x (p + j))
        have hLn := Sg.cnt_le (n - p) (fun j => x (p + j)) (by omega)
        have hyes : Hid (1 < Sg.cnt (n - p) (fun j => x (p + j)) → Sg.beg (Sg.cnt (n - p) (fun j => x (p + j))) (fun j => x (p + j)) = true) := beg_yes
        have hno : Hid (Sg.cnt (n - p) (fun j => x (p + j)) < n - p → Sg.beg (Sg.cnt (n - p) (fun j => x (p + j)) + 1) (fun j => x (p + j)) = false) := beg_no
        have hval : Hid (∀ W', Below W.heap.size W W' → Sg.num (n - p) (fun j => x (p + j)) = 65533 → Calls Tryd.prog 9 #[.slice (some ⟨b, off + p, none⟩) (Sg.cnt (n - p) (fun j => x (p + j))) (cap - p)] W' fun e w' => ∃ r, e = .returned (.bool r) ∧ Below W'.heap.size W' w') := fun W' hW' hv =>
          valid_sign (n - p) (fun j => x (p + j)) b (off + p) (cap - p) W' (Nat.le_trans (by omega) hW'.size) (by omega) (by omega) (by omega) (Nat.lt_of_lt_of_le (hbH.out (by omega)) (Nat.le_trans (by omega) hW'.size)) (fun j => hxH.out _) (tabs_below (tabs_below (tabs_below hTH.out hz hB2.out) (by omega) hBr.out) (by omega) hW')
            (fun j hj => by rw [Nat.add_assoc]; exact (hW'.cell (p := ⟨b, off + (p + j), none⟩) (Nat.lt_of_lt_of_le (hbH.out (by omega)) (by omega))).trans ((hBr.out.cell (p := ⟨b, off + (p + j), none⟩) (Nat.lt_of_lt_of_le (hbH.out (by omega)) (by omega))).trans ((hB2.out.cell (p := ⟨b, off + (p + j), none⟩) (hbH.out (by omega))).trans (hcH.out _ (by omega))))) hv
        obtain ⟨R, hR⟩ : ∃ R, R = Sg.num (n - p) (fun j => x (p + j)) := ⟨_, rfl⟩
        obtain ⟨L, hL⟩ : ∃ L, L = Sg.cnt (n - p) (fun j => x (p + j)) := ⟨_, rfl⟩
        rw [← hR, ← hL] at hat
        rw [← hL] at hnx hL1 hLn
        have HN : Hid ((Sg.all n x).drop (i + 1) = Sg.rest n x (p + L)) := hnx
        have hyesL : Hid (1 < L → Sg.beg L (fun j => x (p + j)) = true) := (by rw [hL]; exact hyes.out : 1 < L → Sg.beg L (fun j => x (p + j)) = true)
        have hnoL : Hid (L < n - p → Sg.beg (L + 1) (fun j => x (p + j)) = false) := (by rw [hL]; exact hno.out : L < n - p → Sg.beg (L + 1) (fun j => x (p + j)) = false)
        have hvalL : Hid (R = 65533 → ∀ W', Below W.heap.size W W' → Calls Tryd.prog 9 #[.slice (some ⟨b, off + p, none⟩) L (cap - p)] W' fun e w' => ∃ r, e = .returned (.bool r) ∧ Below W'.heap.size W' w') := fun hr W' hW' => (by rw [hL]; exact hval.out W' hW' (by rw [← hR]; exact hr))
        have q := sgCells_at _ i _ hat
        have hN3 : Hid (i * 3 + 2 < (Sg.all n x).length * 3) := (by have := hNH.out; omega : i * 3 + 2 < (Sg.all n x).length * 3)
        clear hR hL hnx hat hyes hno hval
        obtain rfl := ha2H.out (by have := hNH.out; omega)
        obtain rfl := haH.out (by omega)
        have hg2w := hg2H.out (by have := hNH.out; omega)
        have hbw := hbH.out (by omega)
        have d0 : W.cell? ⟨g2, i * 3, none⟩ = some (.int .i32 (R : Nat)) := (hBr.out.cell (p := ⟨g2, i * 3, none⟩) hg2w).trans ((hcc2H.out _ (by have := hN3.out; omega)).trans q.1)
        have d1 : W.cell? ⟨g2, i * 3 + 1, none⟩ = some (.int .i64 (p : Nat)) := (hBr.out.cell (p := ⟨g2, i * 3 + 1, none⟩) hg2w).trans ((hcc2H.out _ (by have := hN3.out; omega)).trans q.2.1)
        have d2 : W.cell? ⟨g2, i * 3 + 2, none⟩ = some (.int .i64 (L : Nat)) := (hBr.out.cell (p := ⟨g2, i * 3 + 2, none⟩) hg2w).trans ((hcc2H.out _ (by have := hN3.out; omega)).trans q.2.2)
        clear q
        by_cases hR3 : R = 65533
        · have t2 : ((R : Int) != 65533) = false := by rw [bne_eq_false_iff_eq]; omega
          have hR3H : Hid (R = 65533) := hR3
          clear hR3
          go_wp2_with fail
          refine (full_any (n - p) (fun j => x (p + j)) b (off + p) (cap - p) _ (by simp; omega) (by omega) (by simp; omega) (fun j => hxH.out _) (fun j hj => by
            rw [Nat.add_assoc]
            exact (World.cell?_alloc_past _ b _ (by omega)).trans ((hBr.out.cell (p := ⟨b, off + (p + j), none⟩) (Nat.lt_of_lt_of_le hbw (by omega))).trans ((hB2.out.cell (p := ⟨b, off + (p + j), none⟩) hbw).trans (hcH.out _ (by omega))))) (tabs_alloc (tabs_below (tabs_below hTH.out hz hB2.out) (by omega) hBr.out) (by omega) _)).mono ?_
          rintro e w3 ⟨r1, rfl, hb3⟩
          have hs3 : W.heap.size < w3.heap.size := by have := hb3.size; simp at this; omega
          obtain ⟨e0, e1, e2, HB3⟩ := after_cells hb3
          clear hb3
          cases r1 with
          | false =>
            have hccC : Hid (∀ j, j < n → w3.cell? ⟨b, off + j, none⟩ = some (.int .u8 (x j : Nat))) := fun j hj => (HB3.out.cell (p := ⟨b, off + j, none⟩) (Nat.lt_of_lt_of_le hbw (by omega))).trans ((hBr.out.cell (p := ⟨b, off + j, none⟩) (Nat.lt_of_lt_of_le hbw (by omega))).trans ((hB2.out.cell (p := ⟨b, off + j, none⟩) hbw).trans (hcH.out j hj)))
            by_cases q1 : 1 < L
            · have s1 : decide ((1 : Int) < (L : Int)) = true := decide_eq_true (by omega)
              have s1' : (1 : Int) < (L : Int) := by omega
              have hb1 : Sg.beg (p + L - p) (fun j => x (p + j)) = true := by rw [show p + L - p = L by omega]; exact hyesL.out q1
              have hb1L : Sg.beg L (fun j => x (p + j)) = true := hyesL.out q1
              by_cases q2 : p + L < n
              · have s2' : (p : Int) + (L : Int) < (n : Int) := by omega
                have hb2 : Sg.beg (p + L + 1 - p) (fun j => x (p + j)) = false := by rw [show p + L + 1 - p = L + 1 by omega]; exact hnoL.out (by omega)
                have hb2L : Sg.beg (L + 1) (fun j => x (p + j)) = false := hnoL.out (by omega)
                go_wp2_with (go_at_call 10; refine (begins_any _ (fun j => x (p + j)) b (off + p) _ _ (by omega) (fun j hj => by rw [Nat.add_assoc]; exact hccC.out _ (by omega))).mono ?_; rintro e w' ⟨rfl, rfl⟩)
                go_roundw
                case rel => exact ⟨i + 1, p + L, _, rfl, by omega, by omega, by go_num, HN.out, hBr.out.trans (HB3.out.mono hsr)⟩
                case measure => simp [intOf]; omega
              · have s2 : decide ((p : Int) + (L : Int) < (n : Int)) = false := decide_eq_false (by omega)
                go_wp2_with (go_at_call 10; refine (begins_any _ (fun j => x (p + j)) b (off + p) _ _ (by omega) (fun j hj => by rw [Nat.add_assoc]; exact hccC.out _ (by omega))).mono ?_; rintro e w' ⟨rfl, rfl⟩)
                go_roundw
                case rel => exact ⟨i + 1, p + L, _, rfl, by omega, by omega, by go_num, HN.out, hBr.out.trans (HB3.out.mono hsr)⟩
                case measure => simp [intOf]; omega
            · have s1 : decide ((1 : Int) < (L : Int)) = false := decide_eq_false (by omega)
              by_cases q2 : p + L < n
              · have s2' : (p : Int) + (L : Int) < (n : Int) := by omega
                have hb2 : Sg.beg (p + L + 1 - p) (fun j => x (p + j)) = false := by rw [show p + L + 1 - p = L + 1 by omega]; exact hnoL.out (by omega)
                have hb2L : Sg.beg (L + 1) (fun j => x (p + j)) = false := hnoL.out (by omega)
                go_wp2_with (go_at_call 10; refine (begins_any _ (fun j => x (p + j)) b (off + p) _ _ (by omega) (fun j hj => by rw [Nat.add_assoc]; exact hccC.out _ (by omega))).mono ?_; rintro e w' ⟨rfl, rfl⟩)
                go_roundw
                case rel => exact ⟨i + 1, p + L, _, rfl, by omega, by omega, by go_num, HN.out, hBr.out.trans (HB3.out.mono hsr)⟩
                case measure => simp [intOf]; omega
              · have s2 : decide ((p : Int) + (L : Int) < (n : Int)) = false := decide_eq_false (by omega)
                go_wp2_with (go_at_call 10; refine (begins_any _ (fun j => x (p + j)) b (off + p) _ _ (by omega) (fun j hj => by rw [Nat.add_assoc]; exact hccC.out _ (by omega))).mono ?_; rintro e w' ⟨rfl, rfl⟩)
                go_roundw
                case rel => exact ⟨i + 1, p + L, _, rfl, by omega, by omega, by go_num, HN.out, hBr.out.trans (HB3.out.mono hsr)⟩
                case measure => simp [intOf]; omega
          | true =>
            go_wp2_with fail
            try rw [show p + L - p = L by omega]
            refine (hvalL.out hR3H.out w3 HB3.out).mono ?_
            rintro e w4 ⟨r2, rfl, hb4⟩
            obtain ⟨f0, f1, f2⟩ := kept_cells e0 e1 e2 hs3 hb4
            have HB4 : Hid (Below W.heap.size W w4) := HB3.out.trans (hb4.mono (by omega))
            clear hb4 e0 e1 e2
            cases r2 with
            | true =>
              go_wp2
              go_roundw
              case rel => exact ⟨i + 1, p + L, _, rfl, by omega, by omega, by go_num, HN.out, hBr.out.trans (HB4.out.mono hsr)⟩
              case measure => simp [intOf]; omega
            | false =>
              have hccC : Hid (∀ j, j < n → w4.cell? ⟨b, off + j, none⟩ = some (.int .u8 (x j : Nat))) := fun j hj => (HB4.out.cell (p := ⟨b, off + j, none⟩) (Nat.lt_of_lt_of_le hbw (by omega))).trans ((hBr.out.cell (p := ⟨b, off + j, none⟩) (Nat.lt_of_lt_of_le hbw (by omega))).trans ((hB2.out.cell (p := ⟨b, off + j, none⟩) hbw).trans (hcH.out j hj)))
              by_cases q1 : 1 < L
              · have s1 : decide ((1 : Int) < (L : Int)) = true := decide_eq_true (by omega)
                have s1' : (1 : Int) < (L : Int) := by omega
                have hb1 : Sg.beg (p + L - p) (fun j => x (p + j)) = true := by rw [show p + L - p = L by omega]; exact hyesL.out q1
                have hb1L : Sg.beg L (fun j => x (p + j)) = true := hyesL.out q1
                by_cases q2 : p + L < n
                · have s2' : (p : Int) + (L : Int) < (n : Int) := by omega
                  have hb2 : Sg.beg (p + L + 1 - p) (fun j => x (p + j)) = false := by rw [show p + L + 1 - p = L + 1 by omega]; exact hnoL.out (by omega)
                  have hb2L : Sg.beg (L + 1) (fun j => x (p + j)) = false := hnoL.out (by omega)
                  go_wp2_with (go_at_call 10; refine (begins_any _ (fun j => x (p + j)) b (off + p) _ _ (by omega) (fun j hj => by rw [Nat.add_assoc]; exact hccC.out _ (by omega))).mono ?_; rintro e w' ⟨rfl, rfl⟩)
                  go_roundw
                  case rel => exact ⟨i + 1, p + L, _, rfl, by omega, by omega, by go_num, HN.out, hBr.out.trans (HB4.out.mono hsr)⟩
                  case measure => simp [intOf]; omega
                · have s2 : decide ((p : Int) + (L : Int) < (n : Int)) = false := decide_eq_false (by omega)
                  go_wp2_with (go_at_call 10; refine (begins_any _ (fun j => x (p + j)) b (off + p) _ _ (by omega) (fun j hj => by rw [Nat.add_assoc]; exact hccC.out _ (by omega))).mono ?_; rintro e w' ⟨rfl, rfl⟩)
                  go_roundw
                  case rel => exact ⟨i + 1, p + L, _, rfl, by omega, by omega, by go_num, HN.out, hBr.out.trans (HB4.out.mono hsr)⟩
                  case measure => simp [intOf]; omega
              · have s1 : decide ((1 : Int) < (L : Int)) = false := decide_eq_false (by omega)
                by_cases q2 : p + L < n
                · have s2' : (p : Int) + (L : Int) < (n : Int) := by omega
                  have hb2 : Sg.beg (p + L + 1 - p) (fun j => x (p + j)) = false := by rw [show p + L + 1 - p = L + 1 by omega]; exact hnoL.out (by omega)
                  have hb2L : Sg.beg (L + 1) (fun j => x (p + j)) = false := hnoL.out (by omega)
                  go_wp2_with (go_at_call 10; refine (begins_any _ (fun j => x (p + j)) b (off + p) _ _ (by omega) (fun j hj => by rw [Nat.add_assoc]; exact hccC.out _ (by omega))).mono ?_; rintro e w' ⟨rfl, rfl⟩)
                  go_roundw
                  case rel => exact ⟨i + 1, p + L, _, rfl, by omega, by omega, by go_num, HN.out, hBr.out.trans (HB4.out.mono hsr)⟩
                  case measure => simp [intOf]; omega
                · have s2 : decide ((p : Int) + (L : Int) < (n : Int)) = false := decide_eq_false (by omega)
                  go_wp2_with (go_at_call 10; refine (begins_any _ (fun j => x (p + j)) b (off + p) _ _ (by omega) (fun j hj => by rw [Nat.add_assoc]; exact hccC.out _ (by omega))).mono ?_; rintro e w' ⟨rfl, rfl⟩)
                  go_roundw
                  case rel => exact ⟨i + 1, p + L, _, rfl, by omega, by omega, by go_num, HN.out, hBr.out.trans (HB4.out.mono hsr)⟩
                  case measure => simp [intOf]; omega
        · have t2 : ((R : Int) != 65533) = true := by rw [bne_iff_ne]; omega
          have HBW : ∀ o, Hid (Below W.heap.size W (W.alloc o)) := fun o => (Below.refl _ _).alloc (Nat.le_refl _) o
          go_wp2
          go_roundw
          case rel => exact ⟨i + 1, p + L, _, rfl, by omega, by omega, by go_num, HN.out, hBr.out.trans ((HBW _).out.mono hsr)⟩
          case measure => simp [intOf]; omega
      · go_wp2
        go_ret
        exact ⟨rfl, hB2.out.trans (hBr.out.mono (by omega))⟩
theorem contract (H : Type) (enc : TypeId × Value → H) (W : World) (base : Nat) (args : Array Value) (ds gs : List (DataW H)) (before : List MemPlace)
    (hval : ∀ (j : Nat) t v, Tryd.f4.params[j]? = some t → args[j]? = some v → Value.okWide Tryd.prog W .any base t v)
    (hW : DataW.Whole enc Tryd.prog Tryd.f4.params.toList Rows.scalMostSpec.vars false W args.toList ds gs before) (hL : laidMetH Tryd.prog Rows.scalMostRow.laid W) :
    Calls Tryd.prog 4 args W fun e W' => ∃ v, e = .returned v ∧ Rows.scalMostSpec.post enc Tryd.prog Tryd.f4 false true false false W args v W' := by
  have hW' := hW
  obtain ⟨p, q, hA0, hV, rfl, hfz, hnd⟩ := hW
  have hA : DataW.TrodAll enc Tryd.prog W 0 (fun _ => true) true Tryd.f4.params.toList args.toList ds p := hA0
  rw [Tryd.params4] at hA hval
  obtain ⟨v0, vs0, d0, ds0, p0, q0, hargs, rfl, rfl, h0, r0⟩ := trodAll_cons hA
  obtain ⟨rfl, rfl, rfl⟩ := trodAll_nil r0
  obtain rfl : args = #[v0] := by cases args; simp_all
  obtain ⟨rfl, rfl⟩ := trodVars_none hV
  obtain ⟨a0, len0, cap0, rfl⟩ := okWide_slice Tryd.underlying22 (hval 0 22 v0 rfl rfl)
  have k0 := h0
  have lt0 : ∀ x ∈ p0, x.block < W.heap.size := by obtain ⟨m, hm⟩ := k0; exact DataW.trod_lt m _ _ _ hm
  have hnone0 := fun (h : a0 = none) => bytes_none h0 h
  obtain ⟨x0, b0, off0, hcap0, hmax0, ha0, hb0, hx0, hc0⟩ := bytes_view h0
  clear hA0
  obtain ⟨hT, hz⟩ := tabs_of hL
  refine (walk a0 len0 cap0 x0 b0 off0 W hcap0 hmax0 ha0 hb0 hz hx0 hT hc0).mono fun e W' ⟨he, bel⟩ => ?_
  subst he
  exact ⟨_, rfl, _, _, _, [], _, [], hW', trodAll_mk1 (shut_bool Tryd.underlying4 _), (trodAll_cons_mk (Below.trod laidOut (by kernel_rfl) (of_decide_eq_true (by kernel_rfl)) k0 bel lt0) trodAll_mk0), rfl, bel.frame _, fun h => by cases h⟩

theorem reads (os : Os) {H : Type} (enc : TypeId × Value → H) : ∃ places, DataW.whole enc Tryd.prog ((laidWorld Tryd.prog os).forCall (fun _ _ => 0) ⟨#[], #[.slice none 0 0], []⟩).memory Tryd.f4.params.toList Rows.scalMostSpec.vars false (#[.slice none 0 0] : Array Value).toList 8 = some ([.nil], [], places) :=
  ⟨[], by kernel_rfl⟩

set_option maxRecDepth 100000 in
theorem lifted (os : Os) (started : os.Started) (H : Type) (enc : TypeId × Value → H) (F : Stop.Interp) :
    ReturnsInHanded {} Tryd.checked os 4 .any ((OpenSpec.ofChange Rows.scalMostSpec).preRow enc Tryd.prog Tryd.f4 Rows.scalMostRow.domain false Rows.scalMostRow.laid) (((OpenSpec.ofChange Rows.scalMostSpec).at F).post enc Tryd.prog Tryd.f4 false true false false) := by
  obtain ⟨places, hx⟩ := reads os enc
  refine returnsInHanded_of_row (C := Tryd.checked) (s := OpenSpec.ofChange Rows.scalMostSpec) own started (by kernel_rfl) Tryd.func4
    (witness_row_at (enc := enc) (C := Tryd.checked) false (laidWorld Tryd.prog os) #[.slice none 0 0] rfl (by kernel_rfl) (by kernel_rfl) (by kernel_rfl)
      (OpenSpec.preRow_of_cond 8 hx (by kernel_rfl) (fun k hk => by cases hk) (by kernel_rfl) (laid_met os _))) ?_
  intro W base args ds gs before hval hW _ _ _ hL _ _
  exact contract H enc W base args ds gs before hval hW hL

theorem said : Rows.ScalMostSaid :=
  OpenClaim.holds_of_cond 4 Tryd.f4 rfl rfl rfl rfl rfl rfl rfl ⟨rfl, rfl, rfl, rfl, rfl⟩ rfl rfl rfl rfl rfl (by kernel_rfl) Tryd.func4 (by kernel_rfl)
    (of_decide_eq_true (by kernel_rfl)) (by unfold Func.isWrapper; first | (rw [if_pos (by decide +kernel)]; kernel_rfl) | (rw [if_neg (by decide +kernel)]; exact ⟨rfl, rfl⟩))
    (fun os started H enc _ F => by rw [OpenClaim.pre_eq_preRow]; exact lifted os started H enc F)

theorem plain (f : FuncId) (fn : Func) (hf : Tryd.pinned.checked.prog.funcNamed "stanza/stanzalaw01.ScalMost" = some f) (hfn : Tryd.pinned.checked.prog.funcs[f]? = some fn) :
    false = Tryd.pinned.checked.prog.looks [] ∧ ∀ (j : Nat) t, fn.params[j]? = some t → Tryd.pinned.checked.prog.wantsStandIn t = false := by
  obtain rfl : f = 4 := Option.some.inj ((show Tryd.prog.funcNamed "stanza/stanzalaw01.ScalMost" = some 4 by kernel_rfl).symm.trans hf) |>.symm
  obtain rfl : fn = Tryd.f4 := (Option.some.inj (Tryd.func4.symm.trans hfn)).symm
  refine ⟨by kernel_rfl, fun j t ht => ?_⟩
  rw [Tryd.params4] at ht
  have hm : t ∈ [22] := by simpa using Array.mem_of_getElem? ht
  have hall : ([22].all fun u => !Tryd.prog.wantsStandIn u) = true := by kernel_rfl
  exact (show Tryd.prog.wantsStandIn t = false by simpa using List.all_eq_true.1 hall t hm)

/-- THE CARD. -/
theorem card : Rows.ScalMostCardSaid :=
  Claim7.holds_tied_plain_at .later [] _ _ _ _ said (fun _ h => by cases h) (by kernel_rfl) (fun _ h => by cases h) scalMost_row_tie rfl ⟨rfl, rfl⟩ (by kernel_rfl) rfl plain (by kernel_rfl)
end Go.Proofs.YtaddjinjfdignabDoor.scalMost
namespace Go.Proofs.YtaddjinjfdignabDoor
/-- THE STATEMENT. -/
theorem scalMostCard_holds : Rows.ScalMostCardSaid := scalMost.card
#print axioms scalMostCard_holds
end Go.Proofs.YtaddjinjfdignabDoor
