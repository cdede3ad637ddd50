/-
  the reference's Check: of any automaton that lies in memory it tells whether it is one.
-/
import Derived.Test.YtelifjeppegcmaaRn
import Derived.Deep.QuietTactic
import Derived.BigQuiet
namespace Go.Proofs.Ytelifjeppegcmaa
open Go.RowKit Go.Maps
set_option linter.unusedVariables false
set_option linter.unusedSimpArgs false
/-- a state's ways are so many, and each leads to one of n states. -/
def WyOk (n m : Nat) (x : Wy) : Prop := x.n = m ∧ ∀ (j : Nat) (y : Int), x.L[j]? = some y → 0 ≤ y ∧ y < (n : Int)
def ChkB (ws : List Wy) (n nO : Nat) : Prop := 0 < n ∧ nO = n ∧ ∀ (i : Nat) (x : Wy), ws[i]? = some x → WyOk n (wy ws 0).n x
def chkP (ws : List Wy) (n nO : Nat) (w : World) : Ending → World → Prop := fun e w' => ∃ b : Bool, e = .returned (.bool b) ∧ (b = true ↔ ChkB ws n nO) ∧ Only (fun _ => False) w w'
theorem chk_false {ws : List Wy} {n nO : Nat} (h : ¬ ChkB ws n nO) : (false = true ↔ ChkB ws n nO) := ⟨(fun h => by cases h), fun k => (h k).elim⟩
set_option maxRecDepth 100000 in
set_option maxHeartbeats 4000000 in
theorem check_any (aN : Option Addr) (nN cN : Nat) (aO : Option Addr) (nO cO : Nat) (ws : List Wy) (w : World) (hN : Nw w aN nN ws) (hn : nN ≤ maxLen) (hO : nO ≤ maxLen) :
    Calls Try.prog 15 #[autV aN nN cN aO nO cO] w (chkP ws nN nO w) := by
  unfold maxLen at hn hO
  by_cases h0 : nN = 0
  · subst h0
    unfold autV
    clear hN
    go_enter Try.func15, Try.ntmps15
    go_wp2_with fail
    go_ret
    exact ⟨false, rfl, chk_false (fun h => absurd h.1 (by decide)), (Only.refl _ _).alloc _⟩
  · have h1 : ¬ (nN : Int) < 1 := by omega
    by_cases hOn : nO = nN
    · subst hOn
      have HN : Hid (Nw w aN nO ws) := hN
      obtain ⟨hl, b, off, g1, g2⟩ := hN
      obtain ⟨rfl, hb⟩ := g1 (by omega)
      obtain ⟨x0, hx0⟩ : ∃ x, ws[0]? = some x := ⟨_, List.getElem?_eq_getElem (by omega)⟩
      have hw0 : wy ws 0 = x0 := by unfold wy; rw [if_pos (by omega)]; show ws[0]?.getD wy0 = x0; rw [hx0]; rfl
      have HL : Hid (ws.length = nO) := hl
      have HG : Hid (∀ (j : Nat) (x : Wy), ws[j]? = some x → Iw w x.a x.n x.L ∧ x.n ≤ maxLen ∧ w.cell? ⟨b, off + j, none⟩ = some (.slice x.a x.n x.c)) := g2
      have HW0 : Hid (wy ws 0 = x0) := hw0
      obtain ⟨_, hm0, hc0⟩ := g2 0 x0 hx0
      obtain ⟨a0, n0, c0, L0⟩ := x0
      simp only [Nat.add_zero] at hc0 hm0
      unfold maxLen at hm0
      clear g1 g2 hl hw0 hx0
      unfold autV
      go_enter Try.func15, Try.ntmps15
      go_wp2_with fail
      go_loopg [4] nO (fun gh v wr => ∃ (i : Nat) (W : World), W = wr ∧ gh = nO - i ∧ i ≤ nO ∧ v = .int .i64 (i : Int) ∧ Only (fun _ => False) w W ∧ Abx W w.heap.size (some ⟨b, off, none⟩) nO cN aO nO cO ∧ ∀ (j : Nat) (x : Wy), j < i → ws[j]? = some x → WyOk nO n0 x)
      case atStart => exact ⟨0, _, rfl, rfl, by omega, rfl, (Only.refl _ _).alloc _, heap_alloc_new w _, fun j x hj => absurd hj (Nat.not_lt_zero _)⟩
      case round =>
        obtain ⟨i, W, hW, rfl, hi, rfl, hOr, hAb, hok⟩ := hrel
        subst hW
        have HOr : Hid (Only (fun _ => False) w W) := hOr
        have HAb : Hid (Abx W w.heap.size (some ⟨b, off, none⟩) nO cN aO nO cO) := hAb
        have HOK : Hid (∀ (j : Nat) (x : Wy), j < i → ws[j]? = some x → WyOk nO n0 x) := hok
        have y0 := hAb.c0
        have y1 := hAb.c1
        have z0 := keep0 hOr hc0
        clear hOr hAb hok
        by_cases hlt : i < nO
        · have t1 : (i : Int) < (nO : Int) := by omega
          obtain ⟨x, hx⟩ : ∃ x, ws[i]? = some x := ⟨_, List.getElem?_eq_getElem (by have := HL.out; omega)⟩
          have HX : Hid (ws[i]? = some x) := hx
          obtain ⟨hIx, hmx, hcx⟩ := HG.out i x hx
          have z1 := keep0 HOr.out hcx
          obtain ⟨xa, xn, xc, xL⟩ := x
          simp only at hIx hmx hcx z1
          unfold maxLen at hmx
          have HI : Hid (Iw w xa xn xL) := hIx
          clear hx hIx hcx
          by_cases hxn : xn = n0
          · subst hxn
            go_wp2_with fail
            go_quiet (fail)
            go_wp2_with fail
            go_loopg [5] xn (fun gh v wr => ∃ (c : Nat) (V : World), V = wr ∧ gh = xn - c ∧ c ≤ xn ∧ v = .int .i64 (c : Int) ∧ Only (fun _ => False) w V ∧ Abx V w.heap.size (some ⟨b, off, none⟩) nO cN aO nO cO ∧ ∀ (j : Nat) (y : Int), j < c → xL[j]? = some y → 0 ≤ y ∧ y < (nO : Int))
            case atStart => exact ⟨0, _, rfl, rfl, by omega, rfl, HOr.out.drewN _, HAb.out.keep ((Only.refl _ _).drewN _), fun j y hj => absurd hj (Nat.not_lt_zero _)⟩
            case round =>
              obtain ⟨c, V, hV, rfl, hc, rfl, hOv, hAv, hokc⟩ := hrel
              subst hV
              have HOv : Hid (Only (fun _ => False) w V) := hOv
              have HAv : Hid (Abx V w.heap.size (some ⟨b, off, none⟩) nO cN aO nO cO) := hAv
              have HOC : Hid (∀ (j : Nat) (y : Int), j < c → xL[j]? = some y → 0 ≤ y ∧ y < (nO : Int)) := hokc
              have u0 := hAv.c0
              have u1 := hAv.c1
              have u2 := keep0 hOv (HG.out i _ HX.out).2.2
              simp only at u2
              clear hOv hAv hokc
              by_cases hlc : c < xn
              · have t3 : (c : Int) < (xn : Int) := by omega
                obtain ⟨hxl, bx, ox, q1, q2⟩ := HI.out
                obtain ⟨rfl, hbx⟩ := q1 (by omega)
                obtain ⟨y, hy⟩ : ∃ y, xL[c]? = some y := ⟨_, List.getElem?_eq_getElem (by omega)⟩
                have HY : Hid (xL[c]? = some y) := hy
                have u3 := keep0 HOv.out (q2 c y hy)
                clear q1 q2 hy hxl
                by_cases hy0 : y < 0
                · go_wp2_with fail
                  go_ret
                  refine ⟨false, rfl, chk_false (fun h => absurd ((h.2.2 i _ HX.out).2 c y HY.out).1 (by omega)), ?_⟩
                  first | exact HOv.out | exact HOv.out.drewN _
                · by_cases hy1 : (nO : Int) ≤ y
                  · go_wp2_with fail
                    go_ret
                    refine ⟨false, rfl, chk_false (fun h => absurd ((h.2.2 i _ HX.out).2 c y HY.out).2 (by omega)), ?_⟩
                    first | exact HOv.out | exact HOv.out.drewN _
                  · go_wp2_with fail
                    go_roundg (xn - (c + 1))
                    case measure => omega
                    case rel =>
                      refine ⟨c + 1, _, rfl, rfl, by omega, by go_num, (by first | exact HOv.out | exact HOv.out.drewN _), (by first | exact HAv.out | exact HAv.out.keep ((Only.refl _ _).drewN _)), fun j y' hj hy' => ?_⟩
                      by_cases e : j = c
                      · subst e
                        rw [HY.out] at hy'
                        injection hy' with hy'
                        subst hy'
                        omega
                      · exact HOC.out j y' (by omega) hy'
              · have t4 : decide ((c : Int) < (xn : Int)) = false := decide_eq_false (by omega)
                go_wp2_with fail
                go_roundg (nO - (i + 1))
                case measure => omega
                case rel =>
                  refine ⟨i + 1, _, rfl, rfl, by omega, by go_num, (by first | exact HOv.out | exact HOv.out.drewN _), (by first | exact HAv.out | exact HAv.out.keep ((Only.refl _ _).drewN _)), fun j x' hj hx' => ?_⟩
                  by_cases e : j = i
                  · subst e
                    rw [HX.out] at hx'
                    injection hx' with hx'
                    subst hx'
                    exact ⟨rfl, fun j y hy => HOC.out j y (by have := (List.getElem?_eq_some_iff.1 (show xL[j]? = some y from hy)).1; have := HI.out.1; omega) hy⟩
                  · exact HOK.out j x' (by omega) hx'
          · have hxn2 : ¬ (xn : Int) = (n0 : Int) := by omega
            have hxn3 : ((xn : Int) == (n0 : Int)) = false := by simpa using hxn2
            go_wp2_with fail
            go_quiet (fail)
            go_wp2_with fail
            go_ret
            refine ⟨false, rfl, chk_false (fun h => hxn ?_), HOr.out.drewN _⟩
            have := (h.2.2 i _ HX.out).1
            rw [HW0.out] at this
            exact this
        · have t2 : decide ((i : Int) < (nO : Int)) = false := decide_eq_false (by omega)
          go_wp2_with fail
          go_ret
          refine ⟨true, rfl, ⟨fun _ => ⟨by omega, rfl, fun j x hj => ?_⟩, fun _ => rfl⟩, HOr.out⟩
          rw [HW0.out]
          exact HOK.out j x (by have := (List.getElem?_eq_some_iff.1 hj).1; have := HL.out; omega) hj
    · have h2 : ¬ (nO : Int) = (nN : Int) := by omega
      have h3 : ((nO : Int) == (nN : Int)) = false := by simpa using h2
      unfold autV
      clear hN
      go_enter Try.func15, Try.ntmps15
      go_wp2_with fail
      go_ret
      exact ⟨false, rfl, chk_false (fun h => hOn h.2.1), (Only.refl _ _).alloc _⟩
end Go.Proofs.Ytelifjeppegcmaa
