/-
  An automaton that came in: what it is, and Check of it.
-/
import Derived.Test.YtelifjeppegcmaaAw
import Derived.Test.YtelifjeppegcmaaVw
import Derived.Test.YtelifjeppegcmaaLr
namespace Go.Proofs.Ytelifjeppegcmaa
open Go.RowKit Go.Maps
set_option linter.unusedVariables false
set_option linter.unusedSimpArgs false
def lenW (ws : List Wy) (s : Nat) : Nat := (ws[s]?.getD wy0).n
def valW (ws : List Wy) (s k : Nat) : Int := (ws[s]?.getD wy0).L[k]?.getD 0
def nxW (ws : List Wy) (s k : Nat) : Nat := (valW ws s k).toNat
def outU (U : List Nat) (s : Nat) : Nat := U[s]?.getD 0
theorem Nw.any {w : World} {a : Option Addr} {n : Nat} {ws : List Wy} (h : Nw w a n ws) (h0 : 0 < n) : ∃ b off, a = some ⟨b, off, none⟩ ∧ Any w n b off (lenW ws) (valW ws) := by
  obtain ⟨hl, b, off, h1, h2⟩ := h
  refine ⟨b, off, (h1 h0).1, fun s hs => ?_⟩
  have e : ws[s]? = some (ws[s]'(by omega)) := List.getElem?_eq_getElem _
  obtain ⟨hI, _, hc⟩ := h2 s _ e
  have el : lenW ws s = (ws[s]'(by omega)).n := by unfold lenW; rw [e]; rfl
  refine ⟨_, _, by rw [el]; exact hc, fun k hk => ?_⟩
  obtain ⟨hL, b2, off2, g1, g2⟩ := hI
  rw [el] at hk
  have e2 : (ws[s]'(by omega)).L[k]? = some ((ws[s]'(by omega)).L[k]'(by omega)) := List.getElem?_eq_getElem _
  refine ⟨b2, off2, (g1 (by omega)).1, ?_⟩
  rw [g2 k _ e2]
  unfold valW
  rw [e]
  show _ = some (Value.int .i64 ((ws[s]'(by omega)).L[k]?.getD 0))
  rw [e2]
  rfl
theorem wy_zero {ws : List Wy} (h : 0 < ws.length) : (wy ws 0).n = lenW ws 0 := by
  unfold wy lenW
  rw [if_pos (by omega)]
  rfl
theorem chk_good {ws : List Wy} {n nO : Nat} (hl : ws.length = n) (h : ChkB ws n nO) : ∀ s, s < n → Good n (lenW ws) (valW ws) s := fun s hs => by
  have e : ws[s]? = some (ws[s]'(by omega)) := List.getElem?_eq_getElem _
  obtain ⟨h1, h2⟩ := h.2.2 s _ e
  rw [wy_zero (by omega)] at h1
  have el : lenW ws s = (ws[s]'(by omega)).n := by unfold lenW; rw [e]; rfl
  refine ⟨by rw [el, h1], fun k hk => ?_⟩
  unfold valW
  rw [e]
  show 0 ≤ (ws[s]'(by omega)).L[k]?.getD 0 ∧ (ws[s]'(by omega)).L[k]?.getD 0 < _
  cases e2 : (ws[s]'(by omega)).L[k]? with
  | none => exact ⟨by simp, by have := h.1; show (0 : Int) < (n : Int); omega⟩
  | some y => exact h2 k y e2
theorem good_chk {w : World} {a : Option Addr} {ws : List Wy} {n nO : Nat} (hN : Nw w a n ws) (h0 : 0 < n) (hO : nO = n) (h : ∀ s, s < n → Good n (lenW ws) (valW ws) s) : ChkB ws n nO := by
  have hl := hN.1
  refine ⟨h0, hO, fun i x hx => ?_⟩
  have hi := (List.getElem?_eq_some_iff.1 hx).1
  have el : lenW ws i = x.n := by unfold lenW; rw [hx]; rfl
  obtain ⟨g1, g2⟩ := h i (by omega)
  refine ⟨by rw [wy_zero (by omega), ← el, g1], fun j y hy => ?_⟩
  obtain ⟨_, b, off, _, h2⟩ := hN
  obtain ⟨⟨hL, _⟩, _⟩ := h2 i x hx
  have hj := (List.getElem?_eq_some_iff.1 hy).1
  have := g2 j (by omega)
  unfold valW at this
  rw [hx] at this
  have e3 : (some x : Option Wy).getD wy0 = x := rfl
  rw [e3, hy] at this
  exact this
theorem Any.nxt {W : World} {n b off k : Nat} {ws : List Wy} (h : Any W n b off (lenW ws) (valW ws)) (hg : ∀ s, s < n → Good n (lenW ws) (valW ws) s) (hk : k = lenW ws 0) : Nxt W n k b off (nxW ws) := fun s hs => by
  obtain ⟨a, c, h1, h2⟩ := h s hs
  obtain ⟨g1, g2⟩ := hg s hs
  refine ⟨a, c, by rw [hk, ← g1]; exact h1, fun kk hkk => ?_⟩
  obtain ⟨b2, o2, e1, e2⟩ := h2 kk (by rw [g1, ← hk]; exact hkk)
  obtain ⟨p1, p2⟩ := g2 kk (by rw [g1, ← hk]; exact hkk)
  refine ⟨b2, o2, e1, ?_, ?_⟩
  · unfold nxW
    rw [Int.toNat_of_nonneg p1]
    exact e2
  · unfold nxW
    omega
/-- Check of what is no automaton. -/
theorem check_no (aN : Option Addr) (nN cN : Nat) (aO : Option Addr) (nO cO : Nat) (ws : List Wy) (w : World) (hN : Nw w aN nN ws) (hn : nN ≤ 100) (hall : ∀ (j : Nat) (x : Wy), ws[j]? = some x → x.n ≤ 100) (hno : ¬ ChkB ws nN nO) : Calls Try.prog 10 #[.agg #[.slice aN nN cN, .slice aO nO cO]] w fun e w' => e = .returned (.bool false) ∧ Only (fun _ => False) w w' := by
  by_cases h0 : 0 < nN
  · by_cases hO : nO = nN
    · subst hO
      obtain ⟨b, off, rfl, hA⟩ := hN.any h0
      refine check_bad aO cO nO b off cN (lenW ws) (valW ws) w h0 (by omega) (fun s hs => ?_) hA ?_
      · have e : ws[s]? = some (ws[s]'(by have := hN.1; omega)) := List.getElem?_eq_getElem _
        have := hall s _ e
        unfold lenW
        rw [e]
        show (ws[s]'(by have := hN.1; omega)).n ≤ 100000
        omega
      · by_cases hx : ∃ s, s < nO ∧ ¬ Good nO (lenW ws) (valW ws) s
        · exact hx
        · exact absurd (good_chk hN h0 rfl (fun s hs => Classical.byContradiction (fun hg => hx ⟨s, hs, hg⟩))) hno
    · exact check_outs aN aO nN nO cO cN w h0 hO
  · obtain rfl : nN = 0 := by omega
    exact check_none aN aO nO cO cN w
end Go.Proofs.Ytelifjeppegcmaa
