/-
  first's leaves: empty, hyphen, cut; how a line's end is found, in plain words.
-/
import Derived.Test.YtegoadhnilmchaaFf
import Derived.Test.YtegoadhnilmchaaSh
namespace Go.Proofs.Ytegoadhnilmchaa
open Go.RowKit Go.Maps
set_option linter.unusedVariables false
set_option linter.unusedSimpArgs false
/-- the last end that fits, and how it ends; none: the beginning. -/
def lstO (O : List Nat) (a : Nat) : Option Nat → Nat × Nat
  | none => (a, 0)
  | some k => (k, O.getD k 0)
theorem wd_yes {C : List Ct} {t a j : Nat} (h : Sp.emp (Sp.at' C (a + j)) = true) : Sp.wd C t a (j + 1) = Sp.wd C t a j := by
  unfold Sp.wd
  rw [show Sp.tr C a (j + 1) = Sp.tr C a j by show (if Sp.emp (Sp.at' C (a + j)) then _ else _) = _; rw [if_pos h]]
theorem wd_no {C : List Ct} {t a j : Nat} (h : Sp.emp (Sp.at' C (a + j)) = false) : Sp.wd C t a (j + 1) = Sp.col C t a (j + 1) := by
  unfold Sp.wd
  rw [show Sp.tr C a (j + 1) = a + (j + 1) by show (if Sp.emp (Sp.at' C (a + j)) then _ else _) = _; rw [if_neg (by rw [h]; decide)]; rfl, show a + (j + 1) - a = j + 1 by omega]
theorem wd_zero (C : List Ct) (t a : Nat) : Sp.wd C t a 0 = 0 := by
  unfold Sp.wd
  show Sp.col C t a (a - a) = 0
  rw [Nat.sub_self]
  rfl
/-- behind a line that is too wide nothing fits. -/
theorem ok_wide {C : List Ct} {O : List Nat} {t W a j k : Nat} (ht : 0 < t) (h : W < Sp.wd C t a j) (hk : a + j ≤ k) : Sp.ok C O t W a k = false := by
  refine (ok_tf (C := C) (O := O) (t := t) (W := W) (a := a) (k := k) rfl).2.2 ?_
  have h1 := Sp.wd_mono C ht a (show j ≤ k - a by omega)
  unfold Sp.wde
  omega
theorem bst_stop {C : List Ct} {O : List Nat} {t W a j : Nat} (ht : 0 < t) (h : W < Sp.wd C t a (j + 1)) : ∀ d, Sp.bst C O t W a (j + d) = Sp.bst C O t W a j
  | 0 => rfl
  | d + 1 => by
    rw [← bst_stop ht h d]
    exact (bst_step (C := C) (O := O) (t := t) (W := W) (a := a) (m := j + d)).2 (ok_wide ht h (by omega))
theorem fit_stop {C : List Ct} {t W a j m : Nat} (ht : 0 < t) (h0 : Sp.wd C t a j ≤ W) (h : W < Sp.wd C t a (j + 1)) (hj : j < m) : (Sp.fit C t W a m).getD (a + 1) = max (a + j) (a + 1) := by
  have hw : ∀ k, j + 1 ≤ k → W < Sp.wd C t a k := fun k hk => Nat.lt_of_lt_of_le h (Sp.wd_mono C ht a hk)
  by_cases hj0 : j = 0
  · subst hj0
    cases e : Sp.fit C t W a m with
    | none => show a + 1 = _; omega
    | some k =>
      obtain ⟨g1, g2, g3, _⟩ := Sp.fit_some e
      exact absurd g3 (Nat.not_le.2 (hw _ (by omega)))
  · rw [Sp.fit_eq (k := a + j) (by omega) (by omega) (by rw [show a + j - a = j by omega]; exact h0) (fun k h1 h2 => hw _ (by omega))]
    show a + j = _
    omega
theorem fit_end {C : List Ct} {t W a m : Nat} (hm : 0 < m) (h0 : Sp.wd C t a m ≤ W) : (Sp.fit C t W a m).getD (a + 1) = max (a + m) (a + 1) := by
  obtain ⟨j, rfl⟩ : ∃ j, m = j + 1 := ⟨m - 1, by omega⟩
  rw [(fit_step (C := C) (t := t) (W := W) (a := a) (m := j)).1 h0]
  show a + j + 1 = _
  omega
theorem nxt_some {C : List Ct} {O : List Nat} {t W a b k : Nat} (h : Sp.bst C O t W a (b - a) = some k) : Sp.nxt C O t W a b = (k, O.getD k 0) := by
  unfold Sp.nxt
  rw [h]
theorem nxt_none {C : List Ct} {O : List Nat} {t W a b c e : Nat} (h : Sp.bst C O t W a (b - a) = none) (hf : (Sp.fit C t W a (b - a)).getD (a + 1) = c) (he : O.getD c 0 = e) : Sp.nxt C O t W a b = (c, if e = 1 ∨ e = 2 then e else 4) := by
  unfold Sp.nxt
  rw [h]
  show ((Sp.fit C t W a (b - a)).getD (a + 1), _) = _
  rw [hf, he]
end Go.Proofs.Ytegoadhnilmchaa

