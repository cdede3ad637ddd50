/-
  The document's First: lines as long as may be.
-/
import Derived.Test.YtegoadhnilmchaaLn
import Derived.Test.YtegoadhnilmchaaVh
namespace Go.Proofs.Ytegoadhnilmchaa
open Go.RowKit Go.Maps
set_option linter.unusedVariables false
set_option linter.unusedSimpArgs false
/-- a boundary, or -1. -/
def encO : Option Nat → Int
  | none => -1
  | some k => (k : Int)
theorem box26 (w : World) (v0 v1 u0 u1 u2 u3 u4 u5 : Value) (t t' : TypeId) : ∃ R b w1, (w.alloc (.cells #[v0, v1] t)).alloc (.cells #[u0, u1, u2, u3, u4, u5] t') = w1 ∧ w.heap.size + 1 = b ∧ w.heap.size = R ∧ Hid (w1.heap[R]? = some (.cells #[v0, v1] t (0, 0)) ∧ w1.heap[b]? = some (.cells #[u0, u1, u2, u3, u4, u5] t' (0, 0)) ∧ Only (fun _ => False) w w1) ∧ R < b ∧ w.heap.size ≤ b ∧ b < w1.heap.size :=
  ⟨_, _, _, rfl, rfl, rfl, ⟨bx_made w _ _, heap_alloc2_new w _ _, ((Only.refl _ _).alloc _).alloc _⟩, Nat.lt_succ_self _, Nat.le_succ _, (Array.getElem?_eq_some_iff.1 (heap_alloc2_new w _ _)).1⟩
theorem wde_cel (C : List Ct) (t a b e : Nat) : Sp.wde C t a b e = Sp.cel C t a (b - a) e := rfl
theorem bst_step {C : List Ct} {O : List Nat} {t W a m : Nat} : (Sp.ok C O t W a (a + m + 1) = true → Sp.bst C O t W a (m + 1) = some (a + m + 1)) ∧ (Sp.ok C O t W a (a + m + 1) = false → Sp.bst C O t W a (m + 1) = Sp.bst C O t W a m) := by
  constructor <;> intro h <;> show (if Sp.ok C O t W a (a + m + 1) then _ else _) = _ <;> rw [h] <;> rfl
theorem fit_step {C : List Ct} {t W a m : Nat} : (Sp.wd C t a (m + 1) ≤ W → Sp.fit C t W a (m + 1) = some (a + m + 1)) ∧ (¬ Sp.wd C t a (m + 1) ≤ W → Sp.fit C t W a (m + 1) = Sp.fit C t W a m) := by
  constructor <;> intro h
  · show (if Sp.wd C t a (m + 1) ≤ W then _ else _) = _
    rw [if_pos h]
  · show (if Sp.wd C t a (m + 1) ≤ W then _ else _) = _
    rw [if_neg h]
theorem ok_tf {C : List Ct} {O : List Nat} {t W a k e : Nat} (he : O.getD k 0 = e) : (e = 0 → Sp.ok C O t W a k = false) ∧ (e ≠ 0 → Sp.wde C t a k e ≤ W → Sp.ok C O t W a k = true) ∧ (¬ Sp.wde C t a k e ≤ W → Sp.ok C O t W a k = false) := by
  unfold Sp.ok
  rw [he]
  refine ⟨fun h => by subst h; rfl, fun h1 h2 => ?_, fun h => ?_⟩
  · rw [decide_eq_true h2]; simp; exact h1
  · rw [decide_eq_false h]; simp
/-- how wide every line of a text of up to 100,000 clusters is, at most. -/
theorem cel_small {C : List Ct} (h : Cok C) {t : Nat} (h0 : 0 < t) (ht : t ≤ 1000) {a k e : Nat} (hk : k ≤ 100000) : Sp.cel C t a k e ≤ 100200001 := by
  have h1 : Sp.wd C t a k ≤ 100200000 := by
    unfold Sp.wd
    have := (Sp.tr_ge C a k).2
    exact col_small h h0 ht (by omega)
  unfold Sp.cel
  split <;> omega
end Go.Proofs.Ytegoadhnilmchaa

