/-
  What is looser than a number is looser than a less one. (For BestLoose; no program in it.)
-/
import Derived.Test.YthckdomljfdmpaaCo
namespace Go.Proofs.Ythckdomljfdmpaa
open Go.RowKit Go.Maps
set_option linter.unusedVariables false
set_option linter.unusedSimpArgs false
namespace Fl
/-- the first is no greater than the second, and both are numbers. -/
def leF (a b : Nat) : Bool := (FloatKind.f64.format.order a b == some .lt) || (FloatKind.f64.format.order a b == some .eq)
theorem leF_key {a b : Nat} (ha : a < 18446744073709551616) (hb : b < 18446744073709551616) (h : leF a b = true) : rung a ≤ inf ∧ rung b ≤ inf ∧ key a ≤ key b := by
  unfold leF at h
  rw [fmt] at h
  rcases Nat.lt_or_ge inf (rung a) with na | na
  · rw [order_nan1 ha na] at h; cases h
  rcases Nat.lt_or_ge inf (rung b) with nb | nb
  · rw [order_nan2 hb nb] at h; cases h
  rw [order_key ha hb na nb, cmp_lt, cmp_eq] at h
  refine ⟨na, nb, ?_⟩
  rcases Bool.or_eq_true_iff.1 h with h | h
  · have := of_decide_eq_true h; omega
  · have := of_decide_eq_true h; omega
theorem loose_nan {lo v : Nat} (hl : lo < 18446744073709551616) (h : nn lo = true) : loose lo v = false := by
  unfold loose
  rw [fmt, order_nan2 hl (nn_t h)]
  simp
theorem loose_up {lo mo v : Nat} (hl : lo < 18446744073709551616) (hm : mo < 18446744073709551616) (hv : v < 18446744073709551616) (h : leF lo mo = true) (hg : loose mo v = true) : loose lo v = true := by
  obtain ⟨n1, n2, hk⟩ := leF_key hl hm h
  unfold loose at hg ⊢
  rw [fmt] at hg ⊢
  obtain ⟨g1, g2⟩ := Bool.and_eq_true_iff.1 hg
  have nv : rung v ≤ inf := nn_f (by cases e : nn v with | false => rfl | true => rw [e] at g1; cases g1)
  rw [order_key hv hm nv n2, cmp_gt] at g2
  have := of_decide_eq_true g2
  rw [g1, order_key hv hl nv n1, cmp_gt, decide_eq_true (by omega)]
  rfl
end Fl
end Go.Proofs.Ythckdomljfdmpaa

