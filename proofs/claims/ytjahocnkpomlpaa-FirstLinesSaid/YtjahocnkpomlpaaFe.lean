/-
  Lines, one by one, in plain words.
-/
import Derived.Test.YtjahocnkpomlpaaFc
namespace Go.Proofs.Ytjahocnkpomlpaa
set_option linter.unusedVariables false
set_option linter.unusedSimpArgs false
namespace Sp
/-- a part that fits is one line. -/
theorem lines_one {C : List Ct} {O : List Nat} {t W a b : Nat} (h : a < b) (ho : ok C O t W a b = true) : lines C O t W a b = [⟨a, b, wde C t a b (O.getD b 0), O.getD b 0⟩] := by
  rw [lines_cons h]
  have e := nxt_whole h ho
  have e1 : ln C O t W a b = ⟨a, b, wde C t a b (O.getD b 0), O.getD b 0⟩ := by unfold ln; rw [e]
  rw [e1, e]
  show _ :: lines C O t W b b = _
  rw [lines_nil (Nat.le_refl b)]
/-- behind i lines: those from a boundary on. -/
theorem lines_drop {C : List Ct} {O : List Nat} {t W a b : Nat} (hab : a ≤ b) : ∀ i, i ≤ (lines C O t W a b).length → ∃ q, a ≤ q ∧ q ≤ b ∧ (lines C O t W a b).drop i = lines C O t W q b
  | 0, _ => ⟨a, Nat.le_refl _, hab, rfl⟩
  | i + 1, h => by
    obtain ⟨q, h1, h2, h3⟩ := lines_drop (C := C) (O := O) (t := t) (W := W) hab i (by omega)
    have hq : q < b := by
      rcases Nat.lt_or_ge q b with g | g
      · exact g
      · rw [lines_nil g] at h3
        have := congrArg List.length h3
        rw [List.length_drop] at this
        simp at this
        omega
    have hn := nxt_in (C := C) (O := O) (t := t) (W := W) hq
    refine ⟨(nxt C O t W q b).1, by omega, hn.2, ?_⟩
    rw [← List.drop_drop, h3, lines_cons hq]
    rfl
/-- the line at a place, and what is behind it. -/
theorem lines_at {C : List Ct} {O : List Nat} {t W q b i : Nat} {Ls : List Ln} (h : Ls.drop i = lines C O t W q b) (hi : i < Ls.length) : q < b ∧ Ls[i]? = some (ln C O t W q b) ∧ Ls.drop (i + 1) = lines C O t W (nxt C O t W q b).1 b := by
  have hq : q < b := by
    rcases Nat.lt_or_ge q b with g | g
    · exact g
    · rw [lines_nil g] at h
      have := congrArg List.length h
      rw [List.length_drop] at this
      simp at this
      omega
  rw [lines_cons hq] at h
  refine ⟨hq, ?_, ?_⟩
  · have := congrArg (fun l => l[0]?) h
    simpa using this
  · rw [← List.drop_drop, h]
    rfl
theorem lines_end {C : List Ct} {O : List Nat} {t W q b i : Nat} {Ls : List Ln} (h : Ls.drop i = lines C O t W q b) (hi : Ls.length ≤ i) : b ≤ q := by
  rcases Nat.lt_or_ge q b with g | g
  · rw [lines_cons g, List.drop_of_length_le hi] at h
    cases h
  · exact g
theorem wde_small {C : List Ct} (h : Cok C) {t : Nat} (h0 : 0 < t) (ht : t ≤ 64) {a b e : Nat} (hk : b - a ≤ 1000) : wde C t a b e ≤ 66001 := by
  have h1 : wd C t a (b - a) ≤ 66000 := by
    unfold wd
    have h2 := (tr_ge C a (b - a)).2
    refine Nat.le_trans (col_le C h0 h.at a _) ?_
    exact Nat.le_trans (Nat.mul_le_mul (show _ ≤ 1000 by omega) (show t + 2 ≤ 66 by omega)) (by decide)
  unfold wde
  split <;> omega
end Sp
end Go.Proofs.Ytjahocnkpomlpaa
