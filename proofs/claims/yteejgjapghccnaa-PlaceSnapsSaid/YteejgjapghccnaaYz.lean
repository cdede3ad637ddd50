/-
  Rows and clusters, in plain words; no walk in it. (For layers 17, 21.)
-/
import Derived.Test.YteejgjapghccnaaYa
namespace Go.Proofs.Yteejgjapghccnaa
set_option linter.unusedVariables false
set_option linter.unusedSimpArgs false
namespace Lv
theorem Rws.uniq {n k j : Nat} {L : List Ln} {l : Ln} (h : Rws n L) (hl : L[j]? = some l) (h1 : l.a ≤ k) (h2 : k < l.b) : rwF L k = j := by
  rcases h with ⟨h, _⟩ | ⟨h, e⟩
  · exact rw_uniq h hl h1 h2
  · rw [e] at hl
    cases j with
    | zero =>
      simp at hl
      subst hl
      exact absurd h2 (Nat.not_lt_zero _)
    | succ j => simp at hl
theorem Rws.last {n k : Nat} {L : List Ln} (h : Rws n L) (hk : k ≤ n) (hno : ∀ (j : Nat) (l : Ln), L[j]? = some l → ¬ (l.a ≤ k ∧ k < l.b)) : rwF L k + 1 = L.length := by
  rcases h with ⟨h, hn⟩ | ⟨h, e⟩
  · obtain ⟨l, h1, h2, h3, h4⟩ := rw_spec h hn (Nat.zero_le _) hk
    rcases h4 with h4 | ⟨_, _, h4⟩
    · exact absurd ⟨h2, h4⟩ (hno _ l h1)
    · exact h4
  · rw [e]
    rfl
/-- the byte behind a cluster. -/
theorem ctg_end {C : List Ct} (hC : Ctg C) {i : Nat} {c : Ct} (h : C[i]? = some c) : c.pl = It.sum (C.take i) ∧ c.pl + c.len = It.sum (C.take (i + 1)) ∧ It.sum (C.drop i) = c.len + It.sum (C.drop (i + 1)) := by
  have hi := (List.getElem?_eq_some_iff.1 h).1
  have h1 := (hC i hi).1
  have h2 := sum_next hi
  have e : Sp.at' C i = c := by unfold Sp.at'; rw [List.getD_eq_getElem?_getD, h]; rfl
  rw [e] at h1 h2
  refine ⟨h1, by omega, ?_⟩
  have e2 : C[i] = c := by
    have := List.getElem?_eq_getElem hi
    rw [h] at this
    injection this with this
    exact this.symm
  rw [List.drop_eq_getElem_cons hi, e2]
  rfl
theorem clu_down {C : List Ct} {q i n : Nat} (hn : n = C.length) (hi : i < n) : clu C q (n - i) = if q < It.sum (C.take (i + 1)) then i else clu C q (n - (i + 1)) := by
  have e : n - i = (n - (i + 1)) + 1 := by omega
  rw [e]
  show (if q < It.sum (C.take (C.length - (n - (i + 1)))) then C.length - ((n - (i + 1)) + 1) else clu C q (n - (i + 1))) = _
  rw [show C.length - (n - (i + 1)) = i + 1 by omega, show C.length - ((n - (i + 1)) + 1) = i by omega]
end Lv
end Go.Proofs.Yteejgjapghccnaa
