/-
  Clusters, in plain words: each sign alone, all together; bytes and cells in all.
-/
import Derived.Test.YtlcpfheocenjfaaAl
namespace Go.Proofs.Ytlcpfheocenjfaa
set_option linter.unusedVariables false
set_option linter.unusedSimpArgs false
namespace Ce
theorem st_all {M : List Nat} : ∀ {n : Nat}, (∀ i, i < n → M.getD i 0 ≠ 0) → st M n = List.range n
  | 0, _ => rfl
  | n + 1, h => by
    rw [st_yes (by unfold cut; have := h n (by omega); rw [Bool.or_eq_true]; exact Or.inr (bne_iff_ne.2 this)), st_all (fun i hi => h i (by omega)), List.range_succ]
theorem starts_all {M : List Nat} {n : Nat} (h : ∀ i, i < n → M.getD i 0 ≠ 0) : starts M n = List.range (n + 1) := by
  unfold starts
  rw [st_all h, List.range_succ]
theorem st_none : ∀ {n : Nat}, 0 < n → st [] n = [0]
  | 1, _ => rfl
  | n + 2, _ => by rw [st_no (by unfold cut; simp), st_none (by omega)]
theorem starts_none {n : Nat} (h : 0 < n) : starts [] n = [0, n] := by
  unfold starts
  rw [st_none h]
  rfl
theorem seg_one {S : List Sn} {i : Nat} {s : Sn} (h : S[i]? = some s) : seg S i (i + 1) = [s] := by
  rw [seg_snoc (Nat.le_refl _) h, seg_self]
  rfl
theorem cls_all {of : Int → Int} {S : List Sn} {M : List Nat} {i : Nat} {s : Sn} (h : ∀ i, i < S.length → M.getD i 0 ≠ 0) (hs : S[i]? = some s) : (cls of S M)[i]? = some (tog of [s]) := by
  have hi := (List.getElem?_eq_some_iff.1 hs).1
  have e := starts_all h
  rw [cls_at (x := i) (y := i + 1) (by rw [st_all h, List.length_range]; exact hi) (by rw [e, List.getElem?_range (by omega)]) (by rw [e, List.getElem?_range (by omega)]), seg_one hs]
theorem cls_none {of : Int → Int} {S : List Sn} (h : 0 < S.length) : cls of S [] = [tog of S] := by
  have e := st_none h
  have e2 := starts_none h
  apply List.ext_getElem?
  intro j
  match j with
  | 0 =>
    rw [cls_at (x := 0) (y := S.length) (by rw [e]; exact Nat.zero_lt_succ 0) (by rw [e2]; rfl) (by rw [e2]; rfl), seg_all]
    rfl
  | j + 1 =>
    rw [List.getElem?_eq_none (by rw [cls_len, e]; simp), List.getElem?_eq_none (by simp)]
end Ce
theorem row_lens : ∀ {S : List Sn} {p N : Nat}, Row S p N → p + Ce.lens S = N
  | [], p, N, h => h
  | s :: S, p, N, h => by
    have := row_lens h.2.2
    simp only [Ce.lens]
    omega
theorem row_first {S : List Sn} {p N : Nat} {s : Sn} (h : Row S p N) (hs : S[0]? = some s) : s.pl = p := by
  match S, hs with
  | x :: S, hs => simp at hs; subst hs; exact h.1
theorem row_at : ∀ {S : List Sn} {p N i : Nat} {s : Sn}, Row S p N → S[i]? = some s → s.pl = p + Ce.lens (S.take i) ∧ 1 ≤ s.len
  | [], p, N, i, s, h, hs => by simp at hs
  | x :: S, p, N, 0, s, h, hs => by simp at hs; subst hs; exact ⟨by simp [Ce.lens, h.1], h.2.1⟩
  | x :: S, p, N, i + 1, s, h, hs => by
    have := row_at (i := i) h.2.2 (by simpa using hs)
    refine ⟨?_, this.2⟩
    rw [this.1, List.take_succ_cons]
    simp only [Ce.lens]
    omega
theorem of_lt {most : Int} : ∀ {L : List Rg} {a r : Int}, Pr.okFrom most a L = true → 0 < most → Pr.of L r < most
  | [], _, _, _, h => h
  | x :: L, a, r, h, h0 => by
    obtain ⟨⟨h1, h2, _, h4, h5, h6⟩, h3⟩ := Pr.ok_cons.1 h
    unfold Pr.of
    split
    · exact h5
    · exact of_lt h3 h0
theorem wide_one {of : Int → Int} {s : Sn} (h0 : 0 ≤ of s.r) (h2 : of s.r < 3) : Ce.wide of [s] = of s.r := by
  simp only [Ce.wide]
  omega
/-- how wide without a bound: the same where nothing is wider. -/
def wmax (of : Int → Int) : List Sn → Int
  | [] => 0
  | s :: l => max (of s.r) (wmax of l)
theorem wmax_wide {of : Int → Int} (h : ∀ r, of r < 3) : ∀ l, wmax of l = Ce.wide of l
  | [] => rfl
  | s :: l => by
    have := h s.r
    simp only [wmax, Ce.wide, wmax_wide h l]
    omega
end Go.Proofs.Ytlcpfheocenjfaa
