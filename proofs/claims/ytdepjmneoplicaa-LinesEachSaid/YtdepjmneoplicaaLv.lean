/-
  All parts of a text in lines, in plain words; no walk in it. (For layers 16 to 18, 20 to 22.)
-/
import Derived.Test.YtdepjmneoplicaaRb
import Derived.Test.YtdepjmneoplicaaDq
import Derived.Test.YtdepjmneoplicaaDt
import Derived.Test.YtdepjmneoplicaaPq
namespace Go.Proofs.Ytdepjmneoplicaa
set_option linter.unusedVariables false
set_option linter.unusedSimpArgs false
namespace Ds
/-- the row of ends that costs least, as a function. -/
def opt (f : Nat → Nat → Option Nat) (a b : Nat) : Option (List Nat × Nat) := ((tab f a (b - a))[b - a]?).getD none
theorem opt_ok {f : Nat → Nat → Option Nat} {a b : Nat} (h : a ≤ b) : Tok f a b (opt f a b) := by
  obtain ⟨h1, h2⟩ := tab_ok (f := f) (a := a) (b - a)
  have h3 : (tab f a (b - a))[b - a]? = some (tab f a (b - a))[b - a] := List.getElem?_eq_getElem (by omega)
  have h4 := h2 _ _ h3
  unfold opt
  rw [h3]
  rw [show a + (b - a) = b by omega] at h4
  exact h4
theorem opt_best {f : Nat → Nat → Option Nat} {a b s : Nat} {E : List Nat} (h : Best f b a E s) : opt f a b = some (E, s) := by
  have h1 := opt_ok (f := f) h.row.le
  cases e : opt f a b with
  | none => rw [e] at h1; exact (h.no h1).elim
  | some x =>
    obtain ⟨E', s'⟩ := x
    rw [e] at h1
    obtain ⟨q1, q2⟩ := h.one h1
    rw [q1, q2]
theorem opt_no {f : Nat → Nat → Option Nat} {a b : Nat} (hab : a ≤ b) (h : No f b a) : opt f a b = none := by
  have h1 := opt_ok (f := f) hab
  cases e : opt f a b with
  | none => rfl
  | some x =>
    obtain ⟨E', s'⟩ := x
    rw [e] at h1
    exact (Best.no h1 h).elim
end Ds
namespace Lv
/-- a part in lines, and whether it is broken as in mode First though the mode is Best. -/
def prt (C : List Ct) (O : List Nat) (t wi hy pr lo mo a b : Nat) : List Ln × Bool :=
  if mo = 1 then match Ds.opt (bsF C O t wi hy pr lo b) a b with
    | some x => (mkL C O t a x.1, false)
    | none => (Sp.lines C O t wi a b, true)
  else (Sp.lines C O t wi a b, false)
theorem prt_first {C : List Ct} {O : List Nat} {t wi hy pr lo mo a b : Nat} (h : mo ≠ 1) : prt C O t wi hy pr lo mo a b = (Sp.lines C O t wi a b, false) := by
  unfold prt
  rw [if_neg h]
theorem prt_best {C : List Ct} {O : List Nat} {t wi hy pr lo mo a b s : Nat} {E : List Nat} (h : mo = 1) (hB : Ds.Best (bsF C O t wi hy pr lo b) b a E s) : prt C O t wi hy pr lo mo a b = (mkL C O t a E, false) := by
  unfold prt
  rw [if_pos h, Ds.opt_best hB]
theorem prt_no {C : List Ct} {O : List Nat} {t wi hy pr lo mo a b : Nat} (h : mo = 1) (hab : a ≤ b) (hN : Ds.No (bsF C O t wi hy pr lo b) b a) : prt C O t wi hy pr lo mo a b = (Sp.lines C O t wi a b, true) := by
  unfold prt
  rw [if_pos h, Ds.opt_no hab hN]
/-- the first i parts in lines. -/
def sof (C : List Ct) (O : List Nat) (t wi hy pr lo mo : Nat) (P : List Nat) : Nat → List Ln × Bool
  | 0 => ([], false)
  | i + 1 => ((sof C O t wi hy pr lo mo P i).1 ++ (prt C O t wi hy pr lo mo (It.fr P i) (P.getD i 0)).1, (sof C O t wi hy pr lo mo P i).2 || (prt C O t wi hy pr lo mo (It.fr P i) (P.getD i 0)).2)
theorem prt_len {C : List Ct} {O : List Nat} {t wi hy pr lo mo a b : Nat} (hab : a ≤ b) (hl : (Sp.lines C O t wi a b).length ≤ b - a) : (prt C O t wi hy pr lo mo a b).1.length ≤ b - a := by
  by_cases h : mo = 1
  · have h1 := Ds.opt_ok (f := bsF C O t wi hy pr lo b) hab
    cases e : Ds.opt (bsF C O t wi hy pr lo b) a b with
    | none => rw [e] at h1; rw [prt_no h hab h1]; exact hl
    | some x =>
      obtain ⟨E, s⟩ := x
      rw [e] at h1
      rw [prt_best h h1]
      show (mkL C O t a E).length ≤ _
      rw [mkL_len]
      have := Ds.Best.row h1 |>.length
      omega
  · rw [prt_first h]; exact hl
end Lv
end Go.Proofs.Ytdepjmneoplicaa
