/-
  What an expression says, and the ways through its places: the same; no program in it.
-/
import Derived.Test.YtfbcijnacbfjpaaEn0x
namespace Go.Proofs.Ytfbcijnacbfjpaa
set_option linter.unusedVariables false
set_option linter.unusedSimpArgs false
namespace Au
open Rl (Ex)
def st (p : Pl) (q : Nat) : Int := p.sets[q]?.getD 0
/-- a way through places, from a place on, from a boundary on, to a place and a boundary. -/
inductive Pw (C : List Int) (p : Pl) (q i : Nat) : Nat → Nat → Prop
  | one : hit C (st p q) i → Pw C p q i q (i + 1)
  | step {r j r' : Nat} : Pw C p q i r j → (p.next r).testBit r' = true → hit C (st p r') j → Pw C p q i r' (j + 1)
theorem Pw.append {C : List Int} {p : Pl} {q i r j f r' j' : Nat} (h : Pw C p q i r j) (hn : (p.next r).testBit f = true) (k : Pw C p f j r' j') : Pw C p q i r' j' := by
  induction k with
  | one hh => exact .step h hn hh
  | step _ hn' hh ih => exact .step ih hn' hh
theorem Pw.lt {C : List Int} {p : Pl} {q i r j : Nat} (h : Pw C p q i r j) : i < j := by
  induction h with
  | one _ => omega
  | step _ _ _ ih => omega
/-- what first, last and next places say. -/
def Lg (C : List Int) (p : Pl) (x : Nd) (i j : Nat) : Prop := (x.none = true ∧ i = j) ∨ ∃ q r, x.first.testBit q = true ∧ x.last.testBit r = true ∧ Pw C p q i r j
theorem Pw.to {C : List Int} {p p' : Pl} {a b q i r j : Nat} (hq : a ≤ q ∧ q < b) (cl : ∀ q r, a ≤ q → q < b → (p.next q).testBit r = true → a ≤ r ∧ r < b) (hs : ∀ q, a ≤ q → q < b → st p q = st p' q)
    (hn : ∀ q r, a ≤ q → q < b → (p.next q).testBit r = true → (p'.next q).testBit r = true) (h : Pw C p q i r j) : Pw C p' q i r j ∧ a ≤ r ∧ r < b := by
  induction h with
  | one hh => exact ⟨.one (by rw [← hs _ hq.1 hq.2]; exact hh), hq⟩
  | step _ h1 h2 ih =>
    obtain ⟨a1, a2, a3⟩ := ih
    have := cl _ _ a2 a3 h1
    exact ⟨.step a1 (hn _ _ a2 a3 h1) (by rw [← hs _ this.1 this.2]; exact h2), this⟩
structure Gd (C : List Int) (M : Nat → Nat → Prop) (a : Nat) (p : Pl) (x : Nd) : Prop where
  fi : ∀ q, x.first.testBit q = true → a ≤ q ∧ q < p.sets.length
  la : ∀ q, x.last.testBit q = true → a ≤ q ∧ q < p.sets.length
  cl : ∀ q r, a ≤ q → (p.next q).testBit r = true → a ≤ r ∧ r < p.sets.length
  lg : ∀ i j, M i j ↔ Lg C p x i j
structure Xt (a : Nat) (p p1 : Pl) : Prop where
  pre : ∃ S, p1.sets = p.sets ++ S
  nx : ∀ q, q < a → p1.next q = p.next q
theorem Xt.len {a : Nat} {p p1 : Pl} (h : Xt a p p1) : p.sets.length ≤ p1.sets.length := by
  obtain ⟨S, h⟩ := h.pre
  rw [h, List.length_append]; omega
theorem Xt.st {a : Nat} {p p1 : Pl} (h : Xt a p p1) {q : Nat} (hq : q < p.sets.length) : st p q = st p1 q := by
  obtain ⟨S, h⟩ := h.pre
  unfold Au.st
  rw [h, List.getElem?_append_left hq]
theorem Xt.refl (a : Nat) (p : Pl) : Xt a p p := ⟨⟨[], by simp⟩, fun _ _ => rfl⟩
theorem Xt.trans {a b : Nat} {p p1 p2 : Pl} (h : Xt a p p1) (k : Xt b p1 p2) (hab : a ≤ b) : Xt a p p2 := by
  obtain ⟨S, h1⟩ := h.pre
  obtain ⟨T, k1⟩ := k.pre
  exact ⟨⟨S ++ T, by rw [k1, h1, List.append_assoc]⟩, fun q hq => (k.nx q (by omega)).trans (h.nx q hq)⟩
/-- what was known stays known where more places come. -/
theorem Gd.xt {C : List Int} {M : Nat → Nat → Prop} {a : Nat} {p p1 : Pl} {x : Nd} (h : Gd C M a p x) (k : Xt p.sets.length p p1) (hz : ∀ q, p.sets.length ≤ q → p.next q = 0) :
    (∀ i j, M i j ↔ Lg C p1 x i j) ∧ (∀ q r, a ≤ q → q < p.sets.length → (p1.next q).testBit r = true → a ≤ r ∧ r < p.sets.length) := by
  have c1 : ∀ q r, a ≤ q → q < p.sets.length → (p1.next q).testBit r = true → a ≤ r ∧ r < p.sets.length := fun q r h1 h2 h3 => h.cl q r h1 (by rw [k.nx q h2] at h3; exact h3)
  refine ⟨fun i j => ?_, c1⟩
  rw [h.lg]
  constructor
  · rintro (h1 | ⟨q, r, h1, h2, h3⟩)
    · exact Or.inl h1
    · exact Or.inr ⟨q, r, h1, h2, (Pw.to (h.fi q h1) (fun q r a1 _ a3 => h.cl q r a1 a3) (fun q _ hq => k.st hq) (fun q r _ hq hh => by rw [k.nx q hq]; exact hh) h3).1⟩
  · rintro (h1 | ⟨q, r, h1, h2, h3⟩)
    · exact Or.inl h1
    · exact Or.inr ⟨q, r, h1, h2, (Pw.to (h.fi q h1) c1 (fun q _ hq => (k.st hq).symm) (fun q r _ hq hh => by rw [k.nx q hq] at hh; exact hh) h3).1⟩
theorem chain_bit (p : Pl) (b nx q r : Nat) : ((chain p b nx).next q).testBit r = true ↔ (p.next q).testBit r = true ∨ (b.testBit q = true ∧ nx.testBit r = true) := by
  show (if b.testBit q = true then p.next q ||| nx else p.next q).testBit r = true ↔ _
  split
  · rename_i h
    rw [Nat.testBit_or, Bool.or_eq_true]
    simp [h]
  · rename_i h
    simp [h]
theorem chain_st (p : Pl) (b nx q : Nat) : st (chain p b nx) q = st p q := rfl
/-- one behind the other. -/
theorem Gd.seq {C : List Int} {M N : Nat → Nat → Prop} {a : Nat} {p p2 : Pl} {o y : Nd} (ha : a ≤ p.sets.length) (h : Gd C M a p o) (k : Gd C N p.sets.length p2 y) (hx : Xt p.sets.length p p2) (hz : ∀ q, p.sets.length ≤ q → p.next q = 0) :
    Gd C (fun i j => ∃ m, M i m ∧ N m j) a (chain p2 o.last y.first) (seq1 o y) ∧ Xt a p (chain p2 o.last y.first) := by
  have hl := hx.len
  have lo : ∀ q r, q < p.sets.length → ((chain p2 o.last y.first).next q).testBit r = true → (p.next q).testBit r = true ∨ (o.last.testBit q = true ∧ y.first.testBit r = true) := fun q r hq hh => by
    rcases (chain_bit _ _ _ _ _).1 hh with hh | hh
    · rw [hx.nx q hq] at hh; exact Or.inl hh
    · exact Or.inr hh
  have hi : ∀ q r, p.sets.length ≤ q → ((chain p2 o.last y.first).next q).testBit r = true → (p2.next q).testBit r = true := fun q r hq hh => by
    rcases (chain_bit _ _ _ _ _).1 hh with hh | hh
    · exact hh
    · have := h.la q hh.1; omega
  have up2 : ∀ {q i r j}, p.sets.length ≤ q ∧ q < p2.sets.length → Pw C p2 q i r j → Pw C (chain p2 o.last y.first) q i r j := fun hq hw =>
    (Pw.to (p' := chain p2 o.last y.first) hq (fun q r a1 _ a3 => k.cl q r a1 a3) (fun q _ _ => rfl) (fun q r _ _ hh => (chain_bit _ _ _ _ _).2 (Or.inl hh)) hw).1
  have dn2 : ∀ {q i r j}, p.sets.length ≤ q ∧ q < p2.sets.length → Pw C (chain p2 o.last y.first) q i r j → Pw C p2 q i r j ∧ p.sets.length ≤ r ∧ r < p2.sets.length := fun hq hw =>
    Pw.to hq (fun q r a1 _ a3 => k.cl q r a1 (hi q r a1 a3)) (fun q _ _ => rfl) (fun q r a1 _ hh => hi q r a1 hh) hw
  have up1 : ∀ {q i r j}, a ≤ q ∧ q < p.sets.length → Pw C p q i r j → Pw C (chain p2 o.last y.first) q i r j := fun hq hw =>
    (Pw.to (p' := chain p2 o.last y.first) hq (fun q r a1 _ a3 => h.cl q r a1 a3) (fun q _ hq => hx.st hq) (fun q r _ hq hh => (chain_bit _ _ _ _ _).2 (Or.inl (by rw [hx.nx q hq]; exact hh))) hw).1
  have dn1 : ∀ {q i r j}, a ≤ q ∧ q < p.sets.length → Pw C (chain p2 o.last y.first) q i r j →
      (Pw C p q i r j ∧ a ≤ r ∧ r < p.sets.length) ∨ ∃ m t f, Pw C p q i t m ∧ o.last.testBit t = true ∧ y.first.testBit f = true ∧ Pw C p2 f m r j ∧ p.sets.length ≤ r ∧ r < p2.sets.length := fun {q i r j} hq hw => by
    induction hw with
    | one hh => exact Or.inl ⟨.one (by rw [hx.st hq.2]; exact hh), hq⟩
    | @step r j r' _ h1 h2 ih =>
      rcases ih with ⟨w1, b1, b2⟩ | ⟨m, t, f, w1, w2, w3, w4, b1, b2⟩
      · rcases lo r r' b2 h1 with h1 | ⟨h1, h3⟩
        · have := h.cl _ _ b1 h1
          exact Or.inl ⟨.step w1 h1 (by rw [hx.st this.2]; exact h2), this⟩
        · have := k.fi _ h3
          exact Or.inr ⟨j, r, r', w1, h1, h3, .one h2, this⟩
      · have h1 := hi r r' b1 h1
        have := k.cl _ _ b1 h1
        exact Or.inr ⟨m, t, f, w1, w2, w3, .step w4 h1 h2, this⟩
  refine ⟨⟨fun q hq => ?_, fun q hq => ?_, fun q r hq hh => ?_, fun i j => ?_⟩, ?_⟩
  · show a ≤ q ∧ q < p2.sets.length
    have hq : (if o.none = true then o.first ||| y.first else o.first).testBit q = true := hq
    split at hq
    · rw [Nat.testBit_or, Bool.or_eq_true] at hq
      rcases hq with hq | hq
      · have := h.fi q hq; omega
      · have := k.fi q hq; omega
    · have := h.fi q hq; omega
  · show a ≤ q ∧ q < p2.sets.length
    have hq : (if y.none = true then o.last ||| y.last else y.last).testBit q = true := hq
    split at hq
    · rw [Nat.testBit_or, Bool.or_eq_true] at hq
      rcases hq with hq | hq
      · have := h.la q hq; omega
      · have := k.la q hq; omega
    · have := k.la q hq; omega
  · show a ≤ r ∧ r < p2.sets.length
    by_cases hb : q < p.sets.length
    · rcases lo q r hb hh with h1 | h1
      · have := h.cl q r hq h1; omega
      · have := k.fi r h1.2; omega
    · have := k.cl q r (by omega) (hi q r (by omega) hh); omega
  · have F : ∀ q, (seq1 o y).first.testBit q = true ↔ o.first.testBit q = true ∨ (o.none = true ∧ y.first.testBit q = true) := fun q => by
      show (if o.none = true then o.first ||| y.first else o.first).testBit q = true ↔ _
      split
      · rename_i hh; rw [Nat.testBit_or, Bool.or_eq_true]; simp [hh]
      · rename_i hh; simp [hh]
    have L : ∀ q, (seq1 o y).last.testBit q = true ↔ y.last.testBit q = true ∨ (y.none = true ∧ o.last.testBit q = true) := fun q => by
      show (if y.none = true then o.last ||| y.last else y.last).testBit q = true ↔ _
      split
      · rename_i hh; rw [Nat.testBit_or, Bool.or_eq_true]; simp [hh, or_comm]
      · rename_i hh; simp [hh]
    have NN : (seq1 o y).none = true ↔ o.none = true ∧ y.none = true := by
      show (o.none && y.none) = true ↔ _
      rw [Bool.and_eq_true]
    constructor
    · rintro ⟨m, h1, h2⟩
      rcases (h.lg i m).1 h1 with ⟨n1, rfl⟩ | ⟨q, r, f1, l1, w1⟩
      · rcases (k.lg i j).1 h2 with ⟨n2, rfl⟩ | ⟨q, r, f2, l2, w2⟩
        · exact Or.inl ⟨NN.2 ⟨n1, n2⟩, rfl⟩
        · exact Or.inr ⟨q, r, (F q).2 (Or.inr ⟨n1, f2⟩), (L r).2 (Or.inl l2), up2 (k.fi q f2) w2⟩
      · rcases (k.lg m j).1 h2 with ⟨n2, rfl⟩ | ⟨q2, r2, f2, l2, w2⟩
        · exact Or.inr ⟨q, r, (F q).2 (Or.inl f1), (L r).2 (Or.inr ⟨n2, l1⟩), up1 (h.fi q f1) w1⟩
        · exact Or.inr ⟨q, r2, (F q).2 (Or.inl f1), (L r2).2 (Or.inl l2), (up1 (h.fi q f1) w1).append ((chain_bit _ _ _ _ _).2 (Or.inr ⟨l1, f2⟩)) (up2 (k.fi q2 f2) w2)⟩
    · rintro (⟨n, rfl⟩ | ⟨q, r, f, l, w⟩)
      · exact ⟨i, (h.lg i i).2 (Or.inl ⟨(NN.1 n).1, rfl⟩), (k.lg i i).2 (Or.inl ⟨(NN.1 n).2, rfl⟩)⟩
      · rcases (F q).1 f with f | ⟨n1, f⟩
        · rcases dn1 (h.fi q f) w with ⟨w1, b1, b2⟩ | ⟨m, t, g, w1, w2, w3, w4, b1, b2⟩
          · rcases (L r).1 l with l | ⟨n2, l⟩
            · have := k.la r l; omega
            · exact ⟨j, (h.lg i j).2 (Or.inr ⟨q, r, f, l, w1⟩), (k.lg j j).2 (Or.inl ⟨n2, rfl⟩)⟩
          · rcases (L r).1 l with l | ⟨n2, l⟩
            · exact ⟨m, (h.lg i m).2 (Or.inr ⟨q, t, f, w2, w1⟩), (k.lg m j).2 (Or.inr ⟨g, r, w3, l, w4⟩)⟩
            · have := h.la r l; omega
        · obtain ⟨w1, b1, b2⟩ := dn2 (k.fi q f) w
          rcases (L r).1 l with l | ⟨n2, l⟩
          · exact ⟨i, (h.lg i i).2 (Or.inl ⟨n1, rfl⟩), (k.lg i j).2 (Or.inr ⟨q, r, f, l, w1⟩)⟩
          · have := h.la r l; omega
  · obtain ⟨S, hS⟩ := hx.pre
    refine ⟨⟨S, hS⟩, fun q hq => ?_⟩
    show (if o.last.testBit q = true then p2.next q ||| y.first else p2.next q) = p.next q
    rw [if_neg (fun hh => by have := h.la q hh; omega), hx.nx q (by omega)]
/-- one or the other. -/
theorem Gd.alt {C : List Int} {M N : Nat → Nat → Prop} {a : Nat} {p p2 : Pl} {o y : Nd} (ha : a ≤ p.sets.length) (h : Gd C M a p o) (k : Gd C N p.sets.length p2 y) (hx : Xt p.sets.length p p2) (hz : ∀ q, p.sets.length ≤ q → p.next q = 0) :
    Gd C (fun i j => M i j ∨ N i j) a p2 (alt1 o y) := by
  have hl := hx.len
  obtain ⟨h1, h2⟩ := h.xt hx hz
  refine ⟨fun q hq => ?_, fun q hq => ?_, fun q r hq hh => ?_, fun i j => ?_⟩
  · have hq : (o.first ||| y.first).testBit q = true := hq
    rw [Nat.testBit_or, Bool.or_eq_true] at hq
    rcases hq with hq | hq
    · have := h.fi q hq; omega
    · have := k.fi q hq; omega
  · have hq : (o.last ||| y.last).testBit q = true := hq
    rw [Nat.testBit_or, Bool.or_eq_true] at hq
    rcases hq with hq | hq
    · have := h.la q hq; omega
    · have := k.la q hq; omega
  · by_cases hb : q < p.sets.length
    · have := h2 q r hq hb hh; omega
    · have := k.cl q r (by omega) hh; omega
  · rw [h1, k.lg]
    have F : ∀ q, (alt1 o y).first.testBit q = true ↔ o.first.testBit q = true ∨ y.first.testBit q = true := fun q => by
      show (o.first ||| y.first).testBit q = true ↔ _
      rw [Nat.testBit_or, Bool.or_eq_true]
    have L : ∀ q, (alt1 o y).last.testBit q = true ↔ o.last.testBit q = true ∨ y.last.testBit q = true := fun q => by
      show (o.last ||| y.last).testBit q = true ↔ _
      rw [Nat.testBit_or, Bool.or_eq_true]
    have NN : (alt1 o y).none = true ↔ o.none = true ∨ y.none = true := by
      show (o.none || y.none) = true ↔ _
      rw [Bool.or_eq_true]
    constructor
    · rintro ((⟨n, e⟩ | ⟨q, r, f, l, w⟩) | (⟨n, e⟩ | ⟨q, r, f, l, w⟩))
      · exact Or.inl ⟨NN.2 (Or.inl n), e⟩
      · exact Or.inr ⟨q, r, (F q).2 (Or.inl f), (L r).2 (Or.inl l), w⟩
      · exact Or.inl ⟨NN.2 (Or.inr n), e⟩
      · exact Or.inr ⟨q, r, (F q).2 (Or.inr f), (L r).2 (Or.inr l), w⟩
    · rintro (⟨n, e⟩ | ⟨q, r, f, l, w⟩)
      · rcases NN.1 n with n | n
        · exact Or.inl (Or.inl ⟨n, e⟩)
        · exact Or.inr (Or.inl ⟨n, e⟩)
      · rcases (F q).1 f with f | f
        · have hr := (Pw.to (p' := p2) (h.fi q f) h2 (fun _ _ _ => rfl) (fun _ _ _ _ hh => hh) w).2
          rcases (L r).1 l with l | l
          · exact Or.inl (Or.inr ⟨q, r, f, l, w⟩)
          · have := k.la r l; omega
        · have hr := (Pw.to (p' := p2) (k.fi q f) (fun q r a1 _ a3 => k.cl q r a1 a3) (fun _ _ _ => rfl) (fun _ _ _ _ hh => hh) w).2
          rcases (L r).1 l with l | l
          · have := h.la r l; omega
          · exact Or.inr (Or.inr ⟨q, r, f, l, w⟩)
/-- again and again. -/
theorem Gd.plus {C : List Int} {M : Nat → Nat → Prop} {a : Nat} {p : Pl} {x : Nd} (h : Gd C M a p x) : Gd C (fun i j => ∃ m, Rt M i m ∧ M m j) a (chain p x.last x.first) x ∧ Gd C (Rt M) a (chain p x.last x.first) ⟨true, x.first, x.last⟩ := by
  have cl : ∀ q r, a ≤ q → ((chain p x.last x.first).next q).testBit r = true → a ≤ r ∧ r < p.sets.length := fun q r hq hh => by
    rcases (chain_bit _ _ _ _ _).1 hh with hh | hh
    · exact h.cl q r hq hh
    · exact h.fi r hh.2
  have up : ∀ {q i r j}, x.first.testBit q = true → Pw C p q i r j → Pw C (chain p x.last x.first) q i r j := fun hq hw =>
    (Pw.to (p' := chain p x.last x.first) (h.fi _ hq) (fun q r a1 _ a3 => h.cl q r a1 a3) (fun q _ _ => rfl) (fun q r _ _ hh => (chain_bit _ _ _ _ _).2 (Or.inl hh)) hw).1
  have dn : ∀ {q i r j}, x.first.testBit q = true → Pw C (chain p x.last x.first) q i r j → ∃ m f, Rt M i m ∧ x.first.testBit f = true ∧ Pw C p f m r j := fun {q i r j} hq hw => by
    induction hw with
    | one hh => exact ⟨i, q, .refl i, hq, .one hh⟩
    | @step r j r' _ h1 h2 ih =>
      obtain ⟨m, f, w1, w2, w3⟩ := ih
      rcases (chain_bit _ _ _ _ _).1 h1 with h1 | ⟨h1, h3⟩
      · exact ⟨m, f, w1, w2, .step w3 h1 h2⟩
      · exact ⟨j, r', .step w1 ((h.lg m j).2 (Or.inr ⟨f, r, w2, h1, w3⟩)), h3, .one h2⟩
  have all : ∀ {i j}, Rt M i j → i = j ∨ ∃ q r, x.first.testBit q = true ∧ x.last.testBit r = true ∧ Pw C (chain p x.last x.first) q i r j := fun {i j} hr => by
    induction hr with
    | refl => exact Or.inl rfl
    | @step m j _ h1 ih =>
      rcases (h.lg m j).1 h1 with ⟨_, rfl⟩ | ⟨q, r, f, l, w⟩
      · exact ih
      · rcases ih with rfl | ⟨q0, r0, f0, l0, w0⟩
        · exact Or.inr ⟨q, r, f, l, up f w⟩
        · exact Or.inr ⟨q0, r, f0, l, w0.append ((chain_bit _ _ _ _ _).2 (Or.inr ⟨l0, f⟩)) (up f w)⟩
  refine ⟨⟨h.fi, h.la, cl, fun i j => ⟨?_, ?_⟩⟩, ⟨h.fi, h.la, cl, fun i j => ⟨?_, ?_⟩⟩⟩
  · rintro ⟨m, h1, h2⟩
    rcases (h.lg m j).1 h2 with ⟨n, rfl⟩ | ⟨q, r, f, l, w⟩
    · rcases all h1 with rfl | ⟨q, r, f, l, w⟩
      · exact Or.inl ⟨n, rfl⟩
      · exact Or.inr ⟨q, r, f, l, w⟩
    · rcases all h1 with rfl | ⟨q0, r0, f0, l0, w0⟩
      · exact Or.inr ⟨q, r, f, l, up f w⟩
      · exact Or.inr ⟨q0, r, f0, l, w0.append ((chain_bit _ _ _ _ _).2 (Or.inr ⟨l0, f⟩)) (up f w)⟩
  · rintro (⟨n, rfl⟩ | ⟨q, r, f, l, w⟩)
    · exact ⟨i, .refl i, (h.lg i i).2 (Or.inl ⟨n, rfl⟩)⟩
    · obtain ⟨m, g, w1, w2, w3⟩ := dn f w
      exact ⟨m, w1, (h.lg m j).2 (Or.inr ⟨g, r, w2, l, w3⟩)⟩
  · intro hr
    rcases all hr with rfl | ⟨q, r, f, l, w⟩
    · exact Or.inl ⟨rfl, rfl⟩
    · exact Or.inr ⟨q, r, f, l, w⟩
  · rintro (⟨_, rfl⟩ | ⟨q, r, f, l, w⟩)
    · exact .refl i
    · obtain ⟨m, g, w1, w2, w3⟩ := dn f w
      exact .step w1 ((h.lg m j).2 (Or.inr ⟨g, r, w2, l, w3⟩))
theorem Gd.opt {C : List Int} {M : Nat → Nat → Prop} {a : Nat} {p : Pl} {x : Nd} (h : Gd C M a p x) : Gd C (fun i j => i = j ∨ M i j) a p ⟨true, x.first, x.last⟩ := by
  refine ⟨h.fi, h.la, h.cl, fun i j => ?_⟩
  rw [h.lg]
  constructor
  · rintro (rfl | ⟨_, rfl⟩ | hh)
    · exact Or.inl ⟨rfl, rfl⟩
    · exact Or.inl ⟨rfl, rfl⟩
    · exact Or.inr hh
  · rintro (⟨_, rfl⟩ | hh)
    · exact Or.inl rfl
    · exact Or.inr (Or.inr hh)
theorem Gd.congr {C : List Int} {M N : Nat → Nat → Prop} {a : Nat} {p : Pl} {x : Nd} (h : Gd C M a p x) (e : ∀ i j, M i j ↔ N i j) : Gd C N a p x := ⟨h.fi, h.la, h.cl, fun i j => (e i j).symm.trans (h.lg i j)⟩
end Au
end Go.Proofs.Ytfbcijnacbfjpaa
