/-
  Every expression's places say what it says; no program in it.
-/
import Derived.Test.YtfbcijnacbfjpaaGlx
namespace Go.Proofs.Ytfbcijnacbfjpaa
set_option linter.unusedVariables false
set_option linter.unusedSimpArgs false
namespace Au
open Rl (Ex)
theorem OkP.zero {p : Pl} (h : OkP p) : ∀ q, p.sets.length ≤ q → p.next q = 0 := fun q hq => (h q).2 hq
theorem Gd.empty (C : List Int) {p : Pl} (h : OkP p) : Gd C (fun i j => i = j) p.sets.length p ⟨true, 0, 0⟩ := by
  refine ⟨fun q hq => by simp at hq, fun q hq => by simp at hq, fun q r hq hh => by rw [h.zero q hq] at hh; simp at hh, fun i j => ⟨fun e => Or.inl ⟨rfl, e⟩, ?_⟩⟩
  rintro (⟨_, e⟩ | ⟨q, r, f, _⟩)
  · exact e
  · simp at f
theorem Gd.never (C : List Int) {p : Pl} (h : OkP p) : Gd C (fun _ _ => False) p.sets.length p ⟨false, 0, 0⟩ := by
  refine ⟨fun q hq => by simp at hq, fun q hq => by simp at hq, fun q r hq hh => by rw [h.zero q hq] at hh; simp at hh, fun i j => ⟨fun e => e.elim, ?_⟩⟩
  rintro (⟨e, _⟩ | ⟨q, r, f, _⟩)
  · cases e
  · simp at f
theorem Gd.leaf (C : List Int) (set : Int) {p : Pl} (h : OkP p) : Gd C (fun i j => j = i + 1 ∧ hit C set i) p.sets.length { p with sets := p.sets ++ [set] } ⟨false, 2 ^ p.sets.length, 2 ^ p.sets.length⟩ := by
  have hb : ∀ q, (2 ^ p.sets.length).testBit q = true → q = p.sets.length := fun q hq => by
    rw [Nat.testBit_two_pow] at hq
    exact (of_decide_eq_true hq).symm
  have hs : st { p with sets := p.sets ++ [set] } p.sets.length = set := by
    unfold st
    simp
  have hl : (p.sets ++ [set]).length = p.sets.length + 1 := by simp
  refine ⟨fun q hq => ?_, fun q hq => ?_, fun q r hq hh => ?_, fun i j => ⟨?_, ?_⟩⟩
  · have := hb q hq
    show p.sets.length ≤ q ∧ q < (p.sets ++ [set]).length
    omega
  · have := hb q hq
    show p.sets.length ≤ q ∧ q < (p.sets ++ [set]).length
    omega
  · have hh : (p.next q).testBit r = true := hh
    rw [h.zero q hq] at hh
    simp at hh
  · rintro ⟨rfl, hh⟩
    have hB : (2 ^ p.sets.length).testBit p.sets.length = true := by rw [Nat.testBit_two_pow]; simp
    exact Or.inr ⟨p.sets.length, p.sets.length, hB, hB, .one (by rw [hs]; exact hh)⟩
  · rintro (⟨e, _⟩ | ⟨q, r, f, l, w⟩)
    · cases e
    · have e1 := hb q f
      have e2 := hb r l
      subst e1
      subst e2
      cases w with
      | one hh => rw [hs] at hh; exact ⟨rfl, hh⟩
      | step w1 h1 h2 =>
        rename_i r0 j0
        have h1 : (p.next r0).testBit p.sets.length = true := h1
        have := (h r0).1
        rw [Nat.testBit_lt_two_pow this] at h1
        cases h1
theorem node_says (C : List Int) : ∀ (e : Ex) (p : Pl), OkP p → ∀ x p1, node e p = some (x, p1) → Gd C (mt C e) p.sets.length p1 x ∧ Xt p.sets.length p p1 := by
  intro e
  apply Ex.rec (motive_1 := fun e => ∀ (p : Pl), OkP p → ∀ x p1, node e p = some (x, p1) → Gd C (mt C e) p.sets.length p1 x ∧ Xt p.sets.length p p1)
    (motive_2 := fun es => (∀ (a : Nat) (M : Nat → Nat → Prop) (o : Nd) (p : Pl), OkP p → OkN p o → a ≤ p.sets.length → Gd C M a p o → ∀ x p1, seqs es o p = some (x, p1) → Gd C (fun i j => ∃ m, M i m ∧ mts C es m j) a p1 x ∧ Xt a p p1) ∧
      (∀ (a : Nat) (M : Nat → Nat → Prop) (o : Nd) (p : Pl), OkP p → OkN p o → a ≤ p.sets.length → Gd C M a p o → ∀ x p1, alts es o p = some (x, p1) → Gd C (fun i j => M i j ∨ mta C es i j) a p1 x ∧ Xt a p p1) ∧
      (∀ (p : Pl), OkP p → ∀ x p1, one es p = some (x, p1) → Gd C (mt1 C es) p.sets.length p1 x ∧ Xt p.sets.length p p1))
  · intro op set kids ⟨h1, h2, h3⟩ p hp x p1 h
    have z0 : OkN p ⟨true, 0, 0⟩ := ⟨Nat.two_pow_pos _, Nat.two_pow_pos _⟩
    have z1 : OkN p ⟨false, 0, 0⟩ := ⟨Nat.two_pow_pos _, Nat.two_pow_pos _⟩
    unfold node at h
    by_cases o1 : op = 1
    · rw [if_pos o1] at h
      split at h
      · cases h
      · injection h with h
        injection h with hx hp1
        subst hx hp1
        exact ⟨(Gd.leaf C set hp).congr (fun i j => by simp [mt, o1]), ⟨[set], rfl⟩, fun _ _ => rfl⟩
    rw [if_neg o1] at h
    by_cases o2 : op = 2
    · rw [if_pos o2] at h
      obtain ⟨a, b⟩ := h1 _ _ _ p hp z0 (Nat.le_refl _) (Gd.empty C hp) x p1 h
      exact ⟨a.congr (fun i j => by simp [mt, o2]), b⟩
    rw [if_neg o2] at h
    by_cases o3 : op = 3
    · rw [if_pos o3] at h
      obtain ⟨a, b⟩ := h2 _ _ _ p hp z1 (Nat.le_refl _) (Gd.never C hp) x p1 h
      exact ⟨a.congr (fun i j => by simp [mt, o3]), b⟩
    rw [if_neg o3] at h
    have hch : ∀ {y : Nd} {p2 : Pl}, Gd C (mt1 C kids) p.sets.length p2 y → Xt p.sets.length p p2 → Xt p.sets.length p (chain p2 y.last y.first) := fun {y p2} g k => by
      obtain ⟨S, hS⟩ := k.pre
      refine ⟨⟨S, hS⟩, fun q hq => ?_⟩
      show (if y.last.testBit q = true then p2.next q ||| y.first else p2.next q) = p.next q
      rw [if_neg (fun hh => by have := g.la q hh; omega), k.nx q hq]
    by_cases o4 : op = 4
    · rw [if_pos o4] at h
      cases ho : one kids p with
      | none => rw [ho] at h; cases h
      | some r =>
        obtain ⟨y, p2⟩ := r
        rw [ho] at h
        obtain ⟨a, b⟩ := h3 p hp y p2 ho
        injection h with h
        injection h with hx hp1
        subst hx hp1
        exact ⟨a.plus.2.congr (fun i j => by simp [mt, o4]), hch a b⟩
    rw [if_neg o4] at h
    by_cases o5 : op = 5
    · rw [if_pos o5] at h
      cases ho : one kids p with
      | none => rw [ho] at h; cases h
      | some r =>
        obtain ⟨y, p2⟩ := r
        rw [ho] at h
        obtain ⟨a, b⟩ := h3 p hp y p2 ho
        injection h with h
        injection h with hx hp1
        subst hx hp1
        exact ⟨a.plus.1.congr (fun i j => by simp [mt, o5]), hch a b⟩
    rw [if_neg o5] at h
    by_cases o6 : op = 6
    · rw [if_pos o6] at h
      cases ho : one kids p with
      | none => rw [ho] at h; cases h
      | some r =>
        obtain ⟨y, p2⟩ := r
        rw [ho] at h
        obtain ⟨a, b⟩ := h3 p hp y p2 ho
        injection h with h
        injection h with hx hp1
        subst hx hp1
        exact ⟨a.opt.congr (fun i j => by simp [mt, o6]), b⟩
    rw [if_neg o6] at h
    injection h with h
    injection h with hx hp1
    subst hx hp1
    exact ⟨(Gd.empty C hp).congr (fun i j => by simp [mt, o1, o2, o3, o4, o5, o6]), Xt.refl _ _⟩
  · refine ⟨fun a M o p hp ho ha hg x p1 h => ?_, fun a M o p hp ho ha hg x p1 h => ?_, fun p hp x p1 h => ?_⟩
    · simp only [seqs] at h
      injection h with h
      injection h with hx hp1
      subst hx hp1
      exact ⟨hg.congr (fun i j => by simp [mts]), Xt.refl _ _⟩
    · simp only [alts] at h
      injection h with h
      injection h with hx hp1
      subst hx hp1
      exact ⟨hg.congr (fun i j => by simp [mta]), Xt.refl _ _⟩
    · simp only [one] at h
      injection h with h
      injection h with hx hp1
      subst hx hp1
      exact ⟨(Gd.never C hp).congr (fun i j => by simp [mt1]), Xt.refl _ _⟩
  · intro e es he ⟨h1, h2, h3⟩
    refine ⟨fun a M o p hp ho ha hg x p1 h => ?_, fun a M o p hp ho ha hg x p1 h => ?_, fun p hp x p1 h => ?_⟩
    · simp only [seqs] at h
      cases hn : node e p with
      | none => rw [hn] at h; cases h
      | some r =>
        obtain ⟨y, p2⟩ := r
        rw [hn] at h
        obtain ⟨c1, c2, c3⟩ := node_ok e p hp y p2 hn
        obtain ⟨g1, g2⟩ := he p hp y p2 hn
        have o2 : OkN p2 o := ⟨Nat.lt_of_lt_of_le ho.1 (pow_le c3), Nat.lt_of_lt_of_le ho.2 (pow_le c3)⟩
        have o3 : OkN (chain p2 o.last y.first) (seq1 o y) := by
          unfold seq1 OkN
          refine ⟨?_, ?_⟩
          · show (if o.none = true then o.first ||| y.first else o.first) < 2 ^ p2.sets.length
            split
            · exact Nat.or_lt_two_pow o2.1 c2.1
            · exact o2.1
          · show (if y.none = true then o.last ||| y.last else y.last) < 2 ^ p2.sets.length
            split
            · exact Nat.or_lt_two_pow o2.2 c2.2
            · exact c2.2
        obtain ⟨s1, s2⟩ := hg.seq ha g1 g2 hp.zero
        obtain ⟨k1, k2⟩ := h1 a _ (seq1 o y) (chain p2 o.last y.first) (c1.chain o2.2 c2.1) o3 (Nat.le_trans ha c3) s1 x p1 h
        refine ⟨k1.congr (fun i j => ?_), s2.trans k2 (Nat.le_refl _)⟩
        simp only [mts]
        constructor
        · rintro ⟨m, ⟨n, u, v⟩, t⟩
          exact ⟨n, u, m, v, t⟩
        · rintro ⟨n, u, m, v, t⟩
          exact ⟨m, ⟨n, u, v⟩, t⟩
    · simp only [alts] at h
      cases hn : node e p with
      | none => rw [hn] at h; cases h
      | some r =>
        obtain ⟨y, p2⟩ := r
        rw [hn] at h
        obtain ⟨c1, c2, c3⟩ := node_ok e p hp y p2 hn
        obtain ⟨g1, g2⟩ := he p hp y p2 hn
        have o2 : OkN p2 o := ⟨Nat.lt_of_lt_of_le ho.1 (pow_le c3), Nat.lt_of_lt_of_le ho.2 (pow_le c3)⟩
        obtain ⟨k1, k2⟩ := h2 a _ (alt1 o y) p2 c1 ⟨Nat.or_lt_two_pow o2.1 c2.1, Nat.or_lt_two_pow o2.2 c2.2⟩ (Nat.le_trans ha c3) (hg.alt ha g1 g2 hp.zero) x p1 h
        refine ⟨k1.congr (fun i j => ?_), ?_⟩
        · simp only [mta]
          rw [or_assoc]
        · obtain ⟨S, hS⟩ := g2.pre
          exact (Xt.mk ⟨S, hS⟩ (fun q hq => g2.nx q (by omega)) : Xt a p p2).trans k2 (Nat.le_refl _)
    · simp only [one] at h
      obtain ⟨k1, k2⟩ := he p hp x p1 h
      exact ⟨k1.congr (fun i j => by simp [mt1]), k2⟩
end Au
end Go.Proofs.Ytfbcijnacbfjpaa
