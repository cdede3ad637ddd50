/-
  Expressions as automata, in plain words: places, what may be the first, the last and the next one, states as sets of places (bits of a number); no program in it.
-/
import Derived.Test.YtfbcijnacbfjpaaMath
namespace Go.Proofs.Ytfbcijnacbfjpaa
set_option linter.unusedVariables false
set_option linter.unusedSimpArgs false
namespace Au
open Rl (Ex)
/-- what is known of an expression's rows. -/
structure Nd where
  none : Bool
  first : Nat
  last : Nat
/-- the places so far: their sets, and which may be the next behind each. -/
structure Pl where
  sets : List Int
  next : Nat → Nat
def pl0 : Pl := ⟨[], fun _ => 0⟩
def chain (p : Pl) (behind nx : Nat) : Pl := { p with next := fun i => if behind.testBit i = true then p.next i ||| nx else p.next i }
def seq1 (o x : Nd) : Nd := ⟨o.none && x.none, if o.none = true then o.first ||| x.first else o.first, if x.none = true then o.last ||| x.last else x.last⟩
def alt1 (o x : Nd) : Nd := ⟨o.none || x.none, o.first ||| x.first, o.last ||| x.last⟩
mutual
/-- an expression; nothing, if it has too many places. -/
def node : Ex → Pl → Option (Nd × Pl)
  | .mk op set kids, p =>
    if op = 1 then (if p.sets.length = 200 then none else some (⟨false, 2 ^ p.sets.length, 2 ^ p.sets.length⟩, { p with sets := p.sets ++ [set] }))
    else if op = 2 then seqs kids ⟨true, 0, 0⟩ p
    else if op = 3 then alts kids ⟨false, 0, 0⟩ p
    else if op = 4 then (match one kids p with | none => none | some (x, p1) => some (⟨true, x.first, x.last⟩, chain p1 x.last x.first))
    else if op = 5 then (match one kids p with | none => none | some (x, p1) => some (x, chain p1 x.last x.first))
    else if op = 6 then (match one kids p with | none => none | some (x, p1) => some (⟨true, x.first, x.last⟩, p1))
    else some (⟨true, 0, 0⟩, p)
def seqs : List Ex → Nd → Pl → Option (Nd × Pl)
  | [], o, p => some (o, p)
  | e :: es, o, p => match node e p with
    | none => none
    | some (x, p1) => seqs es (seq1 o x) (chain p1 o.last x.first)
def alts : List Ex → Nd → Pl → Option (Nd × Pl)
  | [], o, p => some (o, p)
  | e :: es, o, p => match node e p with
    | none => none
    | some (x, p1) => alts es (alt1 o x) p1
/-- the first kid, if there is one. -/
def one : List Ex → Pl → Option (Nd × Pl)
  | [], p => some (⟨false, 0, 0⟩, p)
  | e :: _, p => node e p
end
mutual
/-- an expression's places. -/
def cnt : Ex → Nat
  | .mk op set kids => if op = 1 then 1 else if op = 2 ∨ op = 3 then cnts kids else if op = 4 ∨ op = 5 ∨ op = 6 then cnt1 kids else 0
def cnts : List Ex → Nat
  | [] => 0
  | e :: es => cnt e + cnts es
def cnt1 : List Ex → Nat
  | [] => 0
  | e :: _ => cnt e
end
/-- all expressions, one behind the other. -/
def all : List Ex → List Nd → Pl → Option (List Nd × Pl)
  | [], l, p => some (l, p)
  | e :: es, l, p => match node e p with
    | none => none
    | some (x, p1) => all es (l ++ [x]) p1
/-- which places are come to behind a state. -/
def may (p : Pl) (first s : Nat) : Nat := (List.range p.sets.length).foldl (fun m i => if s.testBit i = true then m ||| p.next i else m) first
/-- the places in whose sets a class is. -/
def by' (p : Pl) (c : Nat) : Nat := (List.range p.sets.length).foldl (fun m i => if (p.sets[i]?.getD 0) / 2 ^ c % 2 = 1 then m ||| 2 ^ i else m) 0
/-- the expressions of which a row ends at a state, as bits. -/
def out (l : List Nd) (s : Nat) : Nat := (List.range l.length).foldl (fun m r => match l[r]? with | some x => if x.none = true ∨ s &&& x.last ≠ 0 then m ||| 2 ^ r else m | none => m) 0
/-- a state's ways: what is found grows; nothing, if there are too many states. -/
def ways (p : Pl) (m : Nat) : List Nat → List Nat → List Nat → Option (List Nat × List Nat)
  | [], found, w => some (found, w)
  | c :: cs, found, w =>
    if m &&& by' p c ∈ found then ways p m cs found (w ++ [found.idxOf (m &&& by' p c)])
    else if found.length = 300 then none
    else ways p m cs (found ++ [m &&& by' p c]) (w ++ [found.length])
/-- the states from the n-th on. -/
def states (p : Pl) (l : List Nd) (first classes : Nat) : Nat → Nat → List Nat → List (List Nat) → List Nat → Option (List (List Nat) × List Nat)
  | 0, _, _, nx, o => some (nx, o)
  | f + 1, n, found, nx, o => match found[n]? with
    | none => some (nx, o)
    | some s => match ways p (may p first s) (List.range classes) found [] with
      | none => none
      | some (found1, w) => states p l first classes f (n + 1) found1 (nx ++ [w]) (o ++ [out l s])
/-- how it ends: a fault's number, or an automaton. -/
def make (l : List Ex) (classes : Int) : Except Nat (List (List Nat) × List Nat) :=
  if classes < 1 ∨ 24 < classes ∨ 24 < l.length then .error 1 else match all l [] pl0 with
    | none => .error 2
    | some (nd, p) => match states p nd (nd.foldl (fun m x => m ||| x.first) 0) classes.toNat 301 0 [0] [] [] with
      | none => .error 3
      | some r => .ok r
theorem chain_len (p : Pl) (a b : Nat) : (chain p a b).sets = p.sets := rfl
/-- so many places more, or too many. -/
theorem node_cnt : (∀ (e : Ex) (p : Pl), p.sets.length ≤ 200 → (match node e p with | none => 200 < p.sets.length + cnt e | some (_, p1) => p1.sets.length = p.sets.length + cnt e ∧ p1.sets.length ≤ 200)) := by
  intro e
  apply Ex.rec (motive_1 := fun e => ∀ (p : Pl), p.sets.length ≤ 200 → (match node e p with | none => 200 < p.sets.length + cnt e | some (_, p1) => p1.sets.length = p.sets.length + cnt e ∧ p1.sets.length ≤ 200))
    (motive_2 := fun es => (∀ (o : Nd) (p : Pl), p.sets.length ≤ 200 → (match seqs es o p with | none => 200 < p.sets.length + cnts es | some (_, p1) => p1.sets.length = p.sets.length + cnts es ∧ p1.sets.length ≤ 200)) ∧ (∀ (o : Nd) (p : Pl), p.sets.length ≤ 200 → (match alts es o p with | none => 200 < p.sets.length + cnts es | some (_, p1) => p1.sets.length = p.sets.length + cnts es ∧ p1.sets.length ≤ 200)) ∧ (∀ (p : Pl), p.sets.length ≤ 200 → (match one es p with | none => 200 < p.sets.length + cnt1 es | some (_, p1) => p1.sets.length = p.sets.length + cnt1 es ∧ p1.sets.length ≤ 200)))
  · intro op set kids ⟨h1, h2, h3⟩ p hp
    unfold node cnt
    by_cases o1 : op = 1
    · rw [if_pos o1, if_pos o1]
      by_cases hf : p.sets.length = 200
      · rw [if_pos hf]
        show 200 < p.sets.length + 1
        omega
      · rw [if_neg hf]
        show (p.sets ++ [set]).length = p.sets.length + 1 ∧ (p.sets ++ [set]).length ≤ 200
        have e : (p.sets ++ [set]).length = p.sets.length + 1 := by simp
        rw [e]
        exact ⟨rfl, by omega⟩
    rw [if_neg o1, if_neg o1]
    by_cases o2 : op = 2
    · rw [if_pos o2, if_pos (Or.inl o2)]; exact h1 _ p hp
    rw [if_neg o2]
    by_cases o3 : op = 3
    · rw [if_pos o3, if_pos (Or.inr o3)]; exact h2 _ p hp
    rw [if_neg o3, if_neg (show ¬ (op = 2 ∨ op = 3) by omega)]
    have h3 := h3 p hp
    by_cases o4 : op = 4
    · rw [if_pos o4, if_pos (show op = 4 ∨ op = 5 ∨ op = 6 from Or.inl o4)]
      cases h : one kids p with
      | none => rw [h] at h3; exact h3
      | some r => rw [h] at h3; exact h3
    rw [if_neg o4]
    by_cases o5 : op = 5
    · rw [if_pos o5, if_pos (show op = 4 ∨ op = 5 ∨ op = 6 from Or.inr (Or.inl o5))]
      cases h : one kids p with
      | none => rw [h] at h3; exact h3
      | some r => rw [h] at h3; exact h3
    rw [if_neg o5]
    by_cases o6 : op = 6
    · rw [if_pos o6, if_pos (show op = 4 ∨ op = 5 ∨ op = 6 from Or.inr (Or.inr o6))]
      cases h : one kids p with
      | none => rw [h] at h3; exact h3
      | some r => rw [h] at h3; exact h3
    rw [if_neg o6, if_neg (show ¬ (op = 4 ∨ op = 5 ∨ op = 6) by omega)]
    exact ⟨rfl, hp⟩
  · refine ⟨fun o p hp => ?_, fun o p hp => ?_, fun p hp => ?_⟩
    · simp only [seqs, cnts]; exact ⟨rfl, hp⟩
    · simp only [alts, cnts]; exact ⟨rfl, hp⟩
    · simp only [one, cnt1]; exact ⟨rfl, hp⟩
  · intro e es he ⟨h1, h2, h3⟩
    refine ⟨fun o p hp => ?_, fun o p hp => ?_, fun p hp => ?_⟩
    · have he := he p hp
      simp only [seqs, cnts]
      cases h : node e p with
      | none => rw [h] at he; simp only at he ⊢; omega
      | some r =>
        obtain ⟨x, p1⟩ := r
        rw [h] at he
        simp only at he ⊢
        have k := h1 (seq1 o x) (chain p1 o.last x.first) (by rw [chain_len]; exact he.2)
        rw [chain_len] at k
        cases h5 : seqs es (seq1 o x) (chain p1 o.last x.first) with
        | none => rw [h5] at k; simp only at k ⊢; omega
        | some r2 => rw [h5] at k; obtain ⟨_, p2⟩ := r2; simp only at k ⊢; omega
    · have he := he p hp
      simp only [alts, cnts]
      cases h : node e p with
      | none => rw [h] at he; simp only at he ⊢; omega
      | some r =>
        obtain ⟨x, p1⟩ := r
        rw [h] at he
        simp only at he ⊢
        have k := h2 (alt1 o x) p1 he.2
        cases h5 : alts es (alt1 o x) p1 with
        | none => rw [h5] at k; simp only at k ⊢; omega
        | some r2 => rw [h5] at k; obtain ⟨_, p2⟩ := r2; simp only at k ⊢; omega
    · simp only [one, cnt1]
      exact he p hp
/-- whatever is known speaks of places that there are. -/
def OkP (p : Pl) : Prop := ∀ i, p.next i < 2 ^ p.sets.length ∧ (p.sets.length ≤ i → p.next i = 0)
def OkN (p : Pl) (x : Nd) : Prop := x.first < 2 ^ p.sets.length ∧ x.last < 2 ^ p.sets.length
theorem OkP.chain {p : Pl} (h : OkP p) {a b : Nat} (ha : a < 2 ^ p.sets.length) (hb : b < 2 ^ p.sets.length) : OkP (chain p a b) := by
  intro i
  show (if a.testBit i = true then p.next i ||| b else p.next i) < 2 ^ p.sets.length ∧ (p.sets.length ≤ i → (if a.testBit i = true then p.next i ||| b else p.next i) = 0)
  obtain ⟨h1, h2⟩ := h i
  by_cases e : a.testBit i = true
  · rw [if_pos e]
    refine ⟨Nat.or_lt_two_pow h1 hb, fun hi => ?_⟩
    have : a.testBit i = false := Nat.testBit_lt_two_pow (Nat.lt_of_lt_of_le ha (Nat.pow_le_pow_right (by decide) hi))
    rw [this] at e
    cases e
  · rw [if_neg e]
    exact ⟨h1, h2⟩
theorem pow_le {a b : Nat} (h : a ≤ b) : 2 ^ a ≤ 2 ^ b := Nat.pow_le_pow_right (by decide) h
theorem node_ok : ∀ (e : Ex) (p : Pl), OkP p → ∀ x p1, node e p = some (x, p1) → OkP p1 ∧ OkN p1 x ∧ p.sets.length ≤ p1.sets.length := by
  intro e
  apply Ex.rec (motive_1 := fun e => ∀ (p : Pl), OkP p → ∀ x p1, node e p = some (x, p1) → OkP p1 ∧ OkN p1 x ∧ p.sets.length ≤ p1.sets.length)
    (motive_2 := fun es => (∀ (o : Nd) (p : Pl), OkP p → OkN p o → ∀ x p1, seqs es o p = some (x, p1) → OkP p1 ∧ OkN p1 x ∧ p.sets.length ≤ p1.sets.length) ∧ (∀ (o : Nd) (p : Pl), OkP p → OkN p o → ∀ x p1, alts es o p = some (x, p1) → OkP p1 ∧ OkN p1 x ∧ p.sets.length ≤ p1.sets.length) ∧ (∀ (p : Pl), OkP p → ∀ x p1, one es p = some (x, p1) → OkP p1 ∧ OkN p1 x ∧ p.sets.length ≤ p1.sets.length))
  · intro op set kids ⟨h1, h2, h3⟩ p hp x p1 h
    have z0 : OkN p ⟨true, 0, 0⟩ := ⟨Nat.two_pow_pos _, Nat.two_pow_pos _⟩
    have z1 : OkN p ⟨false, 0, 0⟩ := ⟨Nat.two_pow_pos _, Nat.two_pow_pos _⟩
    unfold node at h
    split at h
    · split at h
      · cases h
      · injection h with h
        injection h with hx hp1
        subst hx hp1
        have e : (p.sets ++ [set]).length = p.sets.length + 1 := by simp
        refine ⟨fun i => ?_, ?_, ?_⟩
        · obtain ⟨a, b⟩ := hp i
          show p.next i < 2 ^ (p.sets ++ [set]).length ∧ ((p.sets ++ [set]).length ≤ i → p.next i = 0)
          rw [e]
          exact ⟨Nat.lt_of_lt_of_le a (pow_le (by omega)), fun hi => b (by omega)⟩
        · show 2 ^ p.sets.length < 2 ^ (p.sets ++ [set]).length ∧ 2 ^ p.sets.length < 2 ^ (p.sets ++ [set]).length
          rw [e, Nat.pow_succ]
          have := Nat.two_pow_pos p.sets.length
          omega
        · show p.sets.length ≤ (p.sets ++ [set]).length
          omega
    · split at h
      · exact h1 _ p hp z0 x p1 h
      · split at h
        · exact h2 _ p hp z1 x p1 h
        · split at h
          · cases ho : one kids p with
            | none => rw [ho] at h; cases h
            | some r =>
              obtain ⟨y, p2⟩ := r
              rw [ho] at h
              obtain ⟨a, b, c⟩ := h3 p hp y p2 ho
              injection h with h
              injection h with hx hp1
              subst hx hp1
              exact ⟨a.chain b.2 b.1, b, c⟩
          · split at h
            · cases ho : one kids p with
              | none => rw [ho] at h; cases h
              | some r =>
                obtain ⟨y, p2⟩ := r
                rw [ho] at h
                obtain ⟨a, b, c⟩ := h3 p hp y p2 ho
                injection h with h
                injection h with hx hp1
                subst hx hp1
                exact ⟨a.chain b.2 b.1, b, c⟩
            · split at h
              · cases ho : one kids p with
                | none => rw [ho] at h; cases h
                | some r =>
                  obtain ⟨y, p2⟩ := r
                  rw [ho] at h
                  obtain ⟨a, b, c⟩ := h3 p hp y p2 ho
                  injection h with h
                  injection h with hx hp1
                  subst hx hp1
                  exact ⟨a, b, c⟩
              · injection h with h
                injection h with hx hp1
                subst hx hp1
                exact ⟨hp, z0, Nat.le_refl _⟩
  · refine ⟨fun o p hp ho x p1 h => ?_, fun o p hp ho x p1 h => ?_, fun p hp x p1 h => ?_⟩
    · simp only [seqs] at h
      injection h with h
      injection h with hx hp1
      subst hx hp1
      exact ⟨hp, ho, Nat.le_refl _⟩
    · simp only [alts] at h
      injection h with h
      injection h with hx hp1
      subst hx hp1
      exact ⟨hp, ho, Nat.le_refl _⟩
    · simp only [one] at h
      injection h with h
      injection h with hx hp1
      subst hx hp1
      exact ⟨hp, ⟨Nat.two_pow_pos _, Nat.two_pow_pos _⟩, Nat.le_refl _⟩
  · intro e es he ⟨h1, h2, h3⟩
    refine ⟨fun o p hp ho x p1 h => ?_, fun o p hp ho x p1 h => ?_, fun p hp x p1 h => ?_⟩
    · simp only [seqs] at h
      cases hn : node e p with
      | none => rw [hn] at h; cases h
      | some r =>
        obtain ⟨y, p2⟩ := r
        rw [hn] at h
        obtain ⟨a, b, c⟩ := he p hp y p2 hn
        have o2 : OkN p2 o := ⟨Nat.lt_of_lt_of_le ho.1 (pow_le c), Nat.lt_of_lt_of_le ho.2 (pow_le c)⟩
        have o3 : OkN (chain p2 o.last y.first) (seq1 o y) := by
          unfold seq1 OkN
          refine ⟨?_, ?_⟩
          · show (if o.none = true then o.first ||| y.first else o.first) < 2 ^ p2.sets.length
            split
            · exact Nat.or_lt_two_pow o2.1 b.1
            · exact o2.1
          · show (if y.none = true then o.last ||| y.last else y.last) < 2 ^ p2.sets.length
            split
            · exact Nat.or_lt_two_pow o2.2 b.2
            · exact b.2
        obtain ⟨k1, k2, k3⟩ := h1 (seq1 o y) (chain p2 o.last y.first) (a.chain o2.2 b.1) o3 x p1 h
        rw [chain_len] at k3
        exact ⟨k1, k2, Nat.le_trans c k3⟩
    · simp only [alts] at h
      cases hn : node e p with
      | none => rw [hn] at h; cases h
      | some r =>
        obtain ⟨y, p2⟩ := r
        rw [hn] at h
        obtain ⟨a, b, c⟩ := he p hp y p2 hn
        have o2 : OkN p2 o := ⟨Nat.lt_of_lt_of_le ho.1 (pow_le c), Nat.lt_of_lt_of_le ho.2 (pow_le c)⟩
        obtain ⟨k1, k2, k3⟩ := h2 (alt1 o y) p2 a ⟨Nat.or_lt_two_pow o2.1 b.1, Nat.or_lt_two_pow o2.2 b.2⟩ x p1 h
        exact ⟨k1, k2, Nat.le_trans c k3⟩
    · simp only [one] at h
      exact he p hp x p1 h
end Au
end Go.Proofs.Ytfbcijnacbfjpaa
