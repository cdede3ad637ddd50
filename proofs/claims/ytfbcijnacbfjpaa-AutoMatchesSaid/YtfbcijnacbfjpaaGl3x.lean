/-
  States as sets of places: what they tell of the expressions that end; no program in it.
-/
import Derived.Test.YtfbcijnacbfjpaaGl2x
import Derived.Test.YtfbcijnacbfjpaaSts0x
namespace Go.Proofs.Ytfbcijnacbfjpaa
set_option linter.unusedVariables false
set_option linter.unusedSimpArgs false
namespace Au
open Rl (Ex)
/-- an expression among others: its places are a stretch. -/
structure Fn1 (C : List Int) (e : Ex) (a b : Nat) (p : Pl) (y : Nd) : Prop where
  fi : ∀ q, y.first.testBit q = true → a ≤ q ∧ q < b
  la : ∀ q, y.last.testBit q = true → a ≤ q ∧ q < b
  cl : ∀ q r, a ≤ q → q < b → (p.next q).testBit r = true → a ≤ r ∧ r < b
  lg : ∀ i j, mt C e i j ↔ Lg C p y i j
theorem all_says (C : List Int) : ∀ (es : List Ex) (acc : List Nd) (p : Pl), OkP p → ∀ nds p1, all es acc p = some (nds, p1) →
    ∃ (ys : List Nd) (A : Nat → Nat), nds = acc ++ ys ∧ ys.length = es.length ∧ OkP p1 ∧ Xt p.sets.length p p1 ∧ A 0 = p.sets.length ∧ A es.length = p1.sets.length ∧ (∀ r, r < es.length → A r ≤ A (r + 1)) ∧
      ∀ r e, es[r]? = some e → ∃ y, ys[r]? = some y ∧ Fn1 C e (A r) (A (r + 1)) p1 y
  | [], acc, p, hp, nds, p1, h => by
    simp only [all] at h
    injection h with h
    injection h with h1 h2
    subst h1 h2
    exact ⟨[], fun _ => p.sets.length, by simp, rfl, hp, Xt.refl _ _, rfl, rfl, fun r h => by simp at h, fun r e h => by simp at h⟩
  | e :: es, acc, p, hp, nds, p1, h => by
    simp only [all] at h
    cases hn : node e p with
    | none => rw [hn] at h; cases h
    | some r =>
      obtain ⟨y, p2⟩ := r
      rw [hn] at h
      obtain ⟨c1, c2, c3⟩ := node_ok e p hp y p2 hn
      obtain ⟨g1, g2⟩ := node_says C e p hp y p2 hn
      obtain ⟨ys, A, h1, h2, h3, h4, h5, h6, h7, h8⟩ := all_says C es (acc ++ [y]) p2 c1 nds p1 h
      obtain ⟨k1, k2⟩ := g1.xt h4 c1.zero
      refine ⟨y :: ys, fun r => match r with | 0 => p.sets.length | r + 1 => A r, by rw [h1]; simp, by simp [h2], h3, g2.trans h4 c3, rfl, h6, ?_, ?_⟩
      · intro r hr
        cases r with
        | zero => show p.sets.length ≤ A 0; omega
        | succ r => exact h7 r (by simpa using hr)
      · intro r e' he'
        cases r with
        | zero =>
          simp only [List.getElem?_cons_zero, Option.some.injEq] at he'
          subst he'
          refine ⟨y, rfl, ?_⟩
          show Fn1 C e p.sets.length (A 0) p1 y
          rw [h5]
          exact ⟨g1.fi, g1.la, k2, k1⟩
        | succ r =>
          simp only [List.getElem?_cons_succ] at he' ⊢
          exact h8 r e' he'
theorem mono_A {A : Nat → Nat} {n : Nat} (h : ∀ r, r < n → A r ≤ A (r + 1)) {r s : Nat} (hrs : r ≤ s) (hs : s ≤ n) : A r ≤ A s := by
  induction s with
  | zero => obtain rfl : r = 0 := by omega
            exact Nat.le_refl _
  | succ s ih =>
    by_cases e : r = s + 1
    · subst e; exact Nat.le_refl _
    · exact Nat.le_trans (ih (by omega) (by omega)) (h s (by omega))
theorem same_A {A : Nat → Nat} {n : Nat} (h : ∀ r, r < n → A r ≤ A (r + 1)) {r s q : Nat} (hr : r < n) (hs : s < n) (h1 : A r ≤ q ∧ q < A (r + 1)) (h2 : A s ≤ q ∧ q < A (s + 1)) : r = s := by
  rcases Nat.lt_trichotomy r s with hh | hh | hh
  · have := mono_A h (show r + 1 ≤ s from hh) (by omega); omega
  · exact hh
  · have := mono_A h (show s + 1 ≤ r from hh) (by omega); omega
theorem may_bit (p : Pl) (first s r : Nat) : (may p first s).testBit r = true ↔ first.testBit r = true ∨ ∃ q, q < p.sets.length ∧ s.testBit q = true ∧ (p.next q).testBit r = true := by
  unfold may
  have key : ∀ k, ((List.range k).foldl (fun m i => if s.testBit i = true then m ||| p.next i else m) first).testBit r = true ↔ first.testBit r = true ∨ ∃ q, q < k ∧ s.testBit q = true ∧ (p.next q).testBit r = true := fun k => by
    induction k with
    | zero => simp
    | succ k ih =>
      rw [List.range_succ, List.foldl_append]
      simp only [List.foldl_cons, List.foldl_nil]
      split
      · rename_i hk
        rw [Nat.testBit_or, Bool.or_eq_true, ih]
        constructor
        · rintro ((h | ⟨q, a, b⟩) | h)
          · exact Or.inl h
          · exact Or.inr ⟨q, by omega, b⟩
          · exact Or.inr ⟨k, by omega, hk, h⟩
        · rintro (h | ⟨q, a, b, c⟩)
          · exact Or.inl (Or.inl h)
          · by_cases e : q = k
            · subst e; exact Or.inr c
            · exact Or.inl (Or.inr ⟨q, by omega, b, c⟩)
      · rename_i hk
        rw [ih]
        constructor
        · rintro (h | ⟨q, a, b⟩)
          · exact Or.inl h
          · exact Or.inr ⟨q, by omega, b⟩
        · rintro (h | ⟨q, a, b, c⟩)
          · exact Or.inl h
          · by_cases e : q = k
            · subst e; exact absurd b hk
            · exact Or.inr ⟨q, by omega, b, c⟩
  exact key _
theorem by_bit (p : Pl) (c r : Nat) : (by' p c).testBit r = true ↔ r < p.sets.length ∧ st p r / 2 ^ c % 2 = 1 := by
  unfold by' st
  rw [fold_bit (fun i => (p.sets[i]?.getD 0) / 2 ^ c % 2 = 1) 0 r]
  simp
def okB (l : List Nd) (s r : Nat) : Bool := match l[r]? with
  | some y => y.none || decide (s &&& y.last ≠ 0)
  | none => false
theorem okB_iff (l : List Nd) (s r : Nat) : okB l s r = true ↔ ∃ y, l[r]? = some y ∧ (y.none = true ∨ s &&& y.last ≠ 0) := by
  unfold okB
  cases hx : l[r]? with
  | none => simp
  | some y => simp
theorem out_bit (l : List Nd) (s r : Nat) : (out l s).testBit r = true ↔ ∃ y, l[r]? = some y ∧ (y.none = true ∨ s &&& y.last ≠ 0) := by
  have e : out l s = (List.range l.length).foldl (fun m r => if okB l s r = true then m ||| 2 ^ r else m) 0 := by
    unfold out
    congr 1
    funext m i
    unfold okB
    cases hx : l[i]? with
    | none => simp
    | some y => simp
  rw [e, fold_bit (fun i => okB l s i = true) 0 r, ← okB_iff]
  simp only [Nat.zero_testBit, Bool.false_or, Bool.and_eq_true, decide_eq_true_eq]
  constructor
  · exact fun h => h.2
  · intro h
    obtain ⟨y, h1, _⟩ := (okB_iff l s r).1 h
    exact ⟨(List.getElem?_eq_some_iff.1 h1).1, h⟩
theorem and_ne {s l : Nat} : s &&& l ≠ 0 ↔ ∃ t, s.testBit t = true ∧ l.testBit t = true := by
  constructor
  · intro h
    obtain ⟨t, ht⟩ := Nat.exists_testBit_of_ne_zero h
    rw [Nat.testBit_and, Bool.and_eq_true] at ht
    exact ⟨t, ht⟩
  · rintro ⟨t, h1, h2⟩ e
    have : (s &&& l).testBit t = true := by rw [Nat.testBit_and, h1, h2]; rfl
    rw [e] at this
    simp at this
/-- the places behind classes. -/
def sset (p : Pl) (F : Nat) (C : List Int) : Nat := C.foldl (fun S c => may p F S &&& by' p c.toNat) 0
theorem sset_snoc (p : Pl) (F : Nat) (C : List Int) (c : Int) : sset p F (C ++ [c]) = may p F (sset p F C) &&& by' p c.toNat := by
  unfold sset
  rw [List.foldl_append]
  rfl
theorem hit0 (C : List Int) (i : Nat) : ¬ hit C 0 i := fun h => by
  obtain ⟨c, _, _, _, h⟩ := (hit_iff _ _ _).1 h
  simp at h
theorem Pw.rlt {C : List Int} {p : Pl} {q i r j : Nat} (h : Pw C p q i r j) : r < p.sets.length := by
  have key : ∀ {r i}, hit C (st p r) i → r < p.sets.length := fun {r i} hh => Classical.byContradiction fun hn => by
    have : st p r = 0 := by unfold st; rw [List.getElem?_eq_none (by omega)]; rfl
    rw [this] at hh
    exact hit0 _ _ hh
  cases h with
  | one hh => exact key hh
  | step _ _ hh => exact key hh
theorem hit_app {C : List Int} {c : Int} {set : Int} {i : Nat} (hi : i < C.length) : hit (C ++ [c]) set i ↔ hit C set i := by
  rw [hit_iff, hit_iff, List.getElem?_append_left hi]
theorem Pw.app {C : List Int} {c : Int} {p : Pl} {q i r j : Nat} (h : Pw (C ++ [c]) p q i r j) (hj : j ≤ C.length) : Pw C p q i r j := by
  induction h with
  | one hh => exact .one ((hit_app (by omega)).1 hh)
  | step _ h1 h2 ih => exact .step (ih (by omega)) h1 ((hit_app (by omega)).1 h2)
theorem Pw.jle {C : List Int} {p : Pl} {q i r j : Nat} (h : Pw C p q i r j) : j ≤ C.length := by
  have key : ∀ {s i}, hit C s i → i + 1 ≤ C.length := fun {s i} hh => by
    obtain ⟨c, hc, _⟩ := (hit_iff _ _ _).1 hh
    exact (List.getElem?_eq_some_iff.1 hc).1
  cases h with
  | one hh => exact key hh
  | step _ _ hh => exact key hh
theorem Pw.app' {C : List Int} {c : Int} {p : Pl} {q i r j : Nat} (h : Pw C p q i r j) : Pw (C ++ [c]) p q i r j := by
  have key : ∀ {s i}, hit C s i → hit (C ++ [c]) s i := fun {s i} hh => by
    have hi : i < C.length := by
      obtain ⟨c, hc, _⟩ := (hit_iff _ _ _).1 hh
      exact (List.getElem?_eq_some_iff.1 hc).1
    exact (hit_app hi).2 hh
  induction h with
  | one hh => exact .one (key hh)
  | step _ h1 h2 ih => exact .step ih h1 (key h2)
theorem sset_bit (p : Pl) (F n : Nat) (hn : n ≤ 32) : ∀ (C : List Int), (∀ c ∈ C, 0 ≤ c ∧ c < (n : Int)) → ∀ r, (sset p F C).testBit r = true ↔ ∃ q i, F.testBit q = true ∧ Pw C p q i r C.length := by
  intro C
  induction hk : C.length generalizing C with
  | zero =>
    intro hC r
    obtain rfl : C = [] := List.eq_nil_of_length_eq_zero hk
    constructor
    · intro h; simp [sset] at h
    · rintro ⟨q, i, _, h⟩
      have := h.lt
      omega
  | succ k ih =>
    intro hC r
    obtain ⟨D, c, rfl⟩ : ∃ D c, C = D ++ [c] := ⟨C.dropLast, C.getLast (by intro e; rw [e] at hk; simp at hk), (List.dropLast_concat_getLast _).symm⟩
    have hD : D.length = k := by simpa using hk
    have hc := hC c (by simp)
    have hat : (D ++ [c])[k]? = some c := by rw [← hD]; simp
    have hit1 : ∀ r, hit (D ++ [c]) (st p r) k ↔ st p r / 2 ^ c.toNat % 2 = 1 := fun r => by
      rw [hit_iff, hat]
      constructor
      · rintro ⟨c', e, _, _, h⟩
        injection e with e
        subst e
        exact h
      · intro h
        exact ⟨c, rfl, hc.1, by omega, h⟩
    rw [sset_snoc, Nat.testBit_and, Bool.and_eq_true, may_bit, by_bit, ← hit1]
    have ih := ih D hD (fun c h => hC c (List.mem_append_left _ h))
    constructor
    · rintro ⟨h | ⟨q, h1, h2, h3⟩, h4, h5⟩
      · exact ⟨r, k, h, .one h5⟩
      · obtain ⟨f, i, hf, w⟩ := (ih q).1 h2
        exact ⟨f, i, hf, .step w.app' h3 h5⟩
    · rintro ⟨q, i, hf, w⟩
      have hl := w.rlt
      cases w with
      | one hh => exact ⟨Or.inl hf, hl, hh⟩
      | step w1 h1 h2 => exact ⟨Or.inr ⟨_, w1.rlt, (ih _).2 ⟨q, i, hf, w1.app (by omega)⟩, h1⟩, hl, h2⟩
/-- the first places of all. -/
theorem orf_bit (l : List Nd) (m q : Nat) : (l.foldl (fun m x => m ||| x.first) m).testBit q = true ↔ m.testBit q = true ∨ ∃ x ∈ l, x.first.testBit q = true := by
  induction l generalizing m with
  | nil => simp
  | cons x l ih =>
    rw [List.foldl_cons, ih, Nat.testBit_or, Bool.or_eq_true]
    constructor
    · rintro ((h | h) | ⟨y, a, b⟩)
      · exact Or.inl h
      · exact Or.inr ⟨x, by simp, h⟩
      · exact Or.inr ⟨y, by simp [a], b⟩
    · rintro (h | ⟨y, a, b⟩)
      · exact Or.inl (Or.inl h)
      · rcases List.mem_cons.1 a with rfl | a
        · exact Or.inl (Or.inr b)
        · exact Or.inr ⟨y, a, b⟩
/-- behind classes the states tell just the expressions of which a row ends there. -/
theorem out_says (es : List Ex) (nds : List Nd) (p : Pl) (h : all es [] pl0 = some (nds, p)) (n : Nat) (hn : n ≤ 32) (C : List Int) (hC : ∀ c ∈ C, 0 ≤ c ∧ c < (n : Int)) (r : Nat) (e : Ex) (hr : es[r]? = some e) :
    (out nds (sset p (nds.foldl (fun m x => m ||| x.first) 0) C)).testBit r = true ↔ ∃ i, mt C e i C.length := by
  have h0 : OkP pl0 := fun i => ⟨Nat.two_pow_pos _, fun _ => rfl⟩
  obtain ⟨ys, A, h1, h2, h3, h4, h5, h6, h7, h8⟩ := all_says C es [] pl0 h0 nds p h
  rw [List.nil_append] at h1
  subst h1
  obtain ⟨y, hy, hf⟩ := h8 r e hr
  rw [out_bit]
  have hrl := (List.getElem?_eq_some_iff.1 hr).1
  constructor
  · rintro ⟨y', hy', ho⟩
    rw [hy] at hy'
    injection hy' with hy'
    subst hy'
    rcases ho with hn' | ho
    · exact ⟨C.length, (hf.lg _ _).2 (Or.inl ⟨hn', rfl⟩)⟩
    · obtain ⟨t, t1, t2⟩ := and_ne.1 ho
      obtain ⟨q, i, q1, q2⟩ := (sset_bit p _ n hn C hC t).1 t1
      rcases (orf_bit _ _ _).1 q1 with q1 | ⟨z, z1, z2⟩
      · simp at q1
      · obtain ⟨s, hs⟩ := List.getElem?_of_mem z1
        have hsl : s < es.length := by have := (List.getElem?_eq_some_iff.1 hs).1; omega
        obtain ⟨z', hz', hfz⟩ := h8 s es[s] (List.getElem?_eq_getElem hsl)
        rw [hs] at hz'
        injection hz' with hz'
        subst hz'
        have ht := (Pw.to (p' := p) (hfz.fi q z2) hfz.cl (fun _ _ _ => rfl) (fun _ _ _ _ hh => hh) q2).2
        have := same_A h7 hrl hsl (hf.la t t2) ht
        subst this
        rw [hy] at hs
        injection hs with hs
        subst hs
        exact ⟨i, (hf.lg _ _).2 (Or.inr ⟨q, t, z2, t2, q2⟩)⟩
  · rintro ⟨i, hm⟩
    refine ⟨y, hy, ?_⟩
    rcases (hf.lg _ _).1 hm with ⟨hn', _⟩ | ⟨q, t, q1, t1, w⟩
    · exact Or.inl hn'
    · refine Or.inr (and_ne.2 ⟨t, (sset_bit p _ n hn C hC t).2 ⟨q, i, (orf_bit _ _ _).2 (Or.inr ⟨y, List.mem_of_getElem? hy, q1⟩), w⟩, t1⟩)
end Au
end Go.Proofs.Ytfbcijnacbfjpaa
