/-
  What expressions say of rows of classes, from one boundary to another; no program in it.
-/
import Derived.Test.YtfbcijnacbfjpaaMathz
import Derived.Test.YtfbcijnacbfjpaaRbz
namespace Go.Proofs.Ytfbcijnacbfjpaa
set_option linter.unusedVariables false
set_option linter.unusedSimpArgs false
namespace Au
open Rl (Ex)
/-- any number of steps. -/
inductive Rt (R : Nat → Nat → Prop) : Nat → Nat → Prop
  | refl (i : Nat) : Rt R i i
  | step {i m j : Nat} : Rt R i m → R m j → Rt R i j
theorem Rt.trans {R : Nat → Nat → Prop} {i m j : Nat} (h : Rt R i m) (k : Rt R m j) : Rt R i j := by
  induction k with
  | refl => exact h
  | step _ hr ih => exact .step ih hr
theorem Rt.head {R : Nat → Nat → Prop} {i m j : Nat} (h : R i m) (k : Rt R m j) : Rt R i j := (Rt.step (.refl i) h).trans k
/-- the class behind a boundary is in a set. -/
def hitB (C : List Int) (set : Int) (i : Nat) : Bool := match C[i]? with
  | some c => decide (0 ≤ c ∧ c < 32 ∧ set / 2 ^ c.toNat % 2 = 1)
  | none => false
def hit (C : List Int) (set : Int) (i : Nat) : Prop := hitB C set i = true
theorem hit_iff (C : List Int) (set : Int) (i : Nat) : hit C set i ↔ ∃ c, C[i]? = some c ∧ 0 ≤ c ∧ c < 32 ∧ set / 2 ^ c.toNat % 2 = 1 := by
  unfold hit hitB
  cases hx : C[i]? with
  | none => simp
  | some c => simp
mutual
/-- from boundary i to boundary j stands a row that the expression says. -/
def mt (C : List Int) : Ex → Nat → Nat → Prop
  | .mk op set kids, i, j =>
    if op = 1 then j = i + 1 ∧ hit C set i
    else if op = 2 then mts C kids i j
    else if op = 3 then mta C kids i j
    else if op = 4 then Rt (mt1 C kids) i j
    else if op = 5 then ∃ m, Rt (mt1 C kids) i m ∧ mt1 C kids m j
    else if op = 6 then i = j ∨ mt1 C kids i j
    else i = j
def mts (C : List Int) : List Ex → Nat → Nat → Prop
  | [], i, j => i = j
  | k :: ks, i, j => ∃ m, mt C k i m ∧ mts C ks m j
def mta (C : List Int) : List Ex → Nat → Nat → Prop
  | [], _, _ => False
  | k :: ks, i, j => mt C k i j ∨ mta C ks i j
def mt1 (C : List Int) : List Ex → Nat → Nat → Prop
  | [], _, _ => False
  | k :: _, i, j => mt C k i j
end
theorem mt_le (C : List Int) : ∀ e i j, mt C e i j → i ≤ j ∧ (i ≤ C.length → j ≤ C.length) := by
  intro e
  apply Ex.rec (motive_1 := fun e => ∀ i j, mt C e i j → i ≤ j ∧ (i ≤ C.length → j ≤ C.length))
    (motive_2 := fun es => (∀ i j, mts C es i j → i ≤ j ∧ (i ≤ C.length → j ≤ C.length)) ∧ (∀ i j, mta C es i j → i ≤ j ∧ (i ≤ C.length → j ≤ C.length)) ∧ (∀ i j, mt1 C es i j → i ≤ j ∧ (i ≤ C.length → j ≤ C.length)))
  · intro op set kids ⟨h1, h2, h3⟩ i j h
    have hR : ∀ {a b}, Rt (mt1 C kids) a b → a ≤ b ∧ (a ≤ C.length → b ≤ C.length) := fun {a b} hr => by
      induction hr with
      | refl => exact ⟨Nat.le_refl _, fun h => h⟩
      | step _ hr ih => have := h3 _ _ hr; exact ⟨by omega, fun h => this.2 (ih.2 h)⟩
    unfold mt at h
    split at h
    · obtain ⟨rfl, h⟩ := h
      obtain ⟨c, hc, _⟩ := (hit_iff _ _ _).1 h
      have := (List.getElem?_eq_some_iff.1 hc).1
      omega
    · split at h
      · exact h1 i j h
      · split at h
        · exact h2 i j h
        · split at h
          · exact hR h
          · split at h
            · obtain ⟨m, a, b⟩ := h
              have a := hR a
              have b := h3 _ _ b
              exact ⟨by omega, fun h => b.2 (a.2 h)⟩
            · split at h
              · rcases h with rfl | h
                · exact ⟨Nat.le_refl _, fun h => h⟩
                · exact h3 i j h
              · subst h; exact ⟨Nat.le_refl _, fun h => h⟩
  · refine ⟨fun i j h => ?_, fun i j h => ?_, fun i j h => ?_⟩
    · simp only [mts] at h; subst h; exact ⟨Nat.le_refl _, fun h => h⟩
    · simp only [mta] at h
    · simp only [mt1] at h
  · intro e es he ⟨h1, h2, h3⟩
    refine ⟨fun i j h => ?_, fun i j h => ?_, fun i j h => ?_⟩
    · simp only [mts] at h
      obtain ⟨m, a, b⟩ := h
      have a := he _ _ a
      have b := h1 _ _ b
      exact ⟨by omega, fun h => b.2 (a.2 h)⟩
    · simp only [mta] at h
      rcases h with h | h
      · exact he _ _ h
      · exact h2 _ _ h
    · simp only [mt1] at h
      exact he _ _ h
/-- a set's image. -/
def Img (M : Nat → Nat → Prop) (s R : Nat) : Prop := ∀ j, R.testBit j = true ↔ ∃ i, s.testBit i = true ∧ M i j
theorem Img.or {M N : Nat → Nat → Prop} {s R S : Nat} (h : Img M s R) (k : Img N s S) : Img (fun i j => M i j ∨ N i j) s (R ||| S) := fun j => by
  rw [Nat.testBit_or, Bool.or_eq_true, h j, k j]
  constructor
  · rintro (⟨i, a, b⟩ | ⟨i, a, b⟩)
    · exact ⟨i, a, Or.inl b⟩
    · exact ⟨i, a, Or.inr b⟩
  · rintro ⟨i, a, b | b⟩
    · exact Or.inl ⟨i, a, b⟩
    · exact Or.inr ⟨i, a, b⟩
theorem Img.comp {M N : Nat → Nat → Prop} {s R S : Nat} (h : Img M s R) (k : Img N R S) : Img (fun i j => ∃ m, M i m ∧ N m j) s S := fun j => by
  rw [k j]
  constructor
  · rintro ⟨m, a, b⟩
    obtain ⟨i, c, d⟩ := (h m).1 a
    exact ⟨i, c, m, d, b⟩
  · rintro ⟨i, c, m, d, b⟩
    exact ⟨m, (h m).2 ⟨i, c, d⟩, b⟩
theorem Img.id (s : Nat) : Img (fun i j => i = j) s s := fun j => ⟨fun h => ⟨j, h, rfl⟩, fun ⟨i, h, e⟩ => by subst e; exact h⟩
theorem Img.none (s : Nat) : Img (fun _ _ => False) s 0 := fun j => ⟨fun h => by simp at h, fun ⟨_, _, h⟩ => h.elim⟩
theorem Img.congr {M N : Nat → Nat → Prop} {s R : Nat} (h : Img M s R) (e : ∀ i j, M i j ↔ N i j) : Img N s R := fun j => by
  rw [h j]
  exact ⟨fun ⟨i, a, b⟩ => ⟨i, a, (e i j).1 b⟩, fun ⟨i, a, b⟩ => ⟨i, a, (e i j).2 b⟩⟩
/-- where the search for more ends. -/
structure Clo (M : Nat → Nat → Prop) (s out next : Nat) : Prop where
  f1 : ∀ i j, s.testBit i = true → M i j → (out ||| next).testBit j = true
  f2 : ∀ i j, out.testBit i = true → M i j → (out ||| next).testBit j = true
  so : ∀ j, (out ||| next).testBit j = true → ∃ i, s.testBit i = true ∧ Rt M i j
theorem Clo.star0 {M : Nat → Nat → Prop} {s next : Nat} (h : Img M s next) : Clo M s s next := by
  refine ⟨fun i j a b => ?_, fun i j a b => ?_, fun j hj => ?_⟩
  · rw [Nat.testBit_or, (h j).2 ⟨i, a, b⟩, Bool.or_true]
  · rw [Nat.testBit_or, (h j).2 ⟨i, a, b⟩, Bool.or_true]
  · rw [Nat.testBit_or, Bool.or_eq_true] at hj
    rcases hj with hj | hj
    · exact ⟨j, hj, .refl j⟩
    · obtain ⟨i, a, b⟩ := (h j).1 hj
      exact ⟨i, a, .step (.refl i) b⟩
theorem Clo.plus0 {M : Nat → Nat → Prop} {s next : Nat} (h : Img M s next) : Clo M s 0 next := by
  refine ⟨fun i j a b => ?_, fun i j a b => by simp at a, fun j hj => ?_⟩
  · rw [Nat.zero_or]; exact (h j).2 ⟨i, a, b⟩
  · rw [Nat.zero_or] at hj
    obtain ⟨i, a, b⟩ := (h j).1 hj
    exact ⟨i, a, .step (.refl i) b⟩
theorem Clo.more {M : Nat → Nat → Prop} {s out next nx2 : Nat} (h : Clo M s out next) (k : Img M (out ||| next) nx2) : Clo M s (out ||| next) nx2 := by
  refine ⟨fun i j a b => ?_, fun i j a b => ?_, fun j hj => ?_⟩
  · rw [Nat.testBit_or, h.f1 i j a b, Bool.true_or]
  · rw [Nat.testBit_or, (k j).2 ⟨i, a, b⟩, Bool.or_true]
  · rw [Nat.testBit_or, Bool.or_eq_true] at hj
    rcases hj with hj | hj
    · exact h.so j hj
    · obtain ⟨m, a, b⟩ := (k j).1 hj
      obtain ⟨i, c, d⟩ := h.so m a
      exact ⟨i, c, .step d b⟩
theorem Clo.sub {M : Nat → Nat → Prop} {s out next : Nat} (h : Clo M s out next) (hn : ∀ j, next.testBit j = true → out.testBit j = true) : (∀ j, (out ||| next).testBit j = out.testBit j) := fun j => by
  rw [Nat.testBit_or]
  cases h1 : next.testBit j
  · simp
  · rw [hn j h1]; rfl
theorem Clo.star {M : Nat → Nat → Prop} {s out next : Nat} (h : Clo M s out next) (hs : ∀ j, s.testBit j = true → out.testBit j = true) (hn : ∀ j, next.testBit j = true → out.testBit j = true) : Img (Rt M) s out := fun j => by
  have he := h.sub hn
  refine ⟨fun hj => h.so j (by rw [he]; exact hj), fun hx => ?_⟩
  obtain ⟨i, a, b⟩ := hx
  have key : ∀ {j}, Rt M i j → out.testBit j = true := fun {j} hb => by
    induction hb with
    | refl => exact hs _ a
    | step _ hr ih => have := h.f2 _ _ ih hr; rw [he] at this; exact this
  exact key b
theorem Clo.plus {M : Nat → Nat → Prop} {s out next : Nat} (h : Clo M s out next) (hp : ∀ j, out.testBit j = true → ∃ i m, s.testBit i = true ∧ Rt M i m ∧ M m j) (hn : ∀ j, next.testBit j = true → out.testBit j = true) : Img (fun i j => ∃ m, Rt M i m ∧ M m j) s out := fun j => by
  have he := h.sub hn
  refine ⟨fun hj => ?_, fun ⟨i, a, m, b, c⟩ => ?_⟩
  · obtain ⟨i, m, a, b, c⟩ := hp j hj
    exact ⟨i, a, m, b, c⟩
  · have key : ∀ {m}, Rt M i m → ∀ j, M m j → out.testBit j = true := fun {m} hb => by
      induction hb with
      | refl => intro j hc; have := h.f1 _ _ a hc; rw [he] at this; exact this
      | step _ hr ih => intro j hc; have := h.f2 _ _ (ih _ hr) hc; rw [he] at this; exact this
    exact key b j c
/-- one class further. -/
def sh (C : List Int) (set : Int) (s : Nat) : Nat → Nat
  | 0 => 0
  | k + 1 => if s.testBit k = true ∧ hitB C set k = true then sh C set s k ||| 2 ^ (k + 1) else sh C set s k
theorem sh_bit (C : List Int) (set : Int) (s : Nat) : ∀ k j, (sh C set s k).testBit j = true ↔ ∃ i, i < k ∧ s.testBit i = true ∧ j = i + 1 ∧ hit C set i
  | 0, j => ⟨fun h => by simp [sh] at h, fun ⟨i, h, _⟩ => absurd h (Nat.not_lt_zero i)⟩
  | k + 1, j => by
    have ih := sh_bit C set s k j
    unfold sh
    split
    · rename_i hc
      rw [Nat.testBit_or, Nat.testBit_two_pow, Bool.or_eq_true, ih]
      constructor
      · rintro (⟨i, a, b⟩ | h)
        · exact ⟨i, by omega, b⟩
        · exact ⟨k, by omega, hc.1, (of_decide_eq_true h).symm, hc.2⟩
      · rintro ⟨i, a, b, c, d⟩
        by_cases e : i = k
        · subst e; exact Or.inr (decide_eq_true c.symm)
        · exact Or.inl ⟨i, by omega, b, c, d⟩
    · rename_i hc
      rw [ih]
      constructor
      · rintro ⟨i, a, b⟩
        exact ⟨i, by omega, b⟩
      · rintro ⟨i, a, b, c, d⟩
        by_cases e : i = k
        · subst e; exact (hc ⟨b, d⟩).elim
        · exact ⟨i, by omega, b, c, d⟩
theorem sh_yes {C : List Int} {set : Int} {s k : Nat} (h : s.testBit k = true ∧ hit C set k) : sh C set s (k + 1) = sh C set s k ||| 2 ^ (k + 1) := by
  have h' : s.testBit k = true ∧ hitB C set k = true := h
  simp only [sh]
  exact if_pos h'
theorem sh_no {C : List Int} {set : Int} {s k : Nat} (h : ¬ (s.testBit k = true ∧ hit C set k)) : sh C set s (k + 1) = sh C set s k := by
  have h' : ¬ (s.testBit k = true ∧ hitB C set k = true) := h
  simp only [sh]
  exact if_neg h'
theorem sh_img (C : List Int) (set : Int) (s : Nat) (hs : s < 2 ^ (C.length + 1)) : Img (fun i j => j = i + 1 ∧ hit C set i) s (sh C set s C.length) := fun j => by
  rw [sh_bit]
  constructor
  · rintro ⟨i, _, b, c, d⟩
    exact ⟨i, b, c, d⟩
  · rintro ⟨i, b, c, d⟩
    obtain ⟨x, hx, _⟩ := (hit_iff _ _ _).1 d
    exact ⟨i, (List.getElem?_eq_some_iff.1 hx).1, b, c, d⟩
theorem img_lt {M : Nat → Nat → Prop} {s R n : Nat} (h : Img M s R) (hs : s < 2 ^ n) (hM : ∀ i j, M i j → i < n → j < n) : R < 2 ^ n := by
  refine Nat.lt_pow_two_of_testBit _ (fun j hj => ?_)
  cases hb : R.testBit j with
  | false => rfl
  | true =>
    obtain ⟨i, a, b⟩ := (h j).1 hb
    have hi : i < n := Classical.byContradiction fun hn => by
      rw [Nat.testBit_lt_two_pow (Nat.lt_of_lt_of_le hs (Nat.pow_le_pow_right (by decide) (by omega)))] at a
      cases a
    have := hM i j b hi
    omega
end Au
end Go.Proofs.Ytfbcijnacbfjpaa
namespace Go.Proofs.Ytfbcijnacbfjpaa
set_option linter.unusedVariables false
set_option linter.unusedSimpArgs false
namespace Au
open Rl (Ex)
mutual
/-- an expression the other way round. -/
def turn : Ex → Ex
  | .mk op set kids => .mk op set (if op = 2 then (turns kids).reverse else turns kids)
def turns : List Ex → List Ex
  | [] => []
  | e :: es => turn e :: turns es
end
theorem turns_map : ∀ es : List Ex, turns es = es.map turn
  | [] => by simp [turns]
  | e :: es => by simp [turns, turns_map es]
theorem turns_len (es : List Ex) : (turns es).length = es.length := by rw [turns_map, List.length_map]
theorem turns_rev (es : List Ex) : turns es.reverse = (turns es).reverse := by rw [turns_map, turns_map, List.map_reverse]
theorem turn_turn : ∀ e : Ex, turn (turn e) = e := by
  intro e
  apply Ex.rec (motive_1 := fun e => turn (turn e) = e) (motive_2 := fun es => turns (turns es) = es)
  · intro op set kids ih
    by_cases h : op = 2
    · simp only [turn, if_pos h]
      rw [turns_rev, ih, List.reverse_reverse]
    · simp only [turn, if_neg h]
      rw [ih]
  · simp [turns]
  · intro e es he hs
    simp only [turns]
    rw [he, hs]
theorem mts_snoc (C : List Int) : ∀ (xs : List Ex) (y : Ex) (i m j : Nat), mts C xs i m → mt C y m j → mts C (xs ++ [y]) i j
  | [], y, i, m, j, h, k => by
    simp only [mts] at h
    subst h
    simp only [List.nil_append, mts]
    exact ⟨j, k, rfl⟩
  | x :: xs, y, i, m, j, h, k => by
    simp only [mts] at h
    obtain ⟨n, a, b⟩ := h
    simp only [List.cons_append, mts]
    exact ⟨n, a, mts_snoc C xs y n m j b k⟩
theorem Rt.last {R : Nat → Nat → Prop} {a b c : Nat} (h : R a b) (k : Rt R b c) : ∃ m, Rt R a m ∧ R m c := by
  induction k with
  | refl => exact ⟨a, .refl a, h⟩
  | step k1 hr ih => exact ⟨_, .head h k1, hr⟩
theorem hit_rev (C : List Int) (set : Int) (i : Nat) (h : hit C set i) : i < C.length ∧ hit C.reverse set (C.length - (i + 1)) := by
  obtain ⟨c, hc, h1⟩ := (hit_iff _ _ _).1 h
  have hi := (List.getElem?_eq_some_iff.1 hc).1
  refine ⟨hi, (hit_iff _ _ _).2 ⟨c, ?_, h1⟩⟩
  rw [List.getElem?_reverse (by omega), show C.length - 1 - (C.length - (i + 1)) = i by omega]
  exact hc
theorem mt_turn1 (C : List Int) : ∀ e i j, mt C e i j → i ≤ C.length → mt C.reverse (turn e) (C.length - j) (C.length - i) := by
  intro e
  apply Ex.rec (motive_1 := fun e => ∀ i j, mt C e i j → i ≤ C.length → mt C.reverse (turn e) (C.length - j) (C.length - i))
    (motive_2 := fun es => (∀ i j, mts C es i j → i ≤ C.length → mts C.reverse (turns es).reverse (C.length - j) (C.length - i)) ∧ (∀ i j, mta C es i j → i ≤ C.length → mta C.reverse (turns es) (C.length - j) (C.length - i)) ∧ (∀ i j, mt1 C es i j → i ≤ C.length → j ≤ C.length ∧ mt1 C.reverse (turns es) (C.length - j) (C.length - i)))
  · intro op set kids ⟨h1, h2, h3⟩ i j h hi
    have hR : ∀ {a b}, Rt (mt1 C kids) a b → a ≤ C.length → b ≤ C.length ∧ Rt (mt1 C.reverse (turns kids)) (C.length - b) (C.length - a) := fun {a b} hr => by
      induction hr with
      | refl => exact fun ha => ⟨ha, .refl _⟩
      | step _ hr ih =>
        intro ha
        obtain ⟨b1, b2⟩ := ih ha
        obtain ⟨c1, c2⟩ := h3 _ _ hr b1
        exact ⟨c1, .head c2 b2⟩
    unfold turn
    by_cases o1 : op = 1
    · simp only [mt, if_pos o1] at h ⊢
      obtain ⟨rfl, h⟩ := h
      obtain ⟨k1, k2⟩ := hit_rev C set i h
      exact ⟨by omega, k2⟩
    by_cases o2 : op = 2
    · simp only [mt, if_neg o1, if_pos o2] at h ⊢
      exact h1 i j h hi
    by_cases o3 : op = 3
    · simp only [mt, if_neg o1, if_neg o2, if_pos o3] at h ⊢
      exact h2 i j h hi
    by_cases o4 : op = 4
    · simp only [mt, if_neg o1, if_neg o2, if_neg o3, if_pos o4] at h ⊢
      exact (hR h hi).2
    by_cases o5 : op = 5
    · simp only [mt, if_neg o1, if_neg o2, if_neg o3, if_neg o4, if_pos o5] at h ⊢
      obtain ⟨m, a, b⟩ := h
      obtain ⟨a1, a2⟩ := hR a hi
      exact Rt.last (h3 _ _ b a1).2 a2
    by_cases o6 : op = 6
    · simp only [mt, if_neg o1, if_neg o2, if_neg o3, if_neg o4, if_neg o5, if_pos o6] at h ⊢
      rcases h with rfl | h
      · exact Or.inl rfl
      · exact Or.inr (h3 i j h hi).2
    · simp only [mt, if_neg o1, if_neg o2, if_neg o3, if_neg o4, if_neg o5, if_neg o6] at h ⊢
      subst h
      rfl
  · refine ⟨fun i j h hi => ?_, fun i j h hi => ?_, fun i j h hi => ?_⟩
    · simp only [mts] at h
      subst h
      simp [turns, mts]
    · simp only [mta] at h
    · simp only [mt1] at h
  · intro e es he ⟨h1, h2, h3⟩
    refine ⟨fun i j h hi => ?_, fun i j h hi => ?_, fun i j h hi => ?_⟩
    · simp only [mts] at h
      obtain ⟨m, a, b⟩ := h
      have hm := (mt_le C e i m a).2 hi
      simp only [turns, List.reverse_cons]
      exact mts_snoc _ _ _ _ _ _ (h1 m j b hm) (he i m a hi)
    · simp only [mta] at h
      simp only [turns, mta]
      rcases h with h | h
      · exact Or.inl (he i j h hi)
      · exact Or.inr (h2 i j h hi)
    · simp only [mt1] at h
      simp only [turns, mt1]
      exact ⟨(mt_le C e i j h).2 hi, he i j h hi⟩
/-- a turned expression says just the turned rows. -/
theorem mt_turn (C : List Int) (e : Ex) : mt C e 0 C.length ↔ mt C.reverse (turn e) 0 C.reverse.length := by
  constructor
  · intro h
    have := mt_turn1 C e 0 C.length h (Nat.zero_le _)
    rw [Nat.sub_self, Nat.sub_zero] at this
    rw [List.length_reverse]
    exact this
  · intro h
    have := mt_turn1 C.reverse (turn e) 0 C.reverse.length h (Nat.zero_le _)
    rw [Nat.sub_self, Nat.sub_zero, List.reverse_reverse, turn_turn, List.length_reverse] at this
    exact this
end Au
end Go.Proofs.Ytfbcijnacbfjpaa
