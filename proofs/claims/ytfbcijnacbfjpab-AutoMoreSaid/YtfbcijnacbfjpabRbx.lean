/-
  Sets of places as rows of bools and as texts; no program in it.
-/
import Derived.Test.YtfbcijnacbfjpabMathx
import Derived.Laws.MakeOwn
namespace Go.Proofs.Ytfbcijnacbfjpab
open Go.RowKit
set_option linter.unusedVariables false
set_option linter.unusedSimpArgs false
/-- a set as n bools. -/
def bA (n s : Nat) : Array Value := Array.ofFn (n := n) fun j => .bool (s.testBit j.val)
theorem bA_size (n s : Nat) : (bA n s).size = n := by simp [bA]
theorem bA_at (n s j : Nat) (h : j < n) : (bA n s)[j]? = some (.bool (s.testBit j)) := by
  rw [Array.getElem?_eq_getElem (by rw [bA_size]; exact h)]
  simp [bA]
theorem bA_none (n s j : Nat) (h : n ≤ j) : (bA n s)[j]? = none := Array.getElem?_eq_none (by rw [bA_size]; exact h)
theorem bA_ext {n s t : Nat} (h : ∀ j, j < n → s.testBit j = t.testBit j) : bA n s = bA n t := by
  apply Array.ext_getElem?
  intro j
  by_cases hj : j < n
  · rw [bA_at _ _ _ hj, bA_at _ _ _ hj, h j hj]
  · rw [bA_none _ _ _ (by omega), bA_none _ _ _ (by omega)]
theorem bA_setb {n s s' i : Nat} (b : Bool) (h : ∀ j, j < n → j ≠ i → s.testBit j = s'.testBit j) (hb : i < n → s'.testBit i = b) : (bA n s).setIfInBounds i (.bool b) = bA n s' := by
  apply Array.ext_getElem?
  intro j
  rw [Array.getElem?_setIfInBounds, bA_size]
  by_cases hj : j < n
  · rw [bA_at _ _ _ hj, bA_at _ _ _ hj]
    by_cases e : i = j
    · subst e
      rw [if_pos rfl, if_pos hj, hb hj]
    · rw [if_neg e, h j hj (fun h => e h.symm)]
  · rw [bA_none _ _ _ (by omega), bA_none _ _ _ (by omega)]
    split
    · rw [if_neg (by omega)]
    · rfl
theorem bA_or (n s i : Nat) : (bA n s).setIfInBounds i (.bool true) = bA n (s ||| 2 ^ i) := by
  apply bA_setb
  · intro j hj hn
    rw [Nat.testBit_or, Nat.testBit_two_pow]
    simp [show ¬ i = j from fun h => hn h.symm]
  · intro _
    rw [Nat.testBit_or, Nat.testBit_two_pow]
    simp
theorem low_bit (x i j : Nat) : (x % 2 ^ i).testBit j = (decide (j < i) && x.testBit j) := Nat.testBit_mod_two_pow x i j
theorem bA_low (n x i : Nat) : (bA n (x % 2 ^ i)).setIfInBounds i (.bool (x.testBit i)) = bA n (x % 2 ^ (i + 1)) := by
  apply bA_setb
  · intro j hj hn
    rw [low_bit, low_bit]
    by_cases h : j < i
    · simp [h, show j < i + 1 by omega]
    · simp [h, show ¬ j < i + 1 by omega]
  · intro _
    rw [low_bit]
    simp
theorem bA_full (n x : Nat) : bA n (x % 2 ^ n) = bA n x := bA_ext fun j hj => by rw [low_bit]; simp [hj]
theorem bA_made (n : Nat) : madeCells #[.bool false] n = bA n 0 := by
  apply Array.ext_getElem?
  intro j
  by_cases hj : j < n
  · rw [bA_at _ _ _ hj]
    unfold madeCells
    rw [Array.getElem?_map, Array.getElem?_range, if_pos hj]
    simp [Nat.mod_one]
  · rw [bA_none _ _ _ (by omega), Array.getElem?_eq_none (by rw [size_madeCells]; omega)]
/-- a set as n bytes. -/
def nb (x : Nat) (j : Nat) : UInt8 := if x.testBit j = true then 1 else 0
def nl (n x : Nat) : List UInt8 := (List.range n).map (nb x)
def nm (n x : Nat) : ByteArray := ⟨(nl n x).toArray⟩
def nA (n x : Nat) : Array Value := Array.ofFn (n := n) fun j => .int .u8 ((nb x j.val).toNat : Int)
theorem nl_len (n x : Nat) : (nl n x).length = n := by simp [nl]
theorem nm_size (n x : Nat) : (nm n x).size = n := by unfold nm ByteArray.size; simp [nl_len]
theorem nl_get (n x j : Nat) (h : j < n) : (nl n x)[j]? = some (nb x j) := by
  unfold nl
  rw [List.getElem?_map, List.getElem?_range h]
  rfl
theorem nm_inj {n s t : Nat} (hs : s < 2 ^ n) (ht : t < 2 ^ n) (h : nm n s = nm n t) : s = t := by
  have h1 : nl n s = nl n t := by
    have := congrArg (fun x : ByteArray => x.data.toList) h
    simpa [nm] using this
  apply Nat.eq_of_testBit_eq
  intro j
  by_cases hj : j < n
  · have h2 : (nl n s)[j]? = (nl n t)[j]? := by rw [h1]
    rw [nl_get _ _ _ hj, nl_get _ _ _ hj] at h2
    injection h2 with h2
    unfold nb at h2
    cases hA : s.testBit j <;> cases hB : t.testBit j <;> simp_all
  · rw [Nat.testBit_lt_two_pow (Nat.lt_of_lt_of_le hs (Nat.pow_le_pow_right (by decide) (by omega))), Nat.testBit_lt_two_pow (Nat.lt_of_lt_of_le ht (Nat.pow_le_pow_right (by decide) (by omega)))]
theorem nA_size (n x : Nat) : (nA n x).size = n := by simp [nA]
theorem nA_at (n x j : Nat) (h : j < n) : (nA n x)[j]? = some (.int .u8 ((nb x j).toNat : Int)) := by
  rw [Array.getElem?_eq_getElem (by rw [nA_size]; exact h)]
  simp [nA]
theorem nA_none (n x j : Nat) (h : n ≤ j) : (nA n x)[j]? = none := Array.getElem?_eq_none (by rw [nA_size]; exact h)
theorem nb_low (x i j : Nat) : nb (x % 2 ^ i) j = if j < i then nb x j else 0 := by
  unfold nb
  rw [low_bit]
  by_cases h : j < i <;> simp [h]
theorem nA_low1 (n x i : Nat) (hb : x.testBit i = true) : (nA n (x % 2 ^ i)).setIfInBounds i (.int .u8 1) = nA n (x % 2 ^ (i + 1)) := by
  apply Array.ext_getElem?
  intro j
  rw [Array.getElem?_setIfInBounds, nA_size]
  by_cases hj : j < n
  · rw [nA_at _ _ _ hj, nA_at _ _ _ hj, nb_low, nb_low]
    by_cases e : i = j
    · subst e
      rw [if_pos rfl, if_pos hj, if_pos (by omega)]
      unfold nb
      rw [if_pos hb]
      rfl
    · rw [if_neg e]
      by_cases h : j < i
      · rw [if_pos h, if_pos (by omega)]
      · rw [if_neg h, if_neg (by omega)]
  · rw [nA_none _ _ _ (by omega), nA_none _ _ _ (by omega)]
    split
    · rw [if_neg (by omega)]
    · rfl
theorem nA_low0 (n x i : Nat) (hb : x.testBit i = false) : nA n (x % 2 ^ i) = nA n (x % 2 ^ (i + 1)) := by
  apply Array.ext_getElem?
  intro j
  by_cases hj : j < n
  · rw [nA_at _ _ _ hj, nA_at _ _ _ hj, nb_low, nb_low]
    by_cases e : i = j
    · subst e
      rw [if_neg (by omega), if_pos (by omega)]
      unfold nb
      rw [if_neg (by rw [hb]; decide)]
    · by_cases h : j < i
      · rw [if_pos h, if_pos (by omega)]
      · rw [if_neg h, if_neg (by omega)]
  · rw [nA_none _ _ _ (by omega), nA_none _ _ _ (by omega)]
theorem nA_full (n x : Nat) : nA n (x % 2 ^ n) = nA n x := by
  apply Array.ext_getElem?
  intro j
  by_cases hj : j < n
  · rw [nA_at _ _ _ hj, nA_at _ _ _ hj, nb_low, if_pos hj]
  · rw [nA_none _ _ _ (by omega), nA_none _ _ _ (by omega)]
theorem nA_made (n : Nat) : madeCells #[.int .u8 0] n = nA n 0 := by
  apply Array.ext_getElem?
  intro j
  by_cases hj : j < n
  · rw [nA_at _ _ _ hj]
    unfold madeCells nb
    rw [Array.getElem?_map, Array.getElem?_range, if_pos hj]
    simp [Nat.mod_one]
  · rw [nA_none _ _ _ (by omega), Array.getElem?_eq_none (by rw [size_madeCells]; omega)]
/-- a row of bools in a block of its own. -/
def Bk (w : World) (b n s : Nat) : Prop := w.heap[b]? = some (.cells (bA n s) 4 (0, 0))
theorem Bk.lt {w : World} {b n s : Nat} (h : Bk w b n s) : b < w.heap.size := (Array.getElem?_eq_some_iff.1 h).1
theorem Bk.cell {w : World} {b n s : Nat} (h : Bk w b n s) (j : Nat) (hj : j < n) : w.cell? ⟨b, j, none⟩ = some (.bool (s.testBit j)) := (cell_of_row _ _ _ _ _ _ h).trans (bA_at _ _ _ hj)
theorem Bk.fz {w : World} {b n s : Nat} (h : Bk w b n s) (j : Nat) : w.frozen? ⟨b, j, none⟩ = false := by simp [World.frozen?, show w.heap[b]? = _ from h]
theorem Bk.only {w w' : World} {b n s : Nat} {P : Nat → Prop} (h : Bk w b n s) (ho : Only P w w') (hn : ¬ P b) : Bk w' b n s := (ho.block b h.lt hn).trans h
theorem Bk.keep {w w' : World} {b n s : Nat} (h : Bk w b n s) (ho : Only (fun _ => False) w w') : Bk w' b n s := h.only ho (fun h => h)
theorem Bk.setb {w : World} {b n s s' i : Nat} (h : Bk w b n s) (v : Bool) (e : (bA n s).setIfInBounds i (.bool v) = bA n s') : Bk (w.setCell ⟨b, i, none⟩ (.bool v)) b n s' := by
  have := heap_setCell_at (k := i) h (.bool v)
  rw [e] at this
  exact this
theorem Bk.other {w : World} {b n s : Nat} (h : Bk w b n s) {p : Addr} (hp : p.block ≠ b) (v : Value) : Bk (w.setCell p v) b n s := (Below.heap_setCell _ _ _ _ (fun e => hp e.symm)).trans h
/-- bools that can be read. -/
def Bn (w : World) (b n s : Nat) : Prop := b < w.heap.size ∧ ∀ j, j < n → w.cell? ⟨b, j, none⟩ = some (.bool (s.testBit j))
theorem Bk.bn {w : World} {b n s : Nat} (h : Bk w b n s) : Bn w b n s := ⟨h.lt, fun j hj => h.cell j hj⟩
theorem Bn.only {w w' : World} {b n s : Nat} {P : Nat → Prop} (h : Bn w b n s) (ho : Only P w w') (hn : ¬ P b) : Bn w' b n s := ⟨Nat.lt_of_lt_of_le h.1 ho.size, fun j hj => (World.cell?_of_block (a := ⟨b, j, none⟩) (ho.block b h.1 hn)).trans (h.2 j hj)⟩
theorem Bn.keep {w w' : World} {b n s : Nat} (h : Bn w b n s) (ho : Only (fun _ => False) w w') : Bn w' b n s := h.only ho (fun h => h)
end Go.Proofs.Ytfbcijnacbfjpab
namespace Go.Proofs.Ytfbcijnacbfjpab
set_option linter.unusedVariables false
set_option linter.unusedSimpArgs false
namespace Au
open Rl (Ex)
/-- any number of steps. -/
inductive Rt (R : Nat → Nat → Prop) : Nat → Nat → Prop
  | refl (i : Nat) : Rt R i i
  | step {i m j : Nat} : Rt R i m → R m j → Rt R i j
theorem Rt.trans {R : Nat → Nat → Prop} {i m j : Nat} (h : Rt R i m) (k : Rt R m j) : Rt R i j := by
  induction k with
  | refl => exact h
  | step _ hr ih => exact .step ih hr
theorem Rt.head {R : Nat → Nat → Prop} {i m j : Nat} (h : R i m) (k : Rt R m j) : Rt R i j := (Rt.step (.refl i) h).trans k
/-- the class behind a boundary is in a set. -/
def hitB (C : List Int) (set : Int) (i : Nat) : Bool := match C[i]? with
  | some c => decide (0 ≤ c ∧ c < 32 ∧ set / 2 ^ c.toNat % 2 = 1)
  | none => false
def hit (C : List Int) (set : Int) (i : Nat) : Prop := hitB C set i = true
theorem hit_iff (C : List Int) (set : Int) (i : Nat) : hit C set i ↔ ∃ c, C[i]? = some c ∧ 0 ≤ c ∧ c < 32 ∧ set / 2 ^ c.toNat % 2 = 1 := by
  unfold hit hitB
  cases hx : C[i]? with
  | none => simp
  | some c => simp
mutual
/-- from boundary i to boundary j stands a row that the expression says. -/
def mt (C : List Int) : Ex → Nat → Nat → Prop
  | .mk op set kids, i, j =>
    if op = 1 then j = i + 1 ∧ hit C set i
    else if op = 2 then mts C kids i j
    else if op = 3 then mta C kids i j
    else if op = 4 then Rt (mt1 C kids) i j
    else if op = 5 then ∃ m, Rt (mt1 C kids) i m ∧ mt1 C kids m j
    else if op = 6 then i = j ∨ mt1 C kids i j
    else i = j
def mts (C : List Int) : List Ex → Nat → Nat → Prop
  | [], i, j => i = j
  | k :: ks, i, j => ∃ m, mt C k i m ∧ mts C ks m j
def mta (C : List Int) : List Ex → Nat → Nat → Prop
  | [], _, _ => False
  | k :: ks, i, j => mt C k i j ∨ mta C ks i j
def mt1 (C : List Int) : List Ex → Nat → Nat → Prop
  | [], _, _ => False
  | k :: _, i, j => mt C k i j
end
theorem mt_le (C : List Int) : ∀ e i j, mt C e i j → i ≤ j ∧ (i ≤ C.length → j ≤ C.length) := by
  intro e
  apply Ex.rec (motive_1 := fun e => ∀ i j, mt C e i j → i ≤ j ∧ (i ≤ C.length → j ≤ C.length))
    (motive_2 := fun es => (∀ i j, mts C es i j → i ≤ j ∧ (i ≤ C.length → j ≤ C.length)) ∧ (∀ i j, mta C es i j → i ≤ j ∧ (i ≤ C.length → j ≤ C.length)) ∧ (∀ i j, mt1 C es i j → i ≤ j ∧ (i ≤ C.length → j ≤ C.length)))
  · intro op set kids ⟨h1, h2, h3⟩ i j h
    have hR : ∀ {a b}, Rt (mt1 C kids) a b → a ≤ b ∧ (a ≤ C.length → b ≤ C.length) := fun {a b} hr => by
      induction hr with
      | refl => exact ⟨Nat.le_refl _, fun h => h⟩
      | step _ hr ih => have := h3 _ _ hr; exact ⟨by omega, fun h => this.2 (ih.2 h)⟩
    unfold mt at h
    split at h
    · obtain ⟨rfl, h⟩ := h
      obtain ⟨c, hc, _⟩ := (hit_iff _ _ _).1 h
      have := (List.getElem?_eq_some_iff.1 hc).1
      omega
    · split at h
      · exact h1 i j h
      · split at h
        · exact h2 i j h
        · split at h
          · exact hR h
          · split at h
            · obtain ⟨m, a, b⟩ := h
              have a := hR a
              have b := h3 _ _ b
              exact ⟨by omega, fun h => b.2 (a.2 h)⟩
            · split at h
              · rcases h with rfl | h
                · exact ⟨Nat.le_refl _, fun h => h⟩
                · exact h3 i j h
              · subst h; exact ⟨Nat.le_refl _, fun h => h⟩
  · refine ⟨fun i j h => ?_, fun i j h => ?_, fun i j h => ?_⟩
    · simp only [mts] at h; subst h; exact ⟨Nat.le_refl _, fun h => h⟩
    · simp only [mta] at h
    · simp only [mt1] at h
  · intro e es he ⟨h1, h2, h3⟩
    refine ⟨fun i j h => ?_, fun i j h => ?_, fun i j h => ?_⟩
    · simp only [mts] at h
      obtain ⟨m, a, b⟩ := h
      have a := he _ _ a
      have b := h1 _ _ b
      exact ⟨by omega, fun h => b.2 (a.2 h)⟩
    · simp only [mta] at h
      rcases h with h | h
      · exact he _ _ h
      · exact h2 _ _ h
    · simp only [mt1] at h
      exact he _ _ h
/-- a set's image. -/
def Img (M : Nat → Nat → Prop) (s R : Nat) : Prop := ∀ j, R.testBit j = true ↔ ∃ i, s.testBit i = true ∧ M i j
theorem Img.or {M N : Nat → Nat → Prop} {s R S : Nat} (h : Img M s R) (k : Img N s S) : Img (fun i j => M i j ∨ N i j) s (R ||| S) := fun j => by
  rw [Nat.testBit_or, Bool.or_eq_true, h j, k j]
  constructor
  · rintro (⟨i, a, b⟩ | ⟨i, a, b⟩)
    · exact ⟨i, a, Or.inl b⟩
    · exact ⟨i, a, Or.inr b⟩
  · rintro ⟨i, a, b | b⟩
    · exact Or.inl ⟨i, a, b⟩
    · exact Or.inr ⟨i, a, b⟩
theorem Img.comp {M N : Nat → Nat → Prop} {s R S : Nat} (h : Img M s R) (k : Img N R S) : Img (fun i j => ∃ m, M i m ∧ N m j) s S := fun j => by
  rw [k j]
  constructor
  · rintro ⟨m, a, b⟩
    obtain ⟨i, c, d⟩ := (h m).1 a
    exact ⟨i, c, m, d, b⟩
  · rintro ⟨i, c, m, d, b⟩
    exact ⟨m, (h m).2 ⟨i, c, d⟩, b⟩
theorem Img.id (s : Nat) : Img (fun i j => i = j) s s := fun j => ⟨fun h => ⟨j, h, rfl⟩, fun ⟨i, h, e⟩ => by subst e; exact h⟩
theorem Img.none (s : Nat) : Img (fun _ _ => False) s 0 := fun j => ⟨fun h => by simp at h, fun ⟨_, _, h⟩ => h.elim⟩
theorem Img.congr {M N : Nat → Nat → Prop} {s R : Nat} (h : Img M s R) (e : ∀ i j, M i j ↔ N i j) : Img N s R := fun j => by
  rw [h j]
  exact ⟨fun ⟨i, a, b⟩ => ⟨i, a, (e i j).1 b⟩, fun ⟨i, a, b⟩ => ⟨i, a, (e i j).2 b⟩⟩
/-- where the search for more ends. -/
structure Clo (M : Nat → Nat → Prop) (s out next : Nat) : Prop where
  f1 : ∀ i j, s.testBit i = true → M i j → (out ||| next).testBit j = true
  f2 : ∀ i j, out.testBit i = true → M i j → (out ||| next).testBit j = true
  so : ∀ j, (out ||| next).testBit j = true → ∃ i, s.testBit i = true ∧ Rt M i j
theorem Clo.star0 {M : Nat → Nat → Prop} {s next : Nat} (h : Img M s next) : Clo M s s next := by
  refine ⟨fun i j a b => ?_, fun i j a b => ?_, fun j hj => ?_⟩
  · rw [Nat.testBit_or, (h j).2 ⟨i, a, b⟩, Bool.or_true]
  · rw [Nat.testBit_or, (h j).2 ⟨i, a, b⟩, Bool.or_true]
  · rw [Nat.testBit_or, Bool.or_eq_true] at hj
    rcases hj with hj | hj
    · exact ⟨j, hj, .refl j⟩
    · obtain ⟨i, a, b⟩ := (h j).1 hj
      exact ⟨i, a, .step (.refl i) b⟩
theorem Clo.plus0 {M : Nat → Nat → Prop} {s next : Nat} (h : Img M s next) : Clo M s 0 next := by
  refine ⟨fun i j a b => ?_, fun i j a b => by simp at a, fun j hj => ?_⟩
  · rw [Nat.zero_or]; exact (h j).2 ⟨i, a, b⟩
  · rw [Nat.zero_or] at hj
    obtain ⟨i, a, b⟩ := (h j).1 hj
    exact ⟨i, a, .step (.refl i) b⟩
theorem Clo.more {M : Nat → Nat → Prop} {s out next nx2 : Nat} (h : Clo M s out next) (k : Img M (out ||| next) nx2) : Clo M s (out ||| next) nx2 := by
  refine ⟨fun i j a b => ?_, fun i j a b => ?_, fun j hj => ?_⟩
  · rw [Nat.testBit_or, h.f1 i j a b, Bool.true_or]
  · rw [Nat.testBit_or, (k j).2 ⟨i, a, b⟩, Bool.or_true]
  · rw [Nat.testBit_or, Bool.or_eq_true] at hj
    rcases hj with hj | hj
    · exact h.so j hj
    · obtain ⟨m, a, b⟩ := (k j).1 hj
      obtain ⟨i, c, d⟩ := h.so m a
      exact ⟨i, c, .step d b⟩
theorem Clo.sub {M : Nat → Nat → Prop} {s out next : Nat} (h : Clo M s out next) (hn : ∀ j, next.testBit j = true → out.testBit j = true) : (∀ j, (out ||| next).testBit j = out.testBit j) := fun j => by
  rw [Nat.testBit_or]
  cases h1 : next.testBit j
  · simp
  · rw [hn j h1]; rfl
theorem Clo.star {M : Nat → Nat → Prop} {s out next : Nat} (h : Clo M s out next) (hs : ∀ j, s.testBit j = true → out.testBit j = true) (hn : ∀ j, next.testBit j = true → out.testBit j = true) : Img (Rt M) s out := fun j => by
  have he := h.sub hn
  refine ⟨fun hj => h.so j (by rw [he]; exact hj), fun hx => ?_⟩
  obtain ⟨i, a, b⟩ := hx
  have key : ∀ {j}, Rt M i j → out.testBit j = true := fun {j} hb => by
    induction hb with
    | refl => exact hs _ a
    | step _ hr ih => have := h.f2 _ _ ih hr; rw [he] at this; exact this
  exact key b
theorem Clo.plus {M : Nat → Nat → Prop} {s out next : Nat} (h : Clo M s out next) (hp : ∀ j, out.testBit j = true → ∃ i m, s.testBit i = true ∧ Rt M i m ∧ M m j) (hn : ∀ j, next.testBit j = true → out.testBit j = true) : Img (fun i j => ∃ m, Rt M i m ∧ M m j) s out := fun j => by
  have he := h.sub hn
  refine ⟨fun hj => ?_, fun ⟨i, a, m, b, c⟩ => ?_⟩
  · obtain ⟨i, m, a, b, c⟩ := hp j hj
    exact ⟨i, a, m, b, c⟩
  · have key : ∀ {m}, Rt M i m → ∀ j, M m j → out.testBit j = true := fun {m} hb => by
      induction hb with
      | refl => intro j hc; have := h.f1 _ _ a hc; rw [he] at this; exact this
      | step _ hr ih => intro j hc; have := h.f2 _ _ (ih _ hr) hc; rw [he] at this; exact this
    exact key b j c
/-- one class further. -/
def sh (C : List Int) (set : Int) (s : Nat) : Nat → Nat
  | 0 => 0
  | k + 1 => if s.testBit k = true ∧ hitB C set k = true then sh C set s k ||| 2 ^ (k + 1) else sh C set s k
theorem sh_bit (C : List Int) (set : Int) (s : Nat) : ∀ k j, (sh C set s k).testBit j = true ↔ ∃ i, i < k ∧ s.testBit i = true ∧ j = i + 1 ∧ hit C set i
  | 0, j => ⟨fun h => by simp [sh] at h, fun ⟨i, h, _⟩ => absurd h (Nat.not_lt_zero i)⟩
  | k + 1, j => by
    have ih := sh_bit C set s k j
    unfold sh
    split
    · rename_i hc
      rw [Nat.testBit_or, Nat.testBit_two_pow, Bool.or_eq_true, ih]
      constructor
      · rintro (⟨i, a, b⟩ | h)
        · exact ⟨i, by omega, b⟩
        · exact ⟨k, by omega, hc.1, (of_decide_eq_true h).symm, hc.2⟩
      · rintro ⟨i, a, b, c, d⟩
        by_cases e : i = k
        · subst e; exact Or.inr (decide_eq_true c.symm)
        · exact Or.inl ⟨i, by omega, b, c, d⟩
    · rename_i hc
      rw [ih]
      constructor
      · rintro ⟨i, a, b⟩
        exact ⟨i, by omega, b⟩
      · rintro ⟨i, a, b, c, d⟩
        by_cases e : i = k
        · subst e; exact (hc ⟨b, d⟩).elim
        · exact ⟨i, by omega, b, c, d⟩
theorem sh_yes {C : List Int} {set : Int} {s k : Nat} (h : s.testBit k = true ∧ hit C set k) : sh C set s (k + 1) = sh C set s k ||| 2 ^ (k + 1) := by
  have h' : s.testBit k = true ∧ hitB C set k = true := h
  simp only [sh]
  exact if_pos h'
theorem sh_no {C : List Int} {set : Int} {s k : Nat} (h : ¬ (s.testBit k = true ∧ hit C set k)) : sh C set s (k + 1) = sh C set s k := by
  have h' : ¬ (s.testBit k = true ∧ hitB C set k = true) := h
  simp only [sh]
  exact if_neg h'
theorem sh_img (C : List Int) (set : Int) (s : Nat) (hs : s < 2 ^ (C.length + 1)) : Img (fun i j => j = i + 1 ∧ hit C set i) s (sh C set s C.length) := fun j => by
  rw [sh_bit]
  constructor
  · rintro ⟨i, _, b, c, d⟩
    exact ⟨i, b, c, d⟩
  · rintro ⟨i, b, c, d⟩
    obtain ⟨x, hx, _⟩ := (hit_iff _ _ _).1 d
    exact ⟨i, (List.getElem?_eq_some_iff.1 hx).1, b, c, d⟩
theorem img_lt {M : Nat → Nat → Prop} {s R n : Nat} (h : Img M s R) (hs : s < 2 ^ n) (hM : ∀ i j, M i j → i < n → j < n) : R < 2 ^ n := by
  refine Nat.lt_pow_two_of_testBit _ (fun j hj => ?_)
  cases hb : R.testBit j with
  | false => rfl
  | true =>
    obtain ⟨i, a, b⟩ := (h j).1 hb
    have hi : i < n := Classical.byContradiction fun hn => by
      rw [Nat.testBit_lt_two_pow (Nat.lt_of_lt_of_le hs (Nat.pow_le_pow_right (by decide) (by omega)))] at a
      cases a
    have := hM i j b hi
    omega
end Au
end Go.Proofs.Ytfbcijnacbfjpab
namespace Go.Proofs.Ytfbcijnacbfjpab
set_option linter.unusedVariables false
set_option linter.unusedSimpArgs false
namespace Au
open Rl (Ex)
def st (p : Pl) (q : Nat) : Int := p.sets[q]?.getD 0
/-- a way through places, from a place on, from a boundary on, to a place and a boundary. -/
inductive Pw (C : List Int) (p : Pl) (q i : Nat) : Nat → Nat → Prop
  | one : hit C (st p q) i → Pw C p q i q (i + 1)
  | step {r j r' : Nat} : Pw C p q i r j → (p.next r).testBit r' = true → hit C (st p r') j → Pw C p q i r' (j + 1)
theorem Pw.append {C : List Int} {p : Pl} {q i r j f r' j' : Nat} (h : Pw C p q i r j) (hn : (p.next r).testBit f = true) (k : Pw C p f j r' j') : Pw C p q i r' j' := by
  induction k with
  | one hh => exact .step h hn hh
  | step _ hn' hh ih => exact .step ih hn' hh
theorem Pw.lt {C : List Int} {p : Pl} {q i r j : Nat} (h : Pw C p q i r j) : i < j := by
  induction h with
  | one _ => omega
  | step _ _ _ ih => omega
/-- what first, last and next places say. -/
def Lg (C : List Int) (p : Pl) (x : Nd) (i j : Nat) : Prop := (x.none = true ∧ i = j) ∨ ∃ q r, x.first.testBit q = true ∧ x.last.testBit r = true ∧ Pw C p q i r j
theorem Pw.to {C : List Int} {p p' : Pl} {a b q i r j : Nat} (hq : a ≤ q ∧ q < b) (cl : ∀ q r, a ≤ q → q < b → (p.next q).testBit r = true → a ≤ r ∧ r < b) (hs : ∀ q, a ≤ q → q < b → st p q = st p' q)
    (hn : ∀ q r, a ≤ q → q < b → (p.next q).testBit r = true → (p'.next q).testBit r = true) (h : Pw C p q i r j) : Pw C p' q i r j ∧ a ≤ r ∧ r < b := by
  induction h with
  | one hh => exact ⟨.one (by rw [← hs _ hq.1 hq.2]; exact hh), hq⟩
  | step _ h1 h2 ih =>
    obtain ⟨a1, a2, a3⟩ := ih
    have := cl _ _ a2 a3 h1
    exact ⟨.step a1 (hn _ _ a2 a3 h1) (by rw [← hs _ this.1 this.2]; exact h2), this⟩
structure Gd (C : List Int) (M : Nat → Nat → Prop) (a : Nat) (p : Pl) (x : Nd) : Prop where
  fi : ∀ q, x.first.testBit q = true → a ≤ q ∧ q < p.sets.length
  la : ∀ q, x.last.testBit q = true → a ≤ q ∧ q < p.sets.length
  cl : ∀ q r, a ≤ q → (p.next q).testBit r = true → a ≤ r ∧ r < p.sets.length
  lg : ∀ i j, M i j ↔ Lg C p x i j
structure Xt (a : Nat) (p p1 : Pl) : Prop where
  pre : ∃ S, p1.sets = p.sets ++ S
  nx : ∀ q, q < a → p1.next q = p.next q
theorem Xt.len {a : Nat} {p p1 : Pl} (h : Xt a p p1) : p.sets.length ≤ p1.sets.length := by
  obtain ⟨S, h⟩ := h.pre
  rw [h, List.length_append]; omega
theorem Xt.st {a : Nat} {p p1 : Pl} (h : Xt a p p1) {q : Nat} (hq : q < p.sets.length) : st p q = st p1 q := by
  obtain ⟨S, h⟩ := h.pre
  unfold Au.st
  rw [h, List.getElem?_append_left hq]
theorem Xt.refl (a : Nat) (p : Pl) : Xt a p p := ⟨⟨[], by simp⟩, fun _ _ => rfl⟩
theorem Xt.trans {a b : Nat} {p p1 p2 : Pl} (h : Xt a p p1) (k : Xt b p1 p2) (hab : a ≤ b) : Xt a p p2 := by
  obtain ⟨S, h1⟩ := h.pre
  obtain ⟨T, k1⟩ := k.pre
  exact ⟨⟨S ++ T, by rw [k1, h1, List.append_assoc]⟩, fun q hq => (k.nx q (by omega)).trans (h.nx q hq)⟩
/-- what was known stays known where more places come. -/
theorem Gd.xt {C : List Int} {M : Nat → Nat → Prop} {a : Nat} {p p1 : Pl} {x : Nd} (h : Gd C M a p x) (k : Xt p.sets.length p p1) (hz : ∀ q, p.sets.length ≤ q → p.next q = 0) :
    (∀ i j, M i j ↔ Lg C p1 x i j) ∧ (∀ q r, a ≤ q → q < p.sets.length → (p1.next q).testBit r = true → a ≤ r ∧ r < p.sets.length) := by
  have c1 : ∀ q r, a ≤ q → q < p.sets.length → (p1.next q).testBit r = true → a ≤ r ∧ r < p.sets.length := fun q r h1 h2 h3 => h.cl q r h1 (by rw [k.nx q h2] at h3; exact h3)
  refine ⟨fun i j => ?_, c1⟩
  rw [h.lg]
  constructor
  · rintro (h1 | ⟨q, r, h1, h2, h3⟩)
    · exact Or.inl h1
    · exact Or.inr ⟨q, r, h1, h2, (Pw.to (h.fi q h1) (fun q r a1 _ a3 => h.cl q r a1 a3) (fun q _ hq => k.st hq) (fun q r _ hq hh => by rw [k.nx q hq]; exact hh) h3).1⟩
  · rintro (h1 | ⟨q, r, h1, h2, h3⟩)
    · exact Or.inl h1
    · exact Or.inr ⟨q, r, h1, h2, (Pw.to (h.fi q h1) c1 (fun q _ hq => (k.st hq).symm) (fun q r _ hq hh => by rw [k.nx q hq] at hh; exact hh) h3).1⟩
theorem chain_bit (p : Pl) (b nx q r : Nat) : ((chain p b nx).next q).testBit r = true ↔ (p.next q).testBit r = true ∨ (b.testBit q = true ∧ nx.testBit r = true) := by
  show (if b.testBit q = true then p.next q ||| nx else p.next q).testBit r = true ↔ _
  split
  · rename_i h
    rw [Nat.testBit_or, Bool.or_eq_true]
    simp [h]
  · rename_i h
    simp [h]
theorem chain_st (p : Pl) (b nx q : Nat) : st (chain p b nx) q = st p q := rfl
/-- one behind the other. -/
theorem Gd.seq {C : List Int} {M N : Nat → Nat → Prop} {a : Nat} {p p2 : Pl} {o y : Nd} (ha : a ≤ p.sets.length) (h : Gd C M a p o) (k : Gd C N p.sets.length p2 y) (hx : Xt p.sets.length p p2) (hz : ∀ q, p.sets.length ≤ q → p.next q = 0) :
    Gd C (fun i j => ∃ m, M i m ∧ N m j) a (chain p2 o.last y.first) (seq1 o y) ∧ Xt a p (chain p2 o.last y.first) := by
  have hl := hx.len
  have lo : ∀ q r, q < p.sets.length → ((chain p2 o.last y.first).next q).testBit r = true → (p.next q).testBit r = true ∨ (o.last.testBit q = true ∧ y.first.testBit r = true) := fun q r hq hh => by
    rcases (chain_bit _ _ _ _ _).1 hh with hh | hh
    · rw [hx.nx q hq] at hh; exact Or.inl hh
    · exact Or.inr hh
  have hi : ∀ q r, p.sets.length ≤ q → ((chain p2 o.last y.first).next q).testBit r = true → (p2.next q).testBit r = true := fun q r hq hh => by
    rcases (chain_bit _ _ _ _ _).1 hh with hh | hh
    · exact hh
    · have := h.la q hh.1; omega
  have up2 : ∀ {q i r j}, p.sets.length ≤ q ∧ q < p2.sets.length → Pw C p2 q i r j → Pw C (chain p2 o.last y.first) q i r j := fun hq hw =>
    (Pw.to (p' := chain p2 o.last y.first) hq (fun q r a1 _ a3 => k.cl q r a1 a3) (fun q _ _ => rfl) (fun q r _ _ hh => (chain_bit _ _ _ _ _).2 (Or.inl hh)) hw).1
  have dn2 : ∀ {q i r j}, p.sets.length ≤ q ∧ q < p2.sets.length → Pw C (chain p2 o.last y.first) q i r j → Pw C p2 q i r j ∧ p.sets.length ≤ r ∧ r < p2.sets.length := fun hq hw =>
    Pw.to hq (fun q r a1 _ a3 => k.cl q r a1 (hi q r a1 a3)) (fun q _ _ => rfl) (fun q r a1 _ hh => hi q r a1 hh) hw
  have up1 : ∀ {q i r j}, a ≤ q ∧ q < p.sets.length → Pw C p q i r j → Pw C (chain p2 o.last y.first) q i r j := fun hq hw =>
    (Pw.to (p' := chain p2 o.last y.first) hq (fun q r a1 _ a3 => h.cl q r a1 a3) (fun q _ hq => hx.st hq) (fun q r _ hq hh => (chain_bit _ _ _ _ _).2 (Or.inl (by rw [hx.nx q hq]; exact hh))) hw).1
  have dn1 : ∀ {q i r j}, a ≤ q ∧ q < p.sets.length → Pw C (chain p2 o.last y.first) q i r j →
      (Pw C p q i r j ∧ a ≤ r ∧ r < p.sets.length) ∨ ∃ m t f, Pw C p q i t m ∧ o.last.testBit t = true ∧ y.first.testBit f = true ∧ Pw C p2 f m r j ∧ p.sets.length ≤ r ∧ r < p2.sets.length := fun {q i r j} hq hw => by
    induction hw with
    | one hh => exact Or.inl ⟨.one (by rw [hx.st hq.2]; exact hh), hq⟩
    | @step r j r' _ h1 h2 ih =>
      rcases ih with ⟨w1, b1, b2⟩ | ⟨m, t, f, w1, w2, w3, w4, b1, b2⟩
      · rcases lo r r' b2 h1 with h1 | ⟨h1, h3⟩
        · have := h.cl _ _ b1 h1
          exact Or.inl ⟨.step w1 h1 (by rw [hx.st this.2]; exact h2), this⟩
        · have := k.fi _ h3
          exact Or.inr ⟨j, r, r', w1, h1, h3, .one h2, this⟩
      · have h1 := hi r r' b1 h1
        have := k.cl _ _ b1 h1
        exact Or.inr ⟨m, t, f, w1, w2, w3, .step w4 h1 h2, this⟩
  refine ⟨⟨fun q hq => ?_, fun q hq => ?_, fun q r hq hh => ?_, fun i j => ?_⟩, ?_⟩
  · show a ≤ q ∧ q < p2.sets.length
    have hq : (if o.none = true then o.first ||| y.first else o.first).testBit q = true := hq
    split at hq
    · rw [Nat.testBit_or, Bool.or_eq_true] at hq
      rcases hq with hq | hq
      · have := h.fi q hq; omega
      · have := k.fi q hq; omega
    · have := h.fi q hq; omega
  · show a ≤ q ∧ q < p2.sets.length
    have hq : (if y.none = true then o.last ||| y.last else y.last).testBit q = true := hq
    split at hq
    · rw [Nat.testBit_or, Bool.or_eq_true] at hq
      rcases hq with hq | hq
      · have := h.la q hq; omega
      · have := k.la q hq; omega
    · have := k.la q hq; omega
  · show a ≤ r ∧ r < p2.sets.length
    by_cases hb : q < p.sets.length
    · rcases lo q r hb hh with h1 | h1
      · have := h.cl q r hq h1; omega
      · have := k.fi r h1.2; omega
    · have := k.cl q r (by omega) (hi q r (by omega) hh); omega
  · have F : ∀ q, (seq1 o y).first.testBit q = true ↔ o.first.testBit q = true ∨ (o.none = true ∧ y.first.testBit q = true) := fun q => by
      show (if o.none = true then o.first ||| y.first else o.first).testBit q = true ↔ _
      split
      · rename_i hh; rw [Nat.testBit_or, Bool.or_eq_true]; simp [hh]
      · rename_i hh; simp [hh]
    have L : ∀ q, (seq1 o y).last.testBit q = true ↔ y.last.testBit q = true ∨ (y.none = true ∧ o.last.testBit q = true) := fun q => by
      show (if y.none = true then o.last ||| y.last else y.last).testBit q = true ↔ _
      split
      · rename_i hh; rw [Nat.testBit_or, Bool.or_eq_true]; simp [hh, or_comm]
      · rename_i hh; simp [hh]
    have NN : (seq1 o y).none = true ↔ o.none = true ∧ y.none = true := by
      show (o.none && y.none) = true ↔ _
      rw [Bool.and_eq_true]
    constructor
    · rintro ⟨m, h1, h2⟩
      rcases (h.lg i m).1 h1 with ⟨n1, rfl⟩ | ⟨q, r, f1, l1, w1⟩
      · rcases (k.lg i j).1 h2 with ⟨n2, rfl⟩ | ⟨q, r, f2, l2, w2⟩
        · exact Or.inl ⟨NN.2 ⟨n1, n2⟩, rfl⟩
        · exact Or.inr ⟨q, r, (F q).2 (Or.inr ⟨n1, f2⟩), (L r).2 (Or.inl l2), up2 (k.fi q f2) w2⟩
      · rcases (k.lg m j).1 h2 with ⟨n2, rfl⟩ | ⟨q2, r2, f2, l2, w2⟩
        · exact Or.inr ⟨q, r, (F q).2 (Or.inl f1), (L r).2 (Or.inr ⟨n2, l1⟩), up1 (h.fi q f1) w1⟩
        · exact Or.inr ⟨q, r2, (F q).2 (Or.inl f1), (L r2).2 (Or.inl l2), (up1 (h.fi q f1) w1).append ((chain_bit _ _ _ _ _).2 (Or.inr ⟨l1, f2⟩)) (up2 (k.fi q2 f2) w2)⟩
    · rintro (⟨n, rfl⟩ | ⟨q, r, f, l, w⟩)
      · exact ⟨i, (h.lg i i).2 (Or.inl ⟨(NN.1 n).1, rfl⟩), (k.lg i i).2 (Or.inl ⟨(NN.1 n).2, rfl⟩)⟩
      · rcases (F q).1 f with f | ⟨n1, f⟩
        · rcases dn1 (h.fi q f) w with ⟨w1, b1, b2⟩ | ⟨m, t, g, w1, w2, w3, w4, b1, b2⟩
          · rcases (L r).1 l with l | ⟨n2, l⟩
            · have := k.la r l; omega
            · exact ⟨j, (h.lg i j).2 (Or.inr ⟨q, r, f, l, w1⟩), (k.lg j j).2 (Or.inl ⟨n2, rfl⟩)⟩
          · rcases (L r).1 l with l | ⟨n2, l⟩
            · exact ⟨m, (h.lg i m).2 (Or.inr ⟨q, t, f, w2, w1⟩), (k.lg m j).2 (Or.inr ⟨g, r, w3, l, w4⟩)⟩
            · have := h.la r l; omega
        · obtain ⟨w1, b1, b2⟩ := dn2 (k.fi q f) w
          rcases (L r).1 l with l | ⟨n2, l⟩
          · exact ⟨i, (h.lg i i).2 (Or.inl ⟨n1, rfl⟩), (k.lg i j).2 (Or.inr ⟨q, r, f, l, w1⟩)⟩
          · have := h.la r l; omega
  · obtain ⟨S, hS⟩ := hx.pre
    refine ⟨⟨S, hS⟩, fun q hq => ?_⟩
    show (if o.last.testBit q = true then p2.next q ||| y.first else p2.next q) = p.next q
    rw [if_neg (fun hh => by have := h.la q hh; omega), hx.nx q (by omega)]
/-- one or the other. -/
theorem Gd.alt {C : List Int} {M N : Nat → Nat → Prop} {a : Nat} {p p2 : Pl} {o y : Nd} (ha : a ≤ p.sets.length) (h : Gd C M a p o) (k : Gd C N p.sets.length p2 y) (hx : Xt p.sets.length p p2) (hz : ∀ q, p.sets.length ≤ q → p.next q = 0) :
    Gd C (fun i j => M i j ∨ N i j) a p2 (alt1 o y) := by
  have hl := hx.len
  obtain ⟨h1, h2⟩ := h.xt hx hz
  refine ⟨fun q hq => ?_, fun q hq => ?_, fun q r hq hh => ?_, fun i j => ?_⟩
  · have hq : (o.first ||| y.first).testBit q = true := hq
    rw [Nat.testBit_or, Bool.or_eq_true] at hq
    rcases hq with hq | hq
    · have := h.fi q hq; omega
    · have := k.fi q hq; omega
  · have hq : (o.last ||| y.last).testBit q = true := hq
    rw [Nat.testBit_or, Bool.or_eq_true] at hq
    rcases hq with hq | hq
    · have := h.la q hq; omega
    · have := k.la q hq; omega
  · by_cases hb : q < p.sets.length
    · have := h2 q r hq hb hh; omega
    · have := k.cl q r (by omega) hh; omega
  · rw [h1, k.lg]
    have F : ∀ q, (alt1 o y).first.testBit q = true ↔ o.first.testBit q = true ∨ y.first.testBit q = true := fun q => by
      show (o.first ||| y.first).testBit q = true ↔ _
      rw [Nat.testBit_or, Bool.or_eq_true]
    have L : ∀ q, (alt1 o y).last.testBit q = true ↔ o.last.testBit q = true ∨ y.last.testBit q = true := fun q => by
      show (o.last ||| y.last).testBit q = true ↔ _
      rw [Nat.testBit_or, Bool.or_eq_true]
    have NN : (alt1 o y).none = true ↔ o.none = true ∨ y.none = true := by
      show (o.none || y.none) = true ↔ _
      rw [Bool.or_eq_true]
    constructor
    · rintro ((⟨n, e⟩ | ⟨q, r, f, l, w⟩) | (⟨n, e⟩ | ⟨q, r, f, l, w⟩))
      · exact Or.inl ⟨NN.2 (Or.inl n), e⟩
      · exact Or.inr ⟨q, r, (F q).2 (Or.inl f), (L r).2 (Or.inl l), w⟩
      · exact Or.inl ⟨NN.2 (Or.inr n), e⟩
      · exact Or.inr ⟨q, r, (F q).2 (Or.inr f), (L r).2 (Or.inr l), w⟩
    · rintro (⟨n, e⟩ | ⟨q, r, f, l, w⟩)
      · rcases NN.1 n with n | n
        · exact Or.inl (Or.inl ⟨n, e⟩)
        · exact Or.inr (Or.inl ⟨n, e⟩)
      · rcases (F q).1 f with f | f
        · have hr := (Pw.to (p' := p2) (h.fi q f) h2 (fun _ _ _ => rfl) (fun _ _ _ _ hh => hh) w).2
          rcases (L r).1 l with l | l
          · exact Or.inl (Or.inr ⟨q, r, f, l, w⟩)
          · have := k.la r l; omega
        · have hr := (Pw.to (p' := p2) (k.fi q f) (fun q r a1 _ a3 => k.cl q r a1 a3) (fun _ _ _ => rfl) (fun _ _ _ _ hh => hh) w).2
          rcases (L r).1 l with l | l
          · have := h.la r l; omega
          · exact Or.inr (Or.inr ⟨q, r, f, l, w⟩)
/-- again and again. -/
theorem Gd.plus {C : List Int} {M : Nat → Nat → Prop} {a : Nat} {p : Pl} {x : Nd} (h : Gd C M a p x) : Gd C (fun i j => ∃ m, Rt M i m ∧ M m j) a (chain p x.last x.first) x ∧ Gd C (Rt M) a (chain p x.last x.first) ⟨true, x.first, x.last⟩ := by
  have cl : ∀ q r, a ≤ q → ((chain p x.last x.first).next q).testBit r = true → a ≤ r ∧ r < p.sets.length := fun q r hq hh => by
    rcases (chain_bit _ _ _ _ _).1 hh with hh | hh
    · exact h.cl q r hq hh
    · exact h.fi r hh.2
  have up : ∀ {q i r j}, x.first.testBit q = true → Pw C p q i r j → Pw C (chain p x.last x.first) q i r j := fun hq hw =>
    (Pw.to (p' := chain p x.last x.first) (h.fi _ hq) (fun q r a1 _ a3 => h.cl q r a1 a3) (fun q _ _ => rfl) (fun q r _ _ hh => (chain_bit _ _ _ _ _).2 (Or.inl hh)) hw).1
  have dn : ∀ {q i r j}, x.first.testBit q = true → Pw C (chain p x.last x.first) q i r j → ∃ m f, Rt M i m ∧ x.first.testBit f = true ∧ Pw C p f m r j := fun {q i r j} hq hw => by
    induction hw with
    | one hh => exact ⟨i, q, .refl i, hq, .one hh⟩
    | @step r j r' _ h1 h2 ih =>
      obtain ⟨m, f, w1, w2, w3⟩ := ih
      rcases (chain_bit _ _ _ _ _).1 h1 with h1 | ⟨h1, h3⟩
      · exact ⟨m, f, w1, w2, .step w3 h1 h2⟩
      · exact ⟨j, r', .step w1 ((h.lg m j).2 (Or.inr ⟨f, r, w2, h1, w3⟩)), h3, .one h2⟩
  have all : ∀ {i j}, Rt M i j → i = j ∨ ∃ q r, x.first.testBit q = true ∧ x.last.testBit r = true ∧ Pw C (chain p x.last x.first) q i r j := fun {i j} hr => by
    induction hr with
    | refl => exact Or.inl rfl
    | @step m j _ h1 ih =>
      rcases (h.lg m j).1 h1 with ⟨_, rfl⟩ | ⟨q, r, f, l, w⟩
      · exact ih
      · rcases ih with rfl | ⟨q0, r0, f0, l0, w0⟩
        · exact Or.inr ⟨q, r, f, l, up f w⟩
        · exact Or.inr ⟨q0, r, f0, l, w0.append ((chain_bit _ _ _ _ _).2 (Or.inr ⟨l0, f⟩)) (up f w)⟩
  refine ⟨⟨h.fi, h.la, cl, fun i j => ⟨?_, ?_⟩⟩, ⟨h.fi, h.la, cl, fun i j => ⟨?_, ?_⟩⟩⟩
  · rintro ⟨m, h1, h2⟩
    rcases (h.lg m j).1 h2 with ⟨n, rfl⟩ | ⟨q, r, f, l, w⟩
    · rcases all h1 with rfl | ⟨q, r, f, l, w⟩
      · exact Or.inl ⟨n, rfl⟩
      · exact Or.inr ⟨q, r, f, l, w⟩
    · rcases all h1 with rfl | ⟨q0, r0, f0, l0, w0⟩
      · exact Or.inr ⟨q, r, f, l, up f w⟩
      · exact Or.inr ⟨q0, r, f0, l, w0.append ((chain_bit _ _ _ _ _).2 (Or.inr ⟨l0, f⟩)) (up f w)⟩
  · rintro (⟨n, rfl⟩ | ⟨q, r, f, l, w⟩)
    · exact ⟨i, .refl i, (h.lg i i).2 (Or.inl ⟨n, rfl⟩)⟩
    · obtain ⟨m, g, w1, w2, w3⟩ := dn f w
      exact ⟨m, w1, (h.lg m j).2 (Or.inr ⟨g, r, w2, l, w3⟩)⟩
  · intro hr
    rcases all hr with rfl | ⟨q, r, f, l, w⟩
    · exact Or.inl ⟨rfl, rfl⟩
    · exact Or.inr ⟨q, r, f, l, w⟩
  · rintro (⟨_, rfl⟩ | ⟨q, r, f, l, w⟩)
    · exact .refl i
    · obtain ⟨m, g, w1, w2, w3⟩ := dn f w
      exact .step w1 ((h.lg m j).2 (Or.inr ⟨g, r, w2, l, w3⟩))
theorem Gd.opt {C : List Int} {M : Nat → Nat → Prop} {a : Nat} {p : Pl} {x : Nd} (h : Gd C M a p x) : Gd C (fun i j => i = j ∨ M i j) a p ⟨true, x.first, x.last⟩ := by
  refine ⟨h.fi, h.la, h.cl, fun i j => ?_⟩
  rw [h.lg]
  constructor
  · rintro (rfl | ⟨_, rfl⟩ | hh)
    · exact Or.inl ⟨rfl, rfl⟩
    · exact Or.inl ⟨rfl, rfl⟩
    · exact Or.inr hh
  · rintro (⟨_, rfl⟩ | hh)
    · exact Or.inl rfl
    · exact Or.inr (Or.inr hh)
theorem Gd.congr {C : List Int} {M N : Nat → Nat → Prop} {a : Nat} {p : Pl} {x : Nd} (h : Gd C M a p x) (e : ∀ i j, M i j ↔ N i j) : Gd C N a p x := ⟨h.fi, h.la, h.cl, fun i j => (e i j).symm.trans (h.lg i j)⟩
end Au
end Go.Proofs.Ytfbcijnacbfjpab
namespace Go.Proofs.Ytfbcijnacbfjpab
set_option linter.unusedVariables false
set_option linter.unusedSimpArgs false
namespace Au
open Rl (Ex)
theorem OkP.zero {p : Pl} (h : OkP p) : ∀ q, p.sets.length ≤ q → p.next q = 0 := fun q hq => (h q).2 hq
theorem Gd.empty (C : List Int) {p : Pl} (h : OkP p) : Gd C (fun i j => i = j) p.sets.length p ⟨true, 0, 0⟩ := by
  refine ⟨fun q hq => by simp at hq, fun q hq => by simp at hq, fun q r hq hh => by rw [h.zero q hq] at hh; simp at hh, fun i j => ⟨fun e => Or.inl ⟨rfl, e⟩, ?_⟩⟩
  rintro (⟨_, e⟩ | ⟨q, r, f, _⟩)
  · exact e
  · simp at f
theorem Gd.never (C : List Int) {p : Pl} (h : OkP p) : Gd C (fun _ _ => False) p.sets.length p ⟨false, 0, 0⟩ := by
  refine ⟨fun q hq => by simp at hq, fun q hq => by simp at hq, fun q r hq hh => by rw [h.zero q hq] at hh; simp at hh, fun i j => ⟨fun e => e.elim, ?_⟩⟩
  rintro (⟨e, _⟩ | ⟨q, r, f, _⟩)
  · cases e
  · simp at f
theorem Gd.leaf (C : List Int) (set : Int) {p : Pl} (h : OkP p) : Gd C (fun i j => j = i + 1 ∧ hit C set i) p.sets.length { p with sets := p.sets ++ [set] } ⟨false, 2 ^ p.sets.length, 2 ^ p.sets.length⟩ := by
  have hb : ∀ q, (2 ^ p.sets.length).testBit q = true → q = p.sets.length := fun q hq => by
    rw [Nat.testBit_two_pow] at hq
    exact (of_decide_eq_true hq).symm
  have hs : st { p with sets := p.sets ++ [set] } p.sets.length = set := by
    unfold st
    simp
  have hl : (p.sets ++ [set]).length = p.sets.length + 1 := by simp
  refine ⟨fun q hq => ?_, fun q hq => ?_, fun q r hq hh => ?_, fun i j => ⟨?_, ?_⟩⟩
  · have := hb q hq
    show p.sets.length ≤ q ∧ q < (p.sets ++ [set]).length
    omega
  · have := hb q hq
    show p.sets.length ≤ q ∧ q < (p.sets ++ [set]).length
    omega
  · have hh : (p.next q).testBit r = true := hh
    rw [h.zero q hq] at hh
    simp at hh
  · rintro ⟨rfl, hh⟩
    have hB : (2 ^ p.sets.length).testBit p.sets.length = true := by rw [Nat.testBit_two_pow]; simp
    exact Or.inr ⟨p.sets.length, p.sets.length, hB, hB, .one (by rw [hs]; exact hh)⟩
  · rintro (⟨e, _⟩ | ⟨q, r, f, l, w⟩)
    · cases e
    · have e1 := hb q f
      have e2 := hb r l
      subst e1
      subst e2
      cases w with
      | one hh => rw [hs] at hh; exact ⟨rfl, hh⟩
      | step w1 h1 h2 =>
        rename_i r0 j0
        have h1 : (p.next r0).testBit p.sets.length = true := h1
        have := (h r0).1
        rw [Nat.testBit_lt_two_pow this] at h1
        cases h1
theorem node_says (C : List Int) : ∀ (e : Ex) (p : Pl), OkP p → ∀ x p1, node e p = some (x, p1) → Gd C (mt C e) p.sets.length p1 x ∧ Xt p.sets.length p p1 := by
  intro e
  apply Ex.rec (motive_1 := fun e => ∀ (p : Pl), OkP p → ∀ x p1, node e p = some (x, p1) → Gd C (mt C e) p.sets.length p1 x ∧ Xt p.sets.length p p1)
    (motive_2 := fun es => (∀ (a : Nat) (M : Nat → Nat → Prop) (o : Nd) (p : Pl), OkP p → OkN p o → a ≤ p.sets.length → Gd C M a p o → ∀ x p1, seqs es o p = some (x, p1) → Gd C (fun i j => ∃ m, M i m ∧ mts C es m j) a p1 x ∧ Xt a p p1) ∧
      (∀ (a : Nat) (M : Nat → Nat → Prop) (o : Nd) (p : Pl), OkP p → OkN p o → a ≤ p.sets.length → Gd C M a p o → ∀ x p1, alts es o p = some (x, p1) → Gd C (fun i j => M i j ∨ mta C es i j) a p1 x ∧ Xt a p p1) ∧
      (∀ (p : Pl), OkP p → ∀ x p1, one es p = some (x, p1) → Gd C (mt1 C es) p.sets.length p1 x ∧ Xt p.sets.length p p1))
  · intro op set kids ⟨h1, h2, h3⟩ p hp x p1 h
    have z0 : OkN p ⟨true, 0, 0⟩ := ⟨Nat.two_pow_pos _, Nat.two_pow_pos _⟩
    have z1 : OkN p ⟨false, 0, 0⟩ := ⟨Nat.two_pow_pos _, Nat.two_pow_pos _⟩
    unfold node at h
    by_cases o1 : op = 1
    · rw [if_pos o1] at h
      split at h
      · cases h
      · injection h with h
        injection h with hx hp1
        subst hx hp1
        exact ⟨(Gd.leaf C set hp).congr (fun i j => by simp [mt, o1]), ⟨[set], rfl⟩, fun _ _ => rfl⟩
    rw [if_neg o1] at h
    by_cases o2 : op = 2
    · rw [if_pos o2] at h
      obtain ⟨a, b⟩ := h1 _ _ _ p hp z0 (Nat.le_refl _) (Gd.empty C hp) x p1 h
      exact ⟨a.congr (fun i j => by simp [mt, o2]), b⟩
    rw [if_neg o2] at h
    by_cases o3 : op = 3
    · rw [if_pos o3] at h
      obtain ⟨a, b⟩ := h2 _ _ _ p hp z1 (Nat.le_refl _) (Gd.never C hp) x p1 h
      exact ⟨a.congr (fun i j => by simp [mt, o3]), b⟩
    rw [if_neg o3] at h
    have hch : ∀ {y : Nd} {p2 : Pl}, Gd C (mt1 C kids) p.sets.length p2 y → Xt p.sets.length p p2 → Xt p.sets.length p (chain p2 y.last y.first) := fun {y p2} g k => by
      obtain ⟨S, hS⟩ := k.pre
      refine ⟨⟨S, hS⟩, fun q hq => ?_⟩
      show (if y.last.testBit q = true then p2.next q ||| y.first else p2.next q) = p.next q
      rw [if_neg (fun hh => by have := g.la q hh; omega), k.nx q hq]
    by_cases o4 : op = 4
    · rw [if_pos o4] at h
      cases ho : one kids p with
      | none => rw [ho] at h; cases h
      | some r =>
        obtain ⟨y, p2⟩ := r
        rw [ho] at h
        obtain ⟨a, b⟩ := h3 p hp y p2 ho
        injection h with h
        injection h with hx hp1
        subst hx hp1
        exact ⟨a.plus.2.congr (fun i j => by simp [mt, o4]), hch a b⟩
    rw [if_neg o4] at h
    by_cases o5 : op = 5
    · rw [if_pos o5] at h
      cases ho : one kids p with
      | none => rw [ho] at h; cases h
      | some r =>
        obtain ⟨y, p2⟩ := r
        rw [ho] at h
        obtain ⟨a, b⟩ := h3 p hp y p2 ho
        injection h with h
        injection h with hx hp1
        subst hx hp1
        exact ⟨a.plus.1.congr (fun i j => by simp [mt, o5]), hch a b⟩
    rw [if_neg o5] at h
    by_cases o6 : op = 6
    · rw [if_pos o6] at h
      cases ho : one kids p with
      | none => rw [ho] at h; cases h
      | some r =>
        obtain ⟨y, p2⟩ := r
        rw [ho] at h
        obtain ⟨a, b⟩ := h3 p hp y p2 ho
        injection h with h
        injection h with hx hp1
        subst hx hp1
        exact ⟨a.opt.congr (fun i j => by simp [mt, o6]), b⟩
    rw [if_neg o6] at h
    injection h with h
    injection h with hx hp1
    subst hx hp1
    exact ⟨(Gd.empty C hp).congr (fun i j => by simp [mt, o1, o2, o3, o4, o5, o6]), Xt.refl _ _⟩
  · refine ⟨fun a M o p hp ho ha hg x p1 h => ?_, fun a M o p hp ho ha hg x p1 h => ?_, fun p hp x p1 h => ?_⟩
    · simp only [seqs] at h
      injection h with h
      injection h with hx hp1
      subst hx hp1
      exact ⟨hg.congr (fun i j => by simp [mts]), Xt.refl _ _⟩
    · simp only [alts] at h
      injection h with h
      injection h with hx hp1
      subst hx hp1
      exact ⟨hg.congr (fun i j => by simp [mta]), Xt.refl _ _⟩
    · simp only [one] at h
      injection h with h
      injection h with hx hp1
      subst hx hp1
      exact ⟨(Gd.never C hp).congr (fun i j => by simp [mt1]), Xt.refl _ _⟩
  · intro e es he ⟨h1, h2, h3⟩
    refine ⟨fun a M o p hp ho ha hg x p1 h => ?_, fun a M o p hp ho ha hg x p1 h => ?_, fun p hp x p1 h => ?_⟩
    · simp only [seqs] at h
      cases hn : node e p with
      | none => rw [hn] at h; cases h
      | some r =>
        obtain ⟨y, p2⟩ := r
        rw [hn] at h
        obtain ⟨c1, c2, c3⟩ := node_ok e p hp y p2 hn
        obtain ⟨g1, g2⟩ := he p hp y p2 hn
        have o2 : OkN p2 o := ⟨Nat.lt_of_lt_of_le ho.1 (pow_le c3), Nat.lt_of_lt_of_le ho.2 (pow_le c3)⟩
        have o3 : OkN (chain p2 o.last y.first) (seq1 o y) := by
          unfold seq1 OkN
          refine ⟨?_, ?_⟩
          · show (if o.none = true then o.first ||| y.first else o.first) < 2 ^ p2.sets.length
            split
            · exact Nat.or_lt_two_pow o2.1 c2.1
            · exact o2.1
          · show (if y.none = true then o.last ||| y.last else y.last) < 2 ^ p2.sets.length
            split
            · exact Nat.or_lt_two_pow o2.2 c2.2
            · exact c2.2
        obtain ⟨s1, s2⟩ := hg.seq ha g1 g2 hp.zero
        obtain ⟨k1, k2⟩ := h1 a _ (seq1 o y) (chain p2 o.last y.first) (c1.chain o2.2 c2.1) o3 (Nat.le_trans ha c3) s1 x p1 h
        refine ⟨k1.congr (fun i j => ?_), s2.trans k2 (Nat.le_refl _)⟩
        simp only [mts]
        constructor
        · rintro ⟨m, ⟨n, u, v⟩, t⟩
          exact ⟨n, u, m, v, t⟩
        · rintro ⟨n, u, m, v, t⟩
          exact ⟨m, ⟨n, u, v⟩, t⟩
    · simp only [alts] at h
      cases hn : node e p with
      | none => rw [hn] at h; cases h
      | some r =>
        obtain ⟨y, p2⟩ := r
        rw [hn] at h
        obtain ⟨c1, c2, c3⟩ := node_ok e p hp y p2 hn
        obtain ⟨g1, g2⟩ := he p hp y p2 hn
        have o2 : OkN p2 o := ⟨Nat.lt_of_lt_of_le ho.1 (pow_le c3), Nat.lt_of_lt_of_le ho.2 (pow_le c3)⟩
        obtain ⟨k1, k2⟩ := h2 a _ (alt1 o y) p2 c1 ⟨Nat.or_lt_two_pow o2.1 c2.1, Nat.or_lt_two_pow o2.2 c2.2⟩ (Nat.le_trans ha c3) (hg.alt ha g1 g2 hp.zero) x p1 h
        refine ⟨k1.congr (fun i j => ?_), ?_⟩
        · simp only [mta]
          rw [or_assoc]
        · obtain ⟨S, hS⟩ := g2.pre
          exact (Xt.mk ⟨S, hS⟩ (fun q hq => g2.nx q (by omega)) : Xt a p p2).trans k2 (Nat.le_refl _)
    · simp only [one] at h
      obtain ⟨k1, k2⟩ := he p hp x p1 h
      exact ⟨k1.congr (fun i j => by simp [mt1]), k2⟩
end Au
end Go.Proofs.Ytfbcijnacbfjpab
