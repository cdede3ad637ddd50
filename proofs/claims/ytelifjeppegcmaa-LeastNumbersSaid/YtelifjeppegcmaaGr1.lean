/-
  Parted by the runs of one Out: two states are in one group just if their Out is the same.
-/
import Derived.Test.YtelifjeppegcmaaSo2
namespace Go.Proofs.Ytelifjeppegcmaa
open Go.RowKit Go.Maps
set_option linter.unusedVariables false
set_option linter.unusedSimpArgs false
/-- a run's states. -/
def segL (L : List Nat) (a : Nat × Nat) : List Nat := (L.drop a.1).take (a.2 - a.1)
theorem segL_at (L : List Nat) (a : Nat × Nat) {j : Nat} (h : j < a.2 - a.1) : (segL L a)[j]? = L[a.1 + j]? := by
  unfold segL
  rw [List.getElem?_take, if_pos h, List.getElem?_drop]
theorem segL_len {L : List Nat} {a : Nat × Nat} (h : a.2 ≤ L.length) : (segL L a).length = a.2 - a.1 := by
  unfold segL
  rw [List.length_take, List.length_drop]
  omega
theorem mem_segL {L : List Nat} {a : Nat × Nat} {s : Nat} : s ∈ segL L a ↔ ∃ p, a.1 ≤ p ∧ p < a.2 ∧ L[p]? = some s := by
  constructor
  · intro h
    obtain ⟨j, hj⟩ := List.mem_iff_getElem?.1 h
    have hl := (List.getElem?_eq_some_iff.1 hj).1
    have hj2 : j < a.2 - a.1 := by
      unfold segL at hl
      rw [List.length_take] at hl
      omega
    rw [segL_at L a hj2] at hj
    exact ⟨a.1 + j, by omega, by omega, hj⟩
  · rintro ⟨p, h1, h2, h3⟩
    refine List.mem_iff_getElem?.2 ⟨p - a.1, ?_⟩
    rw [segL_at L a (by omega), show a.1 + (p - a.1) = p by omega]
    exact h3
theorem segL_nd {L : List Nat} {n : Nat} (hp : L.Perm (List.range n)) (a : Nat × Nat) : (segL L a).Nodup ∧ ∀ x ∈ segL L a, x < n := by
  have hnd : L.Nodup := hp.nodup_iff.2 List.nodup_range
  refine ⟨(hnd.sublist (List.drop_sublist _ _)).sublist (List.take_sublist _ _), fun x hx => ?_⟩
  have : x ∈ L := List.mem_of_mem_drop (List.mem_of_mem_take hx)
  simpa using hp.mem_iff.1 this
/-- groups, parted by the first x runs. -/
structure Runs (n : Nat) (L : List Nat) (ss : List (Nat × Nat)) (x : Nat) (g : Nat → Nat) (K : Nat) : Prop where
  lt : ∀ s, s < n → g s < K
  iff : ∀ s t, s < n → t < n → (g s = g t ↔ ∀ a ∈ ss.take x, (s ∈ segL L a ↔ t ∈ segL L a))
theorem Runs.start {n : Nat} {L : List Nat} {ss : List (Nat × Nat)} {g : Nat → Nat} (h : ∀ s, s < n → g s = 0) : Runs n L ss 0 g 1 :=
  ⟨fun s hs => by rw [h s hs]; omega, fun s t hs ht => by rw [h s hs, h t ht]; simp⟩
theorem Runs.next {n x K K' : Nat} {L : List Nat} {ss : List (Nat × Nat)} {g g' : Nat → Nat} {a : Nat × Nat} (h : Runs n L ss x g K) (ha : ss[x]? = some a) (hs : Hm.Split n g K (fun s => s ∈ segL L a) g' K') : Runs n L ss (x + 1) g' K' := by
  refine ⟨hs.lt, fun s t h1 h2 => ?_⟩
  rw [hs.iff s t h1 h2, h.iff s t h1 h2, List.take_add_one, ha]
  constructor
  · rintro ⟨e1, e2⟩ b hb
    rcases List.mem_append.1 hb with hb | hb
    · exact e1 b hb
    · obtain rfl : b = a := by simpa using hb
      exact e2
  · intro e
    exact ⟨fun b hb => e b (List.mem_append.2 (Or.inl hb)), e a (List.mem_append.2 (Or.inr (by simp)))⟩
theorem Runs.done {n K : Nat} {O : Nat → Nat} {L : List Nat} {ss : List (Nat × Nat)} {g : Nat → Nat} (h : Runs n L ss ss.length g K) (hR : Rns n (Vo O L) n n ss) (hp : L.Perm (List.range n)) : ∀ s t, s < n → t < n → (g s = g t ↔ O s = O t) := fun s t hs ht => by
  have hl : L.length = n := by rw [hp.length_eq, List.length_range]
  have place : ∀ s, s < n → ∃ p, p < n ∧ L[p]? = some s := fun s hs => by
    have : s ∈ L := hp.mem_iff.2 (by simpa using hs)
    obtain ⟨p, hpp⟩ := List.mem_iff_getElem?.1 this
    exact ⟨p, by rw [← hl]; exact (List.getElem?_eq_some_iff.1 hpp).1, hpp⟩
  have one : ∀ s t, s < n → t < n → O s = O t → ∀ a ∈ ss, s ∈ segL L a → t ∈ segL L a := fun s t hs ht e a ha hm => by
    obtain ⟨p, h1, h2, h3⟩ := mem_segL.1 hm
    obtain ⟨q, hq, hq2⟩ := place t ht
    have hv := ((hR.seg a ha).2.2 p q h1 h2 hq).1 (by rw [gd h3, gd hq2, e])
    exact mem_segL.2 ⟨q, hv.1, hv.2, hq2⟩
  rw [h.iff s t hs ht, List.take_length]
  constructor
  · intro e
    obtain ⟨p, hpn, hps⟩ := place s hs
    obtain ⟨a, ha, h1, h2⟩ := hR.all p hpn
    obtain ⟨q, q1, q2, q3⟩ := mem_segL.1 ((e a ha).1 (mem_segL.2 ⟨p, h1, h2, hps⟩))
    have hqn : q < n := by have := (hR.seg a ha).2.1; omega
    have hv := ((hR.seg a ha).2.2 p q h1 h2 hqn).2 ⟨q1, q2⟩
    rw [gd hps, gd q3] at hv
    exact hv.symm
  · intro e a ha
    exact ⟨one s t hs ht e a ha, one t s ht hs e.symm a ha⟩
end Go.Proofs.Ytelifjeppegcmaa
