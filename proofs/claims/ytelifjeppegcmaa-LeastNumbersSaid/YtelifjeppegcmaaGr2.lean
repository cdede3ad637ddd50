/-
  A group's states, and what leads to them.
-/
import Derived.Test.YtelifjeppegcmaaGr1
import Derived.Test.YtelifjeppegcmaaWy
namespace Go.Proofs.Ytelifjeppegcmaa
open Go.RowKit Go.Maps
set_option linter.unusedVariables false
set_option linter.unusedSimpArgs false
theorem mem_bkTo {nx : Nat → Nat} {n t s : Nat} : s ∈ bkTo nx n t ↔ s < n ∧ nx s = t := by
  unfold bkTo
  rw [List.mem_filter]
  simp
theorem mem_back {nx : Nat → Nat} {n s : Nat} {G : List Nat} : s ∈ G.flatMap (bkTo nx n) ↔ s < n ∧ nx s ∈ G := by
  rw [List.mem_flatMap]
  constructor
  · rintro ⟨t, h1, h2⟩
    obtain ⟨h3, h4⟩ := mem_bkTo.1 h2
    exact ⟨h3, by rw [h4]; exact h1⟩
  · rintro ⟨h1, h2⟩
    exact ⟨nx s, h2, mem_bkTo.2 ⟨h1, rfl⟩⟩
theorem nd_back {nx : Nat → Nat} {n : Nat} : ∀ {G : List Nat}, G.Nodup → (G.flatMap (bkTo nx n)).Nodup
  | [], _ => by simp
  | t :: G, h => by
    obtain ⟨h1, h2⟩ := List.nodup_cons.1 h
    rw [List.flatMap_cons]
    refine List.nodup_append.2 ⟨?_, nd_back h2, fun x hx y hy e => ?_⟩
    · unfold bkTo
      exact List.nodup_range.filter _
    · subst e
      have e1 := (mem_bkTo.1 hx).2
      have e2 := (mem_back.1 hy).2
      rw [e1] at e2
      exact h1 e2
theorem row_nd {n : Nat} {row at' of : List Nat} {ls : List (Nat × Nat × Nat)} {T : Nat → Prop} (h : Hm.Pt n row at' of ls T) : row.Nodup := by
  refine List.pairwise_iff_getElem.2 (fun i j hi hj hij e => ?_)
  have h1 := (h.ra j _ (List.getElem?_eq_getElem hj)).2
  have h2 := (h.ra i _ (List.getElem?_eq_getElem hi)).2
  rw [e, h1] at h2
  injection h2 with h2
  omega
/-- a group's states, as they stand in the row. -/
theorem grp_states {n : Nat} {row at' of : List Nat} {ls : List (Nat × Nat × Nat)} {T : Nat → Prop} (h : Hm.Pt n row at' of ls T) {g f t d : Nat} (hg : ls[g]? = some (f, t, d)) : (segL row (f, t)).Nodup ∧ (segL row (f, t)).length = t - f ∧ (∀ x ∈ segL row (f, t), x < n) ∧ ∀ s, s < n → (s ∈ segL row (f, t) ↔ of[s]?.getD 0 = g) := by
  obtain ⟨h1, h2, h3, h4⟩ := h.seg g f t d hg
  have rl := h.rl
  refine ⟨((row_nd h).sublist (List.drop_sublist _ _)).sublist (List.take_sublist _ _), segL_len (by show t ≤ row.length; omega), fun x hx => ?_, fun s hs => ?_⟩
  · obtain ⟨p, _, _, hp⟩ := mem_segL.1 hx
    exact (h.ra p x hp).1
  · constructor
    · intro hm
      obtain ⟨p, p1, p2, p3⟩ := mem_segL.1 hm
      rw [(h4 p s p1 p2 p3).1]
      rfl
    · intro e
      obtain ⟨g', f', t', d', p, q1, q2, q3, q4, q5, q6, _⟩ := h.find hs
      rw [q1] at e
      have e2 : g' = g := e
      subst e2
      rw [hg] at q2
      injection q2 with q2
      simp only [Prod.mk.injEq] at q2
      exact mem_segL.2 ⟨p, by show f ≤ p; omega, by show p < t; omega, q4⟩
theorem Split.congr {n K K' : Nat} {g g' : Nat → Nat} {D D' : Nat → Prop} (h : Hm.Split n g K D g' K') (e : ∀ s, s < n → (D s ↔ D' s)) : Hm.Split n g K D' g' K' :=
  ⟨h.le, h.lt, h.new, fun s t hs ht => by rw [h.iff s t hs ht, e s hs, e t ht]⟩
end Go.Proofs.Ytelifjeppegcmaa
