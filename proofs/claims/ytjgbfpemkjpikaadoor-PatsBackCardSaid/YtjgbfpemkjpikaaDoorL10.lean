/-
  The patterns that pats.Parse collects, in memory.
-/
import Derived.Test.YtjgbfpemkjpikaaDoorL8
import Derived.Test.YtjgbfpemkjpikaaDoorL9
namespace Go.Proofs.YtjgbfpemkjpikaaDoor
open Go.RowKit Go.Maps
set_option linter.unusedVariables false
set_option linter.unusedSimpArgs false
/-- a pattern, and where it lies. -/
structure Qd where
  p : Pt.Pat
  gL : Nat
  cL : Nat
  gV : Nat
  cV : Nat
def Qd.cells (q : Qd) : List Value := [.slice (some ⟨q.gL, 0, none⟩) q.p.letters.length q.cL, .slice (some ⟨q.gV, 0, none⟩) q.p.values.length q.cV]
def qcs (xs : List Qd) : List Value := xs.flatMap Qd.cells
theorem qcs_app (xs : List Qd) (q : Qd) : qcs xs ++ q.cells = qcs (xs ++ [q]) := by unfold qcs; simp
theorem qcs_at : ∀ (xs : List Qd) (j : Nat) (q : Qd), xs[j]? = some q → (qcs xs)[j * 2]? = some (.slice (some ⟨q.gL, 0, none⟩) q.p.letters.length q.cL) ∧ (qcs xs)[j * 2 + 1]? = some (.slice (some ⟨q.gV, 0, none⟩) q.p.values.length q.cV)
  | [], j, q, h => by simp at h
  | x :: xs, 0, q, h => by
    simp at h
    subst h
    exact ⟨rfl, rfl⟩
  | x :: xs, j + 1, q, h => by
    have ih := qcs_at xs j q (by simpa using h)
    have e : qcs (x :: xs) = x.cells ++ qcs xs := by unfold qcs; simp
    have e2 : ∀ k, (x.cells ++ qcs xs)[k + 2]? = (qcs xs)[k]? := fun k => by unfold Qd.cells; simp
    rw [e]
    refine ⟨?_, ?_⟩
    · have := e2 (j * 2)
      rw [show (j + 1) * 2 = j * 2 + 2 by omega, this]; exact ih.1
    · have := e2 (j * 2 + 1)
      rw [show (j + 1) * 2 + 1 = j * 2 + 1 + 2 by omega, this]; exact ih.2
structure Qok (W : World) (q : Qd) : Prop where
  l : Nl W (some ⟨q.gL, 0, none⟩) q.p.letters.length q.p.letters
  v : Bl W (some ⟨q.gV, 0, none⟩) q.p.values.length q.p.values
  l24 : q.p.letters.length ≤ 24
  v25 : q.p.values.length ≤ 25
  l0 : 0 < q.p.letters.length
  vl : q.p.values.length = q.p.letters.length + 1
theorem Nl.ofB {w w' : World} {g n : Nat} {L : List Nat} (h : Nl w (some ⟨g, 0, none⟩) n L) (hn : 0 < n) (hs : w.heap.size ≤ w'.heap.size) (e : w'.heap[g]? = w.heap[g]?) : Nl w' (some ⟨g, 0, none⟩) n L := by
  obtain ⟨hl, b, off, h1, h2⟩ := h
  obtain ⟨e1, hb⟩ := h1 hn
  injection e1 with e1
  injection e1 with e1 e2 _
  subst e1
  exact ⟨hl, _, off, fun h => ⟨(h1 h).1, by omega⟩, fun j x hj => (World.cell?_of_block (a := ⟨g, off + j, none⟩) e).trans (h2 j x hj)⟩
theorem Bl.ofB {w w' : World} {g n : Nat} {L : List Nat} (h : Bl w (some ⟨g, 0, none⟩) n L) (hn : 0 < n) (hs : w.heap.size ≤ w'.heap.size) (e : w'.heap[g]? = w.heap[g]?) : Bl w' (some ⟨g, 0, none⟩) n L := by
  obtain ⟨hl, b, off, h1, h2⟩ := h
  obtain ⟨e1, hb⟩ := h1 hn
  injection e1 with e1
  injection e1 with e1 e2 _
  subst e1
  exact ⟨hl, _, off, fun h => ⟨(h1 h).1, by omega⟩, fun j x hj => (World.cell?_of_block (a := ⟨g, off + j, none⟩) e).trans (h2 j x hj)⟩
theorem Bl.blk {w : World} {g n : Nat} {L : List Nat} (h : Bl w (some ⟨g, 0, none⟩) n L) (hn : 0 < n) : g < w.heap.size := by
  obtain ⟨hl, b, off, h1, h2⟩ := h
  obtain ⟨e, hb⟩ := h1 hn
  injection e with e
  injection e with e1 e2 _
  subst e1
  exact hb
theorem Qok.keep {w w' : World} {q : Qd} (h : Qok w q) (ho : Only (fun _ => False) w w') : Qok w' q := ⟨h.l.keep ho, h.v.keep ho, h.l24, h.v25, h.l0, h.vl⟩
theorem Qok.bl {w : World} {q : Qd} (h : Qok w q) : q.gL < w.heap.size := h.l.blk h.l0
theorem Qok.bv {w : World} {q : Qd} (h : Qok w q) : q.gV < w.heap.size := h.v.blk (by have := h.vl; omega)
theorem Qok.ofB {w w' : World} {q : Qd} (h : Qok w q) (hs : w.heap.size ≤ w'.heap.size) (e1 : w'.heap[q.gL]? = w.heap[q.gL]?) (e2 : w'.heap[q.gV]? = w.heap[q.gV]?) : Qok w' q := ⟨h.l.ofB h.l0 hs e1, h.v.ofB (by have := h.vl; omega) hs e2, h.l24, h.v25, h.l0, h.vl⟩
/-- where a pattern doesn't lie. -/
structure Qap (B : Nat) (vL vW : Value) (q : Qd) : Prop where
  bL : B ≤ q.gL
  bV : B ≤ q.gV
  lL : vL.ownBlock ≠ some q.gL
  lV : vL.ownBlock ≠ some q.gV
  wL : vW.ownBlock ≠ some q.gL
  wV : vW.ownBlock ≠ some q.gV
/-- what is collected so far. -/
structure Ou (W : World) (o B : Nat) (xs ys : List Qd) (vL vW : Value) : Prop where
  ob : o < B
  bs : B ≤ W.heap.size
  blk : W.heap[o]? = some (.cells #[vL, vW] 28 (0, 0))
  rL : W.ownsRow B 37 2 vL xs.length (qcs xs)
  rW : W.ownsRow B 37 2 vW ys.length (qcs ys)
  ap : Ap vL vW
  qx : ∀ q ∈ xs ++ ys, Qok W q ∧ Qap B vL vW q
theorem Ou.keep {W W' : World} {o B : Nat} {xs ys : List Qd} {vL vW : Value} (h : Ou W o B xs ys vL vW) (ho : Only (fun _ => False) W W') : Ou W' o B xs ys vL vW :=
  ⟨h.ob, Nat.le_trans h.bs ho.size, (ho.block o (by have := h.ob; have := h.bs; omega) (fun h => h)).trans h.blk, own_only h.rL ho (fun _ _ h => h), own_only h.rW ho (fun _ _ h => h), h.ap, fun q hq => ⟨(h.qx q hq).1.keep ho, (h.qx q hq).2⟩⟩
theorem Ou.pw {W : World} {o B n c : Nat} {xs ys : List Qd} {vL : Value} {a : Option Addr} (h : Ou W o B xs ys vL (.slice a n c)) (hn : n = ys.length) : Pw W a n (ys.map (·.p)) := by
  subst hn
  refine ⟨by simp, ?_⟩
  by_cases h0 : ys.length = 0
  · have : ys = [] := List.eq_nil_of_length_eq_zero h0
    subst this
    exact ⟨0, 0, fun h => absurd h (by simp), fun j p hj => by simp at hj⟩
  · obtain ⟨g, cap, hv, _, hlt, _, hc⟩ := row_form h.rW (by omega)
    injection hv with hv
    refine ⟨g, 0, fun _ => ⟨hv, hlt⟩, fun j p hj => ?_⟩
    rw [List.getElem?_map] at hj
    cases hq : ys[j]? with
    | none => rw [hq] at hj; cases hj
    | some q =>
      rw [hq] at hj
      injection hj with hj
      subst hj
      have hjl := (List.getElem?_eq_some_iff.1 hq).1
      obtain ⟨k0, k1⟩ := qcs_at ys j q hq
      have hk := (h.qx q (List.mem_append_right _ (List.mem_of_getElem? hq))).1
      refine ⟨_, _, (by rw [Nat.zero_add, hc _ (by omega)]; exact k0), (by rw [Nat.zero_add, hc _ (by omega)]; exact k1), ?_⟩
      exact ⟨_, _, _, _, rfl, rfl, hk.l, hk.v, hk.l24, hk.v25, by show 0 < q.p.values.length; rw [hk.vl]; exact Nat.succ_pos _⟩
theorem Ou.c0 {W : World} {o B : Nat} {xs ys : List Qd} {vL vW : Value} (h : Ou W o B xs ys vL vW) : W.cell? ⟨o, 0, none⟩ = some vL := cell_blk h.blk
theorem Ou.c1 {W : World} {o B : Nat} {xs ys : List Qd} {vL vW : Value} (h : Ou W o B xs ys vL vW) : W.cell? ⟨o, 1, none⟩ = some vW := cell_blk h.blk
theorem Ou.lt {W : World} {o B : Nat} {xs ys : List Qd} {vL vW : Value} (h : Ou W o B xs ys vL vW) : o < W.heap.size := by have := h.ob; have := h.bs; omega
theorem Ou.addL {W W1 w3 : World} {o B g c : Nat} {xs ys : List Qd} {vL vW : Value} {q : Qd} (h : Ou W o B xs ys vL vW) (ho : Only (fun _ => False) W W1) (hq : Qok W1 q) (hg1 : W.heap.size ≤ q.gL) (hg2 : W.heap.size ≤ q.gV)
    (hown : w3.ownsRow B 37 2 (.slice (some ⟨g, 0, none⟩) (xs.length + 1) c) (xs.length + 1) (qcs xs ++ q.cells)) (hgr : W1.grownBy w3 vL.ownBlock) (hat : vL.ownBlock = some g ∨ g = W1.heap.size) :
    w3.heap[o]? = some (.cells #[vL, vW] 28 (0, 0)) ∧ Ou (w3.setCell ⟨o, 0, none⟩ (.slice (some ⟨g, 0, none⟩) (xs.length + 1) c)) o B (xs ++ [q]) ys (.slice (some ⟨g, 0, none⟩) (xs.length + 1) c) vW ∧ Only (fun b => b = o ∨ B ≤ b) W (w3.setCell ⟨o, 0, none⟩ (.slice (some ⟨g, 0, none⟩) (xs.length + 1) c)) := by
  have h1 := h.keep ho
  have hob := h.ob
  have hbs := h.bs
  have hW1 := ho.size
  have o3 : Only (fun b => vL.ownBlock = some b) W1 w3 := (Only.refl _ _).grown hgr (fun k h => h)
  have hno : vL.ownBlock ≠ some o := fun e => by have := (h1.rL.lt o e).1; omega
  have hb3 : w3.heap[o]? = some (.cells #[vL, vW] 28 (0, 0)) := (o3.block o h1.lt hno).trans h1.blk
  have o4 : Only (· = o) w3 (w3.setCell ⟨o, 0, none⟩ (.slice (some ⟨g, 0, none⟩) (xs.length + 1) c)) := (Only.refl (· = o) w3).setCell (p := ⟨o, 0, none⟩) rfl _
  have o5 : Only (fun b => b = o ∨ vL.ownBlock = some b) W1 (w3.setCell ⟨o, 0, none⟩ (.slice (some ⟨g, 0, none⟩) (xs.length + 1) c)) := (o3.mono (fun _ h => Or.inr h)).trans (o4.mono (fun _ h => Or.inl h))
  have hs5 := o5.size
  have hap : ∀ b, Value.ownBlock (.slice (some ⟨g, 0, none⟩) (xs.length + 1) c) = some b → b < W1.heap.size → vL.ownBlock = some b := fun b hb hl => by
    have e : some g = some b := hb
    injection e with e
    subst e
    rcases hat with hat | hat
    · exact hat
    · omega
  have key : ∀ q' ∈ (xs ++ [q]) ++ ys, Qok W1 q' ∧ Qap B vL vW q' := fun q' hq' => by
    have hc : q' ∈ xs ++ ys ∨ q' = q := by
      simp only [List.mem_append, List.mem_singleton] at hq' ⊢
      rcases hq' with hq' | hq' <;> first | (rcases hq' with hq' | hq' <;> simp [hq']) | simp [hq']
    rcases hc with hc | hc
    · exact h1.qx q' hc
    · subst hc
      exact ⟨hq, ⟨by omega, by omega, fun e => by have := (h.rL.lt _ e).2; omega, fun e => by have := (h.rL.lt _ e).2; omega, fun e => by have := (h.rW.lt _ e).2; omega, fun e => by have := (h.rW.lt _ e).2; omega⟩⟩
  refine ⟨hb3, ⟨hob, by omega, heap_setCell_at hb3 _, ?_, ?_, ?_, ?_⟩, ?_⟩
  · have := own_only hown o4 (fun b hb e => by omega)
    rw [qcs_app] at this
    rw [List.length_append]
    exact this
  · exact own_only (own_grew h1.rW (fun b hb e => h1.ap b e hb) hgr) o4 (fun b hb e => by omega)
  · intro b hb e
    exact h1.ap b (hap b hb (h1.rW.lt b e).2) e
  · intro q' hq'
    obtain ⟨k1, k2⟩ := key q' hq'
    refine ⟨k1.ofB hs5 (o5.block _ k1.bl (fun e => ?_)) (o5.block _ k1.bv (fun e => ?_)), ?_⟩
    · rcases e with e | e
      · have := k2.bL; omega
      · exact k2.lL e
    · rcases e with e | e
      · have := k2.bV; omega
      · exact k2.lV e
    · exact ⟨k2.bL, k2.bV, fun e => k2.lL (hap _ e k1.bl), fun e => k2.lV (hap _ e k1.bv), k2.wL, k2.wV⟩
  · refine ⟨o5.os.trans ho.os, o5.tape.trans ho.tape, o5.output.trans ho.output, by omega, fun b hb hn => (o5.block b (by omega) (fun e => ?_)).trans (ho.block b hb (fun h => h))⟩
    rcases e with e | e
    · exact hn (Or.inl e)
    · exact hn (Or.inr (h1.rL.lt b e).1)
theorem Ou.addW {W W1 w3 : World} {o B g c : Nat} {xs ys : List Qd} {vL vW : Value} {q : Qd} (h : Ou W o B xs ys vL vW) (ho : Only (fun _ => False) W W1) (hq : Qok W1 q) (hg1 : W.heap.size ≤ q.gL) (hg2 : W.heap.size ≤ q.gV)
    (hown : w3.ownsRow B 37 2 (.slice (some ⟨g, 0, none⟩) (ys.length + 1) c) (ys.length + 1) (qcs ys ++ q.cells)) (hgr : W1.grownBy w3 vW.ownBlock) (hat : vW.ownBlock = some g ∨ g = W1.heap.size) :
    w3.heap[o]? = some (.cells #[vL, vW] 28 (0, 0)) ∧ Ou (w3.setCell ⟨o, 1, none⟩ (.slice (some ⟨g, 0, none⟩) (ys.length + 1) c)) o B xs (ys ++ [q]) vL (.slice (some ⟨g, 0, none⟩) (ys.length + 1) c) ∧ Only (fun b => b = o ∨ B ≤ b) W (w3.setCell ⟨o, 1, none⟩ (.slice (some ⟨g, 0, none⟩) (ys.length + 1) c)) := by
  have h1 := h.keep ho
  have hob := h.ob
  have hbs := h.bs
  have hW1 := ho.size
  have o3 : Only (fun b => vW.ownBlock = some b) W1 w3 := (Only.refl _ _).grown hgr (fun k h => h)
  have hno : vW.ownBlock ≠ some o := fun e => by have := (h1.rW.lt o e).1; omega
  have hb3 : w3.heap[o]? = some (.cells #[vL, vW] 28 (0, 0)) := (o3.block o h1.lt hno).trans h1.blk
  have o4 : Only (· = o) w3 (w3.setCell ⟨o, 1, none⟩ (.slice (some ⟨g, 0, none⟩) (ys.length + 1) c)) := (Only.refl (· = o) w3).setCell (p := ⟨o, 1, none⟩) rfl _
  have o5 : Only (fun b => b = o ∨ vW.ownBlock = some b) W1 (w3.setCell ⟨o, 1, none⟩ (.slice (some ⟨g, 0, none⟩) (ys.length + 1) c)) := (o3.mono (fun _ h => Or.inr h)).trans (o4.mono (fun _ h => Or.inl h))
  have hs5 := o5.size
  have hap : ∀ b, Value.ownBlock (.slice (some ⟨g, 0, none⟩) (ys.length + 1) c) = some b → b < W1.heap.size → vW.ownBlock = some b := fun b hb hl => by
    have e : some g = some b := hb
    injection e with e
    subst e
    rcases hat with hat | hat
    · exact hat
    · omega
  have key : ∀ q' ∈ xs ++ (ys ++ [q]), Qok W1 q' ∧ Qap B vL vW q' := fun q' hq' => by
    have hc : q' ∈ xs ++ ys ∨ q' = q := by
      simp only [List.mem_append, List.mem_singleton] at hq' ⊢
      rcases hq' with hq' | hq' <;> first | (rcases hq' with hq' | hq' <;> simp [hq']) | simp [hq']
    rcases hc with hc | hc
    · exact h1.qx q' hc
    · subst hc
      exact ⟨hq, ⟨by omega, by omega, fun e => by have := (h.rL.lt _ e).2; omega, fun e => by have := (h.rL.lt _ e).2; omega, fun e => by have := (h.rW.lt _ e).2; omega, fun e => by have := (h.rW.lt _ e).2; omega⟩⟩
  refine ⟨hb3, ⟨hob, by omega, heap_setCell_at hb3 _, ?_, ?_, ?_, ?_⟩, ?_⟩
  · exact own_only (own_grew h1.rL (fun b hb e => h1.ap b hb e) hgr) o4 (fun b hb e => by omega)
  · have := own_only hown o4 (fun b hb e => by omega)
    rw [qcs_app] at this
    rw [List.length_append]
    exact this
  · intro b hb e
    exact h1.ap b hb (hap b e (h1.rL.lt b hb).2)
  · intro q' hq'
    obtain ⟨k1, k2⟩ := key q' hq'
    refine ⟨k1.ofB hs5 (o5.block _ k1.bl (fun e => ?_)) (o5.block _ k1.bv (fun e => ?_)), ?_⟩
    · rcases e with e | e
      · have := k2.bL; omega
      · exact k2.wL e
    · rcases e with e | e
      · have := k2.bV; omega
      · exact k2.wV e
    · exact ⟨k2.bL, k2.bV, k2.lL, k2.lV, fun e => k2.wL (hap _ e k1.bl), fun e => k2.wV (hap _ e k1.bv)⟩
  · refine ⟨o5.os.trans ho.os, o5.tape.trans ho.tape, o5.output.trans ho.output, by omega, fun b hb hn => (o5.block b (by omega) (fun e => ?_)).trans (ho.block b hb (fun h => h))⟩
    rcases e with e | e
    · exact hn (Or.inl e)
    · exact hn (Or.inr (h1.rW.lt b e).1)
end Go.Proofs.YtjgbfpemkjpikaaDoor
