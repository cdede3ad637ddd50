/-
  What numbered keeps in memory.
-/
import Derived.Test.YtelifjeppegcmaaWy
import Derived.Test.YtelifjeppegcmaaNu0
namespace Go.Proofs.Ytelifjeppegcmaa
open Go.RowKit Go.Maps
set_option linter.unusedVariables false
set_option linter.unusedSimpArgs false
def natI (L : List Nat) : List Value := L.map fun (x : Nat) => .int .i64 (x : Int)
def u32V (n : Nat) : Value := .int .u32 (n : Int)
theorem nums_list (L : List Nat) : (nums L).toList = natI L := by simp [nums, natI]
theorem natI_len (L : List Nat) : (natI L).length = L.length := by simp [natI]
theorem natI_snoc (L : List Nat) (x : Nat) : natI (L ++ [x]) = natI L ++ [.int .i64 (x : Int)] := by simp [natI]
/-- an automaton, in memory of one's own. -/
def Ra (W : World) (lo : Nat) (v : Value) (nx : List (List Nat)) (o : List Nat) : Prop := ∃ (vX vO : Value) (rows : List Value), v = .agg #[vX, vO] ∧ rows.length = nx.length ∧ W.ownsRow lo 23 1 vX rows.length rows ∧ (∀ (i : Nat) (r : Value) (L : List Nat), rows[i]? = some r → nx[i]? = some L → W.ownsRow lo 3 1 r L.length (natI L)) ∧ W.ownsRow lo 38 1 vO o.length (o.map u32V)
theorem Ra.keep {w w' : World} {lo : Nat} {v : Value} {nx : List (List Nat)} {o : List Nat} (h : Ra w lo v nx o) (ho : Only (fun _ => False) w w') : Ra w' lo v nx o := by
  obtain ⟨vX, vO, rows, h1, h2, h3, h4, h5⟩ := h
  exact ⟨vX, vO, rows, h1, h2, own_only h3 ho (fun _ _ h => h), fun i r L hr hL => own_only (h4 i r L hr hL) ho (fun _ _ h => h), own_only h5 ho (fun _ _ h => h)⟩
theorem own_ne {w : World} {base e size n b : Nat} {v : Value} {xs : List Value} {cs : Array Value} {t : TypeId} (h : w.ownsRow base e size v n xs) (hb : w.heap[b]? = some (.cells cs t (0, 0))) (ht : t ≠ e) : v.ownBlock ≠ some b := fun hq => by
  obtain ⟨_, cur, hc⟩ := own_own h hq
  rw [hb] at hc
  injection hc with hc
  injection hc with _ hc
  exact ht hc
theorem own_ne2 {w : World} {base e size n base' e' size' n' q : Nat} {v v' : Value} {xs xs' : List Value} (h : w.ownsRow base e size v n xs) (h' : w.ownsRow base' e' size' v' n' xs') (ht : e' ≠ e) (hq : v'.ownBlock = some q) : v.ownBlock ≠ some q := by
  obtain ⟨_, cur, hc⟩ := own_own h' hq
  exact own_ne h hc ht
theorem own_lt {w : World} {base e size n q : Nat} {v : Value} {xs : List Value} (h : w.ownsRow base e size v n xs) (hq : v.ownBlock = some q) : q < w.heap.size := by
  obtain ⟨_, cur, hc⟩ := own_own h hq
  exact (Array.getElem?_eq_some_iff.1 hc).1
theorem snocV_at {vs : List Value} {v r : Value} {i : Nat} (h : (vs ++ [v])[i]? = some r) : vs[i]? = some r ∨ (i = vs.length ∧ r = v) := by
  by_cases hi : i < vs.length
  · rw [List.getElem?_append_left hi] at h
    exact Or.inl h
  · rw [List.getElem?_append_right (by omega)] at h
    have := (List.getElem?_eq_some_iff.1 h).1
    simp at this
    have e : i = vs.length := by omega
    subst e
    rw [Nat.sub_self] at h
    injection h with h
    exact Or.inr ⟨rfl, h.symm⟩
structure Nm (W : World) (nB lB n : Nat) (nu : Nat → Int) (come : List Nat) (vC vN vO : Value) (rows : List (List Nat)) (outs : List Nat) (vs : List Value) : Prop where
  num : W.heap[nB]? = some (.cells (rowOf n (fun x => .int .i64 (nu x))) 3 (0, 0))
  com : W.ownsRow (nB + 1) 3 1 vC come.length (natI come)
  lne : nB < lB
  lst : W.heap[lB]? = some (.cells #[vN, vO] 27 (0, 0))
  vl : vs.length = rows.length
  nx : W.ownsRow (nB + 1) 23 1 vN rows.length vs
  each : ∀ (i : Nat) (r : Value) (L : List Nat), vs[i]? = some r → rows[i]? = some L → W.ownsRow (nB + 1) 3 1 r L.length (natI L)
  far : ∀ r ∈ vs, ∀ q, r.ownBlock = some q → vC.ownBlock ≠ some q
  out : W.ownsRow (nB + 1) 38 1 vO outs.length (outs.map u32V)
theorem Nm.one {W : World} {nB lB n : Nat} {nu : Nat → Int} {come : List Nat} {vC vN vO : Value} {rows : List (List Nat)} {outs : List Nat} {vs : List Value} (h : Nm W nB lB n nu come vC vN vO rows outs vs) {r : Value} (hr : r ∈ vs) : ∃ L : List Nat, W.ownsRow (nB + 1) 3 1 r L.length (natI L) := by
  obtain ⟨i, hi⟩ := List.getElem?_of_mem hr
  have hl := (List.getElem?_eq_some_iff.1 hi).1
  have e2 : rows[i]? = some (rows[i]'(by rw [← h.vl]; exact hl)) := List.getElem?_eq_getElem _
  exact ⟨_, h.each _ r _ hi e2⟩
/-- where nothing of it lies, all may turn. -/
theorem Nm.keep {S : Nat → Prop} {W W' : World} {nB lB n : Nat} {nu : Nat → Int} {come : List Nat} {vC vN vO : Value} {rows : List (List Nat)} {outs : List Nat} {vs : List Value} (h : Nm W nB lB n nu come vC vN vO rows outs vs) (ho : Only S W W') (h1 : ¬ S nB) (h2 : ∀ q, vC.ownBlock = some q → ¬ S q) (h3 : ¬ S lB) (h4 : ∀ q, vN.ownBlock = some q → ¬ S q) (h5 : ∀ r ∈ vs, ∀ q, r.ownBlock = some q → ¬ S q) (h6 : ∀ q, vO.ownBlock = some q → ¬ S q) : Nm W' nB lB n nu come vC vN vO rows outs vs :=
  ⟨(ho.block nB (Array.getElem?_eq_some_iff.1 h.num).1 h1).trans h.num, own_stay h.com ho h2, h.lne, (ho.block lB (Array.getElem?_eq_some_iff.1 h.lst).1 h3).trans h.lst, h.vl, own_stay h.nx ho h4, fun i r L hr hL => own_stay (h.each i r L hr hL) ho (h5 r (List.mem_of_getElem? hr)), h.far, own_stay h.out ho h6⟩
theorem Nm.idle {W W' : World} {nB lB n : Nat} {nu : Nat → Int} {come : List Nat} {vC vN vO : Value} {rows : List (List Nat)} {outs : List Nat} {vs : List Value} (h : Nm W nB lB n nu come vC vN vO rows outs vs) (ho : Only (fun _ => False) W W') : Nm W' nB lB n nu come vC vN vO rows outs vs :=
  h.keep ho (fun h => h) (fun _ _ h => h) (fun h => h) (fun _ _ h => h) (fun _ _ _ _ h => h) (fun _ _ h => h)
/-- a number is put. -/
theorem Nm.setNum {W : World} {nB lB n : Nat} {nu : Nat → Int} {come : List Nat} {vC vN vO : Value} {rows : List (List Nat)} {outs : List Nat} {vs : List Value} (h : Nm W nB lB n nu come vC vN vO rows outs vs) (x : Nat) (j : Int) : Nm (W.setCell ⟨nB, x, none⟩ (.int .i64 j)) nB lB n (fun y => if y = x then j else nu y) come vC vN vO rows outs vs := by
  have ho : Only (fun b => b = nB) W (W.setCell ⟨nB, x, none⟩ (.int .i64 j)) := (Only.refl (fun b => b = nB) W).setCell (p := ⟨nB, x, none⟩) rfl _
  have big : ∀ {base e size m : Nat} {v : Value} {xs : List Value}, W.ownsRow (nB + 1) e size v m xs → ∀ q, v.ownBlock = some q → ¬ q = nB := fun h q hq e => by have := (own_own h hq).1; omega
  refine ⟨?_, own_stay h.com ho (fun q hq => by have := (own_own h.com hq).1; omega), h.lne, (ho.block lB (Array.getElem?_eq_some_iff.1 h.lst).1 (by have := h.lne; omega)).trans h.lst, h.vl, own_stay h.nx ho (fun q hq => by have := (own_own h.nx hq).1; omega), fun i r L hr hL => own_stay (h.each i r L hr hL) ho (fun q hq => by have := (own_own (h.each i r L hr hL) hq).1; omega), h.far, own_stay h.out ho (fun q hq => by have := (own_own h.out hq).1; omega)⟩
  rw [heap_setCell_at h.num, rowOf_set]
  congr 2
  unfold rowOf
  congr 2
  funext y
  split <;> rfl
/-- a state is put behind what was come to. -/
theorem Nm.addCome {W W' : World} {nB lB n g cap H t : Nat} {nu : Nat → Int} {come : List Nat} {vC vN vO : Value} {rows : List (List Nat)} {outs : List Nat} {vs : List Value} (h : Nm W nB lB n nu come vC vN vO rows outs vs) (ho : Only (fun b => vC.ownBlock = some b) W W') (h5 : W'.ownsRow (nB + 1) 3 1 (.slice (some ⟨g, 0, none⟩) (come.length + 1) cap) (come.length + 1) (natI come ++ [.int .i64 (t : Int)])) (hat : vC.ownBlock = some g ∨ g = H) (hH : W.heap.size ≤ H) : Nm W' nB lB n nu (come ++ [t]) (.slice (some ⟨g, 0, none⟩) (come.length + 1) cap) vN vO rows outs vs := by
  refine ⟨(ho.block nB (Array.getElem?_eq_some_iff.1 h.num).1 (fun hq => by have := (own_own h.com hq).1; omega)).trans h.num, ?_, h.lne, (ho.block lB (Array.getElem?_eq_some_iff.1 h.lst).1 (own_ne h.com h.lst (by decide))).trans h.lst, h.vl, own_stay h.nx ho (fun q hq => own_ne2 h.com h.nx (by decide) hq), fun i r L hr hL => own_stay (h.each i r L hr hL) ho (fun q hq => h.far r (List.mem_of_getElem? hr) q hq), fun r hr q hq e => ?_, own_stay h.out ho (fun q hq => own_ne2 h.com h.out (by decide) hq)⟩
  · rw [natI_snoc, List.length_append]
    exact h5
  · have e2 : g = q := by injection e
    subst e2
    rcases hat with h1 | h1
    · exact h.far r hr g hq h1
    · obtain ⟨L, h2⟩ := h.one hr
      have := own_lt h2 hq
      omega
/-- the ways of one state, while they are laid. -/
structure Wa (W : World) (nB wB : Nat) (vC : Value) (vs : List Value) (l : List Nat) : Prop where
  blk : Nb W wB l
  lt : nB < wB
  far : vC.ownBlock ≠ some wB
  fr : ∀ r ∈ vs, r.ownBlock ≠ some wB
theorem Wa.setNum {W : World} {nB wB : Nat} {vC : Value} {vs : List Value} {l : List Nat} (h : Wa W nB wB vC vs l) (x : Nat) (v : Value) : Wa (W.setCell ⟨nB, x, none⟩ v) nB wB vC vs l := ⟨h.blk.off (by have := h.lt; omega) _ _, h.lt, h.far, h.fr⟩
theorem Wa.addCome {W W' : World} {nB wB g m cap H : Nat} {vC : Value} {vs : List Value} {l : List Nat} (h : Wa W nB wB vC vs l) (ho : Only (fun b => vC.ownBlock = some b) W W') (hat : vC.ownBlock = some g ∨ g = H) (hH : W.heap.size ≤ H) : Wa W' nB wB (.slice (some ⟨g, 0, none⟩) m cap) vs l := by
  refine ⟨h.blk.only ho h.far, h.lt, fun e => ?_, h.fr⟩
  have e2 : g = wB := by injection e
  subst e2
  rcases hat with h1 | h1
  · exact h.far h1
  · have := h.blk.lt
    omega
theorem Wa.idle {W W' : World} {nB wB : Nat} {vC : Value} {vs : List Value} {l : List Nat} (h : Wa W nB wB vC vs l) (ho : Only (fun _ => False) W W') : Wa W' nB wB vC vs l := ⟨h.blk.only ho (fun h => h), h.lt, h.far, h.fr⟩
theorem Wa.set {W : World} {nB wB : Nat} {vC : Value} {vs : List Value} {l : List Nat} (h : Wa W nB wB vC vs l) (c j : Nat) : Wa (W.setCell ⟨wB, c, none⟩ (.int .i64 (j : Int))) nB wB vC vs (l.set c j) := ⟨h.blk.set c j, h.lt, h.far, h.fr⟩
theorem Nm.setWay {W : World} {nB lB n wB : Nat} {nu : Nat → Int} {come l : List Nat} {vC vN vO : Value} {rows : List (List Nat)} {outs : List Nat} {vs : List Value} (h : Nm W nB lB n nu come vC vN vO rows outs vs) (hw : Wa W nB wB vC vs l) (c : Nat) (v : Value) : Nm (W.setCell ⟨wB, c, none⟩ v) nB lB n nu come vC vN vO rows outs vs := by
  have ho : Only (fun b => b = wB) W (W.setCell ⟨wB, c, none⟩ v) := (Only.refl (fun b => b = wB) W).setCell (p := ⟨wB, c, none⟩) rfl _
  refine h.keep ho (by have := hw.lt; omega) (fun q hq e => hw.far (e ▸ hq)) (fun e => ?_) (fun q hq e => own_ne h.nx hw.blk (by decide) (e ▸ hq)) (fun r hr q hq e => hw.fr r hr (e ▸ hq)) (fun q hq e => own_ne h.out hw.blk (by decide) (e ▸ hq))
  have h1 := h.lst
  have h2 := hw.blk
  unfold Nb at h2
  rw [e, h2] at h1
  injection h1 with h1
  injection h1 with _ h1
  cases h1
/-- the ways are put behind those of the states ahead. -/
theorem Nm.addRow {W W' : World} {nB lB n g cap : Nat} {nu : Nat → Int} {come F : List Nat} {vC vN vO vW : Value} {rows : List (List Nat)} {outs : List Nat} {vs : List Value} (h : Nm W nB lB n nu come vC vN vO rows outs vs) (hv : W.ownsRow (nB + 1) 3 1 vW F.length (natI F)) (hf : ∀ q, vW.ownBlock = some q → vC.ownBlock ≠ some q) (ho : Only (fun b => vN.ownBlock = some b) W W') (h5 : W'.ownsRow (nB + 1) 23 1 (.slice (some ⟨g, 0, none⟩) (rows.length + 1) cap) (rows.length + 1) (vs ++ [vW])) : Nm (W'.setCell ⟨lB, 0, none⟩ (.slice (some ⟨g, 0, none⟩) (rows.length + 1) cap)) nB lB n nu come vC (.slice (some ⟨g, 0, none⟩) (rows.length + 1) cap) vO (rows ++ [F]) outs (vs ++ [vW]) := by
  have hl' : W'.heap[lB]? = some (.cells #[vN, vO] 27 (0, 0)) := (ho.block lB (Array.getElem?_eq_some_iff.1 h.lst).1 (own_ne h.nx h.lst (by decide))).trans h.lst
  have o2 : Only (fun b => vN.ownBlock = some b ∨ b = lB) W (W'.setCell ⟨lB, 0, none⟩ (.slice (some ⟨g, 0, none⟩) (rows.length + 1) cap)) := (ho.mono (S' := fun b => vN.ownBlock = some b ∨ b = lB) (fun b hb => Or.inl hb)).setCell (p := ⟨lB, 0, none⟩) (Or.inr rfl) _
  have o3 : Only (fun b => b = lB) W' (W'.setCell ⟨lB, 0, none⟩ (.slice (some ⟨g, 0, none⟩) (rows.length + 1) cap)) := (Only.refl (fun b => b = lB) W').setCell (p := ⟨lB, 0, none⟩) rfl _
  have stay : ∀ {m : Nat} {v : Value} {xs : List Value}, W.ownsRow (nB + 1) 3 1 v m xs → (W'.setCell ⟨lB, 0, none⟩ (.slice (some ⟨g, 0, none⟩) (rows.length + 1) cap)).ownsRow (nB + 1) 3 1 v m xs := fun hv => own_stay hv o2 (fun q hq e => by
    rcases e with e | e
    · exact own_ne2 hv h.nx (by decide) e hq
    · subst e; exact own_ne hv h.lst (by decide) hq)
  refine ⟨(o2.block nB (Array.getElem?_eq_some_iff.1 h.num).1 (fun e => ?_)).trans h.num, stay h.com, h.lne, ?_, by simp [h.vl], ?_, fun i r L hr hL => ?_, fun r hr q hq => ?_, ?_⟩
  · rcases e with e | e
    · exact own_ne h.nx h.num (by decide) e
    · have := h.lne; omega
  · rw [heap_setCell_at hl']
    rfl
  · rw [List.length_append]
    exact own_stay h5 o3 (fun q hq e => by subst e; exact own_ne h5 hl' (by decide) hq)
  · rcases snocV_at hr with h1 | ⟨h1, h2⟩
    · have hi := (List.getElem?_eq_some_iff.1 h1).1
      rw [List.getElem?_append_left (by rw [← h.vl]; exact hi)] at hL
      exact stay (h.each i r L h1 hL)
    · rw [h1, h.vl, List.getElem?_append_right (Nat.le_refl _), Nat.sub_self] at hL
      injection hL with hL
      subst hL
      subst h2
      exact stay hv
  · rcases List.mem_append.1 hr with h1 | h1
    · exact h.far r h1 q hq
    · rw [List.mem_singleton] at h1
      subst h1
      exact hf q hq
  · exact own_stay h.out o2 (fun q hq e => by
      rcases e with e | e
      · exact own_ne2 h.out h.nx (by decide) e hq
      · subst e; exact own_ne h.out h.lst (by decide) hq)
theorem Wa.own {W : World} {nB wB : Nat} {vC : Value} {vs : List Value} {F : List Nat} (h : Wa W nB wB vC vs F) (hF : F.length ≤ maxLen) : W.ownsRow (nB + 1) 3 1 (.slice (some ⟨wB, 0, none⟩) F.length F.length) F.length (natI F) := by
  refine ⟨by rw [natI_len]; omega, Or.inr ⟨wB, F.length, nums F, rfl, h.lt, h.blk, Nat.le_refl _, hF, by rw [nums_size, Nat.mul_one], ?_⟩⟩
  rw [nums_list, Nat.mul_one, List.take_of_length_le (by rw [natI_len]; exact Nat.le_refl _)]
theorem Wa.ne {W : World} {nB wB m c : Nat} {vC : Value} {vs : List Value} {F : List Nat} (h : Wa W nB wB vC vs F) : ∀ q, (Value.slice (some ⟨wB, 0, none⟩) m c).ownBlock = some q → vC.ownBlock ≠ some q := fun q hq => by
  have e2 : wB = q := by injection hq
  subst e2
  exact h.far
/-- what a state tells is put behind what those ahead tell. -/
theorem Nm.addOut {W W' : World} {nB lB n g cap o : Nat} {nu : Nat → Int} {come : List Nat} {vC vN vO : Value} {rows : List (List Nat)} {outs : List Nat} {vs : List Value} (h : Nm W nB lB n nu come vC vN vO rows outs vs) (ho : Only (fun b => vO.ownBlock = some b) W W') (h5 : W'.ownsRow (nB + 1) 38 1 (.slice (some ⟨g, 0, none⟩) (outs.length + 1) cap) (outs.length + 1) (outs.map u32V ++ [u32V o])) : Nm (W'.setCell ⟨lB, 1, none⟩ (.slice (some ⟨g, 0, none⟩) (outs.length + 1) cap)) nB lB n nu come vC vN (.slice (some ⟨g, 0, none⟩) (outs.length + 1) cap) rows (outs ++ [o]) vs := by
  have hl' : W'.heap[lB]? = some (.cells #[vN, vO] 27 (0, 0)) := (ho.block lB (Array.getElem?_eq_some_iff.1 h.lst).1 (own_ne h.out h.lst (by decide))).trans h.lst
  have o2 : Only (fun b => vO.ownBlock = some b ∨ b = lB) W (W'.setCell ⟨lB, 1, none⟩ (.slice (some ⟨g, 0, none⟩) (outs.length + 1) cap)) := (ho.mono (S' := fun b => vO.ownBlock = some b ∨ b = lB) (fun b hb => Or.inl hb)).setCell (p := ⟨lB, 1, none⟩) (Or.inr rfl) _
  have o3 : Only (fun b => b = lB) W' (W'.setCell ⟨lB, 1, none⟩ (.slice (some ⟨g, 0, none⟩) (outs.length + 1) cap)) := (Only.refl (fun b => b = lB) W').setCell (p := ⟨lB, 1, none⟩) rfl _
  have stay : ∀ {e m : Nat} {v : Value} {xs : List Value}, e ≠ 38 → e ≠ 27 → W.ownsRow (nB + 1) e 1 v m xs → (W'.setCell ⟨lB, 1, none⟩ (.slice (some ⟨g, 0, none⟩) (outs.length + 1) cap)).ownsRow (nB + 1) e 1 v m xs := fun h1 h2 hv => own_stay hv o2 (fun q hq e => by
    rcases e with e | e
    · exact own_ne2 hv h.out (fun e => h1 e.symm) e hq
    · subst e; exact own_ne hv h.lst (fun e => h2 e.symm) hq)
  refine ⟨(o2.block nB (Array.getElem?_eq_some_iff.1 h.num).1 (fun e => ?_)).trans h.num, stay (by decide) (by decide) h.com, h.lne, ?_, h.vl, stay (by decide) (by decide) h.nx, fun i r L hr hL => stay (by decide) (by decide) (h.each i r L hr hL), h.far, ?_⟩
  · rcases e with e | e
    · exact own_ne h.out h.num (by decide) e
    · have := h.lne; omega
  · rw [heap_setCell_at hl']
    rfl
  · rw [List.length_append, List.map_append]
    exact own_stay h5 o3 (fun q hq e => by subst e; exact own_ne h5 hl' (by decide) hq)
end Go.Proofs.Ytelifjeppegcmaa
