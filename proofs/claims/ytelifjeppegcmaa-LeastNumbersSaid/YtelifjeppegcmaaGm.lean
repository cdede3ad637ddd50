/-
  An automaton that is made state by state, in memory; lists that came in.
-/
import Derived.Test.YtelifjeppegcmaaWv
import Derived.Test.YtelifjeppegcmaaMk
import Derived.Test.YtelifjeppegcmaaChk
import Derived.Test.YtelifjeppegcmaaLw0
namespace Go.Proofs.Ytelifjeppegcmaa
open Go.RowKit Go.Maps
set_option linter.unusedVariables false
set_option linter.unusedSimpArgs false
structure Gm (W : World) (B lB : Nat) (vN vO : Value) (rows : List (List Nat)) (outs : List Nat) (vs : List Value) : Prop where
  lst : W.heap[lB]? = some (.cells #[vN, vO] 27 (0, 0))
  vl : vs.length = rows.length
  nx : W.ownsRow B 23 1 vN rows.length vs
  each : ∀ (i : Nat) (r : Value) (L : List Nat), vs[i]? = some r → rows[i]? = some L → W.ownsRow B 3 1 r L.length (natI L)
  out : W.ownsRow B 38 1 vO outs.length (outs.map u32V)
theorem Gm.one {W : World} {B lB : Nat} {vN vO : Value} {rows : List (List Nat)} {outs : List Nat} {vs : List Value} (h : Gm W B lB vN vO rows outs vs) {r : Value} (hr : r ∈ vs) : ∃ L : List Nat, W.ownsRow B 3 1 r L.length (natI L) := by
  obtain ⟨i, hi⟩ := List.getElem?_of_mem hr
  have hl := (List.getElem?_eq_some_iff.1 hi).1
  have e2 : rows[i]? = some (rows[i]'(by rw [← h.vl]; exact hl)) := List.getElem?_eq_getElem _
  exact ⟨_, h.each _ r _ hi e2⟩
theorem Gm.keep {S : Nat → Prop} {W W' : World} {B lB : Nat} {vN vO : Value} {rows : List (List Nat)} {outs : List Nat} {vs : List Value} (h : Gm W B lB vN vO rows outs vs) (ho : Only S W W') (h3 : ¬ S lB) (h4 : ∀ q, vN.ownBlock = some q → ¬ S q) (h5 : ∀ r ∈ vs, ∀ q, r.ownBlock = some q → ¬ S q) (h6 : ∀ q, vO.ownBlock = some q → ¬ S q) : Gm W' B lB vN vO rows outs vs :=
  ⟨(ho.block lB (Array.getElem?_eq_some_iff.1 h.lst).1 h3).trans h.lst, h.vl, own_stay h.nx ho h4, fun i r L hr hL => own_stay (h.each i r L hr hL) ho (h5 r (List.mem_of_getElem? hr)), own_stay h.out ho h6⟩
theorem Gm.idle {W W' : World} {B lB : Nat} {vN vO : Value} {rows : List (List Nat)} {outs : List Nat} {vs : List Value} (h : Gm W B lB vN vO rows outs vs) (ho : Only (fun _ => False) W W') : Gm W' B lB vN vO rows outs vs := h.keep ho (fun h => h) (fun _ _ h => h) (fun _ _ _ _ h => h) (fun _ _ h => h)
/-- the ways of one state, beside it. -/
structure Wg (V : World) (B : Nat) (vs : List Value) (vW : Value) (F : List Nat) : Prop where
  own : V.ownsRow B 3 1 vW F.length (natI F)
  fr : ∀ r ∈ vs, ∀ q, r.ownBlock = some q → vW.ownBlock ≠ some q
theorem Wg.idle {V V' : World} {B : Nat} {vW : Value} {vs : List Value} {F : List Nat} (h : Wg V B vs vW F) (ho : Only (fun _ => False) V V') : Wg V' B vs vW F := ⟨own_only h.own ho (fun _ _ h => h), h.fr⟩
theorem Wg.start (V : World) (B : Nat) (vs : List Value) : Wg V B vs (.slice none 0 0) [] := ⟨⟨rfl, Or.inl ⟨rfl, rfl⟩⟩, (fun r _ q _ h => by cases h)⟩
theorem Wg.add {V V' : World} {B lB g cap H j : Nat} {vN vO vW : Value} {rows : List (List Nat)} {outs : List Nat} {vs : List Value} {F : List Nat} (hN : Gm V B lB vN vO rows outs vs) (h : Wg V B vs vW F) (ho : Only (fun b => vW.ownBlock = some b) V V') (h5 : V'.ownsRow B 3 1 (.slice (some ⟨g, 0, none⟩) (F.length + 1) cap) (F.length + 1) (natI F ++ [.int .i64 (j : Int)])) (hat : vW.ownBlock = some g ∨ g = H) (hH : V.heap.size ≤ H) : Gm V' B lB vN vO rows outs vs ∧ Wg V' B vs (.slice (some ⟨g, 0, none⟩) (F.length + 1) cap) (F ++ [j]) := by
  refine ⟨hN.keep ho (own_ne h.own hN.lst (by decide)) (fun q hq e => own_ne2 h.own hN.nx (by decide) hq e) (fun r hr q hq => h.fr r hr q hq) (fun q hq e => own_ne2 h.own hN.out (by decide) hq e), ⟨?_, fun r hr q hq e => ?_⟩⟩
  · rw [natI_snoc, List.length_append]
    exact h5
  · have e2 : g = q := by injection e
    subst e2
    rcases hat with h1 | h1
    · exact h.fr r hr g hq h1
    · obtain ⟨L, hL⟩ := hN.one hr
      have := own_lt hL hq
      omega
/-- both lists one longer. -/
theorem Gm.both {Y Z : World} {B lB gA cA gB cB o : Nat} {F : List Nat} {vN vO vW : Value} {rows : List (List Nat)} {outs : List Nat} {vs : List Value} (h : Gm Y B lB vN vO rows outs vs) (hv : Y.ownsRow B 3 1 vW F.length (natI F)) (ho : Only (fun b => vN.ownBlock = some b ∨ vO.ownBlock = some b) Y Z) (h23 : Z.ownsRow B 23 1 (.slice (some ⟨gA, 0, none⟩) (rows.length + 1) cA) (rows.length + 1) (vs ++ [vW])) (h38 : Z.ownsRow B 38 1 (.slice (some ⟨gB, 0, none⟩) (outs.length + 1) cB) (outs.length + 1) (outs.map u32V ++ [u32V o])) :
    Gm ((Z.setCell ⟨lB, 0, none⟩ (.slice (some ⟨gA, 0, none⟩) (rows.length + 1) cA)).setCell ⟨lB, 1, none⟩ (.slice (some ⟨gB, 0, none⟩) (outs.length + 1) cB)) B lB (.slice (some ⟨gA, 0, none⟩) (rows.length + 1) cA) (.slice (some ⟨gB, 0, none⟩) (outs.length + 1) cB) (rows ++ [F]) (outs ++ [o]) (vs ++ [vW]) := by
  have hl' : Z.heap[lB]? = some (.cells #[vN, vO] 27 (0, 0)) := (ho.block lB (Array.getElem?_eq_some_iff.1 h.lst).1 (fun e => e.elim (own_ne h.nx h.lst (by decide)) (own_ne h.out h.lst (by decide)))).trans h.lst
  have o3 : Only (fun b => b = lB) Z ((Z.setCell ⟨lB, 0, none⟩ (.slice (some ⟨gA, 0, none⟩) (rows.length + 1) cA)).setCell ⟨lB, 1, none⟩ (.slice (some ⟨gB, 0, none⟩) (outs.length + 1) cB)) := ((Only.refl (fun b => b = lB) Z).setCell (p := ⟨lB, 0, none⟩) rfl _).setCell (p := ⟨lB, 1, none⟩) rfl _
  have stay : ∀ {m : Nat} {v : Value} {xs : List Value}, Y.ownsRow B 3 1 v m xs → ((Z.setCell ⟨lB, 0, none⟩ (.slice (some ⟨gA, 0, none⟩) (rows.length + 1) cA)).setCell ⟨lB, 1, none⟩ (.slice (some ⟨gB, 0, none⟩) (outs.length + 1) cB)).ownsRow B 3 1 v m xs := fun hw => by
    have h1 := own_stay hw ho (fun q hq e => e.elim (fun e => own_ne2 hw h.nx (by decide) e hq) (fun e => own_ne2 hw h.out (by decide) e hq))
    exact own_stay h1 o3 (fun q hq e => by subst e; exact own_ne h1 hl' (by decide) hq)
  refine ⟨?_, by simp [h.vl], ?_, fun i r L hr hL => ?_, ?_⟩
  · rw [heap_setCell_at (heap_setCell_at hl' _)]
    rfl
  · rw [List.length_append]
    exact own_stay h23 o3 (fun q hq e => by subst e; exact own_ne h23 hl' (by decide) hq)
  · rcases snocV_at hr with h1 | ⟨h1, h2⟩
    · have hi := (List.getElem?_eq_some_iff.1 h1).1
      rw [List.getElem?_append_left (by rw [← h.vl]; exact hi)] at hL
      exact stay (h.each i r L h1 hL)
    · rw [h1, h.vl, List.getElem?_append_right (Nat.le_refl _), Nat.sub_self] at hL
      injection hL with hL
      subst hL
      subst h2
      exact stay hv
  · rw [List.length_append, List.map_append]
    exact own_stay h38 o3 (fun q hq e => by subst e; exact own_ne h38 hl' (by decide) hq)
theorem Gm.ra {W W' : World} {S : Nat → Prop} {B lB : Nat} {vN vO : Value} {rows : List (List Nat)} {outs : List Nat} {vs : List Value} (h : Gm W B lB vN vO rows outs vs) (ho : Only S W W') (hS : ∀ b, S b → ∃ cs, W.heap[b]? = some (.cells cs 27 (0, 0))) : Ra W' B (.agg #[vN, vO]) rows outs := by
  have st : ∀ {e m : Nat} {v : Value} {xs : List Value}, W.ownsRow B e 1 v m xs → e ≠ 27 → W'.ownsRow B e 1 v m xs := fun hw he => own_stay hw ho (fun q hq hs => by
    obtain ⟨cs, hc⟩ := hS q hs
    exact own_ne hw hc (fun e => he e.symm) hq)
  exact ⟨vN, vO, vs, rfl, h.vl, by rw [h.vl]; exact st h.nx (by decide), fun i r L hr hL => st (h.each i r L hr hL) (by decide), st h.out (by decide)⟩
/-- a row keeps while a row of another kind grows. -/
theorem own_grow2 {W w' : World} {base e s n base' e' s' n' : Nat} {v v' : Value} {xs xs' : List Value} (h' : W.ownsRow base' e' s' v' n' xs') (h : W.ownsRow base e s v n xs) (hg : W.grownBy w' v.ownBlock) (hne : e' ≠ e) : w'.ownsRow base' e' s' v' n' xs' := by
  have ho : Only (fun b => v.ownBlock = some b) W w' := (Only.refl (fun b => v.ownBlock = some b) W).grown hg (fun k hk => hk)
  exact own_stay h' ho (fun q hq => own_ne2 h h' hne hq)
theorem blk_grow {W w' : World} {base e s n b : Nat} {v : Value} {xs : List Value} {cs : Array Value} {t : TypeId} (hb : W.heap[b]? = some (.cells cs t (0, 0))) (h : W.ownsRow base e s v n xs) (hg : W.grownBy w' v.ownBlock) (hne : v.ownBlock ≠ some b) : w'.heap[b]? = some (.cells cs t (0, 0)) := by
  have ho : Only (fun b => v.ownBlock = some b) W w' := (Only.refl (fun b => v.ownBlock = some b) W).grown hg (fun k hk => hk)
  exact (ho.block b (Array.getElem?_eq_some_iff.1 hb).1 hne).trans hb
/-- a list of Outs that came in. -/
def Uw (w : World) (a : Option Addr) (n : Nat) (L : List Nat) : Prop := L.length = n ∧ ∃ b off, (0 < n → a = some ⟨b, off, none⟩ ∧ b < w.heap.size) ∧ ∀ (j x : Nat), L[j]? = some x → w.cell? ⟨b, off + j, none⟩ = some (.int .u32 (x : Int)) ∧ x < 4294967296
/-- an automaton of one's own as one that is handed in. -/
theorem Ra.nxt {W : World} {lo k : Nat} {v : Value} {rows : List (List Nat)} {outs : List Nat} (h : Ra W lo v rows outs) (hk : Hm.Ok rows outs k) : ∃ bn cN bo co, v = .agg #[.slice (some ⟨bn, 0, none⟩) rows.length cN, .slice (some ⟨bo, 0, none⟩) rows.length co] ∧ Nxt W rows.length k bn 0 (Hm.dR rows) ∧ (∀ s, s < rows.length → W.cell? ⟨bo, 0 + s, none⟩ = some (.int .u32 (Hm.oR outs s : Int))) := by
  obtain ⟨vX, vO, rws, rfl, h2, h3, h4, h5⟩ := h
  have hp := hk.pos
  obtain ⟨bn, cN, e1, _, _, _, h3c⟩ := row_form h3 (by omega)
  obtain ⟨bo, co, e2, _, _, _, h5c⟩ := row_form h5 (by rw [hk.olen]; omega)
  refine ⟨bn, cN, bo, co, by rw [e1, e2, h2, hk.olen], fun s hs => ?_, fun s hs => ?_⟩
  · have er : rws[s]? = some (rws[s]'(by omega)) := List.getElem?_eq_getElem _
    have eL : rows[s]? = some (rows[s]'hs) := List.getElem?_eq_getElem hs
    have ho := h4 s _ _ er eL
    obtain ⟨a, c, ev⟩ := own_form ho
    have hl := hk.rlen s _ eL
    rw [hl] at ho ev
    refine ⟨a, c, ?_, fun kk hkk => ?_⟩
    · rw [Nat.zero_add, h3c s (by omega), er, ev]
    · obtain ⟨g, cap, e3, _, _, _, hcc⟩ := row_form ho (by omega)
      rw [ev] at e3
      injection e3 with e3
      obtain ⟨row, x, q1, q2, q3, q4⟩ := hk.d hs hkk
      rw [eL] at q1
      injection q1 with q1
      refine ⟨g, 0, e3, ?_, by rw [q3]; exact q4⟩
      rw [Nat.zero_add, hcc kk (by omega), q3]
      unfold natI
      rw [List.getElem?_map, q1, q2]
      rfl
  · rw [Nat.zero_add, h5c s (by rw [hk.olen]; omega), List.getElem?_map, hk.o hs]
    rfl
/-- least.Make of an automaton of one's own. -/
theorem make_ra (lo k : Nat) (v : Value) (rows : List (List Nat)) (outs : List Nat) (w : World) (h : Ra w lo v rows outs) (hk : Hm.Ok rows outs k) (hn : rows.length ≤ 100000) (hc : k ≤ 100000) : Calls Try.prog 12 #[v] w (mkP rows.length k (Hm.dR rows) (Hm.oR outs) w) := by
  obtain ⟨bn, cN, bo, co, rfl, h1, h2⟩ := h.nxt hk
  exact make_any rows.length k bn 0 cN bo 0 co (Hm.dR rows) (Hm.oR outs) w hk.pos hn hc h1 h2
end Go.Proofs.Ytelifjeppegcmaa
