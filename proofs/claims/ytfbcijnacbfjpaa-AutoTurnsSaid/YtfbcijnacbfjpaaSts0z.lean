/-
  What is found so far, in memory: states, their numbers, their ways, what they tell.
-/
import Derived.Test.YtfbcijnacbfjpaaPrt1z
import Derived.OwnWalk
import Derived.Test.YtfbcijnacbfjpaaMchz
import Derived.Maps.AppendAt
import Derived.Deep.CutRange
import Derived.Great.Ranges
namespace Go.Proofs.Ytfbcijnacbfjpaa
open Go.RowKit Go.Maps
set_option linter.unusedVariables false
set_option linter.unusedSimpArgs false
/-- the map tells the states' numbers. -/
def KDs (D : DataW Unit) (B : List Nat) : Prop := ∀ S, S < 2 ^ 256 → D.atKey (kc Try.prog S) (.lit (.int .i64 0)) = .lit (.int .i64 (if S ∈ B then (B.idxOf S : Int) else 0)) ∧ Maps.has D (kc Try.prog S) = decide (S ∈ B)
set_option maxRecDepth 100000 in
theorem kds_put {D : DataW Unit} {B : List Nat} {S : Nat} (hm : IsMap D) (h : KDs D B) (hS : S < 2 ^ 256) (hn : S ∉ B) : KDs (D.put (kc Try.prog S) (.lit (.int .i64 (B.length : Int)))) (B ++ [S]) := by
  intro T hT
  have hk : WideAt.IsKeyLit (kc Try.prog S) := law73.key (kc_key S)
  by_cases e : T = S
  · subst e
    refine ⟨?_, ?_⟩
    · rw [atKey_put_same hm hk, if_pos (by simp), List.idxOf_append, if_neg hn]
      simp
    · rw [has_put_same hm hk]
      simp
  · have hne : kc Try.prog T ≠ kc Try.prog S := fun h' => e (kc_inj hT hS h')
    refine ⟨?_, ?_⟩
    · rw [atKey_put_other hne, (h T hT).1]
      by_cases hB : T ∈ B
      · rw [if_pos hB, if_pos (by simp [hB]), List.idxOf_append, if_pos hB]
      · rw [if_neg hB, if_neg (by simp [hB, e])]
    · rw [has_put_other hne, (h T hT).2]
      simp [e]
theorem wpList_insert_own {H : Type} {P : Program} (w : World) {ops : Array Oper} {rest : List Oper} {o : Oper} {a : Act} {Q : Exit → Act → World → Prop}
    (hg : o.guard = none) (m x v : Operand) (t : TypeId) (hop : o.op = Op.insert t m x v)
    (k e : TypeId) (K : Keyed P k) (ht : P.underlying t = some (.map k e)) (R : Value → Option (DataW H × List MemPlace)) (b n : Nat) (D : DataW H)
    (hm : a.eval m = .map (some b)) (hown : w.ownsMap P k R b n D) (hn : n < maxLen) (key val : Value) (kl : Lit) (hx : a.eval x = key) (hv : a.eval v = val) (hkey : keyOf P k key = some kl)
    (d : DataW H) (ps : List MemPlace) (hval : R val = some (d, ps))
    (hK : ∀ w', w'.ownsMap P k R b (n + 1) (D.put kl d) → w.grownBy w' (some b) → wpList P ops Q rest (a.put o.dst undef) w') :
    wpList P ops Q (o :: rest) a w := by
  refine wpList_plain hg fun K' hK' => ?_
  obtain ⟨w', hrun, r1, r2⟩ := hown.update K ht hn hkey hval
  unfold Oper.wp
  simp [execOp, hop, hm, hx, hv, hrun, Result.andThen]
  exact hK' _ _ (hK w' r1 r2)
/-- a state's ways as cells, as far as they are known. -/
def wcs (L : List Nat) (cl : Nat) : Array Value := Array.ofFn (n := cl) fun j => .int .i64 ((L[j.val]?.getD 0 : Nat) : Int)
theorem wcs_size (L : List Nat) (cl : Nat) : (wcs L cl).size = cl := by simp [wcs]
theorem wcs_at (L : List Nat) (cl j : Nat) (h : j < cl) : (wcs L cl)[j]? = some (.int .i64 ((L[j]?.getD 0 : Nat) : Int)) := by
  rw [Array.getElem?_eq_getElem (by rw [wcs_size]; exact h)]
  simp [wcs]
theorem wcs_set (L : List Nat) (cl t : Nat) (h : L.length < cl) : (wcs L cl).setIfInBounds L.length (.int .i64 (t : Int)) = wcs (L ++ [t]) cl := by
  apply Array.ext_getElem?
  intro j
  rw [Array.getElem?_setIfInBounds, wcs_size]
  by_cases hj : j < cl
  · rw [wcs_at _ _ _ hj, wcs_at _ _ _ hj]
    by_cases e : L.length = j
    · subst e
      rw [if_pos rfl, if_pos hj]
      simp
    · rw [if_neg e]
      by_cases h1 : j < L.length
      · rw [List.getElem?_append_left h1]
      · rw [List.getElem?_eq_none (by omega), List.getElem?_eq_none (by simp; omega)]
  · rw [if_neg (by omega), Array.getElem?_eq_none (by rw [wcs_size]; omega), Array.getElem?_eq_none (by rw [wcs_size]; omega)]
theorem made_wcs {w : World} {base g cl : Nat} (h : w.ownsRow base 3 1 (.slice (some ⟨g, 0, none⟩) cl cl) cl (madeCells (Value.int .i64 0).cells (cl * 1)).toList) : base ≤ g ∧ w.heap[g]? = some (.cells (wcs [] cl) 3 (0, 0)) := by
  obtain ⟨_, ⟨hv, _⟩ | ⟨g', cap, cur, hv, h1, h2, h3, h4, h5, h6⟩⟩ := h
  · cases hv
  · injection hv with e1 e2 e3
    injection e1 with e1
    injection e1 with e1
    subst e1 e3
    refine ⟨h1, ?_⟩
    rw [h2]
    congr 2
    rw [List.take_of_length_le (by rw [Array.length_toList]; omega)] at h6
    apply Array.ext_getElem?
    intro j
    have e : cur[j]? = (madeCells (Value.int .i64 0).cells (cl * 1))[j]? := by rw [← Array.getElem?_toList, h6, Array.getElem?_toList]
    rw [e, Nat.mul_one]
    by_cases hj : j < cl
    · rw [wcs_at _ _ _ hj]
      unfold madeCells
      rw [Array.getElem?_map, Array.getElem?_range, if_pos hj]
      show some ((Value.int .i64 0).cells[j % (Value.int .i64 0).cells.size]!) = _
      have e1 : (Value.int .i64 0).cells.size = 1 := rfl
      rw [e1, Nat.mod_one]
      rfl
    · rw [Array.getElem?_eq_none (by rw [size_madeCells]; omega), Array.getElem?_eq_none (by rw [wcs_size]; omega)]
def rowV (cl : Nat) (r : Nat × List Nat) : Value := .slice (some ⟨r.1, 0, none⟩) cl cl
def u32V (n : Nat) : Value := .int .u32 (n : Int)
def RowsOk (W : World) (lo cl : Nat) (rows : List (Nat × List Nat)) : Prop := ∀ r ∈ rows, lo ≤ r.1 ∧ W.heap[r.1]? = some (.cells (wcs r.2 cl) 3 (0, 0)) ∧ r.2.length = cl
/-- what holds at the head of the loop over the states. -/
structure Ost (w W : World) (g cl : Nat) (p : Au.Pl) (fs : Nat) (vL : Value) (em : Nat) (Ls found : List Nat) (fv : Value) (rows : List (Nat × List Nat)) (o : List Nat) (vN vO : Value) : Prop where
  pl : Plm W g cl p fs vL em
  gl : g < w.heap.size
  lw : Lw W (fun b => b < w.heap.size) vL Ls
  mp : ∃ D : DataW Unit, W.ownsMap Try.prog 73 (plainElem Try.prog 3) (w.heap.size + 1 + 1) found.length D ∧ KDs D found
  fd : W.ownsRow (w.heap.size + 1 + 1 + 1) 73 4 fv found.length (flS found)
  rb : W.heap[w.heap.size]? = some (.cells #[.slice none 0 0, .slice none 0 0] 33 (0, 0))
  ab : W.heap[w.heap.size + 1]? = some (.cells #[vN, vO] 33 (0, 0))
  nx : W.ownsRow (w.heap.size + 1 + 1 + 1) 43 1 vN rows.length (rows.map (rowV cl))
  ot : W.ownsRow (w.heap.size + 1 + 1 + 1) 47 1 vO o.length (o.map u32V)
  ro : RowsOk W (w.heap.size + 1 + 1 + 1) cl rows
  on : Only (fun h => w.heap.size ≤ h) w W
theorem ownsMap_only {W W' : World} {k : TypeId} {R : Value → Option (DataW Unit × List MemPlace)} {b n : Nat} {D : DataW Unit} {P : Nat → Prop} (h : W.ownsMap Try.prog k R b n D) (ho : Only P W W') (hn : ¬ P b) : W'.ownsMap Try.prog k R b n D := by
  unfold World.ownsMap at h ⊢
  obtain ⟨es, c, h1, h2⟩ := h
  exact ⟨es, c, (ho.block b (Array.getElem?_eq_some_iff.1 h1).1 hn).trans h1, h2⟩
theorem own_ne {W : World} {base e size n : Nat} {v : Value} {xs : List Value} (h : W.ownsRow base e size v n xs) {q : Nat} {cs : Array Value} {t : TypeId} {z : Nat × Nat} (hq : W.heap[q]? = some (.cells cs t z)) (ht : t ≠ e) : v.ownBlock ≠ some q := fun hv => own_notag h t ht q hv cs z hq
theorem own_keep {W W' : World} {base e size n : Nat} {v : Value} {xs : List Value} {P : Nat → Prop} (h : W.ownsRow base e size v n xs) (ho : Only P W W') (hP : ∀ q, v.ownBlock = some q → ¬ P q) : W'.ownsRow base e size v n xs := by
  obtain ⟨hl, h | ⟨g, cap, cur, hv, hb, hh, h1, h2, h3, h4⟩⟩ := h
  · exact ⟨hl, Or.inl h⟩
  · refine ⟨hl, Or.inr ⟨g, cap, cur, hv, hb, ?_, h1, h2, h3, h4⟩⟩
    rw [ho.block g (Array.getElem?_eq_some_iff.1 hh).1 (hP g (by rw [hv]; rfl))]
    exact hh
/-- what was turned is none of these. -/
theorem Ost.keep {w W W' : World} {g cl : Nat} {p : Au.Pl} {fs : Nat} {vL : Value} {em : Nat} {Ls found : List Nat} {fv : Value} {rows : List (Nat × List Nat)} {o : List Nat} {vN vO : Value} (h : Ost w W g cl p fs vL em Ls found fv rows o vN vO) {P : Nat → Prop} (ho : Only P W W')
    (h1 : ∀ b, P b → w.heap.size + 1 + 1 + 1 ≤ b) (h2 : ∀ q, fv.ownBlock = some q → ¬ P q) (h3 : ∀ q, vN.ownBlock = some q → ¬ P q) (h4 : ∀ q, vO.ownBlock = some q → ¬ P q) (h5 : ∀ r ∈ rows, ¬ P r.1) : Ost w W' g cl p fs vL em Ls found fv rows o vN vO := by
  obtain ⟨a1, a2, a3, ⟨D, a4, a5⟩, a6, a7, a8, a9, a10, a11, a12⟩ := h
  have hlow : ∀ b, b < w.heap.size + 1 + 1 + 1 → ¬ P b := fun b hb hp => by have := h1 b hp; omega
  refine ⟨a1.only ho (hlow _ (by omega)), a2, a3.only ho (fun b hb => hlow b (by omega)), ⟨D, ownsMap_only a4 ho (hlow _ (by omega)), a5⟩, own_keep a6 ho h2, ?_, ?_, own_keep a9 ho h3, own_keep a10 ho h4, ?_, a12.trans (ho.mono (fun b hb => by have := h1 b hb; omega))⟩
  · exact (ho.block _ (Array.getElem?_eq_some_iff.1 a7).1 (hlow _ (by omega))).trans a7
  · exact (ho.block _ (Array.getElem?_eq_some_iff.1 a8).1 (hlow _ (by omega))).trans a8
  · intro r hr
    obtain ⟨b1, b2, b3⟩ := a11 r hr
    exact ⟨b1, (ho.block _ (Array.getElem?_eq_some_iff.1 b2).1 (h5 r hr)).trans b2, b3⟩
theorem Ost.only0 {w W W' : World} {g cl : Nat} {p : Au.Pl} {fs : Nat} {vL : Value} {em : Nat} {Ls found : List Nat} {fv : Value} {rows : List (Nat × List Nat)} {o : List Nat} {vN vO : Value} (h : Ost w W g cl p fs vL em Ls found fv rows o vN vO) (ho : Only (fun _ => False) W W') : Ost w W' g cl p fs vL em Ls found fv rows o vN vO :=
  h.keep ho (fun _ h => h.elim) (fun _ _ h => h) (fun _ _ h => h) (fun _ _ h => h) (fun _ _ h => h)
/-- a block of whole numbers that is no state's ways. -/
theorem Ost.ways {w W W' : World} {g cl : Nat} {p : Au.Pl} {fs : Nat} {vL : Value} {em : Nat} {Ls found : List Nat} {fv : Value} {rows : List (Nat × List Nat)} {o : List Nat} {vN vO : Value} (h : Ost w W g cl p fs vL em Ls found fv rows o vN vO) {q : Nat} {cs : Array Value} {t : TypeId} (hq : W.heap[q]? = some (.cells cs t (0, 0))) (ht1 : t ≠ 73) (ht2 : t ≠ 43) (ht3 : t ≠ 47) (hr : ∀ r ∈ rows, r.1 ≠ q) (hlo : w.heap.size + 1 + 1 + 1 ≤ q) (ho : Only (· = q) W W') : Ost w W' g cl p fs vL em Ls found fv rows o vN vO :=
  h.keep ho (fun b hb => by omega) (fun b hb e => own_ne h.fd hq ht1 (by rw [hb, e])) (fun b hb e => own_ne h.nx hq ht2 (by rw [hb, e])) (fun b hb e => own_ne h.ot hq ht3 (by rw [hb, e])) (fun r hrr e => hr r hrr e)
/-- one more state: its number is known, then it is kept. -/
theorem Ost.more {w W W1 W2 : World} {g cl : Nat} {p : Au.Pl} {fs : Nat} {vL : Value} {em : Nat} {Ls found : List Nat} {fv fv' : Value} {rows : List (Nat × List Nat)} {o : List Nat} {vN vO : Value} (h : Ost w W g cl p fs vL em Ls found fv rows o vN vO) {S : Nat} (hS : S < 2 ^ 256) (hn : S ∉ found) {D : DataW Unit}
    (hK : KDs D found) (hI : IsMap D) (hm : W1.ownsMap Try.prog 73 (plainElem Try.prog 3) (w.heap.size + 1 + 1) (found.length + 1) (D.put (kc Try.prog S) (.lit (.int .i64 (found.length : Int))))) (ho1 : Only (· = w.heap.size + 1 + 1) W W1)
    (hf : W2.ownsRow (w.heap.size + 1 + 1 + 1) 73 4 fv' (found.length + 1) (flS found ++ (sC S).toList)) (ho2 : Only (fun q => fv.ownBlock = some q) W1 W2) : Ost w W2 g cl p fs vL em Ls (found ++ [S]) fv' rows o vN vO := by
  obtain ⟨a1, a2, a3, _, a6, a7, a8, a9, a10, a11, a12⟩ := h
  have hfl : ∀ q, fv.ownBlock = some q → w.heap.size + 1 + 1 + 1 ≤ q := fun q hq => (a6.lt q hq).1
  have hlow : ∀ b, b < w.heap.size + 1 + 1 + 1 → ¬ fv.ownBlock = some b := fun b hb hp => by have := hfl b hp; omega
  have el : (found ++ [S]).length = found.length + 1 := by simp
  have hO : Only (fun q => q = w.heap.size + 1 + 1 ∨ fv.ownBlock = some q) W W2 := (ho1.mono (fun _ h => Or.inl h)).trans (ho2.mono (fun _ h => Or.inr h))
  refine ⟨a1.only hO ?_, a2, a3.only hO ?_, ⟨_, ownsMap_only (by rw [el]; exact hm) ho2 (hlow _ (by omega)), kds_put hI hK hS hn⟩, by rw [el, flS_snoc]; exact hf, ?_, ?_, own_keep a9 hO ?_, own_keep a10 hO ?_, ?_, a12.trans (hO.mono ?_)⟩
  · intro e; rcases e with e | e
    · omega
    · exact hlow g (by omega) e
  · intro b hb e; rcases e with e | e
    · omega
    · exact hlow b (by omega) e
  · refine (hO.block _ (Array.getElem?_eq_some_iff.1 a7).1 ?_).trans a7
    intro e; rcases e with e | e
    · omega
    · exact hlow _ (by omega) e
  · refine (hO.block _ (Array.getElem?_eq_some_iff.1 a8).1 ?_).trans a8
    intro e; rcases e with e | e
    · omega
    · exact hlow _ (by omega) e
  · intro q hq e
    rcases e with e | e
    · have := (a9.lt q hq).1; omega
    · obtain ⟨_, ⟨hv, _⟩ | ⟨g', cap, cur, hv, _, hh, _⟩⟩ := a9
      · rw [hv] at hq; cases hq
      · rw [hv] at hq
        injection hq with hq
        simp only at hq
        subst hq
        exact own_ne a6 hh (by decide) e
  · intro q hq e
    rcases e with e | e
    · have := (a10.lt q hq).1; omega
    · obtain ⟨_, ⟨hv, _⟩ | ⟨g', cap, cur, hv, _, hh, _⟩⟩ := a10
      · rw [hv] at hq; cases hq
      · rw [hv] at hq
        injection hq with hq
        simp only at hq
        subst hq
        exact own_ne a6 hh (by decide) e
  · intro r hr
    obtain ⟨b1, b2, b3⟩ := a11 r hr
    refine ⟨b1, (hO.block _ (Array.getElem?_eq_some_iff.1 b2).1 ?_).trans b2, b3⟩
    intro e; rcases e with e | e
    · omega
    · exact own_ne a6 b2 (by decide) e
  · intro b hb
    rcases hb with e | e
    · omega
    · have := hfl b e; omega
end Go.Proofs.Ytfbcijnacbfjpaa
namespace Go.Proofs.Ytfbcijnacbfjpaa
open Go.RowKit Go.Maps
set_option linter.unusedVariables false
set_option linter.unusedSimpArgs false
theorem Ost.next {w W W2 : World} {g cl : Nat} {p : Au.Pl} {fs : Nat} {vL : Value} {em : Nat} {Ls found : List Nat} {fv v' : Value} {rows : List (Nat × List Nat)} {o : List Nat} {vN vO : Value} (h : Ost w W g cl p fs vL em Ls found fv rows o vN vO) {r : Nat × List Nat} (hr : w.heap.size + 1 + 1 + 1 ≤ r.1 ∧ W.heap[r.1]? = some (.cells (wcs r.2 cl) 3 (0, 0)) ∧ r.2.length = cl)
    (hf : W2.ownsRow (w.heap.size + 1 + 1 + 1) 43 1 v' (rows.length + 1) (rows.map (rowV cl) ++ [rowV cl r])) (ho2 : Only (fun q => vN.ownBlock = some q) W W2) : Ost w (W2.setCell ⟨w.heap.size + 1, 0, none⟩ v') g cl p fs vL em Ls found fv (rows ++ [r]) o v' vO := by
  obtain ⟨a1, a2, a3, ⟨D, a4, a5⟩, a6, a7, a8, a9, a10, a11, a12⟩ := h
  have hfl : ∀ q, vN.ownBlock = some q → w.heap.size + 1 + 1 + 1 ≤ q := fun q hq => (a9.lt q hq).1
  have hlow : ∀ b, b < w.heap.size + 1 + 1 + 1 → ¬ vN.ownBlock = some b := fun b hb hp => by have := hfl b hp; omega
  have hS : Only (· = w.heap.size + 1) W2 (W2.setCell ⟨w.heap.size + 1, 0, none⟩ v') := Only.setCell (S := (· = w.heap.size + 1)) (Only.refl _ _) (p := ⟨w.heap.size + 1, 0, none⟩) rfl v'
  have hO : Only (fun q => q = w.heap.size + 1 ∨ vN.ownBlock = some q) W (W2.setCell ⟨w.heap.size + 1, 0, none⟩ v') := (ho2.mono (fun _ h => Or.inr h)).trans (hS.mono (fun _ h => Or.inl h))
  have hn : ∀ b, b < w.heap.size + 1 + 1 + 1 → b ≠ w.heap.size + 1 → ¬ (b = w.heap.size + 1 ∨ vN.ownBlock = some b) := fun b hb hne e => e.elim hne (hlow b hb)
  refine ⟨a1.only hO (hn _ (by omega) (by omega)), a2, a3.only hO (fun b hb => hn b (by omega) (by omega)), ⟨D, ownsMap_only a4 hO (hn _ (by omega) (by omega)), a5⟩, own_keep a6 hO ?_, ?_, ?_, ?_, ?_, ?_, a12.trans (hO.mono ?_)⟩
  · have H : ∀ q, fv.ownBlock = some q → ¬ vN.ownBlock = some q := by
      intro q hq e
      obtain ⟨_, ⟨hv, _⟩ | ⟨g', cap, cur, hv, _, hh, _⟩⟩ := a6
      · rw [hv] at hq; cases hq
      · rw [hv] at hq
        injection hq with hq
        simp only at hq
        subst hq
        exact own_ne a9 hh (by decide) e
    intro q hq e
    rcases e with e | e
    · have := (a6.lt q hq).1; omega
    · exact H q hq e
  · exact (hO.block _ (Array.getElem?_eq_some_iff.1 a7).1 (hn _ (by omega) (by omega))).trans a7
  · exact heap_setCell_at ((ho2.block _ (Array.getElem?_eq_some_iff.1 a8).1 (hlow _ (by omega))).trans a8) v'
  · have e : (rows ++ [r]).length = rows.length + 1 := by simp
    rw [e, List.map_append]
    exact own_keep hf hS (fun q hq e => by have := (hf.lt q hq).1; omega)
  · have H : ∀ q, vO.ownBlock = some q → ¬ vN.ownBlock = some q := by
      intro q hq e
      obtain ⟨_, ⟨hv, _⟩ | ⟨g', cap, cur, hv, _, hh, _⟩⟩ := a10
      · rw [hv] at hq; cases hq
      · rw [hv] at hq
        injection hq with hq
        simp only at hq
        subst hq
        exact own_ne a9 hh (by decide) e
    refine own_keep a10 hO ?_
    intro q hq e
    rcases e with e | e
    · have := (a10.lt q hq).1; omega
    · exact H q hq e
  · intro r' hr'
    have hX : w.heap.size + 1 + 1 + 1 ≤ r'.1 ∧ W.heap[r'.1]? = some (.cells (wcs r'.2 cl) 3 (0, 0)) ∧ r'.2.length = cl := by
      rcases List.mem_append.1 hr' with h1 | h1
      · exact a11 r' h1
      · simp at h1
        subst h1
        exact hr
    obtain ⟨b1, b2, b3⟩ := hX
    refine ⟨b1, (hO.block _ (Array.getElem?_eq_some_iff.1 b2).1 ?_).trans b2, b3⟩
    intro e; rcases e with e | e
    · omega
    · exact own_ne a9 b2 (by decide) e
  · intro b hb
    rcases hb with e | e
    · omega
    · have := hfl b e; omega
theorem Ost.tell {w W W2 : World} {g cl : Nat} {p : Au.Pl} {fs : Nat} {vL : Value} {em : Nat} {Ls found : List Nat} {fv v' : Value} {rows : List (Nat × List Nat)} {o : List Nat} {vN vO : Value} (h : Ost w W g cl p fs vL em Ls found fv rows o vN vO) {x : Nat}
    (hf : W2.ownsRow (w.heap.size + 1 + 1 + 1) 47 1 v' (o.length + 1) (o.map u32V ++ [u32V x])) (ho2 : Only (fun q => vO.ownBlock = some q) W W2) : Ost w (W2.setCell ⟨w.heap.size + 1, 1, none⟩ v') g cl p fs vL em Ls found fv rows (o ++ [x]) vN v' := by
  obtain ⟨a1, a2, a3, ⟨D, a4, a5⟩, a6, a7, a8, a9, a10, a11, a12⟩ := h
  have hfl : ∀ q, vO.ownBlock = some q → w.heap.size + 1 + 1 + 1 ≤ q := fun q hq => (a10.lt q hq).1
  have hlow : ∀ b, b < w.heap.size + 1 + 1 + 1 → ¬ vO.ownBlock = some b := fun b hb hp => by have := hfl b hp; omega
  have hS : Only (· = w.heap.size + 1) W2 (W2.setCell ⟨w.heap.size + 1, 1, none⟩ v') := Only.setCell (S := (· = w.heap.size + 1)) (Only.refl _ _) (p := ⟨w.heap.size + 1, 1, none⟩) rfl v'
  have hO : Only (fun q => q = w.heap.size + 1 ∨ vO.ownBlock = some q) W (W2.setCell ⟨w.heap.size + 1, 1, none⟩ v') := (ho2.mono (fun _ h => Or.inr h)).trans (hS.mono (fun _ h => Or.inl h))
  have hn : ∀ b, b < w.heap.size + 1 + 1 + 1 → b ≠ w.heap.size + 1 → ¬ (b = w.heap.size + 1 ∨ vO.ownBlock = some b) := fun b hb hne e => e.elim hne (hlow b hb)
  refine ⟨a1.only hO (hn _ (by omega) (by omega)), a2, a3.only hO (fun b hb => hn b (by omega) (by omega)), ⟨D, ownsMap_only a4 hO (hn _ (by omega) (by omega)), a5⟩, own_keep a6 hO ?_, ?_, ?_, ?_, ?_, ?_, a12.trans (hO.mono ?_)⟩
  · have H : ∀ q, fv.ownBlock = some q → ¬ vO.ownBlock = some q := by
      intro q hq e
      obtain ⟨_, ⟨hv, _⟩ | ⟨g', cap, cur, hv, _, hh, _⟩⟩ := a6
      · rw [hv] at hq; cases hq
      · rw [hv] at hq
        injection hq with hq
        simp only at hq
        subst hq
        exact own_ne a10 hh (by decide) e
    intro q hq e
    rcases e with e | e
    · have := (a6.lt q hq).1; omega
    · exact H q hq e
  · exact (hO.block _ (Array.getElem?_eq_some_iff.1 a7).1 (hn _ (by omega) (by omega))).trans a7
  · exact heap_setCell_at ((ho2.block _ (Array.getElem?_eq_some_iff.1 a8).1 (hlow _ (by omega))).trans a8) v'
  · have H : ∀ q, vN.ownBlock = some q → ¬ vO.ownBlock = some q := by
      intro q hq e
      obtain ⟨_, ⟨hv, _⟩ | ⟨g', cap, cur, hv, _, hh, _⟩⟩ := a9
      · rw [hv] at hq; cases hq
      · rw [hv] at hq
        injection hq with hq
        simp only at hq
        subst hq
        exact own_ne a10 hh (by decide) e
    refine own_keep a9 hO ?_
    intro q hq e
    rcases e with e | e
    · have := (a9.lt q hq).1; omega
    · exact H q hq e
  · have e : (o ++ [x]).length = o.length + 1 := by simp
    rw [e, List.map_append]
    exact own_keep hf hS (fun q hq e => by have := (hf.lt q hq).1; omega)
  · intro r' hr'
    obtain ⟨b1, b2, b3⟩ := a11 r' hr'
    refine ⟨b1, (hO.block _ (Array.getElem?_eq_some_iff.1 b2).1 ?_).trans b2, b3⟩
    intro e; rcases e with e | e
    · omega
    · exact own_ne a10 b2 (by decide) e
  · intro b hb
    rcases hb with e | e
    · omega
    · have := hfl b e; omega
theorem fold_bit (P : Nat → Prop) [DecidablePred P] (m0 r : Nat) : ∀ k, ((List.range k).foldl (fun m i => if P i then m ||| 2 ^ i else m) m0).testBit r = (m0.testBit r || (decide (r < k) && decide (P r)))
  | 0 => by simp
  | k + 1 => by
    rw [List.range_succ, List.foldl_append]
    simp only [List.foldl_cons, List.foldl_nil]
    by_cases hP : P k
    · rw [if_pos hP, Nat.testBit_or, fold_bit P m0 r k, Nat.testBit_two_pow]
      by_cases e : k = r
      · subst e
        simp [hP]
      · have : (decide (r < k + 1)) = decide (r < k) := by simp; omega
        rw [this]
        simp [e]
    · rw [if_neg hP, fold_bit P m0 r k]
      by_cases e : k = r
      · subst e
        simp [hP]
      · have : (decide (r < k + 1)) = decide (r < k) := by simp; omega
        rw [this]
/-- the expressions that say the empty row, as bits. -/
def emK (l : List Au.Nd) : Nat := (List.range l.length).foldl (fun m i => if (l[i]?.map (·.none)).getD false = true then m ||| 2 ^ i else m) 0
theorem out_eq (l : List Au.Nd) (S : Nat) : outK (l.map (·.last)) S (emK l) l.length = Au.out l S := by
  apply Nat.eq_of_testBit_eq
  intro r
  have h1 : outK (l.map (·.last)) S (emK l) l.length = (List.range l.length).foldl (fun m i => if S &&& ((l.map (·.last))[i]?.getD 0) ≠ 0 then m ||| 2 ^ i else m) (emK l) := rfl
  have h2 : Au.out l S = (List.range l.length).foldl (fun m i => if (∃ x, l[i]? = some x ∧ (x.none = true ∨ S &&& x.last ≠ 0)) then m ||| 2 ^ i else m) 0 := by
    unfold Au.out
    congr 1
    funext m i
    cases h : l[i]? with
    | none => simp
    | some x => simp
  rw [h1, fold_bit, h2, fold_bit, emK, fold_bit]
  by_cases hr : r < l.length
  · have hl : l[r]? = some l[r] := List.getElem?_eq_getElem hr
    simp only [hl, List.getElem?_map, Option.map_some, Option.getD_some, hr, decide_true, Bool.true_and, Nat.zero_testBit, Bool.false_or]
    cases hx : l[r].none <;> simp [hx]
  · simp [hr]
theorem emK_lt (l : List Au.Nd) (h : l.length ≤ 24) : emK l < 2 ^ 24 := by
  apply Nat.lt_pow_two_of_testBit
  intro i hi
  rw [emK, fold_bit]
  simp
  omega
theorem emK_snoc (l : List Au.Nd) (x : Au.Nd) : emK (l ++ [x]) = if x.none = true then emK l ||| 2 ^ l.length else emK l := by
  apply Nat.eq_of_testBit_eq
  intro r
  rw [emK, fold_bit]
  have hE : (emK l).testBit r = (decide (r < l.length) && decide ((l[r]?.map (·.none)).getD false = true)) := by rw [emK, fold_bit]; simp
  by_cases hr : r < l.length
  · have e2 : ¬ l.length = r := by omega
    rw [List.getElem?_append_left hr]
    split
    · rw [Nat.testBit_or, hE, Nat.testBit_two_pow]
      simp [hr, e2]
      omega
    · rw [hE]
      simp [hr]
      omega
  · by_cases e : l.length = r
    · subst e
      split
      · rename_i hx
        rw [Nat.testBit_or, hE, Nat.testBit_two_pow]
        simp [hx]
      · rename_i hx
        rw [hE]
        simp [hx]
    · split
      · rw [Nat.testBit_or, hE, Nat.testBit_two_pow]
        simp [hr, e]
        omega
      · rw [hE]
        simp [hr]
        omega
end Go.Proofs.Ytfbcijnacbfjpaa
namespace Go.Proofs.Ytfbcijnacbfjpaa
open Go.RowKit Go.Maps
set_option linter.unusedVariables false
set_option linter.unusedSimpArgs false
/-- a slice of numbers holds these. -/
def Iw (w : World) (a : Option Addr) (n : Nat) (L : List Int) : Prop := L.length = n ∧ ∃ b off, (0 < n → a = some ⟨b, off, none⟩ ∧ b < w.heap.size) ∧ ∀ (j : Nat) (x : Int), L[j]? = some x → w.cell? ⟨b, off + j, none⟩ = some (.int .i64 x)
theorem Iw.keep {w w' : World} {a : Option Addr} {n : Nat} {L : List Int} (h : Iw w a n L) (ho : Only (fun _ => False) w w') : Iw w' a n L := by
  obtain ⟨hl, b, off, h1, h2⟩ := h
  refine ⟨hl, b, off, fun h0 => ⟨(h1 h0).1, Nat.lt_of_lt_of_le (h1 h0).2 ho.size⟩, fun j x hj => ?_⟩
  have h0 : 0 < n := by have := (List.getElem?_eq_some_iff.1 hj).1; omega
  exact (World.cell?_of_block (a := ⟨b, off + j, none⟩) (ho.block b (h1 h0).2 (fun h => h))).trans (h2 j x hj)
/-- a state's ways, and where they lie. -/
structure Wy where
  a : Option Addr
  n : Nat
  c : Nat
  L : List Int
def wy0 : Wy := ⟨none, 0, 0, []⟩
/-- a slice of ways holds these. -/
def Nw (w : World) (a : Option Addr) (n : Nat) (ws : List Wy) : Prop := ws.length = n ∧ ∃ b off, (0 < n → a = some ⟨b, off, none⟩ ∧ b < w.heap.size) ∧ ∀ (j : Nat) (x : Wy), ws[j]? = some x → Iw w x.a x.n x.L ∧ x.n ≤ maxLen ∧ w.cell? ⟨b, off + j, none⟩ = some (.slice x.a x.n x.c)
theorem Nw.keep {w w' : World} {a : Option Addr} {n : Nat} {ws : List Wy} (h : Nw w a n ws) (ho : Only (fun _ => False) w w') : Nw w' a n ws := by
  obtain ⟨hl, b, off, h1, h2⟩ := h
  refine ⟨hl, b, off, fun h0 => ⟨(h1 h0).1, Nat.lt_of_lt_of_le (h1 h0).2 ho.size⟩, fun j x hj => ?_⟩
  have h0 : 0 < n := by have := (List.getElem?_eq_some_iff.1 hj).1; omega
  obtain ⟨k1, k2, k3⟩ := h2 j x hj
  exact ⟨k1.keep ho, k2, (World.cell?_of_block (a := ⟨b, off + j, none⟩) (ho.block b (h1 h0).2 (fun h => h))).trans k3⟩
def wy (ws : List Wy) (s : Int) : Wy := if 0 ≤ s then ws[s.toNat]?.getD wy0 else wy0
def run (ws : List Wy) : Int → List Int → List Int
  | _, [] => []
  | s, c :: cs => if 0 ≤ c ∧ c < ((wy ws s).n : Int) then (wy ws s).L[c.toNat]?.getD 0 :: run ws ((wy ws s).L[c.toNat]?.getD 0) cs else []
def autV (aN : Option Addr) (nN cN : Nat) (aO : Option Addr) (nO cO : Nat) : Value := .agg #[.slice aN nN cN, .slice aO nO cO]
theorem Nw.wy {w : World} {a : Option Addr} {n : Nat} {ws : List Wy} (h : Nw w a n ws) (s : Int) : Iw w (wy ws s).a (wy ws s).n (wy ws s).L ∧ (wy ws s).n ≤ maxLen := by
  have h0 : Iw w wy0.a wy0.n wy0.L ∧ wy0.n ≤ maxLen := ⟨⟨rfl, 0, 0, fun h => absurd h (by decide), fun j x hj => by simp [wy0] at hj⟩, Nat.zero_le _⟩
  unfold Ytfbcijnacbfjpaa.wy
  split
  · cases hx : ws[s.toNat]? with
    | none => exact h0
    | some x =>
      obtain ⟨_, b, off, _, h2⟩ := h
      exact ⟨(h2 _ x hx).1, (h2 _ x hx).2.1⟩
  · exact h0
set_option maxRecDepth 100000 in
set_option maxHeartbeats 4000000 in
theorem waysOf_any (aN : Option Addr) (nN cN : Nat) (aO : Option Addr) (nO cO : Nat) (ws : List Wy) (s : Int) (w : World) (hN : Nw w aN nN ws) (hn : nN ≤ maxLen) :
    Calls Try.prog 32 #[autV aN nN cN aO nO cO, .int .i64 s] w fun e w' => e = .returned (.slice (wy ws s).a (wy ws s).n (wy ws s).c) ∧ Only (fun _ => False) w w' := by
  unfold maxLen at hn
  by_cases h0 : s < 0
  · have hw : wy ws s = wy0 := if_neg (by omega)
    rw [hw]
    unfold autV
    clear hN
    go_enter Try.func32, Try.ntmps32
    go_wp2_with fail
    go_ret
    exact ⟨rfl, (Only.refl _ _).alloc _⟩
  · have h0' : ¬ s < 0 := h0
    obtain ⟨k, rfl⟩ : ∃ k : Nat, s = (k : Int) := ⟨s.toNat, by omega⟩
    have hw : wy ws (k : Int) = ws[k]?.getD wy0 := by
      unfold wy
      rw [if_pos (by omega), Int.toNat_natCast]
    rw [hw]
    obtain ⟨hl, b, off, h1, h2⟩ := hN
    by_cases hk : k < nN
    · have hk' : (k : Int) < (nN : Int) := by omega
      have hk2 : ¬ (nN : Int) ≤ (k : Int) := by omega
      obtain ⟨rfl, hb⟩ := h1 (by omega)
      obtain ⟨x, hx⟩ : ∃ x, ws[k]? = some x := ⟨_, List.getElem?_eq_getElem (by omega)⟩
      obtain ⟨_, _, hc⟩ := h2 k x hx
      rw [hx]
      show Calls _ _ _ _ fun e w' => e = .returned (.slice x.a x.n x.c) ∧ _
      obtain ⟨xa, xn, xc, xL⟩ := x
      simp only at hc ⊢
      clear h1 h2 hw hx hl
      unfold autV
      go_enter Try.func32, Try.ntmps32
      go_wp2_with fail
      go_ret
      exact ⟨rfl, (Only.refl _ _).alloc _⟩
    · have hk' : (nN : Int) ≤ (k : Int) := by omega
      have hx : ws[k]? = none := List.getElem?_eq_none (by omega)
      rw [hx]
      show Calls _ _ _ _ fun e w' => e = .returned (.slice none 0 0) ∧ _
      clear h1 h2 hw hx hl
      unfold autV
      go_enter Try.func32, Try.ntmps32
      go_wp2_with fail
      go_ret
      exact ⟨rfl, (Only.refl _ _).alloc _⟩
theorem info3' : (Try.prog.info? 3).map (fun i => (i.zero, i.size, i.bytes)) = some (some (.int .i64 0), 1, 8) := by kernel_rfl
theorem news1 (w : World) (v : Value) (t : TypeId) : ∀ (j : Nat) (u : Value), [v][j]? = some u → (w.alloc (.cells #[v] t)).cell? ((⟨w.heap.size, 0, none⟩ : Addr).add j) = some u := by
  intro j u hj
  have hj0 := (List.getElem?_eq_some_iff.1 hj).1
  obtain rfl : j = 0 := by simpa using hj0
  injection hj with hj
  subst hj
  rw [Addr.add_mid]
  exact (cell_of_row _ _ _ _ _ _ (heap_alloc_new w _)).trans rfl
/-- an automaton in a block. -/
def Abx (w : World) (g : Nat) (aN : Option Addr) (nN cN : Nat) (aO : Option Addr) (nO cO : Nat) : Prop := w.heap[g]? = some (.cells #[.slice aN nN cN, .slice aO nO cO] 33 (0, 0))
theorem Abx.keep {w w' : World} {g : Nat} {aN : Option Addr} {nN cN : Nat} {aO : Option Addr} {nO cO : Nat} (h : Abx w g aN nN cN aO nO cO) (ho : Only (fun _ => False) w w') : Abx w' g aN nN cN aO nO cO := (ho.block g (Array.getElem?_eq_some_iff.1 h).1 (fun h => h)).trans h
theorem Abx.c0 {w : World} {g : Nat} {aN : Option Addr} {nN cN : Nat} {aO : Option Addr} {nO cO : Nat} (h : Abx w g aN nN cN aO nO cO) : w.cell? ⟨g, 0, none⟩ = some (.slice aN nN cN) := (cell_of_row _ _ _ _ _ _ h).trans rfl
theorem Abx.c1 {w : World} {g : Nat} {aN : Option Addr} {nN cN : Nat} {aO : Option Addr} {nO cO : Nat} (h : Abx w g aN nN cN aO nO cO) : w.cell? ⟨g, 1, none⟩ = some (.slice aO nO cO) := (cell_of_row _ _ _ _ _ _ h).trans rfl
set_option maxRecDepth 100000 in
set_option maxHeartbeats 4000000 in
theorem run_none (aN : Option Addr) (cN : Nat) (aO : Option Addr) (nO cO : Nat) (aC : Option Addr) (nC cC : Nat) (w : World) :
    Calls Try.prog 15 #[autV aN 0 cN aO nO cO, .slice aC nC cC] w fun e w' => e = .returned (.slice none 0 0) ∧ Only (fun _ => False) w w' := by
  unfold autV
  go_enter Try.func15, Try.ntmps15
  go_wp2_with fail
  go_ret
  exact ⟨rfl, (Only.refl _ _).alloc _⟩
theorem run_app (ws : List Wy) : ∀ (s : Int) (pre : List Int) (C : List Int) (k : Nat) (c : Int), run ws 0 C = pre ++ run ws s (C.drop k) → C[k]? = some c → 0 ≤ c ∧ c < ((wy ws s).n : Int) → run ws 0 C = (pre ++ [(wy ws s).L[c.toNat]?.getD 0]) ++ run ws ((wy ws s).L[c.toNat]?.getD 0) (C.drop (k + 1)) := by
  intro s pre C k c h hc hr
  have hk := (List.getElem?_eq_some_iff.1 hc)
  rw [h, List.drop_eq_getElem_cons hk.1, hk.2, run, if_pos hr, List.append_assoc]
  rfl
theorem run_stop (ws : List Wy) : ∀ (s : Int) (pre : List Int) (C : List Int) (k : Nat) (c : Int), run ws 0 C = pre ++ run ws s (C.drop k) → C[k]? = some c → ¬ (0 ≤ c ∧ c < ((wy ws s).n : Int)) → run ws 0 C = pre := by
  intro s pre C k c h hc hr
  have hk := (List.getElem?_eq_some_iff.1 hc)
  rw [h, List.drop_eq_getElem_cons hk.1, hk.2, run, if_neg hr, List.append_nil]
set_option maxRecDepth 100000 in
set_option maxHeartbeats 4000000 in
theorem run_any (aN : Option Addr) (nN cN : Nat) (aO : Option Addr) (nO cO : Nat) (ws : List Wy) (aC : Option Addr) (nC cC : Nat) (C : List Int) (w : World) (hN : Nw w aN nN ws) (hn : nN ≤ maxLen) (hn0 : 0 < nN) (hC : Iw w aC nC C) (hnC : nC ≤ 1000000) :
    Calls Try.prog 15 #[autV aN nN cN aO nO cO, .slice aC nC cC] w fun e w' => ∃ v, e = .returned v ∧ w'.ownsRow (w.heap.size + 1) 3 1 v ((run ws 0 C).length + 1) (ints (0 :: run ws 0 C)) ∧ Only (fun _ => False) w w' := by
  have HN : Hid (Nw w aN nN ws) := hN
  have HC : Hid (Iw w aC nC C) := hC
  have HM : Hid (nN ≤ maxLen) := hn
  obtain ⟨i0, hi, hz0, hz1, hz2⟩ := info_parts info3'
  unfold maxLen at hn
  have hnz : ¬ (nN : Int) = 0 := by omega
  have hnz2 : ((nN : Int) == 0) = false := by simp; omega
  clear hN hC
  unfold autV
  go_enter Try.func15, Try.ntmps15
  go_wp2_with fail
  go_loopg [5, 6, 18] nC (fun gh s v i wr => ∃ (k : Nat) (st : Int) (pre : List Int) (g cap : Nat) (W : World), W = wr ∧ gh = nC - k ∧ k ≤ nC ∧ s = .int .i64 st ∧ v = .slice (some ⟨g, 0, none⟩) (k + 1) cap ∧ i = .int .i64 (k : Int) ∧ pre.length = k ∧ run ws 0 C = pre ++ run ws st (C.drop k) ∧ W.ownsRow (w.heap.size + 1) 3 1 (.slice (some ⟨g, 0, none⟩) (k + 1) cap) (k + 1) (ints (0 :: pre)) ∧ Only (fun _ => False) w W ∧ Abx W w.heap.size aN nN cN aO nO cO)
  case atStart =>
    refine ⟨0, 0, [], w.heap.size + 1, 1, _, rfl, rfl, by omega, rfl, rfl, rfl, rfl, rfl, ?_, ((Only.refl _ _).alloc _).alloc _, Abx.keep (w := w.alloc (.cells #[.slice aN nN cN, .slice aO nO cO] 33)) (heap_alloc_new w _) ((Only.refl _ _).alloc _)⟩
    exact ⟨rfl, Or.inr ⟨w.heap.size + 1, 1, #[.int .i64 0], rfl, Nat.le_refl _, heap_alloc2_new w _ _, Nat.le_refl _, by unfold maxLen; omega, rfl, rfl⟩⟩
  case round =>
    obtain ⟨k, st, pre, g, cap, W, hW, rfl, hk, rfl, rfl, rfl, hpl, hrun, hown, hOr, hAb⟩ := hrel
    subst hW
    have HOW : Hid (W.ownsRow (w.heap.size + 1) 3 1 (.slice (some ⟨g, 0, none⟩) (k + 1) cap) (k + 1) (ints (0 :: pre))) := hown
    have HRU : Hid (run ws 0 C = pre ++ run ws st (C.drop k)) := hrun
    have HPL : Hid (pre.length = k) := hpl
    have HAb : Hid (Abx W w.heap.size aN nN cN aO nO cO) := hAb
    have HOr : Hid (Only (fun _ => False) w W) := hOr
    have y0 := hAb.c0
    have y1 := hAb.c1
    clear hown hrun hpl hAb hOr
    by_cases hlt : k < nC
    · have t1 : (k : Int) < (nC : Int) := by omega
      obtain ⟨hCl, b, off, h1, h2⟩ := HC.out.keep HOr.out
      obtain ⟨rfl, hb⟩ := h1 (by omega)
      obtain ⟨c, hc⟩ : ∃ c, C[k]? = some c := ⟨_, List.getElem?_eq_getElem (by omega)⟩
      have hcc := h2 k c hc
      have HCK : Hid (C[k]? = some c) := hc
      clear h1 h2 hc hCl
      have hW2 := waysOf_any aN nN cN aO nO cO ws st W (HN.out.keep HOr.out) HM.out
      have hIy := ((HN.out.keep HOr.out).wy st)
      have HAp := fun h => run_app ws st pre C k c HRU.out HCK.out h
      have HSt := fun h => run_stop ws st pre C k c HRU.out HCK.out h
      generalize wy ws st = y at hW2 hIy HAp HSt
      obtain ⟨ya, yn, yc, yL⟩ := y
      simp only at hW2 hIy HAp HSt
      have HW2 : Hid (Calls Try.prog 32 #[autV aN nN cN aO nO cO, .int .i64 st] W fun e w' => e = .returned (.slice ya yn yc) ∧ Only (fun _ => False) W w') := hW2
      have HI : Hid (Iw W ya yn yL ∧ yn ≤ maxLen) := hIy
      have hyn := hIy.2
      unfold maxLen at hyn
      have HA : Hid (0 ≤ c ∧ c < (yn : Int) → run ws 0 C = (pre ++ [yL[c.toNat]?.getD 0]) ++ run ws (yL[c.toNat]?.getD 0) (C.drop (k + 1))) := HAp
      have HS : Hid (¬ (0 ≤ c ∧ c < (yn : Int)) → run ws 0 C = pre) := HSt
      clear hW2 hIy HAp HSt
      by_cases hc0 : c < 0
      · go_wp2_with (go_at_call 32; have hcq := HW2.out; unfold autV at hcq; refine hcq.mono ?_; clear hcq; rintro e w5 ⟨rfl, ho5⟩)
        go_ret
        refine ⟨_, rfl, ?_, HOr.out.trans ho5⟩
        rw [HS.out (by omega), HPL.out]
        exact own_only HOW.out ho5 (fun _ _ h => h)
      · have hc0' : ¬ c < 0 := hc0
        obtain ⟨m, rfl⟩ : ∃ m : Nat, c = (m : Int) := ⟨c.toNat, by omega⟩
        by_cases hcn : m < yn
        · have hcn' : (m : Int) < (yn : Int) := by omega
          have hcn2 : ¬ (yn : Int) ≤ (m : Int) := by omega
          obtain ⟨⟨hyl, b2, off2, h3, h4⟩, _⟩ := HI.out
          obtain ⟨rfl, hb2⟩ := h3 (by omega)
          obtain ⟨t, ht⟩ : ∃ t, yL[m]? = some t := ⟨_, List.getElem?_eq_getElem (by omega)⟩
          have htc := h4 m t ht
          have hR := HA.out ⟨by omega, by omega⟩
          rw [Int.toNat_natCast, ht] at hR
          simp only [Option.getD_some] at hR
          have HR : Hid (run ws 0 C = (pre ++ [t]) ++ run ws t (C.drop (k + 1))) := hR
          have HTC : Hid (W.cell? ⟨b2, off2 + m, none⟩ = some (.int .i64 t)) := htc
          clear h3 h4 hyl ht htc hR HA HS
          go_wp2_with (first | (go_at_call 32; have hcq := HW2.out; unfold autV at hcq; refine hcq.mono ?_; clear hcq; rintro e w5 ⟨rfl, ho5⟩; have q5 : w5.cell? ⟨b2, off2 + m, none⟩ = some (.int .i64 t) := (World.cell?_of_block (a := ⟨b2, off2 + m, none⟩) (ho5.block b2 hb2 (fun h => h))).trans HTC.out; have HO5 : Hid (w5.ownsRow (w.heap.size + 1) 3 1 (.slice (some ⟨g, 0, none⟩) (k + 1) cap) (k + 1) (ints (0 :: pre))) := own_only HOW.out ho5 (fun _ _ h => h); have HS5 : Hid (Only (fun _ => False) w w5) := HOr.out.trans ho5; have HA5 : Hid (Abx w5 w.heap.size aN nN cN aO nO cO) := HAb.out.keep ho5; have hw5 : w.heap.size + 1 ≤ w5.heap.size := (Array.getElem?_eq_some_iff.1 HA5.out).1; clear ho5) | (at_builtin; refine wpList_append_own_at _ rfl _ _ 43 rfl (w.heap.size + 1) 3 i0 (.int .i64 0) 1 8 Try.underlying43 hi hz0 hz1 hz2 rfl (by decide) _ _ _ rfl (HO5.out.alloc (.cells #[.int .i64 t] 3)) ⟨w5.heap.size, 0, none⟩ 1 1 [.int .i64 t] rfl rfl (news1 _ _ _) (fun u hu => by simp at hu; subst hu; rfl) (by unfold maxLen; omega) (by omega) (by simp; omega) ?_; intro v6 w6 hown6 hg6 _ _; obtain ⟨g6, cap6, rfl, hgb6, hgl6, hgc6, _⟩ := row_form hown6 (by omega)))
          have hgb : w.heap.size + 1 ≤ g := by
            obtain ⟨g', cap', hv, hgb, _⟩ := row_form HOW.out (by omega)
            injection hv with hv _ _
            injection hv with hv
            injection hv with hv
            omega
          have o1 : Only (· = g) (w5.alloc (.cells #[.int .i64 t] 3)) w6 := (Only.refl (· = g) _).grown hg6 (fun k h => by injection h with h; exact h.symm)
          have o2 : Only (· = g) w w6 := ((HS5.out.alloc _).mono (fun _ h => h.elim)).trans o1
          have o3 : Only (fun _ => False) w w6 := ⟨o2.os, o2.tape, o2.output, o2.size, fun b hb _ => o2.block b hb (by omega)⟩
          have hab : Abx w6 w.heap.size aN nN cN aO nO cO := (o1.block w.heap.size (by simp; omega) (by omega)).trans (HA5.out.keep ((Only.refl _ _).alloc _))
          have hints : ints (0 :: pre) ++ [.int .i64 t] = ints (0 :: (pre ++ [t])) := by unfold ints; simp
          rw [hints] at hown6
          go_roundg (nC - (k + 1))
          case measure => omega
          case rel => exact ⟨k + 1, t, pre ++ [t], g6, cap6, w6, rfl, rfl, by omega, rfl, rfl, by go_num, by rw [List.length_append, HPL.out]; rfl, HR.out, hown6, o3, hab⟩
        · have hcn' : (yn : Int) ≤ (m : Int) := by omega
          go_wp2_with (go_at_call 32; have hcq := HW2.out; unfold autV at hcq; refine hcq.mono ?_; clear hcq; rintro e w5 ⟨rfl, ho5⟩)
          go_ret
          refine ⟨_, rfl, ?_, HOr.out.trans ho5⟩
          rw [HS.out (by omega), HPL.out]
          exact own_only HOW.out ho5 (fun _ _ h => h)
    · have t2 : decide ((k : Int) < (nC : Int)) = false := decide_eq_false (by omega)
      go_wp2_with fail
      go_ret
      refine ⟨_, rfl, ?_, HOr.out⟩
      have hl : C.length = nC := HC.out.1
      have hr := HRU.out
      rw [List.drop_eq_nil_of_le (by omega), run, List.append_nil] at hr
      rw [hr, HPL.out]
      exact HOW.out
end Go.Proofs.Ytfbcijnacbfjpaa
namespace Go.Proofs.Ytfbcijnacbfjpaa
open Go.RowKit Go.Maps
set_option linter.unusedVariables false
set_option linter.unusedSimpArgs false
/-- an automaton that lies in memory: its states' ways and what they tell. -/
def Aut (W : World) (lo cl : Nat) (v : Value) (nx : List (List Nat)) (o : List Nat) : Prop := ∃ (rows : List (Nat × List Nat)) (vN vO : Value), v = .agg #[vN, vO] ∧ nx = rows.map (·.2) ∧ W.ownsRow lo 43 1 vN rows.length (rows.map (rowV cl)) ∧ W.ownsRow lo 47 1 vO o.length (o.map u32V) ∧ RowsOk W lo cl rows
def noAut : Value := .agg #[.slice none 0 0, .slice none 0 0]
/-- how states ends. -/
def stsP (w : World) (cl : Nat) (R : Option (List (List Nat) × List Nat)) (e : Ending) (w' : World) : Prop :=
  (match R with
  | none => e = .returned (.tuple #[noAut, .int .i64 27])
  | some (nx, o) => ∃ v, e = .returned (.tuple #[v, .int .i64 0]) ∧ Aut w' w.heap.size cl v nx o) ∧ Only (fun _ => False) w w'
theorem sz33 : (Try.prog.info? 33).map (·.size) = some 2 := by kernel_rfl
theorem info3b : (Try.prog.info? 3).map (fun i => (i.zero, i.size, i.bytes)) = some (some (.int .i64 0), 1, 8) := by kernel_rfl
theorem info43 : (Try.prog.info? 43).map (fun i => (i.zero, i.size, i.bytes)) = some (some (.slice none 0 0), 1, 24) := by kernel_rfl
theorem info47 : (Try.prog.info? 47).map (fun i => (i.zero, i.size, i.bytes)) = some (some (.int .u32 0), 1, 4) := by kernel_rfl
theorem zero3 (w : World) : (zeroValue 3).run Try.prog w = .ok (.int .i64 0) w := by kernel_rfl
theorem wf_i64 {a : Nat} (h : a ≤ 1000) : (Lit.int .i64 (a : Int)).wf = true := by
  have e1 : IntKind.min .i64 = -9223372036854775808 := by decide
  have e2 : IntKind.max .i64 = 9223372036854775807 := by decide
  have h0 : (-9223372036854775808 : Int) ≤ (a : Int) := by omega
  have h2 : (a : Int) ≤ 9223372036854775807 := by omega
  simp only [Lit.wf, e1, e2, h0, h2, decide_true, Bool.and_self]
set_option maxRecDepth 100000 in
/-- the fresh block behind a map's first entry. -/
theorem kds_first : KDs (DataW.put (DataW.map [] : DataW Unit) (kc Try.prog 0) (.lit (.int .i64 0))) [0] := by
  have h0 : KDs (DataW.map [] : DataW Unit) [] := fun S hS => ⟨by simp; rfl, by simp; rfl⟩
  have hI : IsMap (DataW.map [] : DataW Unit) := World.ownsMap.isMap (World.ownsMap_made (H := Unit) default Try.prog 73 (plainElem Try.prog 3))
  exact kds_put hI h0 (by decide) (by simp)
theorem kc_key0 : keyOf Try.prog 73 (.agg #[.int .u64 0, .int .u64 0, .int .u64 0, .int .u64 0]) = some (kc Try.prog 0) := by
  have h := kc_key 0
  unfold sV sC at h
  rw [wd_zero, wd_zero, wd_zero, wd_zero] at h
  exact h
theorem ne_of_blk {fb7 fb1 n1 c1 n7 c7 N x : Nat} (h : (Value.slice (some ⟨fb7, 0, none⟩) n7 c7).ownBlock = (Value.slice (some ⟨fb1, 0, none⟩) n1 c1).ownBlock ∨ (Value.slice (some ⟨fb7, 0, none⟩) n7 c7).ownBlock = some N) (h1 : fb1 ≠ x) (h2 : N ≠ x) : fb7 ≠ x := by
  rcases h with h | h
  · injection h with h
    simp only at h
    rw [h]
    exact h1
  · injection h with h
    simp only at h
    rw [h]
    exact h2
theorem blk_ne {fb1 n1 c1 q : Nat} (h : fb1 ≠ q) : ¬ (Value.slice (some ⟨fb1, 0, none⟩) n1 c1).ownBlock = some q := fun e => by
  injection e with e
  exact h e
theorem own_mono {w : World} {base base' e size n : Nat} {v : Value} {xs : List Value} (h : w.ownsRow base e size v n xs) (hb : base' ≤ base) : w.ownsRow base' e size v n xs := by
  obtain ⟨hl, h | ⟨g, cap, cur, hv, h1, h2⟩⟩ := h
  · exact ⟨hl, Or.inl h⟩
  · exact ⟨hl, Or.inr ⟨g, cap, cur, hv, Nat.le_trans hb h1, h2⟩⟩
theorem u32_news (w : World) (x : Nat) : ∀ j u, [u32V x][j]? = some u → (w.alloc (.cells #[.int .u32 (x : Int)] 47)).cell? ((⟨w.heap.size, 0, none⟩ : Addr).add j) = some u := by
  intro j u hj
  rw [Addr.add_mid, Nat.zero_add, cell_of_row _ _ _ _ _ _ (heap_alloc_new _ _)]
  have e : [u32V x] = [Value.int .u32 (x : Int)] := rfl
  rw [e] at hj
  simpa using hj
/-- what is said of states, at all places. -/
def StsOk : Prop := ∀ (g cl : Nat) (p : Au.Pl) (l : List Au.Nd) (fs : Nat) (vL : Value) (w : World), Plm w g cl p fs vL (emK l) → Lw w (fun b => b < w.heap.size) vL (l.map (·.last)) → p.sets.length ≤ 200 → cl ≤ 24 → l.length ≤ 24 → (∀ x ∈ l.map (·.last), x < 2 ^ 256) → (∀ c, Au.by' p c < 2 ^ 256) →
    Calls Try.prog 26 #[.pointer (some ⟨g, 0, none⟩)] w (stsP w cl (Au.states p l fs cl 301 0 [0] [] []))
end Go.Proofs.Ytfbcijnacbfjpaa
namespace Go.Proofs.Ytfbcijnacbfjpaa
open Go.RowKit Go.Maps
set_option linter.unusedVariables false
set_option linter.unusedSimpArgs false
open Rl (Ex)
/-- an error's number. -/
def errN : Nat → Int
  | 1 => 2
  | 2 => 26
  | _ => 27
/-- how Make ends. -/
def makeP (w : World) (cl : Int) (R : Except Nat (List (List Nat) × List Nat)) (e : Ending) (w' : World) : Prop :=
  (match R with
  | .error k => e = .returned (.tuple #[noAut, .int .i64 (errN k)])
  | .ok (nx, o) => ∃ v, e = .returned (.tuple #[v, .int .i64 0]) ∧ Aut w' w.heap.size cl.toNat v nx o) ∧ Only (fun _ => False) w w'
def zP : Array Value := pC 0 0 (fun _ => 0) (fun _ => 0) 0 (.slice none 0 0) 0
theorem zc78 : Try.zeroCells78 = zP := by kernel_rfl
theorem zP_cl (cl : Nat) : zP.setIfInBounds 0 (.int .i64 (cl : Int)) = pC cl 0 (fun _ => 0) (fun _ => 0) 0 (.slice none 0 0) 0 := by
  apply Array.ext_getElem?
  intro j
  unfold zP
  rw [Array.getElem?_setIfInBounds, pC_size]
  by_cases hj : j < 904
  · rw [pC_at _ _ _ _ _ _ _ _ hj, pC_at _ _ _ _ _ _ _ _ hj]
    by_cases e : 0 = j
    · subst e
      rfl
    · rw [if_neg e]
      unfold pcell
      rw [if_neg (show ¬ j = 0 from fun h => e h.symm), if_neg (show ¬ j = 0 from fun h => e h.symm)]
  · rw [if_neg (by omega), Array.getElem?_eq_none (by rw [pC_size]; omega), Array.getElem?_eq_none (by rw [pC_size]; omega)]
/-- these expressions lie in a list. -/
def Lex (w : World) (F : Nat → Prop) (es : List Ex) (a : Option Addr) (c : Nat) : Prop := es.length ≤ maxLen ∧ (es ≠ [] → ∃ b off, a = some ⟨b, off, none⟩ ∧ F b ∧ Tes w F es b off)
theorem Tes.get {w : World} {F : Nat → Prop} : ∀ (es : List Ex) (b off i : Nat) (e : Ex), Tes w F es b off → es[i]? = some e → ∃ o s k, w.cell? ⟨b, off + i * 3, none⟩ = some o ∧ w.cell? ⟨b, off + i * 3 + 1, none⟩ = some s ∧ w.cell? ⟨b, off + i * 3 + 2, none⟩ = some k ∧ Te w F e (.agg #[o, s, k])
  | e0 :: es, b, off, 0, e, ht, h => by
    injection h with h
    subst h
    unfold Tes at ht
    exact ht.1
  | e0 :: es, b, off, i + 1, e, ht, h => by
    unfold Tes at ht
    obtain ⟨o, s, k, h0, h1, h2, h3⟩ := Tes.get es b (off + 3) i e ht.2 (by simpa using h)
    rw [show off + 3 + i * 3 = off + (i + 1) * 3 by omega] at h0 h1 h2
    exact ⟨o, s, k, h0, h1, h2, h3⟩
/-- all expressions, from some on. -/
theorem all_step (e : Ex) (es : List Ex) (l : List Au.Nd) (p : Au.Pl) : Au.all (e :: es) l p = match Au.node e p with | none => none | some (x, p1) => Au.all es (l ++ [x]) p1 := by
  simp only [Au.all]
  rfl
def orF (l : List Au.Nd) : Nat := l.foldl (fun m x => m ||| x.first) 0
theorem orF_snoc (l : List Au.Nd) (x : Au.Nd) : orF (l ++ [x]) = orF l ||| x.first := by simp [orF]
theorem byP_zero (cl : Nat) : byP cl Au.pl0 = fun _ => 0 := funext fun c => by
  unfold byP Au.by' Au.pl0
  simp
theorem by_lt (p : Au.Pl) (h : p.sets.length ≤ 200) (c : Nat) : Au.by' p c < 2 ^ 256 := by
  apply Nat.lt_of_lt_of_le (m := 2 ^ p.sets.length)
  · apply Nat.lt_pow_two_of_testBit
    intro i hi
    unfold Au.by'
    rw [fold_bit]
    simp
    omega
  · exact Nat.pow_le_pow_right (by decide) (by omega)
/- MAKE -/
theorem Aut.keep {W W' : World} {lo lo' cl : Nat} {v : Value} {nx : List (List Nat)} {o : List Nat} {P : Nat → Prop} (h : Aut W lo cl v nx o) (ho : Only P W W') (hP : ∀ b, P b → b < lo) (hl : lo' ≤ lo) : Aut W' lo' cl v nx o := by
  obtain ⟨rows, vN, vO, h1, h2, h3, h4, h5⟩ := h
  refine ⟨rows, vN, vO, h1, h2, own_mono (own_keep h3 ho (fun q hq e => by have := (h3.lt q hq).1; have := hP q e; omega)) hl, own_mono (own_keep h4 ho (fun q hq e => by have := (h4.lt q hq).1; have := hP q e; omega)) hl, fun r hr => ?_⟩
  obtain ⟨b1, b2, b3⟩ := h5 r hr
  exact ⟨by omega, (ho.block _ (Array.getElem?_eq_some_iff.1 b2).1 (fun e => by have := hP _ e; omega)).trans b2, b3⟩
theorem Aut.form {W : World} {lo cl : Nat} {v : Value} {nx : List (List Nat)} {o : List Nat} (h : Aut W lo cl v nx o) : ∃ aN cN aO cO, v = .agg #[.slice aN nx.length cN, .slice aO o.length cO] := by
  obtain ⟨rows, vN, vO, h1, h2, h3, h4, h5⟩ := h
  obtain ⟨aN, cN, rfl⟩ := own_form h3
  obtain ⟨aO, cO, rfl⟩ := own_form h4
  exact ⟨aN, cN, aO, cO, by rw [h1, h2, List.length_map]⟩
theorem Lw.lt {w : World} {F : Nat → Prop} {v : Value} {Ls : List Nat} (h : Lw w F v Ls) : Lw w (fun b => b < w.heap.size) v Ls := by
  obtain ⟨a, c, h1, h2, h3⟩ := h
  refine ⟨a, c, h1, h2, fun i S hS => ?_⟩
  obtain ⟨lb, k1, k2, k3, k4⟩ := h3 i S hS
  exact ⟨lb, k1, k3, k3, k4⟩
set_option maxRecDepth 100000 in
set_option maxHeartbeats 4000000 in
theorem make_range (a : Option Addr) (n c : Nat) (cl : Int) (w : World) (h : cl < 1 ∨ 24 < cl ∨ 24 < n) :
    Calls Try.prog 11 #[.slice a n c, .int .i64 cl] w fun e w' => e = .returned (.tuple #[noAut, .int .i64 2]) ∧ Only (fun _ => False) w w' := by
  unfold noAut
  by_cases h1 : cl < 1
  · clear h
    go_enter Try.func11, Try.ntmps11
    go_wp2_with fail
    exact bodyPost_ret (v := .tuple #[.agg #[.slice none 0 0, .slice none 0 0], .int .i64 2]) (by simp [results, Try.results11, go_sem]) rfl ⟨rfl, (Only.refl _ _).alloc _⟩
  · have g1 : decide (cl < 1) = false := decide_eq_false h1
    by_cases h2 : 24 < cl
    · clear h
      go_enter Try.func11, Try.ntmps11
      go_wp2_with fail
      exact bodyPost_ret (v := .tuple #[.agg #[.slice none 0 0, .slice none 0 0], .int .i64 2]) (by simp [results, Try.results11, go_sem]) rfl ⟨rfl, (Only.refl _ _).alloc _⟩
    · have g2 : decide (24 < cl) = false := decide_eq_false h2
      have h3 : (24 : Int) < (n : Int) := by omega
      clear h h1 h2
      go_enter Try.func11, Try.ntmps11
      go_wp2_with fail
      exact bodyPost_ret (v := .tuple #[.agg #[.slice none 0 0, .slice none 0 0], .int .i64 2]) (by simp [results, Try.results11, go_sem]) rfl ⟨rfl, (Only.refl _ _).alloc _⟩
set_option maxRecDepth 100000 in
set_option maxHeartbeats 8000000 in
theorem make_in (HSt : StsOk) (F : Nat → Prop) (es : List Ex) (a : Option Addr) (c cl : Nat) (w : World) (hL : Lex w F es a c) (hF : ∀ b, F b → b < w.heap.size) (hD : ∀ e ∈ es, Au.dp e ≤ 1000000) (hcl1 : 1 ≤ cl) (hcl : cl ≤ 24) (hn : es.length ≤ 24) :
    Calls Try.prog 11 #[.slice a es.length c, .int .i64 (cl : Int)] w (makeP w (cl : Int) (Au.make es (cl : Int))) := by
  have hmk : Au.make es (cl : Int) = match Au.all es [] Au.pl0 with
    | none => .error 2
    | some (nd, p) => match Au.states p nd (orF nd) cl 301 0 [0] [] [] with
      | none => .error 3
      | some r => .ok r := by
    unfold Au.make
    rw [if_neg (by omega)]
    rfl
  have HMK : Hid (Au.make es (cl : Int) = match Au.all es [] Au.pl0 with
    | none => .error 2
    | some (nd, p) => match Au.states p nd (orF nd) cl 301 0 [0] [] [] with
      | none => .error 3
      | some r => .ok r) := hmk
  have HL : Hid (Lex w F es a c) := hL
  have HF : Hid (∀ b, F b → b < w.heap.size) := hF
  have HD : Hid (∀ e ∈ es, Au.dp e ≤ 1000000) := hD
  have HS : Hid StsOk := HSt
  clear hmk hL hF hD HSt
  obtain ⟨n, hnn⟩ : ∃ n, n = es.length := ⟨_, rfl⟩
  have HN : Hid (n = es.length) := hnn
  rw [← hnn] at hn ⊢
  clear hnn
  have g1 : decide ((cl : Int) < 1) = false := decide_eq_false (by omega)
  have g2 : decide (24 < (cl : Int)) = false := decide_eq_false (by omega)
  have g3 : decide (24 < (n : Int)) = false := decide_eq_false (by omega)
  have HP0 : Hid (Plm ((w.alloc (.cells #[.slice none 0 0, .slice none 0 0] 33)).alloc (.cells (Try.zeroCells78.setIfInBounds 0 (.int .i64 (cl : Int))) 78)) (w.heap.size + 1) cl Au.pl0 (orF []) (.slice none 0 0) (emK [])) := by
    rw [zc78, zP_cl]
    unfold Plm
    rw [byP_zero]
    exact heap_alloc2_new _ _ _
  have HB0 : Hid (((w.alloc (.cells #[.slice none 0 0, .slice none 0 0] 33)).alloc (.cells (Try.zeroCells78.setIfInBounds 0 (.int .i64 (cl : Int))) 78)).heap[w.heap.size]? = some (.cells #[.slice none 0 0, .slice none 0 0] 33 (0, 0))) := (Below.heap_alloc _ _ _ (by simp)).trans (heap_alloc_new _ _)
  have HO0 : Hid (Only (fun h => w.heap.size ≤ h) w ((w.alloc (.cells #[.slice none 0 0, .slice none 0 0] 33)).alloc (.cells (Try.zeroCells78.setIfInBounds 0 (.int .i64 (cl : Int))) 78))) := ((Only.refl _ _).alloc _).alloc _
  go_enter Try.func11, Try.ntmps11
  go_wp2_with fail
  go_loopg [26] n (fun gh v wr => ∃ (k : Nat) (l : List Au.Nd) (p1 : Au.Pl) (vL : Value) (W : World), W = wr ∧ gh = n - k ∧ k ≤ n ∧ v = .int .i64 (k : Int) ∧ l.length = k ∧ Au.all (es.drop k) l p1 = Au.all es [] Au.pl0 ∧ Au.OkP p1 ∧ p1.sets.length ≤ 200 ∧ (∀ x ∈ l, Au.OkN p1 x) ∧ Plm W (w.heap.size + 1) cl p1 (orF l) vL (emK l) ∧ W.ownsRow ((w.heap.size + 1) + 1) 73 4 vL l.length (flS (l.map (·.last))) ∧ W.heap[w.heap.size]? = some (.cells #[.slice none 0 0, .slice none 0 0] 33 (0, 0)) ∧ Only (fun h => w.heap.size ≤ h) w W)
  case atStart => exact ⟨0, [], Au.pl0, .slice none 0 0, _, rfl, rfl, Nat.zero_le _, rfl, rfl, rfl, fun i => ⟨Nat.two_pow_pos _, fun _ => rfl⟩, Nat.zero_le _, (fun x hx => by cases hx), HP0.out, World.ownsRow_nil _ _ _ _, HB0.out, HO0.out⟩
  case round =>
    obtain ⟨k, l, p1, vL, W, hW, rfl, hk, rfl, hlk, hall, hok, hp2, hokN, hP, hV, hB, hO⟩ := hrel
    subst hW
    have HP1 : Hid (Plm W (w.heap.size + 1) cl p1 (orF l) vL (emK l)) := hP
    have HV : Hid (W.ownsRow ((w.heap.size + 1) + 1) 73 4 vL l.length (flS (l.map (·.last)))) := hV
    have HB : Hid (W.heap[w.heap.size]? = some (.cells #[.slice none 0 0, .slice none 0 0] 33 (0, 0))) := hB
    have HO : Hid (Only (fun h => w.heap.size ≤ h) w W) := hO
    have HAll : Hid (Au.all (es.drop k) l p1 = Au.all es [] Au.pl0) := hall
    have HOK : Hid (Au.OkP p1 ∧ p1.sets.length ≤ 200 ∧ (∀ x ∈ l, Au.OkN p1 x)) := ⟨hok, hp2, hokN⟩
    have HLK : Hid (l.length = k) := hlk
    have hgW : w.heap.size + 1 < W.heap.size := hP.lt
    clear hP hV hB hO hall hok hp2 hokN hlk HP0 HB0 HO0
    by_cases hlt4 : k < n
    · have t1 : (k : Int) < (n : Int) := by omega
      obtain ⟨ex, hex⟩ : ∃ ex, es[k]? = some ex := ⟨_, List.getElem?_eq_getElem (by rw [← HN.out]; exact hlt4)⟩
      obtain ⟨b, off, rfl, hFb, hTes⟩ := HL.out.2 (by intro e; rw [e] at hex; simp at hex)
      obtain ⟨o0, s0, k0, d0, d1, d2, hTe⟩ := Tes.get es b off k ex hTes hex
      have hbl := HF.out b hFb
      have hKp : Kp w W F := Kp.only HO.out (fun b hb => by have := HF.out b hb; omega)
      obtain ⟨op, set, a', n', c', hv⟩ : ∃ op set a' n' c', Value.agg #[o0, s0, k0] = .agg #[.int .u8 op, .int .u32 set, .slice a' n' c'] := by
        obtain ⟨o, s, kids⟩ := ex
        obtain ⟨a, cap, h, _⟩ := hTe.kids
        exact ⟨o, s, a, _, cap, h⟩
      simp only [Value.agg.injEq, Array.mk.injEq, List.cons.injEq, and_true] at hv
      obtain ⟨rfl, rfl, rfl⟩ := hv
      have c0 := hKp b hFb _ _ d0
      have c1 := hKp b hFb _ _ d1
      have c2 := hKp b hFb _ _ d2
      have hTW : Te W F ex (.agg #[.int .u8 op, .int .u32 set, .slice a' n' c']) := Te.keep hKp (fun _ h => h) ex _ hTe
      have hA : Only (fun _ => False) W (W.alloc (.cells #[.int .u8 op, .int .u32 set, .slice a' n' c'] 49)) := (Only.refl _ _).alloc _
      have HC : Hid (Calls Try.prog 25 #[.pointer (some ⟨w.heap.size + 1, 0, none⟩), .agg #[.int .u8 op, .int .u32 set, .slice a' n' c']] (W.alloc (.cells #[.int .u8 op, .int .u32 set, .slice a' n' c'] 49)) (readP (W.alloc (.cells #[.int .u8 op, .int .u32 set, .slice a' n' c'] 49)) (w.heap.size + 1) cl (orF l) (emK l) (l.map (·.last)) (Au.node ex p1))) := by
        have := read_any F (w.heap.size + 1) cl p1 (orF l) vL (emK l) (l.map (·.last)) ex _ (W.alloc (.cells #[.int .u8 op, .int .u32 set, .slice a' n' c'] 49)) (HP1.out.only hA (fun h => h)) (by rw [List.length_map]; exact HV.out.alloc _) (by rw [List.length_map, HLK.out]; omega) (emK_lt l (by rw [HLK.out]; omega)) HOK.out.1 HOK.out.2.1 hcl (Te.keep (Kp.only hA (fun _ _ h => h)) (fun _ h => h) ex _ hTW) (fun b hb => by have := HF.out b hb; omega) (HD.out ex (List.mem_of_getElem? hex))
        exact this
      have hal := HAll.out
      rw [List.drop_eq_getElem_cons (by rw [← HN.out]; exact hlt4)] at hal
      have he : es[k]'(by rw [← HN.out]; exact hlt4) = ex := (List.getElem?_eq_some_iff.1 hex).2
      rw [he, all_step] at hal
      have HAL : Hid ((match Au.node ex p1 with | none => none | some (x, p2) => Au.all (es.drop (k + 1)) (l ++ [x]) p2) = Au.all es [] Au.pl0) := hal
      clear hal he d0 d1 d2 hTe hTW hKp hTes hA
      cases hnd : Au.node ex p1 with
      | none =>
        have HND : Hid (Au.node ex p1 = none) := hnd
        have hal2 := HAL.out
        rw [hnd] at hal2
        have HR : Hid (Au.make es (cl : Int) = .error 2) := by rw [HMK.out, ← hal2]; exact rfl
        clear hnd hal2
        go_wp2_with (go_at_call 25; have hc := HC.out; rw [HND.out] at hc; refine hc.mono ?_; clear hc; rintro e w2 ⟨rfl, ho2⟩; have HB2 : Hid (w2.heap[w.heap.size]? = some (.cells #[.slice none 0 0, .slice none 0 0] 33 (0, 0))) := (ho2.block _ (by simp; omega) (by omega)).trans ((Below.heap_alloc _ _ _ (by omega)).trans HB.out); have HO2 : Hid (Only (fun h => w.heap.size ≤ h) w w2) := (HO.out.alloc _).trans (ho2.mono (fun _ h => by omega)); have r0 : w2.cell? ⟨w.heap.size, 0, none⟩ = some (.slice none 0 0) := cell_blk HB2.out; have r1 : w2.cell? ⟨w.heap.size, 1, none⟩ = some (.slice none 0 0) := cell_blk HB2.out; have r2 := fz_blk HB2.out 0; have r3 := fz_blk HB2.out 1; clear ho2)
        refine bodyPost_ret (v := .tuple #[noAut, .int .i64 26]) (results_row1 (p := 4) (u := 5) rfl _ _ w.heap.size 33 #[.slice none 0 0, .slice none 0 0] (0, 0) _ rfl (heap_setCell_at (heap_setCell_at HB2.out _) _) Try.underlying33 rfl sz33 rfl) rfl ?_
        rw [HR.out]
        refine ⟨rfl, ?_⟩
        exact Only.old (P := fun h => w.heap.size ≤ h) (Only.setCell (S := fun h => w.heap.size ≤ h) (Only.setCell (S := fun h => w.heap.size ≤ h) HO2.out (p := ⟨w.heap.size, 0, none⟩) (Nat.le_refl w.heap.size) _) (p := ⟨w.heap.size, 1, none⟩) (Nat.le_refl w.heap.size) _) (fun _ h => Or.inl h)
      | some r =>
        obtain ⟨x, p2⟩ := r
        have HND : Hid (Au.node ex p1 = some (x, p2)) := hnd
        obtain ⟨q1, q2, q3⟩ := Au.node_ok ex p1 HOK.out.1 x p2 hnd
        have q4 := Au.node_cnt ex p1 HOK.out.2.1
        rw [hnd] at q4
        simp only at q4
        have HQ : Hid (Au.OkP p2 ∧ p2.sets.length ≤ 200 ∧ (∀ y ∈ l ++ [x], Au.OkN p2 y)) := ⟨q1, q4.2, fun y hy => by
          rcases List.mem_append.1 hy with hy | hy
          · exact (HOK.out.2.2 y hy).mono q3
          · simp at hy; rw [hy]; exact q2⟩
        have hal2 := HAL.out
        rw [hnd] at hal2
        have HA2 : Hid (Au.all (es.drop (k + 1)) (l ++ [x]) p2 = Au.all es [] Au.pl0) := hal2
        clear hnd hal2 q1 q2 q3 q4
        go_wp2_with (go_at_call 25; have hc := HC.out; rw [HND.out] at hc; refine hc.mono ?_; clear hc; rintro e w2 ⟨rfl, ⟨vL2, hp2, hv2⟩, ho2⟩; have HB2 : Hid (w2.heap[w.heap.size]? = some (.cells #[.slice none 0 0, .slice none 0 0] 33 (0, 0))) := (ho2.block _ (by simp; omega) (by omega)).trans ((Below.heap_alloc _ _ _ (by omega)).trans HB.out); have HO2 : Hid (Only (fun h => w.heap.size ≤ h) w w2) := (HO.out.alloc _).trans (ho2.mono (fun _ h => by omega)); have HPX : Hid (Plm w2 (w.heap.size + 1) cl p2 (orF l ||| x.first) vL2 (if x.none = true then emK l ||| 2 ^ (l.map (·.last)).length else emK l)) := hp2; have HVX : Hid (w2.ownsRow (w.heap.size + 1 + 1) 73 4 vL2 ((l.map (·.last)).length + 1) (flS (l.map (·.last) ++ [x.last]))) := hv2; clear ho2 hp2 hv2)
        go_roundg (n - (k + 1))
        case measure => omega
        case rel =>
          refine ⟨k + 1, l ++ [x], p2, vL2, _, rfl, rfl, by omega, by go_num, by simp [HLK.out], HA2.out, HQ.out.1, HQ.out.2.1, HQ.out.2.2, ?_, ?_, HB2.out, HO2.out⟩
          · rw [orF_snoc, emK_snoc]
            have := HPX.out
            rw [List.length_map] at this
            exact this
          · have := HVX.out
            rw [List.length_map] at this
            rw [List.map_append, List.length_append]
            exact this
    · have t2 : decide ((k : Int) < (n : Int)) = false := decide_eq_false (by omega)
      obtain rfl : k = n := by omega
      have hal := HAll.out
      rw [List.drop_eq_nil_of_le (by rw [← HN.out]; exact Nat.le_refl _)] at hal
      simp only [Au.all] at hal
      have HC : Hid (Calls Try.prog 26 #[.pointer (some ⟨w.heap.size + 1, 0, none⟩)] W (stsP W cl (Au.states p1 l (orF l) cl 301 0 [0] [] []))) := HS.out (w.heap.size + 1) cl p1 l (orF l) vL W HP1.out (Lw.lt (Lw.row (by rw [List.length_map]; exact HV.out))) HOK.out.2.1 hcl (by rw [HLK.out]; omega) (fun y hy => by
        obtain ⟨z, hz, rfl⟩ := List.mem_map.1 hy
        exact lt256 HOK.out.2.1 (HOK.out.2.2 z hz).2) (by_lt p1 HOK.out.2.1)
      have hmk2 := HMK.out
      rw [← hal] at hmk2
      simp only at hmk2
      have HM2 : Hid (Au.make es (cl : Int) = match Au.states p1 l (orF l) cl 301 0 [0] [] [] with | none => .error 3 | some r => .ok r) := hmk2
      clear hal hmk2
      cases hst : Au.states p1 l (orF l) cl 301 0 [0] [] [] with
      | none =>
        have HST : Hid (Au.states p1 l (orF l) cl 301 0 [0] [] [] = none) := hst
        have HR : Hid (Au.make es (cl : Int) = .error 3) := by rw [HM2.out, hst]; exact rfl
        clear hst
        go_wp2_with (go_at_call 26; have hc := HC.out; rw [HST.out] at hc; refine hc.mono ?_; clear hc; rintro e w2 ⟨rfl, ho2⟩; have HB2 : Hid (w2.heap[w.heap.size]? = some (.cells #[.slice none 0 0, .slice none 0 0] 33 (0, 0))) := (ho2.block _ (by omega) (fun h => h)).trans HB.out; have HO2 : Hid (Only (fun h => w.heap.size ≤ h) w w2) := HO.out.trans (ho2.mono (fun _ h => h.elim)); have r0 : w2.cell? ⟨w.heap.size, 0, none⟩ = some (.slice none 0 0) := cell_blk HB2.out; have r1 : w2.cell? ⟨w.heap.size, 1, none⟩ = some (.slice none 0 0) := cell_blk HB2.out; have r2 := fz_blk HB2.out 0; have r3 := fz_blk HB2.out 1; clear ho2; unfold noAut)
        refine bodyPost_ret (v := .tuple #[noAut, .int .i64 27]) (results_row1 (p := 4) (u := 5) rfl _ _ w.heap.size 33 #[.slice none 0 0, .slice none 0 0] (0, 0) _ rfl (heap_setCell_at (heap_setCell_at HB2.out _) _) Try.underlying33 rfl sz33 rfl) rfl ?_
        rw [HR.out]
        refine ⟨rfl, ?_⟩
        exact Only.old (P := fun h => w.heap.size ≤ h) (Only.setCell (S := fun h => w.heap.size ≤ h) (Only.setCell (S := fun h => w.heap.size ≤ h) HO2.out (p := ⟨w.heap.size, 0, none⟩) (Nat.le_refl w.heap.size) _) (p := ⟨w.heap.size, 1, none⟩) (Nat.le_refl w.heap.size) _) (fun _ h => Or.inl h)
      | some r =>
        obtain ⟨nx, o⟩ := r
        have HST : Hid (Au.states p1 l (orF l) cl 301 0 [0] [] [] = some (nx, o)) := hst
        have HR : Hid (Au.make es (cl : Int) = .ok (nx, o)) := by rw [HM2.out, hst]; exact rfl
        clear hst
        go_wp2_with (go_at_call 26; have hc := HC.out; rw [HST.out] at hc; refine hc.mono ?_; clear hc; rintro e w2 ⟨⟨v, rfl, hA⟩, ho2⟩; have HAu : Hid (Aut w2 W.heap.size cl v nx o) := hA; obtain ⟨aN, cN, aO, cO, rfl⟩ := hA.form; have HB2 : Hid (w2.heap[w.heap.size]? = some (.cells #[.slice none 0 0, .slice none 0 0] 33 (0, 0))) := (ho2.block _ (by omega) (fun h => h)).trans HB.out; have HO2 : Hid (Only (fun h => w.heap.size ≤ h) w w2) := HO.out.trans (ho2.mono (fun _ h => h.elim)); have r0 : w2.cell? ⟨w.heap.size, 0, none⟩ = some (.slice none 0 0) := cell_blk HB2.out; have r1 : w2.cell? ⟨w.heap.size, 1, none⟩ = some (.slice none 0 0) := cell_blk HB2.out; have r2 := fz_blk HB2.out 0; have r3 := fz_blk HB2.out 1; clear ho2 hA)
        have hS2 : Only (· = w.heap.size) w2 ((w2.setCell ⟨w.heap.size, 0, none⟩ (.slice aN nx.length cN)).setCell ⟨w.heap.size, 1, none⟩ (.slice aO o.length cO)) := Only.setCell (S := (· = w.heap.size)) (Only.setCell (S := (· = w.heap.size)) (Only.refl _ _) (p := ⟨w.heap.size, 0, none⟩) rfl _) (p := ⟨w.heap.size, 1, none⟩) rfl _
        refine bodyPost_ret (v := .tuple #[.agg #[.slice aN nx.length cN, .slice aO o.length cO], .int .i64 0]) (results_row1 (p := 4) (u := 5) rfl _ _ w.heap.size 33 #[.slice aN nx.length cN, .slice aO o.length cO] (0, 0) _ rfl (heap_setCell_at (heap_setCell_at HB2.out _) _) Try.underlying33 rfl sz33 rfl) rfl ?_
        rw [HR.out]
        refine ⟨⟨_, rfl, ?_⟩, (HO2.out.trans (hS2.mono (fun _ h => by omega))).old (fun _ h => Or.inl h)⟩
        exact HAu.out.keep hS2 (fun b hb => by omega) (by omega)
end Go.Proofs.Ytfbcijnacbfjpaa
