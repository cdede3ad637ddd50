/-
  The reference's states in memory.
-/
import Derived.Test.YtfbcijnacbfjpaaRox
import Derived.Test.YtfbcijnacbfjpaaSts0x
namespace Go.Proofs.Ytfbcijnacbfjpaa
open Go.RowKit Go.Maps
set_option linter.unusedVariables false
set_option linter.unusedSimpArgs false
open Rl (Ex)
def bsl (n b : Nat) : Value := .slice (some ⟨b, 0, none⟩) n n
def natI (L : List Nat) : List Value := L.map fun (x : Nat) => .int .i64 (x : Int)
theorem own_tagB {W : World} {base e size n : Nat} {v : Value} {xs : List Value} (h : W.ownsRow base e size v n xs) {q : Nat} (hq : v.ownBlock = some q) : ∃ cs z, W.heap[q]? = some (.cells cs e z) := by
  obtain ⟨_, ⟨hv, _⟩ | ⟨g', cap, cur, hv, _, hh, _⟩⟩ := h
  · rw [hv] at hq; cases hq
  · rw [hv] at hq
    injection hq with hq
    simp only at hq
    rw [hq] at hh
    exact ⟨_, _, hh⟩
theorem own_apart {W : World} {base e size n base' e' size' n' : Nat} {v v' : Value} {xs xs' : List Value} (h : W.ownsRow base e size v n xs) (h' : W.ownsRow base' e' size' v' n' xs') (hne : e ≠ e') {q : Nat} (hq : v.ownBlock = some q) : ¬ v'.ownBlock = some q := fun hq' => by
  obtain ⟨cs, z, hh⟩ := own_tagB h hq
  obtain ⟨cs', z', hh'⟩ := own_tagB h' hq'
  exact tag_ne hh hh' hne rfl
/-- what holds at the head of the loop over the states. -/
structure Rst (W0 W : World) (n ab : Nat) (found nms sbs : List Nat) (vSt vNm vX vO : Value) (rows : List Value) (nx : List (List Nat)) (o : List Nat) : Prop where
  on : Only (fun b => W0.heap.size ≤ b) W0 W
  sl : sbs.length = found.length
  st : W.ownsRow W0.heap.size 86 1 vSt found.length (sbs.map (bsl n))
  sb : ∀ (i s b : Nat), found[i]? = some s → sbs[i]? = some b → Bk W b n s ∧ W0.heap.size ≤ b
  nmr : W.ownsRow W0.heap.size 9 1 vNm nms.length (nms.map fun s => .string (nm n s))
  al : W0.heap.size ≤ ab
  abk : W.heap[ab]? = some (.cells #[vX, vO] 33 (0, 0))
  rl : rows.length = nx.length
  nxr : W.ownsRow W0.heap.size 43 1 vX rows.length rows
  ro : ∀ (i : Nat) (r : Value) (L : List Nat), rows[i]? = some r → nx[i]? = some L → W.ownsRow W0.heap.size 3 1 r L.length (natI L)
  ot : W.ownsRow W0.heap.size 47 1 vO o.length (o.map u32V)
theorem Rst.row {W0 W : World} {n ab : Nat} {found nms sbs : List Nat} {vSt vNm vX vO : Value} {rows : List Value} {nx : List (List Nat)} {o : List Nat} (h : Rst W0 W n ab found nms sbs vSt vNm vX vO rows nx o) {r : Value} (hr : r ∈ rows) : ∃ L, W.ownsRow W0.heap.size 3 1 r L.length (natI L) := by
  obtain ⟨i, hi⟩ := List.mem_iff_getElem?.1 hr
  have hl := (List.getElem?_eq_some_iff.1 hi).1
  obtain ⟨L, hL⟩ : ∃ L, nx[i]? = some L := ⟨_, List.getElem?_eq_getElem (by rw [← h.rl]; exact hl)⟩
  exact ⟨L, h.ro i r L hi hL⟩
theorem Rst.blk {W0 W : World} {n ab : Nat} {found nms sbs : List Nat} {vSt vNm vX vO : Value} {rows : List Value} {nx : List (List Nat)} {o : List Nat} (h : Rst W0 W n ab found nms sbs vSt vNm vX vO rows nx o) {b : Nat} (hb : b ∈ sbs) : ∃ s, Bk W b n s ∧ W0.heap.size ≤ b := by
  obtain ⟨i, hi⟩ := List.mem_iff_getElem?.1 hb
  have hl := (List.getElem?_eq_some_iff.1 hi).1
  obtain ⟨s, hs⟩ : ∃ s, found[i]? = some s := ⟨_, List.getElem?_eq_getElem (by rw [← h.sl]; exact hl)⟩
  exact ⟨s, h.sb i s b hs hi⟩
theorem Rst.keep {W0 W W' : World} {n ab : Nat} {found nms sbs : List Nat} {vSt vNm vX vO : Value} {rows : List Value} {nx : List (List Nat)} {o : List Nat} (h : Rst W0 W n ab found nms sbs vSt vNm vX vO rows nx o) {P : Nat → Prop} (ho : Only P W W') (h0 : ∀ q, P q → W0.heap.size ≤ q) (h1 : ∀ q, vSt.ownBlock = some q → ¬ P q) (h2 : ∀ q, vNm.ownBlock = some q → ¬ P q) (h3 : ¬ P ab) (h4 : ∀ q, vX.ownBlock = some q → ¬ P q) (h5 : ∀ q, vO.ownBlock = some q → ¬ P q) (h6 : ∀ b ∈ sbs, ¬ P b) (h7 : ∀ r ∈ rows, ∀ q, r.ownBlock = some q → ¬ P q) : Rst W0 W' n ab found nms sbs vSt vNm vX vO rows nx o := by
  obtain ⟨a1, a2, a3, a4, a5, a6, a7, a8, a9, a10, a11⟩ := h
  refine ⟨a1.trans (ho.mono h0), a2, own_keep a3 ho h1, fun i s b hi hb => ?_, own_keep a5 ho h2, a6, (ho.block ab (Array.getElem?_eq_some_iff.1 a7).1 h3).trans a7, a8, own_keep a9 ho h4, fun i r L hr hL => own_keep (a10 i r L hr hL) ho (h7 r (List.mem_of_getElem? hr)), own_keep a11 ho h5⟩
  obtain ⟨k1, k2⟩ := a4 i s b hi hb
  exact ⟨k1.only ho (h6 b (List.mem_of_getElem? hb)), k2⟩
theorem Rst.only0 {W0 W W' : World} {n ab : Nat} {found nms sbs : List Nat} {vSt vNm vX vO : Value} {rows : List Value} {nx : List (List Nat)} {o : List Nat} (h : Rst W0 W n ab found nms sbs vSt vNm vX vO rows nx o) (ho : Only (fun _ => False) W W') : Rst W0 W' n ab found nms sbs vSt vNm vX vO rows nx o :=
  h.keep ho (fun _ h => h.elim) (fun _ _ h => h) (fun _ _ h => h) (fun h => h) (fun _ _ h => h) (fun _ _ h => h) (fun _ _ h => h) (fun _ _ _ _ h => h)
/-- a new row of bools turns. -/
theorem Rst.tset {W0 W W' : World} {n ab : Nat} {found nms sbs : List Nat} {vSt vNm vX vO : Value} {rows : List Value} {nx : List (List Nat)} {o : List Nat} (h : Rst W0 W n ab found nms sbs vSt vNm vX vO rows nx o) {tb m s : Nat} (ht : Bk W tb m s) (hl : W0.heap.size ≤ tb) (hn : ∀ b ∈ sbs, b ≠ tb) (ho : Only (· = tb) W W') : Rst W0 W' n ab found nms sbs vSt vNm vX vO rows nx o := by
  refine h.keep ho (fun q hq => by omega) (fun q hq e => ?_) (fun q hq e => ?_) (fun e => ?_) (fun q hq e => ?_) (fun q hq e => ?_) hn (fun r hr q hq e => ?_)
  · subst e; exact own_ne h.st ht (by decide) hq
  · subst e; exact own_ne h.nmr ht (by decide) hq
  · subst e; exact tag_ne h.abk ht (by decide) rfl
  · subst e; exact own_ne h.nxr ht (by decide) hq
  · subst e; exact own_ne h.ot ht (by decide) hq
  · subst e
    obtain ⟨L, hL⟩ := h.row hr
    exact own_ne hL ht (by decide) hq
/-- one more name. -/
theorem Rst.name {W0 W W' : World} {n ab : Nat} {found nms sbs : List Nat} {vSt vNm vX vO : Value} {rows : List Value} {nx : List (List Nat)} {o : List Nat} (h : Rst W0 W n ab found nms sbs vSt vNm vX vO rows nx o) {s : Nat} {v' : Value} (hown : W'.ownsRow W0.heap.size 9 1 v' (nms.length + 1) ((nms.map fun s => .string (nm n s)) ++ [.string (nm n s)])) (ho : Only (fun q => vNm.ownBlock = some q) W W') : Rst W0 W' n ab found (nms ++ [s]) sbs vSt v' vX vO rows nx o := by
  have hk : Rst W0 W' n ab found [] sbs vSt (.slice none 0 0) vX vO rows nx o := by
    have h' : Rst W0 W n ab found [] sbs vSt (.slice none 0 0) vX vO rows nx o := ⟨h.on, h.sl, h.st, h.sb, World.ownsRow_nil _ _ _ _, h.al, h.abk, h.rl, h.nxr, h.ro, h.ot⟩
    refine h'.keep ho (fun q hq => (h.nmr.lt q hq).1) (fun q hq => own_apart h.st h.nmr (by decide) hq) (fun q hq => by cases hq) (fun e => own_ne h.nmr h.abk (by decide) e) (fun q hq => own_apart h.nxr h.nmr (by decide) hq) (fun q hq => own_apart h.ot h.nmr (by decide) hq) (fun b hb e => ?_) (fun r hr q hq => ?_)
    · obtain ⟨s, hs, _⟩ := h.blk hb
      exact own_ne h.nmr hs (by decide) e
    · obtain ⟨L, hL⟩ := h.row hr
      exact own_apart hL h.nmr (by decide) hq
  exact ⟨hk.on, hk.sl, hk.st, hk.sb, by rw [List.map_append, List.length_append]; exact hown, hk.al, hk.abk, hk.rl, hk.nxr, hk.ro, hk.ot⟩
/-- one more state. -/
theorem Rst.stat {W0 W W' : World} {n ab : Nat} {found nms sbs : List Nat} {vSt vNm vX vO : Value} {rows : List Value} {nx : List (List Nat)} {o : List Nat} (h : Rst W0 W n ab found nms sbs vSt vNm vX vO rows nx o) {s b : Nat} {v' : Value} (hown : W'.ownsRow W0.heap.size 86 1 v' (found.length + 1) (sbs.map (bsl n) ++ [bsl n b])) (ho : Only (fun q => vSt.ownBlock = some q) W W') (hb : Bk W b n s) (hl : W0.heap.size ≤ b) : Rst W0 W' n ab (found ++ [s]) nms (sbs ++ [b]) v' vNm vX vO rows nx o := by
  have hk : Rst W0 W' n ab found nms sbs (.slice none 0 0) vNm vX vO rows nx o ∨ True := Or.inr trivial
  have hbs : ∀ b ∈ sbs, ¬ vSt.ownBlock = some b := fun b hb e => by
    obtain ⟨s, hs, _⟩ := h.blk hb
    exact own_ne h.st hs (by decide) e
  have hrs : ∀ r ∈ rows, ∀ q, r.ownBlock = some q → ¬ vSt.ownBlock = some q := fun r hr q hq => by
    obtain ⟨L, hL⟩ := h.row hr
    exact own_apart hL h.st (by decide) hq
  refine ⟨h.on.trans (ho.mono (fun q hq => (h.st.lt q hq).1)), by simp [h.sl], by rw [List.map_append, List.length_append]; exact hown, fun i x y hi hy => ?_, own_keep h.nmr ho (fun q hq => own_apart h.nmr h.st (by decide) hq), h.al, (ho.block ab (Array.getElem?_eq_some_iff.1 h.abk).1 (fun e => own_ne h.st h.abk (by decide) e)).trans h.abk, h.rl, own_keep h.nxr ho (fun q hq => own_apart h.nxr h.st (by decide) hq), fun i r L hr hL => own_keep (h.ro i r L hr hL) ho (hrs r (List.mem_of_getElem? hr)), own_keep h.ot ho (fun q hq => own_apart h.ot h.st (by decide) hq)⟩
  by_cases hlt : i < found.length
  · rw [List.getElem?_append_left hlt] at hi
    rw [List.getElem?_append_left (by rw [h.sl]; exact hlt)] at hy
    obtain ⟨k1, k2⟩ := h.sb i x y hi hy
    exact ⟨k1.only ho (hbs y (List.mem_of_getElem? hy)), k2⟩
  · have hi2 := (List.getElem?_eq_some_iff.1 hi).1
    simp at hi2
    obtain rfl : i = found.length := by omega
    rw [List.getElem?_append_right (Nat.le_refl _)] at hi
    rw [List.getElem?_append_right (by rw [h.sl]; exact Nat.le_refl _), h.sl] at hy
    simp at hi hy
    subst hi hy
    exact ⟨hb.only ho (own_ne h.st hb (by decide)), hl⟩
/-- what one more state tells. -/
theorem Rst.tell {W0 W W' : World} {n ab : Nat} {found nms sbs : List Nat} {vSt vNm vX vO : Value} {rows : List Value} {nx : List (List Nat)} {o : List Nat} (h : Rst W0 W n ab found nms sbs vSt vNm vX vO rows nx o) {x : Nat} {v' : Value} (hown : W'.ownsRow W0.heap.size 47 1 v' (o.length + 1) (o.map u32V ++ [u32V x])) (ho : Only (fun q => vO.ownBlock = some q) W W') : Rst W0 (W'.setCell ⟨ab, 1, none⟩ v') n ab found nms sbs vSt vNm vX v' rows nx (o ++ [x]) ∧ W'.heap[ab]? = some (.cells #[vX, vO] 33 (0, 0)) := by
  have k1 : W'.heap[ab]? = some (.cells #[vX, vO] 33 (0, 0)) := (ho.block ab (Array.getElem?_eq_some_iff.1 h.abk).1 (fun e => own_ne h.ot h.abk (by decide) e)).trans h.abk
  have hs : Only (· = ab) W' (W'.setCell ⟨ab, 1, none⟩ v') := (Only.refl (· = ab) _).setCell (p := ⟨ab, 1, none⟩) rfl _
  have hO : Only (fun q => vO.ownBlock = some q ∨ q = ab) W (W'.setCell ⟨ab, 1, none⟩ v') := (ho.mono (fun _ h => Or.inl h)).trans (hs.mono (fun _ h => Or.inr h))
  have hlow : ∀ q, (vO.ownBlock = some q ∨ q = ab) → W0.heap.size ≤ q := fun q hq => by
    rcases hq with hq | rfl
    · exact (h.ot.lt q hq).1
    · exact h.al
  have hav : ∀ {base e size m : Nat} {v : Value} {xs : List Value}, W.ownsRow base e size v m xs → e ≠ 47 → e ≠ 33 → ∀ q, v.ownBlock = some q → ¬ (vO.ownBlock = some q ∨ q = ab) := fun hv h1 h2 q hq e => by
    rcases e with e | rfl
    · exact own_apart hv h.ot h1 hq e
    · exact own_ne hv h.abk (fun e => h2 e.symm) hq
  refine ⟨⟨h.on.trans (hO.mono hlow), h.sl, own_keep h.st hO (hav h.st (by decide) (by decide)), fun i s b hi hb => ?_, own_keep h.nmr hO (hav h.nmr (by decide) (by decide)), h.al, heap_setCell_at k1 _, h.rl, own_keep h.nxr hO (hav h.nxr (by decide) (by decide)), fun i r L hr hL => own_keep (h.ro i r L hr hL) hO (hav (h.ro i r L hr hL) (by decide) (by decide)), ?_⟩, k1⟩
  · obtain ⟨k2, k3⟩ := h.sb i s b hi hb
    refine ⟨k2.only hO (fun e => ?_), k3⟩
    rcases e with e | rfl
    · exact own_ne h.ot k2 (by decide) e
    · exact tag_ne h.abk k2 (by decide) rfl
  · rw [List.map_append, List.length_append]
    refine own_keep hown hs (fun q hq e => ?_)
    subst e
    exact own_ne hown k1 (by decide) hq
/-- one more state's ways. -/
theorem Rst.next {W0 W W' : World} {n ab : Nat} {found nms sbs : List Nat} {vSt vNm vX vO : Value} {rows : List Value} {nx : List (List Nat)} {o : List Nat} (h : Rst W0 W n ab found nms sbs vSt vNm vX vO rows nx o) {r : Value} {L : List Nat} {v' : Value} (hr : W.ownsRow W0.heap.size 3 1 r L.length (natI L)) (hown : W'.ownsRow W0.heap.size 43 1 v' (rows.length + 1) (rows ++ [r])) (ho : Only (fun q => vX.ownBlock = some q) W W') : Rst W0 (W'.setCell ⟨ab, 0, none⟩ v') n ab found nms sbs vSt vNm v' vO (rows ++ [r]) (nx ++ [L]) o ∧ W'.heap[ab]? = some (.cells #[vX, vO] 33 (0, 0)) := by
  have k1 : W'.heap[ab]? = some (.cells #[vX, vO] 33 (0, 0)) := (ho.block ab (Array.getElem?_eq_some_iff.1 h.abk).1 (fun e => own_ne h.nxr h.abk (by decide) e)).trans h.abk
  have hs : Only (· = ab) W' (W'.setCell ⟨ab, 0, none⟩ v') := (Only.refl (· = ab) _).setCell (p := ⟨ab, 0, none⟩) rfl _
  have hO : Only (fun q => vX.ownBlock = some q ∨ q = ab) W (W'.setCell ⟨ab, 0, none⟩ v') := (ho.mono (fun _ h => Or.inl h)).trans (hs.mono (fun _ h => Or.inr h))
  have hlow : ∀ q, (vX.ownBlock = some q ∨ q = ab) → W0.heap.size ≤ q := fun q hq => by
    rcases hq with hq | rfl
    · exact (h.nxr.lt q hq).1
    · exact h.al
  have hav : ∀ {base e size m : Nat} {v : Value} {xs : List Value}, W.ownsRow base e size v m xs → e ≠ 43 → e ≠ 33 → ∀ q, v.ownBlock = some q → ¬ (vX.ownBlock = some q ∨ q = ab) := fun hv h1 h2 q hq e => by
    rcases e with e | rfl
    · exact own_apart hv h.nxr h1 hq e
    · exact own_ne hv h.abk (fun e => h2 e.symm) hq
  refine ⟨⟨h.on.trans (hO.mono hlow), h.sl, own_keep h.st hO (hav h.st (by decide) (by decide)), fun i s b hi hb => ?_, own_keep h.nmr hO (hav h.nmr (by decide) (by decide)), h.al, heap_setCell_at k1 _, by simp [h.rl], ?_, fun i x M hx hM => ?_, own_keep h.ot hO (hav h.ot (by decide) (by decide))⟩, k1⟩
  · obtain ⟨k2, k3⟩ := h.sb i s b hi hb
    refine ⟨k2.only hO (fun e => ?_), k3⟩
    rcases e with e | rfl
    · exact own_ne h.nxr k2 (by decide) e
    · exact tag_ne h.abk k2 (by decide) rfl
  · rw [List.length_append]
    refine own_keep hown hs (fun q hq e => ?_)
    subst e
    exact own_ne hown k1 (by decide) hq
  · by_cases hlt : i < rows.length
    · rw [List.getElem?_append_left hlt] at hx
      rw [List.getElem?_append_left (by rw [← h.rl]; exact hlt)] at hM
      exact own_keep (h.ro i x M hx hM) hO (hav (h.ro i x M hx hM) (by decide) (by decide))
    · have hi2 := (List.getElem?_eq_some_iff.1 hx).1
      simp at hi2
      obtain rfl : i = rows.length := by omega
      rw [List.getElem?_append_right (Nat.le_refl _)] at hx
      rw [List.getElem?_append_right (by rw [h.rl]; exact Nat.le_refl _), h.rl] at hM
      simp at hx hM
      subst hx hM
      exact own_keep hr hO (hav hr (by decide) (by decide))
/-- the ways that are being found turn. -/
theorem Rst.ways {W0 W W' : World} {n ab : Nat} {found nms sbs : List Nat} {vSt vNm vX vO : Value} {rows : List Value} {nx : List (List Nat)} {o : List Nat} (h : Rst W0 W n ab found nms sbs vSt vNm vX vO rows nx o) {Sw m : Nat} {v : Value} {xs : List Value} (hv : W.ownsRow Sw 3 1 v m xs) (hS : W0.heap.size ≤ Sw) (hr : ∀ r ∈ rows, ∀ q, r.ownBlock = some q → q < Sw) (ho : Only (fun q => v.ownBlock = some q) W W') : Rst W0 W' n ab found nms sbs vSt vNm vX vO rows nx o := by
  refine h.keep ho (fun q hq => Nat.le_trans hS (hv.lt q hq).1) (fun q hq => own_apart h.st hv (by decide) hq) (fun q hq => own_apart h.nmr hv (by decide) hq) (fun e => own_ne hv h.abk (by decide) e) (fun q hq => own_apart h.nxr hv (by decide) hq) (fun q hq => own_apart h.ot hv (by decide) hq) (fun b hb e => ?_) (fun r hrr q hq e => ?_)
  · obtain ⟨s, hs, _⟩ := h.blk hb
    exact own_ne hv hs (by decide) e
  · have := hr r hrr q hq
    have := (hv.lt q e).1
    omega
end Go.Proofs.Ytfbcijnacbfjpaa
namespace Go.Proofs.Ytfbcijnacbfjpaa
open Go.RowKit Go.Maps
set_option linter.unusedVariables false
set_option linter.unusedSimpArgs false
open Rl (Ex)
/-- an automaton that lies in memory. -/
def Ra (W : World) (lo : Nat) (v : Value) (nx : List (List Nat)) (o : List Nat) : Prop := ∃ (vX vO : Value) (rows : List Value), v = .agg #[vX, vO] ∧ rows.length = nx.length ∧ W.ownsRow lo 43 1 vX rows.length rows ∧ (∀ (i : Nat) (r : Value) (L : List Nat), rows[i]? = some r → nx[i]? = some L → W.ownsRow lo 3 1 r L.length (natI L)) ∧ W.ownsRow lo 47 1 vO o.length (o.map u32V)
def rmakeP (w : World) (R : Except Nat (List (List Nat) × List Nat)) (e : Ending) (w' : World) : Prop :=
  (match R with
  | .error k => e = .returned (.tuple #[noAut, .int .i64 (errN k)])
  | .ok (nx, o) => ∃ v, e = .returned (.tuple #[v, .int .i64 0]) ∧ Ra w' w.heap.size v nx o) ∧ Only (fun _ => False) w w'
theorem all_cnt : ∀ (es : List Ex) (l : List Au.Nd) (p : Au.Pl), p.sets.length ≤ 200 → (match Au.all es l p with | none => 200 < p.sets.length + Au.cnts es | some (_, p1) => p1.sets.length = p.sets.length + Au.cnts es ∧ p1.sets.length ≤ 200)
  | [], l, p, hp => by simp only [Au.all, Au.cnts]; exact ⟨rfl, hp⟩
  | e :: es, l, p, hp => by
    have h := Au.node_cnt e p hp
    simp only [Au.all, Au.cnts]
    cases hn : Au.node e p with
    | none => rw [hn] at h; simp only at h ⊢; omega
    | some r =>
      obtain ⟨x, p1⟩ := r
      rw [hn] at h
      simp only at h ⊢
      have k := all_cnt es (l ++ [x]) p1 h.2
      cases h5 : Au.all es (l ++ [x]) p1 with
      | none => rw [h5] at k; simp only at k ⊢; omega
      | some r2 => rw [h5] at k; obtain ⟨_, p2⟩ := r2; simp only at k ⊢; omega
/-- what a state tells of the first r expressions. -/
def outP (l : List Au.Nd) (s r : Nat) : Nat := (List.range r).foldl (fun m r => match l[r]? with | some x => if x.none = true ∨ s &&& x.last ≠ 0 then m ||| 2 ^ r else m | none => m) 0
theorem outP_succ (l : List Au.Nd) (s r : Nat) (x : Au.Nd) (hx : l[r]? = some x) : outP l s (r + 1) = if x.none = true ∨ s &&& x.last ≠ 0 then outP l s r ||| 2 ^ r else outP l s r := by
  unfold outP
  rw [List.range_succ, List.foldl_append]
  simp only [List.foldl_cons, List.foldl_nil, hx]
theorem outP_lt (l : List Au.Nd) (s : Nat) : ∀ r, r ≤ 24 → outP l s r < 2 ^ 24
  | 0, _ => Nat.two_pow_pos _
  | r + 1, h => by
    have ih := outP_lt l s r (by omega)
    have h2 : 2 ^ r < 2 ^ 24 := Nat.pow_lt_pow_right (by decide) (by omega)
    cases hx : l[r]? with
    | none =>
      have e : outP l s (r + 1) = outP l s r := by
        unfold outP
        rw [List.range_succ, List.foldl_append]
        simp only [List.foldl_cons, List.foldl_nil, hx]
      rw [e]; exact ih
    | some x =>
      rw [outP_succ l s r x hx]
      split
      · exact Nat.or_lt_two_pow ih h2
      · exact ih
theorem outP_all (l : List Au.Nd) (s : Nat) : outP l s l.length = Au.out l s := rfl
/-- has any of the first i bits. -/
def anyB (x i : Nat) : Bool := decide (x % 2 ^ i ≠ 0)
theorem anyB_zero (x : Nat) : anyB x 0 = false := by unfold anyB; rw [Nat.pow_zero, Nat.mod_one]; simp
theorem anyB_succ (x i : Nat) : anyB x (i + 1) = (anyB x i || x.testBit i) := by
  unfold anyB
  cases h : x.testBit i with
  | true =>
    rw [low_succ1 _ _ h]
    have : x % 2 ^ i ||| 2 ^ i ≠ 0 := fun e => by
      have := congrArg (fun y => y.testBit i) e
      simp [Nat.testBit_or] at this
    simp [this]
  | false => rw [low_succ0 _ _ h]; simp
theorem anyB_full (x n : Nat) (h : x < 2 ^ n) : anyB x n = decide (x ≠ 0) := by unfold anyB; rw [Nat.mod_eq_of_lt h]
theorem by_bit (p : Au.Pl) (c i : Nat) (hi : i < p.sets.length) : (Au.by' p c).testBit i = decide ((p.sets[i]?.getD 0) / 2 ^ c % 2 = 1) := by
  unfold Au.by'
  rw [fold_bit]
  simp [hi]
theorem ways_in (p : Au.Pl) (m c : Nat) (cs found w : List Nat) (h : m &&& Au.by' p c ∈ found) : Au.ways p m (c :: cs) found w = Au.ways p m cs found (w ++ [found.idxOf (m &&& Au.by' p c)]) := by
  simp only [Au.ways]
  rw [if_pos h]
theorem ways_full (p : Au.Pl) (m c : Nat) (cs found w : List Nat) (h : m &&& Au.by' p c ∉ found) (hf : found.length = 300) : Au.ways p m (c :: cs) found w = none := by
  simp only [Au.ways]
  rw [if_neg h, if_pos hf]
theorem ways_new (p : Au.Pl) (m c : Nat) (cs found w : List Nat) (h : m &&& Au.by' p c ∉ found) (hf : found.length ≠ 300) : Au.ways p m (c :: cs) found w = Au.ways p m cs (found ++ [m &&& Au.by' p c]) (w ++ [found.length]) := by
  simp only [Au.ways]
  rw [if_neg h, if_neg hf]
theorem idx_at : ∀ (l : List Nat) (k s : Nat), l[k]? = some s → (∀ j, j < k → l[j]? ≠ some s) → l.idxOf s = k
  | a :: l, 0, s, h, _ => by
    injection h with h
    subst h
    simp
  | a :: l, k + 1, s, h, hb => by
    have h0 : a ≠ s := fun e => hb 0 (by omega) (by rw [e]; rfl)
    have := idx_at l k s (by simpa using h) (fun j hj => by have := hb (j + 1) (by omega); simpa using this)
    have hab : (a == s) = false := by simpa using h0
    rw [List.idxOf_cons, hab, this]
    rfl
theorem states_step (p : Au.Pl) (l : List Au.Nd) (first classes f n : Nat) (found : List Nat) (nx : List (List Nat)) (o : List Nat) (s : Nat) (hs : found[n]? = some s) : Au.states p l first classes (f + 1) n found nx o = match Au.ways p (Au.may p first s) (List.range classes) found [] with
      | none => none
      | some (found1, w) => Au.states p l first classes f (n + 1) found1 (nx ++ [w]) (o ++ [Au.out l s]) := by
  simp only [Au.states, hs]
  rfl
theorem states_end (p : Au.Pl) (l : List Au.Nd) (first classes f n : Nat) (found : List Nat) (nx : List (List Nat)) (o : List Nat) (hs : found[n]? = none) : Au.states p l first classes (f + 1) n found nx o = some (nx, o) := by
  simp only [Au.states, hs]
set_option maxRecDepth 100000 in
set_option maxHeartbeats 4000000 in
theorem rmake_range (a : Option Addr) (n c : Nat) (cl : Int) (w : World) (h : cl < 1 ∨ 24 < cl ∨ 24 < n) :
    Calls Try.prog 12 #[.slice a n c, .int .i64 cl] w fun e w' => e = .returned (.tuple #[noAut, .int .i64 2]) ∧ Only (fun _ => False) w w' := by
  unfold noAut
  by_cases h1 : cl < 1
  · clear h
    go_enter Try.func12, Try.ntmps12
    go_wp2_with fail
    exact bodyPost_ret (v := .tuple #[.agg #[.slice none 0 0, .slice none 0 0], .int .i64 2]) (by simp [results, Try.results12, go_sem]) rfl ⟨rfl, (Only.refl _ _).alloc _⟩
  · have g1 : decide (cl < 1) = false := decide_eq_false h1
    by_cases h2 : 24 < cl
    · clear h
      go_enter Try.func12, Try.ntmps12
      go_wp2_with fail
      exact bodyPost_ret (v := .tuple #[.agg #[.slice none 0 0, .slice none 0 0], .int .i64 2]) (by simp [results, Try.results12, go_sem]) rfl ⟨rfl, (Only.refl _ _).alloc _⟩
    · have g2 : decide (24 < cl) = false := decide_eq_false h2
      have h3 : (24 : Int) < (n : Int) := by omega
      clear h h1 h2
      go_enter Try.func12, Try.ntmps12
      go_wp2_with fail
      exact bodyPost_ret (v := .tuple #[.agg #[.slice none 0 0, .slice none 0 0], .int .i64 2]) (by simp [results, Try.results12, go_sem]) rfl ⟨rfl, (Only.refl _ _).alloc _⟩
set_option maxRecDepth 100000 in
set_option maxHeartbeats 4000000 in
theorem rmake_places (F : Nat → Prop) (es : List Ex) (a : Option Addr) (c : Nat) (cl : Nat) (w : World) (hL : Lex w F es a c) (h1 : 1 ≤ cl) (h2 : cl ≤ 24) (hn : es.length ≤ 24) (hN : Nns es) (hT : Au.cnts es ≤ 1000000000000000) (hP : 200 < Au.cnts es) :
    Calls Try.prog 12 #[.slice a es.length c, .int .i64 (cl : Int)] w fun e w' => e = .returned (.tuple #[noAut, .int .i64 26]) ∧ Only (fun _ => False) w w' := by
  have HC : Hid (Calls Try.prog 27 #[.slice a es.length c] (w.alloc (.cells #[.slice none 0 0, .slice none 0 0] 33)) fun e' w' => e' = .returned (.int .i64 (Au.cnts es : Int)) ∧ Only (fun _ => False) (w.alloc (.cells #[.slice none 0 0, .slice none 0 0] 33)) w') := by
    have hA : Only (fun _ => False) w (w.alloc (.cells #[.slice none 0 0, .slice none 0 0] 33)) := (Only.refl _ _).alloc _
    exact places_any F es a c _ (fun h => by
      obtain ⟨b, off, k1, k2, k3⟩ := hL.2 h
      exact ⟨b, off, k1, k2, Tes.keep (Kp.only hA (fun _ _ h => h)) (fun _ h => h) es b off k2 k3⟩) (by omega) hN hT
  obtain ⟨n, hnn⟩ : ∃ n, n = es.length := ⟨_, rfl⟩
  rw [← hnn] at hn HC ⊢
  obtain ⟨N, hNN⟩ : ∃ N, N = Au.cnts es := ⟨_, rfl⟩
  rw [← hNN] at hT hP HC
  clear hnn hNN hL hN
  have g1 : decide ((cl : Int) < 1) = false := decide_eq_false (by omega)
  have g2 : decide (24 < (cl : Int)) = false := decide_eq_false (by omega)
  have g3 : decide (24 < (n : Int)) = false := decide_eq_false (by omega)
  have g4 : (200 : Int) < (N : Int) := by omega
  unfold noAut
  go_enter Try.func12, Try.ntmps12
  go_wp2_with (go_at_call 27; refine HC.out.mono ?_; rintro e w1 ⟨rfl, ho⟩; have hb : w1.heap[w.heap.size]? = some (.cells #[.slice none 0 0, .slice none 0 0] 33 (0, 0)) := (ho.block _ (by simp) (fun h => h)).trans (heap_alloc_new _ _); have HB : Hid (w1.heap[w.heap.size]? = some (.cells #[.slice none 0 0, .slice none 0 0] 33 (0, 0))) := hb; have r0 : w1.cell? ⟨w.heap.size, 0, none⟩ = some (.slice none 0 0) := cell_blk hb; have r1 : w1.cell? ⟨w.heap.size, 1, none⟩ = some (.slice none 0 0) := cell_blk hb; have r2 := fz_blk hb; have hl : w.heap.size < w1.heap.size := (Array.getElem?_eq_some_iff.1 hb).1; have HO : Hid (Only (fun _ => False) w w1) := ((Only.refl _ _).alloc _).trans ho; clear ho hb)
  refine bodyPost_ret (v := .tuple #[noAut, .int .i64 26]) (results_row1 (p := 4) (u := 5) rfl _ _ w.heap.size 33 #[.slice none 0 0, .slice none 0 0] (0, 0) _ rfl (heap_setCell_at (heap_setCell_at HB.out _) _) Try.underlying33 rfl sz33 rfl) rfl ⟨rfl, ?_⟩
  exact (HO.out.setNew (p := ⟨w.heap.size, 0, none⟩) (Nat.le_refl _) _).setNew (p := ⟨w.heap.size, 1, none⟩) (Nat.le_refl _) _
end Go.Proofs.Ytfbcijnacbfjpaa
namespace Go.Proofs.Ytfbcijnacbfjpaa
open Go.RowKit Go.Maps
set_option linter.unusedVariables false
set_option linter.unusedSimpArgs false
open Rl (Ex)
def resC : Obj := .cells #[.slice none 0 0, .slice none 0 0] 33 (0, 0)
/-- the rows that are made first. -/
structure Nxs (w W : World) (g n i : Nat) (rbl : List Nat) (vN : Value) : Prop where
  res : W.heap[w.heap.size]? = some resC
  blk : W.heap[g]? = some (.cells #[.slice none 0 0, vN] 85 (0, 0))
  gl : w.heap.size ≤ g
  own : W.ownsRow w.heap.size 86 1 vN i (rbl.map (bsl n))
  ln : rbl.length = i
  ndp : rbl.Nodup
  rws : ∀ b ∈ rbl, Bk W b n 0 ∧ w.heap.size ≤ b
  on : Only (fun _ => False) w W
theorem two_at (W : World) (A B : Obj) : ((W.alloc A).alloc B).heap[W.heap.size]? = some A := (Below.heap_alloc _ _ _ (by simp)).trans (heap_alloc_new _ _)
theorem Nxs.more {w W W2 w5 : World} {g n i : Nat} {rbl : List Nat} {vN v' : Value} (h : Nxs w W g n i rbl vN) (hb : Bk W2 W.heap.size n 0) (h2 : Only (fun _ => False) W W2) (hown : w5.ownsRow w.heap.size 86 1 v' (i + 1) (rbl.map (bsl n) ++ [bsl n W.heap.size])) (hg : W2.grownBy w5 vN.ownBlock) :
    Hid (Nxs w (w5.setCell ⟨g, 1, none⟩ v') g n (i + 1) (rbl ++ [W.heap.size]) v') ∧ w5.cell? ⟨g, 1, none⟩ = some vN ∧ w5.frozen? ⟨g, 1, none⟩ = false ∧ g < w5.heap.size := by
  obtain ⟨h1, hk, hgl, h3, h4, h5, h6, h7⟩ := h
  have ho : Only (fun q => vN.ownBlock = some q) W2 w5 := (Only.refl _ _).grown hg (fun k h => h)
  have k0 : W2.heap[w.heap.size]? = some resC := (h2.block _ (Array.getElem?_eq_some_iff.1 h1).1 (fun h => h)).trans h1
  have k1 : W2.heap[g]? = some (.cells #[.slice none 0 0, vN] 85 (0, 0)) := (h2.block _ (Array.getElem?_eq_some_iff.1 hk).1 (fun h => h)).trans hk
  have k3 : W2.ownsRow w.heap.size 86 1 vN i (rbl.map (bsl n)) := own_only h3 h2 (fun _ _ h => h)
  have m0 : w5.heap[w.heap.size]? = some resC := (ho.block _ (Array.getElem?_eq_some_iff.1 k0).1 (fun e => own_ne k3 k0 (by decide) e)).trans k0
  have m1 : w5.heap[g]? = some (.cells #[.slice none 0 0, vN] 85 (0, 0)) := (ho.block _ (Array.getElem?_eq_some_iff.1 k1).1 (fun e => own_ne k3 k1 (by decide) e)).trans k1
  have hs : Only (· = g) w5 (w5.setCell ⟨g, 1, none⟩ v') := (Only.refl (· = g) _).setCell (p := ⟨g, 1, none⟩) rfl _
  refine ⟨⟨(hs.block _ (Array.getElem?_eq_some_iff.1 m0).1 (tag_ne m0 m1 (by decide))).trans m0, heap_setCell_at m1 _, hgl, ?_, by simp [h4], ?_, ?_, ?_⟩, cell_blk m1, fz_blk m1 1, (Array.getElem?_eq_some_iff.1 m1).1⟩
  · rw [List.map_append]
    refine own_keep hown hs (fun q hq e => ?_)
    subst e
    exact own_ne hown m1 (by decide) hq
  · rw [List.nodup_append]
    refine ⟨h5, by simp, fun x hx y hy e => ?_⟩
    simp at hy
    subst hy e
    have := (h6 _ hx).1.lt
    omega
  · intro b hbm
    have hb2 : Bk W2 b n 0 ∧ w.heap.size ≤ b := by
      rcases List.mem_append.1 hbm with hbm | hbm
      · exact ⟨(h6 b hbm).1.keep h2, (h6 b hbm).2⟩
      · simp at hbm
        subst hbm
        exact ⟨hb, h7.size⟩
    have hb5 := hb2.1.only ho (fun e => own_ne k3 hb2.1 (by decide) e)
    exact ⟨hb5.only hs (tag_ne hb5 m1 (by decide)), hb2.2⟩
  · have e1 : Only (fun q => w.heap.size ≤ q) w w5 := (h7.mono (fun _ h => h.elim)).trans ((h2.mono (fun _ h => h.elim)).trans (ho.mono (fun q hq => (k3.lt q hq).1)))
    exact (e1.trans (hs.mono (fun q hq => by subst hq; exact hgl))).old (fun _ h => Or.inl h)
/-- the maker, when its rows are made. -/
theorem Nxs.mkr {w W : World} {g n : Nat} {rbl : List Nat} {vN : Value} (h : Nxs w W g n n rbl vN) : ∃ q0, Mkr W g w.heap.size n Au.pl0 (.slice none 0 0) vN q0 (fun i => rbl[i]?.getD 0) ∧ ∀ i, i < n → rbl[i]?.getD 0 < W.heap.size := by
  obtain ⟨h1, hk, hgl, h3, h4, h5, h6, h7⟩ := h
  have hget : ∀ i, i < n → ∃ b, rbl[i]? = some b := fun i hi => ⟨_, List.getElem?_eq_getElem (by omega)⟩
  have hri : ∀ i j, i < n → j < n → rbl[i]?.getD 0 = rbl[j]?.getD 0 → i = j := fun i j hi hj e => by
    have hi' : i < rbl.length := by omega
    have hj' : j < rbl.length := by omega
    rw [List.getElem?_eq_getElem hi', List.getElem?_eq_getElem hj'] at e
    simp only [Option.getD_some] at e
    exact (List.getElem_inj h5).1 e
  have hrw : ∀ i, i < n → Bk W (rbl[i]?.getD 0) n 0 ∧ w.heap.size ≤ rbl[i]?.getD 0 := fun i hi => by
    obtain ⟨b, hb⟩ := hget i hi
    rw [hb]
    exact h6 b (List.mem_of_getElem? hb)
  by_cases h0 : 0 < n
  · obtain ⟨q0, cN, hv, hq0, hql, hqc, hcell⟩ := row_form h3 h0
    have htag : ∃ cs z, W.heap[q0]? = some (.cells cs 86 z) := own_tagB h3 (by rw [hv]; rfl)
    refine ⟨q0, ⟨hk, World.ownsRow_nil _ _ _ _, hgl, fun _ => ⟨cN, hv⟩, fun i hi => ?_, fun _ => htag, fun i hi => (hrw i hi).1, hri, fun i hi => (hrw i hi).2⟩, fun i hi => (hrw i hi).1.lt⟩
    obtain ⟨b, hb⟩ := hget i hi
    rw [hcell i (by omega), List.getElem?_map, hb]
    rfl
  · exact ⟨0, ⟨hk, World.ownsRow_nil _ _ _ _, hgl, fun h => absurd h h0, fun i hi => by omega, fun h => absurd h h0, fun i hi => (hrw i hi).1, hri, fun i hi => (hrw i hi).2⟩, fun i hi => (hrw i hi).1.lt⟩
/-- nodes as cells. -/
def ndC (n : Nat) (tr : List (Bool × Nat × Nat)) : List Value := tr.flatMap fun t => [.bool t.1, bsl n t.2.1, bsl n t.2.2]
theorem ndC_snoc (n : Nat) (tr : List (Bool × Nat × Nat)) (t : Bool × Nat × Nat) : ndC n (tr ++ [t]) = ndC n tr ++ [.bool t.1, bsl n t.2.1, bsl n t.2.2] := by simp [ndC]
theorem ndC_at (n : Nat) : ∀ (tr : List (Bool × Nat × Nat)) (i : Nat) (t : Bool × Nat × Nat), tr[i]? = some t → (ndC n tr)[i * 3]? = some (.bool t.1) ∧ (ndC n tr)[i * 3 + 1]? = some (bsl n t.2.1) ∧ (ndC n tr)[i * 3 + 2]? = some (bsl n t.2.2)
  | t0 :: tr, 0, t, h => by
    injection h with h
    subst h
    exact ⟨rfl, rfl, rfl⟩
  | t0 :: tr, i + 1, t, h => by
    have ih := ndC_at n tr i t (by simpa using h)
    have e : ndC n (t0 :: tr) = [.bool t0.1, bsl n t0.2.1, bsl n t0.2.2] ++ ndC n tr := by simp [ndC]
    rw [e]
    have f : ∀ j, ([Value.bool t0.1, bsl n t0.2.1, bsl n t0.2.2] ++ ndC n tr)[j + 3]? = (ndC n tr)[j]? := fun j => by
      rw [List.getElem?_append_right (by simp)]
      simp
    rw [show (i + 1) * 3 = i * 3 + 3 by omega, show i * 3 + 3 + 1 = i * 3 + 1 + 3 by omega, show i * 3 + 3 + 2 = i * 3 + 2 + 3 by omega, f, f, f]
    exact ih
/-- the nodes that are made then. -/
structure Nds (w W : World) (R0 g n : Nat) (vN : Value) (q0 : Nat) (rb : Nat → Nat) (l : List Au.Nd) (p1 : Au.Pl) (vS vNd : Value) (tr : List (Bool × Nat × Nat)) (ff : Nat) : Prop where
  res : W.heap[w.heap.size]? = some resC
  mkr : Mkr W g w.heap.size n p1 vS vN q0 rb
  rlt : ∀ i, i < n → rb i < R0
  own : W.ownsRow w.heap.size 89 3 vNd l.length (ndC n tr)
  ln : tr.length = l.length
  la : ∀ (j : Nat) (x : Au.Nd) (t : Bool × Nat × Nat), l[j]? = some x → tr[j]? = some t → t.1 = x.none ∧ Bk W t.2.2 n x.last ∧ R0 ≤ t.2.2
  fr : Bk W ff n (orF l)
  frl : R0 ≤ ff
  on : Only (fun _ => False) w W
theorem Nds.keep {w W W' : World} {R0 g n : Nat} {vN : Value} {q0 : Nat} {rb : Nat → Nat} {l : List Au.Nd} {p1 : Au.Pl} {vS vNd : Value} {tr : List (Bool × Nat × Nat)} {ff : Nat} (h : Nds w W R0 g n vN q0 rb l p1 vS vNd tr ff) (ho : Only (fun _ => False) W W') : Nds w W' R0 g n vN q0 rb l p1 vS vNd tr ff := by
  obtain ⟨a1, a2, a3, a4, a5, a6, a7, a8, a9⟩ := h
  exact ⟨(ho.block _ (Array.getElem?_eq_some_iff.1 a1).1 (fun h => h)).trans a1, a2.keep ho, a3, own_only a4 ho (fun _ _ h => h), a5, fun j x t hj ht => ⟨(a6 j x t hj ht).1, (a6 j x t hj ht).2.1.keep ho, (a6 j x t hj ht).2.2⟩, a7.keep ho, a8, a9.trans ho⟩
theorem own_frz {W W' : World} {B n : Nat} {rb : Nat → Nat} {base e size m : Nat} {v : Value} {xs : List Value} (h : W.ownsRow base e size v m xs) (hz : Frz B n rb W W') (h1 : e ≠ 85) (h2 : e ≠ 47) (hr : ∀ q, v.ownBlock = some q → ∀ i, i < n → rb i ≠ q) : W'.ownsRow base e size v m xs := by
  obtain ⟨hl, h | ⟨g, cap, cur, hv, hb, hh, k1, k2, k3, k4⟩⟩ := h
  · exact ⟨hl, Or.inl h⟩
  · exact ⟨hl, Or.inr ⟨g, cap, cur, hv, hb, hz.2 _ _ _ _ hh h1 h2 (hr g (by rw [hv]; rfl)), k1, k2, k3, k4⟩⟩
/-- behind one more node. -/
theorem Nds.more {w W w2 w5 w6 : World} {R0 g n : Nat} {vN : Value} {q0 : Nat} {rb : Nat → Nat} {l : List Au.Nd} {p1 p2 : Au.Pl} {vS vS2 vNd v' : Value} {tr : List (Bool × Nat × Nat)} {ff f6 : Nat} {x : Au.Nd} {fx lx : Nat} (h : Nds w W R0 g n vN q0 rb l p1 vS vNd tr ff) (hM2 : Mkr w2 g w.heap.size n p2 vS2 vN q0 rb) (hZ2 : Frz w.heap.size n rb W w2) (hlx : R0 ≤ lx) (hBl : Bk w2 lx n x.last)
    {W3 : World} (hO3 : Only (fun _ => False) w2 W3) (hown : w5.ownsRow w.heap.size 89 3 v' (l.length + 1) (ndC n tr ++ [.bool x.none, bsl n fx, bsl n lx])) (hg : Only (fun q => vNd.ownBlock = some q) W3 w5) (hO6 : Only (fun _ => False) w5 w6) (hf : Bk w6 f6 n (orF l ||| x.first)) (hfl : R0 ≤ f6) : Nds w w6 R0 g n vN q0 rb (l ++ [x]) p2 vS2 v' (tr ++ [(x.none, fx, lx)]) f6 := by
  obtain ⟨a1, a2, a3, a4, a5, a6, a7, a8, a9⟩ := h
  have hr4 : ∀ q, vNd.ownBlock = some q → ∀ i, i < n → rb i ≠ q := fun q hq i hi e => by
    subst e
    exact own_ne a4 (a2.rw i hi) (by decide) hq
  have b4 : w2.ownsRow w.heap.size 89 3 vNd l.length (ndC n tr) := own_frz a4 hZ2 (by decide) (by decide) hr4
  have c4 := own_only b4 hO3 (fun _ _ h => h)
  have hN : Only (fun q => ∃ cs z, W3.heap[q]? = some (.cells cs 89 z)) W3 w5 := hg.mono (fun q hq => own_tagB c4 hq)
  have noN : ∀ (q : Nat) (cs : Array Value) (t : TypeId) (z : Nat × Nat), W3.heap[q]? = some (.cells cs t z) → t ≠ 89 → ¬ vNd.ownBlock = some q := fun q cs t z hq ht e => own_ne c4 hq ht e
  have kb : ∀ {q s : Nat}, Bk w2 q n s → Bk w6 q n s := fun {q s} hq => ((hq.keep hO3).only hg (noN _ _ _ _ (hq.keep hO3) (by decide))).keep hO6
  have r1 : w2.heap[w.heap.size]? = some resC := hZ2.2 _ _ _ _ a1 (by decide) (by decide) (fun i hi e => by
    have := a2.rw i hi
    rw [e] at this
    exact tag_ne this a1 (by decide) rfl)
  have r3 : W3.heap[w.heap.size]? = some resC := (hO3.block _ (Array.getElem?_eq_some_iff.1 r1).1 (fun h => h)).trans r1
  have r5 : w5.heap[w.heap.size]? = some resC := (hg.block _ (Array.getElem?_eq_some_iff.1 r3).1 (noN _ _ _ _ r3 (by decide))).trans r3
  refine ⟨(hO6.block _ (Array.getElem?_eq_some_iff.1 r5).1 (fun h => h)).trans r5, ((hM2.keep hO3).keepN hg (fun q hq _ => own_tagB c4 hq)).keep hO6, a3, ?_, by simp [a5], ?_, by rw [orF_snoc]; exact hf, hfl, ?_⟩
  · rw [List.length_append, ndC_snoc]
    exact own_only hown hO6 (fun _ _ h => h)
  · intro j y t hj ht
    by_cases hlt : j < l.length
    · rw [List.getElem?_append_left hlt] at hj
      rw [List.getElem?_append_left (by omega)] at ht
      obtain ⟨k1, k2, k3⟩ := a6 j y t hj ht
      exact ⟨k1, kb (hZ2.bk k2 (fun i hi e => by have := a3 i hi; omega)), k3⟩
    · have hj2 := (List.getElem?_eq_some_iff.1 hj).1
      simp at hj2
      obtain rfl : j = l.length := by omega
      rw [List.getElem?_append_right (Nat.le_refl _)] at hj
      rw [List.getElem?_append_right (by omega), a5] at ht
      simp at hj ht
      subst hj ht
      exact ⟨rfl, kb hBl, hlx⟩
  · have e1 : Only (fun q => w.heap.size ≤ q) w w6 := (a9.mono (fun _ h => h.elim)).trans (hZ2.1.trans ((hO3.mono (fun _ h => h.elim)).trans ((hg.mono (fun q hq => (c4.lt q hq).1)).trans (hO6.mono (fun _ h => h.elim)))))
    exact e1.old (fun _ h => Or.inl h)
/-- ahead of one more node. -/
theorem Nds.ahead {w W w2 : World} {R0 g n : Nat} {vN : Value} {q0 : Nat} {rb : Nat → Nat} {l : List Au.Nd} {p1 : Au.Pl} {vS vNd : Value} {tr : List (Bool × Nat × Nat)} {ff : Nat} (h : Nds w W R0 g n vN q0 rb l p1 vS vNd tr ff) (hZ2 : Frz w.heap.size n rb W w2) (X Y : Obj) : Hid (((w2.alloc X).alloc Y).ownsRow w.heap.size 89 3 vNd l.length (ndC n tr)) := by
  obtain ⟨a1, a2, a3, a4, a5, a6, a7, a8, a9⟩ := h
  have b4 : w2.ownsRow w.heap.size 89 3 vNd l.length (ndC n tr) := own_frz a4 hZ2 (by decide) (by decide) (fun q hq i hi e => by
    subst e
    exact own_ne a4 (a2.rw i hi) (by decide) hq)
  exact (b4.alloc _).alloc _
theorem Nds.behind {w W w2 w5 : World} {R0 g n : Nat} {vN : Value} {q0 : Nat} {rb : Nat → Nat} {l : List Au.Nd} {p1 : Au.Pl} {vS vNd : Value} {tr : List (Bool × Nat × Nat)} {ff : Nat} (h : Nds w W R0 g n vN q0 rb l p1 vS vNd tr ff) (hZ2 : Frz w.heap.size n rb W w2) {x : Au.Nd} {fx lx : Nat} (hBf : Bk w2 fx n x.first) (Y : Obj) (hg : (((w2.alloc (.cells #[.bool x.none, .slice (some ⟨fx, 0, none⟩) n n, .slice (some ⟨lx, 0, none⟩) n n] 89)).alloc Y)).grownBy w5 vNd.ownBlock) :
    Hid (Only (fun q => vNd.ownBlock = some q) (((w2.alloc (.cells #[.bool x.none, .slice (some ⟨fx, 0, none⟩) n n, .slice (some ⟨lx, 0, none⟩) n n] 89)).alloc Y)) w5) ∧ w5.cell? ⟨w2.heap.size, 1, none⟩ = some (.slice (some ⟨fx, 0, none⟩) n n) ∧ Hid (Bk w5 ff n (orF l)) ∧ Hid (Bk w5 fx n x.first) ∧ w2.heap.size < w5.heap.size := by
  have hA := h.ahead hZ2 (.cells #[.bool x.none, .slice (some ⟨fx, 0, none⟩) n n, .slice (some ⟨lx, 0, none⟩) n n] 89) Y
  have hO : Only (fun q => vNd.ownBlock = some q) (((w2.alloc (.cells #[.bool x.none, .slice (some ⟨fx, 0, none⟩) n n, .slice (some ⟨lx, 0, none⟩) n n] 89)).alloc Y)) w5 := (Only.refl _ _).grown hg (fun k h => h)
  have h2 : Only (fun _ => False) w2 (((w2.alloc (.cells #[.bool x.none, .slice (some ⟨fx, 0, none⟩) n n, .slice (some ⟨lx, 0, none⟩) n n] 89)).alloc Y)) := ((Only.refl _ _).alloc _).alloc _
  have hff : Bk w2 ff n (orF l) := hZ2.bk h.fr (fun i hi e => by have := h.rlt i hi; have := h.frl; omega)
  have hx := two_at w2 (.cells #[.bool x.none, .slice (some ⟨fx, 0, none⟩) n n, .slice (some ⟨lx, 0, none⟩) n n] 89) Y
  have b4 : w2.ownsRow w.heap.size 89 3 vNd l.length (ndC n tr) := own_frz h.own hZ2 (by decide) (by decide) (fun q hq i hi e => by
    subst e
    exact own_ne h.own (h.mkr.rw i hi) (by decide) hq)
  have hx5 := (hO.block _ (Array.getElem?_eq_some_iff.1 hx).1 (fun e => by have := (b4.lt _ e).2; omega)).trans hx
  refine ⟨hO, cell_blk hx5, (hff.keep h2).only hO (fun e => own_ne hA.out (hff.keep h2) (by decide) e), (hBf.keep h2).only hO (fun e => own_ne hA.out (hBf.keep h2) (by decide) e), (Array.getElem?_eq_some_iff.1 hx5).1⟩
end Go.Proofs.Ytfbcijnacbfjpaa
namespace Go.Proofs.Ytfbcijnacbfjpaa
open Go.RowKit Go.Maps
set_option linter.unusedVariables false
set_option linter.unusedSimpArgs false
open Rl (Ex)
def blL (n s : Nat) : List Value := (bA n s).toList
theorem blL_len (n s : Nat) : (blL n s).length = n := by unfold blL; rw [Array.length_toList, bA_size]
theorem blL_at (n s j : Nat) : (blL n s)[j]? = (bA n s)[j]? := by unfold blL; rw [Array.getElem?_toList]
theorem blL_cell (n s : Nat) : ∀ u ∈ blL n s, u.oneCell' = true := by
  intro u hu
  obtain ⟨j, hj⟩ := List.mem_iff_getElem?.1 hu
  rw [blL_at] at hj
  by_cases h : j < n
  · rw [bA_at _ _ _ h] at hj
    injection hj with hj
    subst hj
    rfl
  · rw [bA_none _ _ _ (by omega)] at hj
    cases hj
theorem Bn.news {w : World} {b n s : Nat} (h : Bn w b n s) : ∀ j u, (blL n s)[j]? = some u → w.cell? ((⟨b, 0, none⟩ : Addr).add j) = some u := by
  intro j u hj
  rw [blL_at] at hj
  by_cases hl : j < n
  · rw [bA_at _ _ _ hl] at hj
    injection hj with hj
    subst hj
    rw [Addr.add_mid, Nat.zero_add]
    exact h.2 j hl
  · rw [bA_none _ _ _ (by omega)] at hj
    cases hj
theorem own_bn {w : World} {base g n c s : Nat} (h : w.ownsRow base 4 1 (.slice (some ⟨g, 0, none⟩) n c) n (blL n s)) : Bn w g n s := by
  obtain ⟨_, ⟨hv, _⟩ | ⟨g', cap, cur, hv, hb, hh, h1, h2, h3, h4⟩⟩ := h
  · cases hv
  · injection hv with e1 _ e2
    injection e1 with e1
    injection e1 with e1
    subst e1
    refine ⟨(Array.getElem?_eq_some_iff.1 hh).1, fun j hj => ?_⟩
    rw [cell_of_row _ _ _ _ _ _ hh, ← Array.getElem?_toList]
    have : (cur.toList.take (n * 1))[j]? = (blL n s)[j]? := by rw [h4]
    rw [List.getElem?_take, if_pos (by omega), blL_at, bA_at _ _ _ hj] at this
    exact this
theorem own_bn0 (w : World) : (w.alloc (.cells #[] 4)).ownsRow w.heap.size 4 1 (.slice (some ⟨w.heap.size, 0, none⟩) 0 0) 0 [] := ⟨rfl, Or.inr ⟨w.heap.size, 0, #[], rfl, Nat.le_refl _, heap_alloc_new _ _, Nat.le_refl _, Nat.zero_le _, rfl, rfl⟩⟩
theorem old_cell {W0 W : World} (ho : Only (fun b => W0.heap.size ≤ b) W0 W) {b k : Nat} {v : Value} (h : W0.cell? ⟨b, k, none⟩ = some v) : W.cell? ⟨b, k, none⟩ = some v := by
  have hl := World.block_lt_of_cell? W0 _ h
  exact (World.cell?_of_block (a := ⟨b, k, none⟩) (ho.block b hl (fun e => by have : b < W0.heap.size := hl; omega))).trans h
theorem old_bn {W0 W : World} (ho : Only (fun b => W0.heap.size ≤ b) W0 W) {b n s : Nat} (h : Bn W0 b n s) : Bn W b n s := ⟨Nat.lt_of_lt_of_le h.1 ho.size, fun j hj => old_cell ho (h.2 j hj)⟩
/-- what the states are made of, to be read. -/
structure Rdn (W : World) (g n : Nat) (l : List Au.Nd) (p : Au.Pl) (aS : Option Addr) (cS q0 cN : Nat) (rb : Nat → Nat) (vN : Value) (aD : Option Addr) (cD : Nat) (ff : Nat) : Prop where
  g0 : W.cell? ⟨g, 0, none⟩ = some (.slice aS n cS)
  g1 : 0 < n → W.cell? ⟨g, 1, none⟩ = some (.slice (some ⟨q0, 0, none⟩) n cN)
  gl : g < W.heap.size
  st : ∀ (j : Nat) (x : Int), p.sets[j]? = some x → ∃ sb, aS = some ⟨sb, 0, none⟩ ∧ sb < W.heap.size ∧ W.cell? ⟨sb, j, none⟩ = some (.int .u32 x)
  nx : ∀ i, i < n → W.cell? ⟨q0, i, none⟩ = some (.slice (some ⟨rb i, 0, none⟩) n n) ∧ q0 < W.heap.size
  rw : ∀ i, i < n → Bn W (rb i) n (p.next i)
  nd : ∀ (r : Nat) (x : Au.Nd), l[r]? = some x → ∃ nb lb, aD = some ⟨nb, 0, none⟩ ∧ nb < W.heap.size ∧ W.cell? ⟨nb, r * 3, none⟩ = some (.bool x.none) ∧ W.cell? ⟨nb, r * 3 + 2, none⟩ = some (.slice (some ⟨lb, 0, none⟩) n n) ∧ Bn W lb n x.last
  fr : Bn W ff n (orF l)
theorem Rdn.old {W0 W : World} (ho : Only (fun b => W0.heap.size ≤ b) W0 W) {g n : Nat} {l : List Au.Nd} {p : Au.Pl} {aS : Option Addr} {cS q0 cN : Nat} {rb : Nat → Nat} {vN : Value} {aD : Option Addr} {cD ff : Nat} (h : Rdn W0 g n l p aS cS q0 cN rb vN aD cD ff) : Rdn W g n l p aS cS q0 cN rb vN aD cD ff := by
  obtain ⟨a1, a2, a3, a4, a5, a6, a7, a8⟩ := h
  have up : ∀ b, b < W0.heap.size → b < W.heap.size := fun b hb => Nat.lt_of_lt_of_le hb ho.size
  refine ⟨old_cell ho a1, fun h => old_cell ho (a2 h), up _ a3, fun j x hj => ?_, fun i hi => ⟨old_cell ho (a5 i hi).1, up _ (a5 i hi).2⟩, fun i hi => old_bn ho (a6 i hi), fun r x hr => ?_, old_bn ho a8⟩
  · obtain ⟨sb, k1, k2, k3⟩ := a4 j x hj
    exact ⟨sb, k1, up _ k2, old_cell ho k3⟩
  · obtain ⟨nb, lb, k1, k2, k3, k4, k5⟩ := a7 r x hr
    exact ⟨nb, lb, k1, up _ k2, old_cell ho k3, old_cell ho k4, old_bn ho k5⟩
theorem Nds.read {w W : World} {R0 g n : Nat} {vN : Value} {q0 : Nat} {rb : Nat → Nat} {l : List Au.Nd} {p1 : Au.Pl} {vS : Value} {aD : Option Addr} {cD : Nat} {tr : List (Bool × Nat × Nat)} {ff : Nat} (h : Nds w W R0 g n vN q0 rb l p1 vS (.slice aD l.length cD) tr ff) (hn : p1.sets.length = n) : ∃ aS cS cN, Rdn W g n l p1 aS cS q0 cN rb vN aD cD ff := by
  obtain ⟨a1, a2, a3, a4, a5, a6, a7, a8, a9⟩ := h
  obtain ⟨m1, m2, m3, m4, m5, m6, m7, m8, m9⟩ := a2
  obtain ⟨aS, cS, rfl⟩ := own_form m2
  obtain ⟨cN, hcN⟩ : ∃ cN, 0 < n → vN = .slice (some ⟨q0, 0, none⟩) n cN := by
    by_cases h0 : 0 < n
    · obtain ⟨cN, h⟩ := m4 h0
      exact ⟨cN, fun _ => h⟩
    · exact ⟨0, fun h => absurd h h0⟩
  rw [hn] at m1 m2
  refine ⟨aS, cS, cN, ⟨cell_blk m1, fun h => by have := hcN h; subst this; exact cell_blk m1, (Array.getElem?_eq_some_iff.1 m1).1, fun j x hj => ?_, fun i hi => ⟨m5 i hi, World.block_lt_of_cell? W _ (m5 i hi)⟩, fun i hi => (m7 i hi).bn, fun r x hr => ?_, a7.bn⟩⟩
  · have hlt := (List.getElem?_eq_some_iff.1 hj).1
    obtain ⟨sb, cap, hv, _, hl, _, hc⟩ := row_form m2 (by omega)
    injection hv with e1
    refine ⟨sb, e1, hl, ?_⟩
    rw [hc j (by omega)]
    unfold u32s
    rw [List.getElem?_map, hj]
    rfl
  · have hlt := (List.getElem?_eq_some_iff.1 hr).1
    obtain ⟨nb, cap, hv, _, hl, _, hc⟩ := row_form a4 (by omega)
    injection hv with e1
    obtain ⟨t, ht⟩ : ∃ t, tr[r]? = some t := ⟨_, List.getElem?_eq_getElem (by omega)⟩
    obtain ⟨k1, k2, k3⟩ := a6 r x t hr ht
    obtain ⟨c1, c2, c3⟩ := ndC_at n tr r t ht
    refine ⟨nb, t.2.2, e1, hl, ?_, ?_, k2.bn⟩
    · rw [hc _ (by omega), c1, k1]
    · rw [hc _ (by omega), c3]; rfl
end Go.Proofs.Ytfbcijnacbfjpaa
namespace Go.Proofs.Ytfbcijnacbfjpaa
open Go.RowKit Go.Maps
set_option linter.unusedVariables false
set_option linter.unusedSimpArgs false
open Rl (Ex)
mutual
/-- all sets are u32. -/
def Sok : Ex → Prop
  | .mk _ set kids => 0 ≤ set ∧ set < 4294967296 ∧ Soks kids
def Soks : List Ex → Prop
  | [] => True
  | e :: es => Sok e ∧ Soks es
end
mutual
theorem Te.sok {w : World} {F : Nat → Prop} : ∀ (e : Ex) (v : Value), Te w F e v → Sok e
  | .mk op set kids, v, h => by
    unfold Te at h
    unfold Sok
    obtain ⟨a, cap, h1, h2, h3, h4, h5, h6⟩ := h
    refine ⟨h4, h5, ?_⟩
    by_cases hk : kids = []
    · subst hk; unfold Soks; trivial
    · obtain ⟨b, off, _, _, g3⟩ := h6 hk
      exact Tes.sok kids b off g3
theorem Tes.sok {w : World} {F : Nat → Prop} : ∀ (es : List Ex) (b off : Nat), Tes w F es b off → Soks es
  | [], _, _, _ => by unfold Soks; trivial
  | e :: es, b, off, h => by
    unfold Tes at h
    unfold Soks
    obtain ⟨⟨o, s, k, _, _, _, h3⟩, h4⟩ := h
    exact ⟨Te.sok e _ h3, Tes.sok es b (off + 3) h4⟩
end
def Sls (p : Au.Pl) : Prop := ∀ x ∈ p.sets, 0 ≤ x ∧ x < 4294967296
theorem Sls.chain {p : Au.Pl} (h : Sls p) (a b : Nat) : Sls (Au.chain p a b) := h
theorem node_sls : ∀ (e : Ex) (p : Au.Pl), Sok e → Sls p → ∀ x p1, Au.node e p = some (x, p1) → Sls p1 := by
  intro e
  apply Ex.rec (motive_1 := fun e => ∀ (p : Au.Pl), Sok e → Sls p → ∀ x p1, Au.node e p = some (x, p1) → Sls p1)
    (motive_2 := fun es => (∀ (o : Au.Nd) (p : Au.Pl), Soks es → Sls p → ∀ x p1, Au.seqs es o p = some (x, p1) → Sls p1) ∧ (∀ (o : Au.Nd) (p : Au.Pl), Soks es → Sls p → ∀ x p1, Au.alts es o p = some (x, p1) → Sls p1) ∧ (∀ (p : Au.Pl), Soks es → Sls p → ∀ x p1, Au.one es p = some (x, p1) → Sls p1))
  · intro op set kids ⟨h1, h2, h3⟩ p hs hp x p1 h
    unfold Sok at hs
    unfold Au.node at h
    have hone : ∀ (f : Au.Nd → Au.Pl → Au.Nd × Au.Pl), (∀ y q, (f y q).2.sets = q.sets) → (match Au.one kids p with | none => none | some (y, q) => some (f y q)) = some (x, p1) → Sls p1 := fun f hf h => by
      cases ho : Au.one kids p with
      | none => rw [ho] at h; cases h
      | some r =>
        obtain ⟨y, p2⟩ := r
        rw [ho] at h
        injection h with h
        have hq := h3 p hs.2.2 hp y p2 ho
        have e : p1.sets = p2.sets := by rw [← hf y p2, h]
        intro z hz
        rw [e] at hz
        exact hq z hz
    split at h
    · split at h
      · cases h
      · injection h with h
        injection h with _ hp1
        subst hp1
        intro z hz
        rcases List.mem_append.1 hz with hz | hz
        · exact hp z hz
        · simp at hz; subst hz; exact ⟨hs.1, hs.2.1⟩
    · split at h
      · exact h1 _ p hs.2.2 hp x p1 h
      · split at h
        · exact h2 _ p hs.2.2 hp x p1 h
        · split at h
          · exact hone (fun x p1 => (⟨true, x.first, x.last⟩, Au.chain p1 x.last x.first)) (fun _ _ => rfl) h
          · split at h
            · exact hone (fun x p1 => (x, Au.chain p1 x.last x.first)) (fun _ _ => rfl) h
            · split at h
              · exact hone (fun x p1 => (⟨true, x.first, x.last⟩, p1)) (fun _ _ => rfl) h
              · injection h with h
                injection h with _ hp1
                subst hp1
                exact hp
  · refine ⟨fun o p hs hp x p1 h => ?_, fun o p hs hp x p1 h => ?_, fun p hs hp x p1 h => ?_⟩
    · simp only [Au.seqs] at h
      injection h with h
      injection h with _ hp1
      subst hp1
      exact hp
    · simp only [Au.alts] at h
      injection h with h
      injection h with _ hp1
      subst hp1
      exact hp
    · simp only [Au.one] at h
      injection h with h
      injection h with _ hp1
      subst hp1
      exact hp
  · intro e es he ⟨h1, h2, h3⟩
    refine ⟨fun o p hs hp x p1 h => ?_, fun o p hs hp x p1 h => ?_, fun p hs hp x p1 h => ?_⟩
    · unfold Soks at hs
      simp only [Au.seqs] at h
      cases hn : Au.node e p with
      | none => rw [hn] at h; cases h
      | some r =>
        obtain ⟨y, p2⟩ := r
        rw [hn] at h
        exact h1 (Au.seq1 o y) (Au.chain p2 o.last y.first) hs.2 (he p hs.1 hp y p2 hn) x p1 h
    · unfold Soks at hs
      simp only [Au.alts] at h
      cases hn : Au.node e p with
      | none => rw [hn] at h; cases h
      | some r =>
        obtain ⟨y, p2⟩ := r
        rw [hn] at h
        exact h2 (Au.alt1 o y) p2 hs.2 (he p hs.1 hp y p2 hn) x p1 h
    · unfold Soks at hs
      simp only [Au.one] at h
      exact he p hs.1 hp x p1 h
theorem all_sls : ∀ (es : List Ex) (l : List Au.Nd) (p : Au.Pl), Soks es → Sls p → ∀ l1 p1, Au.all es l p = some (l1, p1) → Sls p1
  | [], l, p, hs, hp, l1, p1, h => by
    simp only [Au.all] at h
    injection h with h
    injection h with h1 h2
    subst h1 h2
    exact hp
  | e :: es, l, p, hs, hp, l1, p1, h => by
    unfold Soks at hs
    rw [all_step] at h
    cases hn : Au.node e p with
    | none => rw [hn] at h; cases h
    | some r =>
      obtain ⟨x, p2⟩ := r
      rw [hn] at h
      exact all_sls es (l ++ [x]) p2 hs.2 (node_sls e p hs.1 hp x p2 hn) l1 p1 h
theorem Lex.sok {w : World} {F : Nat → Prop} {es : List Ex} {a : Option Addr} {c : Nat} (h : Lex w F es a c) : Soks es := by
  by_cases hk : es = []
  · subst hk; unfold Soks; trivial
  · obtain ⟨b, off, _, _, g3⟩ := h.2 hk
    exact Tes.sok es b off g3
/-- bools that can be read, in a block of bools. -/
def Bt (W : World) (b n s : Nat) : Prop := Bn W b n s ∧ ∃ cs z, W.heap[b]? = some (.cells cs 4 z)
theorem Bk.bt {w : World} {b n s : Nat} (h : Bk w b n s) : Bt w b n s := ⟨h.bn, _, _, h⟩
theorem Bt.only {w w' : World} {b n s : Nat} {P : Nat → Prop} (h : Bt w b n s) (ho : Only P w w') (hn : ¬ P b) : Bt w' b n s := by
  obtain ⟨h1, cs, z, h2⟩ := h
  exact ⟨h1.only ho hn, cs, z, (ho.block b (Array.getElem?_eq_some_iff.1 h2).1 hn).trans h2⟩
theorem Bt.keep {w w' : World} {b n s : Nat} (h : Bt w b n s) (ho : Only (fun _ => False) w w') : Bt w' b n s := h.only ho (fun h => h)
/-- another row turns. -/
theorem Bt.own {w w' : World} {b n s : Nat} (h : Bt w b n s) {base e size m : Nat} {v : Value} {xs : List Value} (hv : w.ownsRow base e size v m xs) (he : e ≠ 4) (ho : Only (fun q => v.ownBlock = some q) w w') : Bt w' b n s := by
  obtain ⟨cs, z, h2⟩ := h.2
  exact h.only ho (fun e' => own_ne hv h2 (fun h => he h.symm) e')
theorem Bt.cellOther {w : World} {b n s q k : Nat} {cs : Array Value} {t : TypeId} {z : Nat × Nat} (h : Bt w b n s) (hq : w.heap[q]? = some (.cells cs t z)) (ht : t ≠ 4) (u : Value) : Bt (w.setCell ⟨q, k, none⟩ u) b n s := by
  obtain ⟨cs', z', h2⟩ := h.2
  exact h.only (P := (· = q)) ((Only.refl (· = q) _).setCell (p := ⟨q, k, none⟩) rfl _) (tag_ne h2 hq (fun h => ht h.symm))
end Go.Proofs.Ytfbcijnacbfjpaa
