/-
  copied: an automaton of its own.
-/
import Derived.Test.YtelifjeppegcmaaCp0
import Derived.Test.YtelifjeppegcmaaRs
import Derived.Test.YtelifjeppegcmaaGr0
namespace Go.Proofs.Ytelifjeppegcmaa
open Go.RowKit Go.Maps
set_option linter.unusedVariables false
set_option linter.unusedSimpArgs false
theorem Gm.addR {Y Z : World} {B lB g c : Nat} {F : List Nat} {vN vO vW : Value} {rows : List (List Nat)} {outs : List Nat} {vs : List Value} (h : Gm Y B lB vN vO rows outs vs) (hv : Z.ownsRow B 3 1 vW F.length (natI F)) (ho : Only (fun b => vN.ownBlock = some b) Y Z) (h23 : Z.ownsRow B 23 1 (.slice (some ⟨g, 0, none⟩) (rows.length + 1) c) (rows.length + 1) (vs ++ [vW])) :
    Gm (Z.setCell ⟨lB, 0, none⟩ (.slice (some ⟨g, 0, none⟩) (rows.length + 1) c)) B lB (.slice (some ⟨g, 0, none⟩) (rows.length + 1) c) vO (rows ++ [F]) outs (vs ++ [vW]) := by
  have hl' : Z.heap[lB]? = some (.cells #[vN, vO] 27 (0, 0)) := (ho.block lB (Array.getElem?_eq_some_iff.1 h.lst).1 (own_ne h.nx h.lst (by decide))).trans h.lst
  have o3 : Only (fun b => b = lB) Z (Z.setCell ⟨lB, 0, none⟩ (.slice (some ⟨g, 0, none⟩) (rows.length + 1) c)) := (Only.refl (fun b => b = lB) Z).setCell (p := ⟨lB, 0, none⟩) rfl _
  have st : ∀ {e m : Nat} {v : Value} {xs : List Value}, Z.ownsRow B e 1 v m xs → e ≠ 27 → (Z.setCell ⟨lB, 0, none⟩ (.slice (some ⟨g, 0, none⟩) (rows.length + 1) c)).ownsRow B e 1 v m xs := fun hw he => own_stay hw o3 (fun q hq e => by subst e; exact own_ne hw hl' (fun e => he e.symm) hq)
  have keepY : ∀ {e m : Nat} {v : Value} {xs : List Value}, Y.ownsRow B e 1 v m xs → e ≠ 23 → Z.ownsRow B e 1 v m xs := fun hw he => own_stay hw ho (fun q hq e => own_ne2 hw h.nx (fun e => he e.symm) e hq)
  refine ⟨?_, by simp [h.vl], ?_, fun i r L hr hL => ?_, st (keepY h.out (by decide)) (by decide)⟩
  · rw [heap_setCell_at hl']
    rfl
  · rw [List.length_append]
    exact st h23 (by decide)
  · rcases snocV_at hr with h1 | ⟨h1, h2⟩
    · have hi := (List.getElem?_eq_some_iff.1 h1).1
      rw [List.getElem?_append_left (by rw [← h.vl]; exact hi)] at hL
      exact st (keepY (h.each i r L h1 hL) (by decide)) (by decide)
    · rw [h1, h.vl, List.getElem?_append_right (Nat.le_refl _), Nat.sub_self] at hL
      injection hL with hL
      subst hL
      subst h2
      exact st hv (by decide)
theorem Gm.setO {Z : World} {B lB g c : Nat} {o : List Nat} {vN vO : Value} {rows : List (List Nat)} {outs : List Nat} {vs : List Value} (h : Gm Z B lB vN vO rows outs vs) (h38 : Z.ownsRow B 38 1 (.slice (some ⟨g, 0, none⟩) o.length c) o.length (o.map u32V)) : Gm (Z.setCell ⟨lB, 1, none⟩ (.slice (some ⟨g, 0, none⟩) o.length c)) B lB vN (.slice (some ⟨g, 0, none⟩) o.length c) rows o vs := by
  have o3 : Only (fun b => b = lB) Z (Z.setCell ⟨lB, 1, none⟩ (.slice (some ⟨g, 0, none⟩) o.length c)) := (Only.refl (fun b => b = lB) Z).setCell (p := ⟨lB, 1, none⟩) rfl _
  have st : ∀ {e m : Nat} {v : Value} {xs : List Value}, Z.ownsRow B e 1 v m xs → e ≠ 27 → (Z.setCell ⟨lB, 1, none⟩ (.slice (some ⟨g, 0, none⟩) o.length c)).ownsRow B e 1 v m xs := fun hw he => own_stay hw o3 (fun q hq e => by subst e; exact own_ne hw h.lst (fun e => he e.symm) hq)
  exact ⟨by rw [heap_setCell_at h.lst]; rfl, h.vl, st h.nx (by decide), fun i r L hr hL => st (h.each i r L hr hL) (by decide), st h38 (by decide)⟩
theorem take_row {rows : List (List Nat)} {j : Nat} {L : List Nat} (h : rows[j]? = some L) : rows.take (j + 1) = rows.take j ++ [L] := by rw [List.take_add_one, h]; rfl
set_option maxRecDepth 100000 in
set_option maxHeartbeats 8000000 in
theorem copied_any (lo : Nat) (v : Value) (rows : List (List Nat)) (outs : List Nat) (w : World) (hR : Ra w lo v rows outs) (hn : rows.length ≤ 100000) (h0 : 0 < outs.length) (ho : outs.length ≤ 100000) (hl : ∀ L ∈ rows, L.length ≤ 100000) :
    Calls Try.prog 11 #[v] w fun e w' => ∃ v', e = .returned v' ∧ Ra w' w.heap.size v' rows outs ∧ Only (fun _ => False) w w' := by
  obtain ⟨vX, vO, rws, rfl, hq1, hq2, hq3, hq4⟩ := hR
  obtain ⟨aX, kX, rfl⟩ := own_form hq2
  obtain ⟨bO, kO, rfl, _, _, _, hOc⟩ := row_form hq4 h0
  have HX : Hid (rws.length = rows.length ∧ w.ownsRow lo 23 1 (.slice aX rws.length kX) rws.length rws ∧ (∀ (i : Nat) (r : Value) (L : List Nat), rws[i]? = some r → rows[i]? = some L → w.ownsRow lo 3 1 r L.length (natI L)) ∧ w.ownsRow lo 38 1 (.slice (some ⟨bO, 0, none⟩) outs.length kO) outs.length (outs.map u32V)) := ⟨hq1, hq2, hq3, hq4⟩
  have HL : Hid (∀ L ∈ rows, L.length ≤ 100000) := hl
  obtain ⟨n, hnn⟩ : ∃ n, n = rows.length := ⟨_, rfl⟩
  obtain ⟨no, hno⟩ : ∃ no, no = outs.length := ⟨_, rfl⟩
  have HNN : Hid (n = rows.length ∧ no = outs.length) := ⟨hnn, hno⟩
  rw [hq1, ← hnn, ← hno]
  rw [← hno] at h0 ho
  rw [← hnn] at hn
  obtain ⟨i3, g3, g30, g31, g32⟩ := info_parts info3b
  obtain ⟨i23, g23, g230, g231, g232⟩ := info_parts info23b
  obtain ⟨i38, g38, g380, g381, g382⟩ := info_parts info38b
  clear hq1 hq2 hq3 hq4 hl hnn hno hOc
  obtain ⟨W0, hW0⟩ : ∃ W0, W0 = ((w.alloc (.cells #[.slice aX n kX, .slice (some ⟨bO, 0, none⟩) no kO] 27)).alloc (.cells #[.slice none 0 0, .slice none 0 0] 27)).alloc (.cells #[.slice none 0 0, .slice none 0 0] 27) := ⟨_, rfl⟩
  have HW0 : Hid (W0.heap.size = w.heap.size + 3 ∧ W0.heap[w.heap.size]? = some (.cells #[.slice aX n kX, .slice (some ⟨bO, 0, none⟩) no kO] 27 (0, 0)) ∧ W0.heap[w.heap.size + 1]? = some (.cells #[.slice none 0 0, .slice none 0 0] 27 (0, 0)) ∧ W0.heap[w.heap.size + 1 + 1]? = some (.cells #[.slice none 0 0, .slice none 0 0] 27 (0, 0)) ∧ Only (fun _ => False) w W0) := by
    obtain ⟨q1, q2, q3, q4⟩ := two_at w (.cells #[.slice aX n kX, .slice (some ⟨bO, 0, none⟩) no kO] 27) (.cells #[.slice none 0 0, .slice none 0 0] 27)
    rw [hW0]
    refine ⟨by simp, blk_alloc _ q1, blk_alloc _ q2, ?_, q3.alloc _⟩
    have := heap_alloc_new ((w.alloc (.cells #[.slice aX n kX, .slice (some ⟨bO, 0, none⟩) no kO] 27)).alloc (.cells #[.slice none 0 0, .slice none 0 0] 27)) (.cells #[.slice none 0 0, .slice none 0 0] 27)
    rw [q4] at this
    exact this
  go_enter Try.func11, Try.ntmps11
  go_wp2_with fail
  rw [← hW0]
  clear hW0
  have HLO : Hid (∀ V, Only (fun b => w.heap.size + 1 + 1 ≤ b) W0 V → Only (fun _ => False) w V ∧ V.heap[w.heap.size]? = some (.cells #[.slice aX n kX, .slice (some ⟨bO, 0, none⟩) no kO] 27 (0, 0)) ∧ V.heap[w.heap.size + 1]? = some (.cells #[.slice none 0 0, .slice none 0 0] 27 (0, 0))) := fun V hoV => ⟨low_only HW0.out.2.2.2.2 hoV (by omega), (hoV.block _ (by rw [HW0.out.1]; omega) (by omega)).trans HW0.out.2.1, (hoV.block _ (by rw [HW0.out.1]; omega) (by omega)).trans HW0.out.2.2.1⟩
  go_loopg [9] n (fun gh v wr => ∃ (j : Nat) (vs : List Value) (vN : Value) (V : World), V = wr ∧ gh = n - j ∧ j ≤ n ∧ v = .int .i64 (j : Int) ∧ Gm V (w.heap.size + 3) (w.heap.size + 1 + 1) vN (.slice none 0 0) (rows.take j) [] vs ∧ Only (fun b => w.heap.size + 1 + 1 ≤ b) W0 V)
  case atStart => exact ⟨0, [], .slice none 0 0, _, rfl, rfl, Nat.zero_le _, rfl, ⟨HW0.out.2.2.2.1, rfl, ⟨rfl, Or.inl ⟨rfl, rfl⟩⟩, (fun i r L h => by cases h), ⟨rfl, Or.inl ⟨rfl, rfl⟩⟩⟩, Only.refl _ _⟩
  case round =>
    obtain ⟨j, vs, vN, V, hV, rfl, hj, rfl, hG, hoV⟩ := hrel
    subst hV
    have HG : Hid (Gm V (w.heap.size + 3) (w.heap.size + 1 + 1) vN (.slice none 0 0) (rows.take j) [] vs ∧ Only (fun b => w.heap.size + 1 + 1 ≤ b) W0 V) := ⟨hG, hoV⟩
    have HVL : Hid _ := HLO.out V hoV
    have lV : w.heap.size + 3 ≤ V.heap.size := by have h1 := hoV.size; have h2 := HW0.out.1; omega
    clear hG hoV
    by_cases hlt : j < n
    · have t1 : (j : Int) < (n : Int) := by omega
      obtain ⟨L, hL⟩ : ∃ L, rows[j]? = some L := ⟨_, List.getElem?_eq_getElem (by have := HNN.out.1; omega)⟩
      obtain ⟨r, hr⟩ : ∃ r, rws[j]? = some r := ⟨_, List.getElem?_eq_getElem (by have := HNN.out.1; have := HX.out.1; omega)⟩
      have hrow := HX.out.2.2.1 j r L hr hL
      have hlL := HL.out L (List.mem_of_getElem? hL)
      obtain ⟨ar, kr, rfl⟩ := own_form hrow
      obtain ⟨bX, cX, hvX, _, _, _, hXc⟩ := row_form HX.out.2.1 (by have := HNN.out.1; have := HX.out.1; omega)
      have eX : aX = some ⟨bX, 0, none⟩ := by injection hvX
      subst eX
      clear hvX
      have c0 := keepC HVL.out.1 (show w.cell? ⟨bX, j, none⟩ = some (.slice ar L.length kr) by rw [hXc j (by have := HNN.out.1; have := HX.out.1; omega), hr])
      have l0 := World.block_lt_of_cell? V _ c0
      obtain ⟨m, hm⟩ : ∃ m, m = L.length := ⟨_, rfl⟩
      have HROW : Hid (V.ownsRow lo 3 1 (.slice ar m kr) m (natI L) ∧ m = L.length ∧ rows[j]? = some L) := ⟨by rw [hm]; exact own_only hrow HVL.out.1 (fun _ _ h => h), hm, hL⟩
      rw [← hm] at c0 hlL
      obtain ⟨aN, kN, eN⟩ := own_form HG.out.1.nx
      have hjl : (rows.take j).length = j := by rw [List.length_take]; have := HNN.out.1; omega
      rw [hjl] at eN
      subst eN
      have HJL : Hid ((rows.take j).length = j) := hjl
      clear hjl hm hL hr hrow hXc
      have HSRC : Hid (∀ X, Only (fun b => (Value.slice aN j kN).ownBlock = some b) V X → X.ownsRow lo 3 1 (.slice ar m kr) m (natI L)) := fun X ho => own_stay HROW.out.1 ho (fun q hq e => own_ne2 HROW.out.1 HG.out.1.nx (by decide) e hq)
      have HCL : Hid (∀ X, Only (fun b => (Value.slice aN j kN).ownBlock = some b) V X → X.heap[w.heap.size + 1 + 1]? = some (.cells #[.slice aN j kN, .slice none 0 0] 27 (0, 0)) ∧ w.heap.size + 1 + 1 < X.heap.size) := fun X ho => by
        have hl := (Array.getElem?_eq_some_iff.1 HG.out.1.lst).1
        exact ⟨(ho.block _ hl (own_ne HG.out.1.nx HG.out.1.lst (by decide))).trans HG.out.1.lst, Nat.lt_of_lt_of_le hl ho.size⟩
      go_wp2_with fail
      refine wp_region_held_drew (S := (fun _ => True)) (by kernel_rfl) (trivial) (fun hHeld => ?_)
      refine wpAnyH_take (i := 0) (oi := { dst := some 13, op := _, type := _, pos := _, after := _, guard := _ }) (v := .pointer (some ⟨w.heap.size + 1 + 1, 0, none⟩)) rfl (by kernel_rfl) (by kernel_rfl) (by kernel_rfl) (fun _ _ _ h => h) (Or.inl ⟨by rfl, fun w hSw => by first | (go_simp; done) | go_simp⟩) (by assumption) ?_
      (try simp only [Act.put, List.setIfInBounds_toArray, List.set_cons_zero, List.set_cons_succ])
      refine wpAnyH_take (i := 3) (oi := { dst := some 16, op := _, type := _, pos := _, after := _, guard := _ }) (v := .slice ar m kr) rfl (by kernel_rfl) (by kernel_rfl) (by kernel_rfl) (fun _ _ _ h => h) (Or.inl ⟨by rfl, fun w hSw => by first | (go_simp; done) | go_simp⟩) (by assumption) ?_
      (try simp only [Act.put, List.setIfInBounds_toArray, List.set_cons_zero, List.set_cons_succ])
      obtain ⟨X0, hX0⟩ : ∃ X0, X0 = V.drew := ⟨_, rfl⟩
      have HX0 : Hid (Only (fun b => (Value.slice aN j kN).ownBlock = some b) V X0 ∧ X0.ownsRow (w.heap.size + 3) 23 1 (.slice aN j kN) j vs) := by rw [hX0]; exact ⟨(Only.refl _ _).drew, by have := HG.out.1.nx; rw [HJL.out] at this; exact this⟩
      rw [← hX0]
      clear hX0
      refine wpAnyH_ready (rs := [1, 2]) (by kernel_rfl) (by simp) ?_
      refine AllReadyH.cons rfl (fun K hK => ?_) (AllReadyH.cons rfl (fun K hK => ?_) AllReadyH.nil)
      · have y := HCL.out X0 HX0.out.1
        have y0 : X0.cell? ⟨w.heap.size + 1 + 1, 0, none⟩ = some (.slice aN j kN) := cell_blk y.1
        have yl := y.2
        rw [if_pos (by rfl)]
        go_simp
        refine hK.out _ _ trivial (fun hHeld => ?_)
        clear hK
        (try simp only [Act.put, List.setIfInBounds_toArray, List.set_cons_zero, List.set_cons_succ])
        clear y y0 yl
        refine wpAnyH_ready (rs := [2]) (by kernel_rfl) (by simp) ?_
        refine AllReadyH.cons rfl (fun K hK => ?_) AllReadyH.nil
        rw [if_pos (by rfl)]
        go_simp
        obtain ⟨X1, hX1⟩ : ∃ Y, Y = X0.alloc (.cells #[] 3) := ⟨_, rfl⟩
        obtain ⟨nE, hnE⟩ : ∃ n, n = X0.heap.size := ⟨_, rfl⟩
        have HEX1 : Hid (X1.heap[nE]? = some (.cells #[] 3 (0, 0)) ∧ V.heap.size ≤ nE) := by rw [hX1, hnE]; exact ⟨heap_alloc_new _ _, HX0.out.1.size⟩
        have HX1 : Hid (Only (fun b => (Value.slice aN j kN).ownBlock = some b) V X1 ∧ X1.ownsRow (w.heap.size + 3) 23 1 (.slice aN j kN) j vs) := by rw [hX1]; exact ⟨HX0.out.1.alloc _, HX0.out.2.alloc _⟩
        rw [← hX1, ← hnE]
        clear hX1 hnE
        refine hK.out _ _ trivial (fun hHeld => ?_)
        clear hK
        (try simp only [Act.put, List.setIfInBounds_toArray, List.set_cons_zero, List.set_cons_succ])
        refine wpAnyH_ready (rs := [4]) (by kernel_rfl) (by simp) ?_
        refine AllReadyH.cons rfl (fun K hK => ?_) AllReadyH.nil
        have yl := (HCL.out X1 HX1.out.1).2
        refine step_copy (by rfl) _ _ (by rfl) (w.heap.size + 3) nE (by rfl) (own_empty HEX1.out.1 (by have := HEX1.out.2; omega)) ar m kr lo L (by rfl) HROW.out.2.1.symm (HSRC.out X1 HX1.out.1) hlL (by omega) ?_
        intro g5 c5 X2 hown hoo
        have HCX2 : Hid (X2.ownsRow (w.heap.size + 3) 3 1 (.slice (some ⟨g5, 0, none⟩) m c5) m (natI L)) := hown
        have HX2 : Hid (Only (fun b => (Value.slice aN j kN).ownBlock = some b) V X2 ∧ X2.ownsRow (w.heap.size + 3) 23 1 (.slice aN j kN) j vs) := ⟨((HX1.out.1.mono (S' := fun b => (Value.slice aN j kN).ownBlock = some b ∨ b = nE) (fun b hb => Or.inl hb)).trans (hoo.mono (fun b hb => Or.inr hb))).old (fun q hq => hq.elim Or.inr (fun e => Or.inl (by rw [e]; exact HEX1.out.2))), own_stay HX1.out.2 hoo (fun q hq e => own_ne HX1.out.2 HEX1.out.1 (by decide) (e ▸ hq))⟩
        clear hown hoo yl
        refine hK.out _ _ trivial (fun hHeld => ?_)
        clear hK
        (try simp only [Act.put, List.setIfInBounds_toArray, List.set_cons_zero, List.set_cons_succ])
        refine wpAnyH_ready (rs := [5]) (by kernel_rfl) (by simp) ?_
        refine AllReadyH.cons rfl (fun K hK => ?_) AllReadyH.nil
        rw [if_pos (by rfl)]
        go_simp
        obtain ⟨X3, hX3⟩ : ∃ Y, Y = X2.alloc (.cells #[(.slice (some ⟨g5, 0, none⟩) m c5)] 23) := ⟨_, rfl⟩
        obtain ⟨nB, hnB⟩ : ∃ n, n = X2.heap.size := ⟨_, rfl⟩
        have HBX3 : Hid (X3.heap[nB]? = some (.cells #[(.slice (some ⟨g5, 0, none⟩) m c5)] 23 (0, 0))) := by rw [hX3, hnB]; exact heap_alloc_new _ _
        have HCX3 : Hid (X3.ownsRow (w.heap.size + 3) 3 1 (.slice (some ⟨g5, 0, none⟩) m c5) m (natI L)) := by rw [hX3]; exact HCX2.out.alloc _
        have HX3 : Hid (Only (fun b => (Value.slice aN j kN).ownBlock = some b) V X3 ∧ X3.ownsRow (w.heap.size + 3) 23 1 (.slice aN j kN) j vs) := by rw [hX3]; exact ⟨HX2.out.1.alloc _, HX2.out.2.alloc _⟩
        rw [← hX3, ← hnB]
        clear hX3 hnB
        refine hK.out _ _ trivial (fun hHeld => ?_)
        clear hK
        (try simp only [Act.put, List.setIfInBounds_toArray, List.set_cons_zero, List.set_cons_succ])
        refine wpAnyH_ready (rs := [6]) (by kernel_rfl) (by simp) ?_
        refine AllReadyH.cons rfl (fun K hK => ?_) AllReadyH.nil
        have yl := (HCL.out X3 HX3.out.1).2
        refine step_A (by rfl) _ _ (by rfl) (w.heap.size + 3) (.slice aN j kN) j vs (by rfl) HX3.out.2 nB (.slice (some ⟨g5, 0, none⟩) m c5) (by rfl) HBX3.out rfl (by omega) (by omega) ?_
        intro gA cA X4 hown hgrow
        have HFX4 : Hid (Only (fun b => (Value.slice aN j kN).ownBlock = some b) V X4 ∧ X4.ownsRow (w.heap.size + 3) 23 1 (.slice (some ⟨gA, 0, none⟩) (j + 1) cA) (j + 1) (vs ++ [(.slice (some ⟨g5, 0, none⟩) m c5)]) ∧ X4.ownsRow (w.heap.size + 3) 3 1 (.slice (some ⟨g5, 0, none⟩) m c5) m (natI L)) := ⟨HX3.out.1.grown hgrow (fun q hq => hq), hown, own_grow2 HCX3.out HX3.out.2 hgrow (by decide)⟩
        clear hown hgrow yl
        refine hK.out _ _ trivial (fun hHeld => ?_)
        clear hK
        (try simp only [Act.put, List.setIfInBounds_toArray, List.set_cons_zero, List.set_cons_succ])
        refine wpAnyH_take (i := 7) (oi := { dst := some 20, op := _, type := _, pos := _, after := _, guard := _ }) (v := .pointer (some ⟨w.heap.size + 1 + 1, 0, none⟩)) rfl (by kernel_rfl) (by kernel_rfl) (by kernel_rfl) (fun _ _ _ h => h) (Or.inl ⟨by rfl, fun w hSw => by first | (go_simp; done) | go_simp⟩) (by assumption) ?_
        (try simp only [Act.put, List.setIfInBounds_toArray, List.set_cons_zero, List.set_cons_succ])
        have y := HCL.out X4 HFX4.out.1
        have y0 : X4.cell? ⟨w.heap.size + 1 + 1, 0, none⟩ = some (.slice aN j kN) := cell_blk y.1
        have yf : ∀ q, X4.frozen? ⟨w.heap.size + 1 + 1, q, none⟩ = false := fun q => fz_blk y.1 q
        have yl := y.2
        refine wpAnyH_ready (rs := [8]) (by kernel_rfl) (by simp) ?_
        refine AllReadyH.cons rfl (fun K hK => ?_) AllReadyH.nil
        rw [if_pos (by rfl)]
        go_simp
        refine hK.out _ _ trivial (fun hHeld => ?_)
        clear hK
        (try simp only [Act.put, List.setIfInBounds_toArray, List.set_cons_zero, List.set_cons_succ])
        refine wpAnyH_done (by kernel_rfl) ?_ _
        clear hHeld y y0 yf yl
        go_wp2_with fail
        go_roundg (n - (j + 1))
        case measure => omega
        case rel =>
          obtain ⟨k1, k2, k3⟩ := HFX4.out
          have hb := HG.out.1.addR (F := L) (g := gA) (c := cA) (vW := (.slice (some ⟨g5, 0, none⟩) m c5)) (by rw [← HROW.out.2.1]; exact k3) k1 (by rw [HJL.out]; exact k2)
          rw [HJL.out, ← take_row HROW.out.2.2] at hb
          exact ⟨j + 1, _, _, _, rfl, rfl, by omega, by go_num, hb, (HG.out.2.trans (k1.mono (fun b hb => by have := (own_own HG.out.1.nx hb).1; omega))).setCell (p := ⟨w.heap.size + 1 + 1, 0, none⟩) (Nat.le_refl _) _⟩
      · rw [if_pos (by rfl)]
        go_simp
        obtain ⟨X1, hX1⟩ : ∃ Y, Y = X0.alloc (.cells #[] 3) := ⟨_, rfl⟩
        obtain ⟨nE, hnE⟩ : ∃ n, n = X0.heap.size := ⟨_, rfl⟩
        have HEX1 : Hid (X1.heap[nE]? = some (.cells #[] 3 (0, 0)) ∧ V.heap.size ≤ nE) := by rw [hX1, hnE]; exact ⟨heap_alloc_new _ _, HX0.out.1.size⟩
        have HX1 : Hid (Only (fun b => (Value.slice aN j kN).ownBlock = some b) V X1 ∧ X1.ownsRow (w.heap.size + 3) 23 1 (.slice aN j kN) j vs) := by rw [hX1]; exact ⟨HX0.out.1.alloc _, HX0.out.2.alloc _⟩
        rw [← hX1, ← hnE]
        clear hX1 hnE
        refine hK.out _ _ trivial (fun hHeld => ?_)
        clear hK
        (try simp only [Act.put, List.setIfInBounds_toArray, List.set_cons_zero, List.set_cons_succ])
        refine wpAnyH_ready (rs := [1, 4]) (by kernel_rfl) (by simp) ?_
        refine AllReadyH.cons rfl (fun K hK => ?_) (AllReadyH.cons rfl (fun K hK => ?_) AllReadyH.nil)
        · have y := HCL.out X1 HX1.out.1
          have y0 : X1.cell? ⟨w.heap.size + 1 + 1, 0, none⟩ = some (.slice aN j kN) := cell_blk y.1
          have yl := y.2
          rw [if_pos (by rfl)]
          go_simp
          refine hK.out _ _ trivial (fun hHeld => ?_)
          clear hK
          (try simp only [Act.put, List.setIfInBounds_toArray, List.set_cons_zero, List.set_cons_succ])
          clear y y0 yl
          refine wpAnyH_ready (rs := [4]) (by kernel_rfl) (by simp) ?_
          refine AllReadyH.cons rfl (fun K hK => ?_) AllReadyH.nil
          have yl := (HCL.out X1 HX1.out.1).2
          refine step_copy (by rfl) _ _ (by rfl) (w.heap.size + 3) nE (by rfl) (own_empty HEX1.out.1 (by have := HEX1.out.2; omega)) ar m kr lo L (by rfl) HROW.out.2.1.symm (HSRC.out X1 HX1.out.1) hlL (by omega) ?_
          intro g5 c5 X2 hown hoo
          have HCX2 : Hid (X2.ownsRow (w.heap.size + 3) 3 1 (.slice (some ⟨g5, 0, none⟩) m c5) m (natI L)) := hown
          have HX2 : Hid (Only (fun b => (Value.slice aN j kN).ownBlock = some b) V X2 ∧ X2.ownsRow (w.heap.size + 3) 23 1 (.slice aN j kN) j vs) := ⟨((HX1.out.1.mono (S' := fun b => (Value.slice aN j kN).ownBlock = some b ∨ b = nE) (fun b hb => Or.inl hb)).trans (hoo.mono (fun b hb => Or.inr hb))).old (fun q hq => hq.elim Or.inr (fun e => Or.inl (by rw [e]; exact HEX1.out.2))), own_stay HX1.out.2 hoo (fun q hq e => own_ne HX1.out.2 HEX1.out.1 (by decide) (e ▸ hq))⟩
          clear hown hoo yl
          refine hK.out _ _ trivial (fun hHeld => ?_)
          clear hK
          (try simp only [Act.put, List.setIfInBounds_toArray, List.set_cons_zero, List.set_cons_succ])
          refine wpAnyH_ready (rs := [5]) (by kernel_rfl) (by simp) ?_
          refine AllReadyH.cons rfl (fun K hK => ?_) AllReadyH.nil
          rw [if_pos (by rfl)]
          go_simp
          obtain ⟨X3, hX3⟩ : ∃ Y, Y = X2.alloc (.cells #[(.slice (some ⟨g5, 0, none⟩) m c5)] 23) := ⟨_, rfl⟩
          obtain ⟨nB, hnB⟩ : ∃ n, n = X2.heap.size := ⟨_, rfl⟩
          have HBX3 : Hid (X3.heap[nB]? = some (.cells #[(.slice (some ⟨g5, 0, none⟩) m c5)] 23 (0, 0))) := by rw [hX3, hnB]; exact heap_alloc_new _ _
          have HCX3 : Hid (X3.ownsRow (w.heap.size + 3) 3 1 (.slice (some ⟨g5, 0, none⟩) m c5) m (natI L)) := by rw [hX3]; exact HCX2.out.alloc _
          have HX3 : Hid (Only (fun b => (Value.slice aN j kN).ownBlock = some b) V X3 ∧ X3.ownsRow (w.heap.size + 3) 23 1 (.slice aN j kN) j vs) := by rw [hX3]; exact ⟨HX2.out.1.alloc _, HX2.out.2.alloc _⟩
          rw [← hX3, ← hnB]
          clear hX3 hnB
          refine hK.out _ _ trivial (fun hHeld => ?_)
          clear hK
          (try simp only [Act.put, List.setIfInBounds_toArray, List.set_cons_zero, List.set_cons_succ])
          refine wpAnyH_ready (rs := [6]) (by kernel_rfl) (by simp) ?_
          refine AllReadyH.cons rfl (fun K hK => ?_) AllReadyH.nil
          have yl := (HCL.out X3 HX3.out.1).2
          refine step_A (by rfl) _ _ (by rfl) (w.heap.size + 3) (.slice aN j kN) j vs (by rfl) HX3.out.2 nB (.slice (some ⟨g5, 0, none⟩) m c5) (by rfl) HBX3.out rfl (by omega) (by omega) ?_
          intro gA cA X4 hown hgrow
          have HFX4 : Hid (Only (fun b => (Value.slice aN j kN).ownBlock = some b) V X4 ∧ X4.ownsRow (w.heap.size + 3) 23 1 (.slice (some ⟨gA, 0, none⟩) (j + 1) cA) (j + 1) (vs ++ [(.slice (some ⟨g5, 0, none⟩) m c5)]) ∧ X4.ownsRow (w.heap.size + 3) 3 1 (.slice (some ⟨g5, 0, none⟩) m c5) m (natI L)) := ⟨HX3.out.1.grown hgrow (fun q hq => hq), hown, own_grow2 HCX3.out HX3.out.2 hgrow (by decide)⟩
          clear hown hgrow yl
          refine hK.out _ _ trivial (fun hHeld => ?_)
          clear hK
          (try simp only [Act.put, List.setIfInBounds_toArray, List.set_cons_zero, List.set_cons_succ])
          refine wpAnyH_take (i := 7) (oi := { dst := some 20, op := _, type := _, pos := _, after := _, guard := _ }) (v := .pointer (some ⟨w.heap.size + 1 + 1, 0, none⟩)) rfl (by kernel_rfl) (by kernel_rfl) (by kernel_rfl) (fun _ _ _ h => h) (Or.inl ⟨by rfl, fun w hSw => by first | (go_simp; done) | go_simp⟩) (by assumption) ?_
          (try simp only [Act.put, List.setIfInBounds_toArray, List.set_cons_zero, List.set_cons_succ])
          have y := HCL.out X4 HFX4.out.1
          have y0 : X4.cell? ⟨w.heap.size + 1 + 1, 0, none⟩ = some (.slice aN j kN) := cell_blk y.1
          have yf : ∀ q, X4.frozen? ⟨w.heap.size + 1 + 1, q, none⟩ = false := fun q => fz_blk y.1 q
          have yl := y.2
          refine wpAnyH_ready (rs := [8]) (by kernel_rfl) (by simp) ?_
          refine AllReadyH.cons rfl (fun K hK => ?_) AllReadyH.nil
          rw [if_pos (by rfl)]
          go_simp
          refine hK.out _ _ trivial (fun hHeld => ?_)
          clear hK
          (try simp only [Act.put, List.setIfInBounds_toArray, List.set_cons_zero, List.set_cons_succ])
          refine wpAnyH_done (by kernel_rfl) ?_ _
          clear hHeld y y0 yf yl
          go_wp2_with fail
          go_roundg (n - (j + 1))
          case measure => omega
          case rel =>
            obtain ⟨k1, k2, k3⟩ := HFX4.out
            have hb := HG.out.1.addR (F := L) (g := gA) (c := cA) (vW := (.slice (some ⟨g5, 0, none⟩) m c5)) (by rw [← HROW.out.2.1]; exact k3) k1 (by rw [HJL.out]; exact k2)
            rw [HJL.out, ← take_row HROW.out.2.2] at hb
            exact ⟨j + 1, _, _, _, rfl, rfl, by omega, by go_num, hb, (HG.out.2.trans (k1.mono (fun b hb => by have := (own_own HG.out.1.nx hb).1; omega))).setCell (p := ⟨w.heap.size + 1 + 1, 0, none⟩) (Nat.le_refl _) _⟩
        · have yl := (HCL.out X1 HX1.out.1).2
          refine step_copy (by rfl) _ _ (by rfl) (w.heap.size + 3) nE (by rfl) (own_empty HEX1.out.1 (by have := HEX1.out.2; omega)) ar m kr lo L (by rfl) HROW.out.2.1.symm (HSRC.out X1 HX1.out.1) hlL (by omega) ?_
          intro g5 c5 X2 hown hoo
          have HCX2 : Hid (X2.ownsRow (w.heap.size + 3) 3 1 (.slice (some ⟨g5, 0, none⟩) m c5) m (natI L)) := hown
          have HX2 : Hid (Only (fun b => (Value.slice aN j kN).ownBlock = some b) V X2 ∧ X2.ownsRow (w.heap.size + 3) 23 1 (.slice aN j kN) j vs) := ⟨((HX1.out.1.mono (S' := fun b => (Value.slice aN j kN).ownBlock = some b ∨ b = nE) (fun b hb => Or.inl hb)).trans (hoo.mono (fun b hb => Or.inr hb))).old (fun q hq => hq.elim Or.inr (fun e => Or.inl (by rw [e]; exact HEX1.out.2))), own_stay HX1.out.2 hoo (fun q hq e => own_ne HX1.out.2 HEX1.out.1 (by decide) (e ▸ hq))⟩
          clear hown hoo yl
          refine hK.out _ _ trivial (fun hHeld => ?_)
          clear hK
          (try simp only [Act.put, List.setIfInBounds_toArray, List.set_cons_zero, List.set_cons_succ])
          refine wpAnyH_ready (rs := [1, 5]) (by kernel_rfl) (by simp) ?_
          refine AllReadyH.cons rfl (fun K hK => ?_) (AllReadyH.cons rfl (fun K hK => ?_) AllReadyH.nil)
          · have y := HCL.out X2 HX2.out.1
            have y0 : X2.cell? ⟨w.heap.size + 1 + 1, 0, none⟩ = some (.slice aN j kN) := cell_blk y.1
            have yl := y.2
            rw [if_pos (by rfl)]
            go_simp
            refine hK.out _ _ trivial (fun hHeld => ?_)
            clear hK
            (try simp only [Act.put, List.setIfInBounds_toArray, List.set_cons_zero, List.set_cons_succ])
            clear y y0 yl
            refine wpAnyH_ready (rs := [5]) (by kernel_rfl) (by simp) ?_
            refine AllReadyH.cons rfl (fun K hK => ?_) AllReadyH.nil
            rw [if_pos (by rfl)]
            go_simp
            obtain ⟨X3, hX3⟩ : ∃ Y, Y = X2.alloc (.cells #[(.slice (some ⟨g5, 0, none⟩) m c5)] 23) := ⟨_, rfl⟩
            obtain ⟨nB, hnB⟩ : ∃ n, n = X2.heap.size := ⟨_, rfl⟩
            have HBX3 : Hid (X3.heap[nB]? = some (.cells #[(.slice (some ⟨g5, 0, none⟩) m c5)] 23 (0, 0))) := by rw [hX3, hnB]; exact heap_alloc_new _ _
            have HCX3 : Hid (X3.ownsRow (w.heap.size + 3) 3 1 (.slice (some ⟨g5, 0, none⟩) m c5) m (natI L)) := by rw [hX3]; exact HCX2.out.alloc _
            have HX3 : Hid (Only (fun b => (Value.slice aN j kN).ownBlock = some b) V X3 ∧ X3.ownsRow (w.heap.size + 3) 23 1 (.slice aN j kN) j vs) := by rw [hX3]; exact ⟨HX2.out.1.alloc _, HX2.out.2.alloc _⟩
            rw [← hX3, ← hnB]
            clear hX3 hnB
            refine hK.out _ _ trivial (fun hHeld => ?_)
            clear hK
            (try simp only [Act.put, List.setIfInBounds_toArray, List.set_cons_zero, List.set_cons_succ])
            refine wpAnyH_ready (rs := [6]) (by kernel_rfl) (by simp) ?_
            refine AllReadyH.cons rfl (fun K hK => ?_) AllReadyH.nil
            have yl := (HCL.out X3 HX3.out.1).2
            refine step_A (by rfl) _ _ (by rfl) (w.heap.size + 3) (.slice aN j kN) j vs (by rfl) HX3.out.2 nB (.slice (some ⟨g5, 0, none⟩) m c5) (by rfl) HBX3.out rfl (by omega) (by omega) ?_
            intro gA cA X4 hown hgrow
            have HFX4 : Hid (Only (fun b => (Value.slice aN j kN).ownBlock = some b) V X4 ∧ X4.ownsRow (w.heap.size + 3) 23 1 (.slice (some ⟨gA, 0, none⟩) (j + 1) cA) (j + 1) (vs ++ [(.slice (some ⟨g5, 0, none⟩) m c5)]) ∧ X4.ownsRow (w.heap.size + 3) 3 1 (.slice (some ⟨g5, 0, none⟩) m c5) m (natI L)) := ⟨HX3.out.1.grown hgrow (fun q hq => hq), hown, own_grow2 HCX3.out HX3.out.2 hgrow (by decide)⟩
            clear hown hgrow yl
            refine hK.out _ _ trivial (fun hHeld => ?_)
            clear hK
            (try simp only [Act.put, List.setIfInBounds_toArray, List.set_cons_zero, List.set_cons_succ])
            refine wpAnyH_take (i := 7) (oi := { dst := some 20, op := _, type := _, pos := _, after := _, guard := _ }) (v := .pointer (some ⟨w.heap.size + 1 + 1, 0, none⟩)) rfl (by kernel_rfl) (by kernel_rfl) (by kernel_rfl) (fun _ _ _ h => h) (Or.inl ⟨by rfl, fun w hSw => by first | (go_simp; done) | go_simp⟩) (by assumption) ?_
            (try simp only [Act.put, List.setIfInBounds_toArray, List.set_cons_zero, List.set_cons_succ])
            have y := HCL.out X4 HFX4.out.1
            have y0 : X4.cell? ⟨w.heap.size + 1 + 1, 0, none⟩ = some (.slice aN j kN) := cell_blk y.1
            have yf : ∀ q, X4.frozen? ⟨w.heap.size + 1 + 1, q, none⟩ = false := fun q => fz_blk y.1 q
            have yl := y.2
            refine wpAnyH_ready (rs := [8]) (by kernel_rfl) (by simp) ?_
            refine AllReadyH.cons rfl (fun K hK => ?_) AllReadyH.nil
            rw [if_pos (by rfl)]
            go_simp
            refine hK.out _ _ trivial (fun hHeld => ?_)
            clear hK
            (try simp only [Act.put, List.setIfInBounds_toArray, List.set_cons_zero, List.set_cons_succ])
            refine wpAnyH_done (by kernel_rfl) ?_ _
            clear hHeld y y0 yf yl
            go_wp2_with fail
            go_roundg (n - (j + 1))
            case measure => omega
            case rel =>
              obtain ⟨k1, k2, k3⟩ := HFX4.out
              have hb := HG.out.1.addR (F := L) (g := gA) (c := cA) (vW := (.slice (some ⟨g5, 0, none⟩) m c5)) (by rw [← HROW.out.2.1]; exact k3) k1 (by rw [HJL.out]; exact k2)
              rw [HJL.out, ← take_row HROW.out.2.2] at hb
              exact ⟨j + 1, _, _, _, rfl, rfl, by omega, by go_num, hb, (HG.out.2.trans (k1.mono (fun b hb => by have := (own_own HG.out.1.nx hb).1; omega))).setCell (p := ⟨w.heap.size + 1 + 1, 0, none⟩) (Nat.le_refl _) _⟩
          · rw [if_pos (by rfl)]
            go_simp
            obtain ⟨X3, hX3⟩ : ∃ Y, Y = X2.alloc (.cells #[(.slice (some ⟨g5, 0, none⟩) m c5)] 23) := ⟨_, rfl⟩
            obtain ⟨nB, hnB⟩ : ∃ n, n = X2.heap.size := ⟨_, rfl⟩
            have HBX3 : Hid (X3.heap[nB]? = some (.cells #[(.slice (some ⟨g5, 0, none⟩) m c5)] 23 (0, 0))) := by rw [hX3, hnB]; exact heap_alloc_new _ _
            have HCX3 : Hid (X3.ownsRow (w.heap.size + 3) 3 1 (.slice (some ⟨g5, 0, none⟩) m c5) m (natI L)) := by rw [hX3]; exact HCX2.out.alloc _
            have HX3 : Hid (Only (fun b => (Value.slice aN j kN).ownBlock = some b) V X3 ∧ X3.ownsRow (w.heap.size + 3) 23 1 (.slice aN j kN) j vs) := by rw [hX3]; exact ⟨HX2.out.1.alloc _, HX2.out.2.alloc _⟩
            rw [← hX3, ← hnB]
            clear hX3 hnB
            refine hK.out _ _ trivial (fun hHeld => ?_)
            clear hK
            (try simp only [Act.put, List.setIfInBounds_toArray, List.set_cons_zero, List.set_cons_succ])
            refine wpAnyH_ready (rs := [1]) (by kernel_rfl) (by simp) ?_
            refine AllReadyH.cons rfl (fun K hK => ?_) AllReadyH.nil
            have y := HCL.out X3 HX3.out.1
            have y0 : X3.cell? ⟨w.heap.size + 1 + 1, 0, none⟩ = some (.slice aN j kN) := cell_blk y.1
            have yl := y.2
            rw [if_pos (by rfl)]
            go_simp
            refine hK.out _ _ trivial (fun hHeld => ?_)
            clear hK
            (try simp only [Act.put, List.setIfInBounds_toArray, List.set_cons_zero, List.set_cons_succ])
            clear y y0 yl
            refine wpAnyH_ready (rs := [6]) (by kernel_rfl) (by simp) ?_
            refine AllReadyH.cons rfl (fun K hK => ?_) AllReadyH.nil
            have yl := (HCL.out X3 HX3.out.1).2
            refine step_A (by rfl) _ _ (by rfl) (w.heap.size + 3) (.slice aN j kN) j vs (by rfl) HX3.out.2 nB (.slice (some ⟨g5, 0, none⟩) m c5) (by rfl) HBX3.out rfl (by omega) (by omega) ?_
            intro gA cA X4 hown hgrow
            have HFX4 : Hid (Only (fun b => (Value.slice aN j kN).ownBlock = some b) V X4 ∧ X4.ownsRow (w.heap.size + 3) 23 1 (.slice (some ⟨gA, 0, none⟩) (j + 1) cA) (j + 1) (vs ++ [(.slice (some ⟨g5, 0, none⟩) m c5)]) ∧ X4.ownsRow (w.heap.size + 3) 3 1 (.slice (some ⟨g5, 0, none⟩) m c5) m (natI L)) := ⟨HX3.out.1.grown hgrow (fun q hq => hq), hown, own_grow2 HCX3.out HX3.out.2 hgrow (by decide)⟩
            clear hown hgrow yl
            refine hK.out _ _ trivial (fun hHeld => ?_)
            clear hK
            (try simp only [Act.put, List.setIfInBounds_toArray, List.set_cons_zero, List.set_cons_succ])
            refine wpAnyH_take (i := 7) (oi := { dst := some 20, op := _, type := _, pos := _, after := _, guard := _ }) (v := .pointer (some ⟨w.heap.size + 1 + 1, 0, none⟩)) rfl (by kernel_rfl) (by kernel_rfl) (by kernel_rfl) (fun _ _ _ h => h) (Or.inl ⟨by rfl, fun w hSw => by first | (go_simp; done) | go_simp⟩) (by assumption) ?_
            (try simp only [Act.put, List.setIfInBounds_toArray, List.set_cons_zero, List.set_cons_succ])
            have y := HCL.out X4 HFX4.out.1
            have y0 : X4.cell? ⟨w.heap.size + 1 + 1, 0, none⟩ = some (.slice aN j kN) := cell_blk y.1
            have yf : ∀ q, X4.frozen? ⟨w.heap.size + 1 + 1, q, none⟩ = false := fun q => fz_blk y.1 q
            have yl := y.2
            refine wpAnyH_ready (rs := [8]) (by kernel_rfl) (by simp) ?_
            refine AllReadyH.cons rfl (fun K hK => ?_) AllReadyH.nil
            rw [if_pos (by rfl)]
            go_simp
            refine hK.out _ _ trivial (fun hHeld => ?_)
            clear hK
            (try simp only [Act.put, List.setIfInBounds_toArray, List.set_cons_zero, List.set_cons_succ])
            refine wpAnyH_done (by kernel_rfl) ?_ _
            clear hHeld y y0 yf yl
            go_wp2_with fail
            go_roundg (n - (j + 1))
            case measure => omega
            case rel =>
              obtain ⟨k1, k2, k3⟩ := HFX4.out
              have hb := HG.out.1.addR (F := L) (g := gA) (c := cA) (vW := (.slice (some ⟨g5, 0, none⟩) m c5)) (by rw [← HROW.out.2.1]; exact k3) k1 (by rw [HJL.out]; exact k2)
              rw [HJL.out, ← take_row HROW.out.2.2] at hb
              exact ⟨j + 1, _, _, _, rfl, rfl, by omega, by go_num, hb, (HG.out.2.trans (k1.mono (fun b hb => by have := (own_own HG.out.1.nx hb).1; omega))).setCell (p := ⟨w.heap.size + 1 + 1, 0, none⟩) (Nat.le_refl _) _⟩
    · have t1 : decide ((j : Int) < (n : Int)) = false := decide_eq_false (by omega)
      have hjn : n = j := by omega
      subst hjn
      have HTK : Hid (rows.take n = rows) := (show rows.take n = rows by rw [HNN.out.1, List.take_length])
      have HG2 : Hid (Gm V (w.heap.size + 3) (w.heap.size + 1 + 1) vN (.slice none 0 0) rows [] vs) := by have := HG.out.1; rw [HTK.out] at this; exact this
      obtain ⟨aN, kN, eN⟩ := own_form HG2.out.nx
      rw [← HNN.out.1] at eN
      subst eN
      have hb := HVL.out.2.1
      have x0 : V.cell? ⟨w.heap.size, 1, none⟩ = some (.slice (some ⟨bO, 0, none⟩) no kO) := cell_blk hb
      have x1 : V.cell? ⟨w.heap.size + 1 + 1, 1, none⟩ = some (.slice none 0 0) := cell_blk HG2.out.lst
      have lx0 : w.heap.size < V.heap.size := World.block_lt_of_cell? V _ x0
      have lx1 : w.heap.size + 1 + 1 < V.heap.size := World.block_lt_of_cell? V _ x1
      have HVA : Hid ((V.alloc (.cells #[] 38)).heap[V.heap.size]? = some (.cells #[] 38 (0, 0)) ∧ (V.alloc (.cells #[] 38)).heap.size = V.heap.size + 1) := ⟨heap_alloc_new V _, by simp⟩
      have HOWN : Hid ((V.alloc (.cells #[] 38)).ownsRow (w.heap.size + 3) 38 1 (.slice (some ⟨V.heap.size, 0, none⟩) 0 0) 0 []) := ⟨rfl, Or.inr ⟨V.heap.size, 0, #[], rfl, lV, HVA.out.1, Nat.le_refl _, Nat.zero_le _, rfl, rfl⟩⟩
      have HNEW : Hid (∀ (j : Nat) (u : Value), (outs.map u32V)[j]? = some u → (V.alloc (.cells #[] 38)).cell? ((⟨bO, 0, none⟩ : Addr).add j) = some u) := fun j u hj => by
        have hjl := (List.getElem?_eq_some_iff.1 hj).1
        rw [List.length_map] at hjl
        obtain ⟨g, cap, hv, _, _, _, hcc⟩ := row_form HX.out.2.2.2 (by have := HNN.out.2; omega)
        injection hv with hv1
        injection hv1 with hv1
        injection hv1 with hv1
        rw [Addr.add_mid, Nat.zero_add]
        have := hcc j (by omega)
        rw [← hv1, hj] at this
        exact keepC (HVL.out.1.alloc _) this
      go_wp2_with (at_builtin; (refine wpList_append_lies _ rfl _ _ 22 rfl (w.heap.size + 3) 38 i38 (.int .u32 0) 1 4 Try.underlying22 g38 g380 g381 g382 rfl (by decide) (.slice (some ⟨V.heap.size, 0, none⟩) 0 0) 0 [] rfl HOWN.out ⟨bO, 0, none⟩ no kO (outs.map u32V) rfl (by rw [List.length_map, Nat.mul_one, HNN.out.2]) HNEW.out (fun u hu => by obtain ⟨x, _, rfl⟩ := List.mem_map.1 hu; rfl) h0 (by unfold maxLen; omega) (by omega) (by rw [HVA.out.2]; omega) (V.heap.size + 1) HVA.out.2 ?_; intro g6 cap6 w6 hown6 hgrow6 hat6 hlt6; have hoo : Only (fun _ => False) V w6 := (((Only.refl (fun b => V.heap.size ≤ b) V).alloc _).grown hgrow6 (fun q hq => by injection hq with hq; subst hq; exact Nat.le_refl _)).old (fun q hq => Or.inl hq); have H6 : Hid (Gm w6 (w.heap.size + 3) (w.heap.size + 1 + 1) (.slice aN n kN) (.slice none 0 0) rows [] vs ∧ w6.ownsRow (w.heap.size + 3) 38 1 (.slice (some ⟨g6, 0, none⟩) no cap6) no (outs.map u32V) ∧ Only (fun b => w.heap.size + 1 + 1 ≤ b) W0 w6) := ⟨HG2.out.idle hoo, (by rw [Nat.zero_add, List.nil_append] at hown6; exact hown6), HG.out.2.trans (hoo.mono (fun _ h => h.elim))⟩; have hb6 := H6.out.1.lst; have d1 : w6.cell? ⟨w.heap.size + 1 + 1, 1, none⟩ = some (.slice none 0 0) := cell_blk hb6; have d0 : w6.cell? ⟨w.heap.size + 1 + 1, 0, none⟩ = some (.slice aN n kN) := cell_blk hb6; have f6 : ∀ y, w6.frozen? ⟨w.heap.size + 1 + 1, y, none⟩ = false := (fun y => fz_blk hb6 y); have l6 : w.heap.size + 1 + 1 < w6.heap.size := World.block_lt_of_cell? w6 _ d1; have hr6 := (HLO.out w6 H6.out.2.2).2.2; have r0 : w6.cell? ⟨w.heap.size + 1, 0, none⟩ = some (.slice none 0 0) := cell_blk hr6; have r1 : w6.cell? ⟨w.heap.size + 1, 1, none⟩ = some (.slice none 0 0) := cell_blk hr6; have rf6 : ∀ y, w6.frozen? ⟨w.heap.size + 1, y, none⟩ = false := (fun y => fz_blk hr6 y); have rl6 : w.heap.size + 1 < w6.heap.size := World.block_lt_of_cell? w6 _ r0; clear hown6 hgrow6 hat6 hoo hb6 hr6))
      have hR6 := (HLO.out w6 H6.out.2.2).2.2
      have hR7 : (w6.setCell ⟨w.heap.size + 1 + 1, 1, none⟩ (.slice (some ⟨g6, 0, none⟩) no cap6)).heap[w.heap.size + 1]? = some (.cells #[.slice none 0 0, .slice none 0 0] 27 (0, 0)) := (Below.heap_setCell _ _ _ _ (by show w.heap.size + 1 ≠ w.heap.size + 1 + 1; omega)).trans hR6
      refine bodyPost_ret (v := .agg #[.slice aN n kN, .slice (some ⟨g6, 0, none⟩) no cap6]) (results_cell_row rfl _ _ (w.heap.size + 1) 27 #[.slice aN n kN, .slice (some ⟨g6, 0, none⟩) no cap6] (0, 0) _ rfl (heap_setCell_at (heap_setCell_at hR7 _) _) Try.underlying27 rfl sz27c) rfl ?_
      have hgo := H6.out.1.setO (o := outs) (g := g6) (c := cap6) (by rw [← HNN.out.2]; exact H6.out.2.1)
      rw [← HNN.out.2] at hgo
      have o1 := ((Only.refl (fun b => b = w.heap.size + 1) (w6.setCell ⟨w.heap.size + 1 + 1, 1, none⟩ (.slice (some ⟨g6, 0, none⟩) no cap6))).setCell (p := ⟨w.heap.size + 1, 0, none⟩) rfl (.slice aN n kN)).setCell (p := ⟨w.heap.size + 1, 1, none⟩) rfl (.slice (some ⟨g6, 0, none⟩) no cap6)
      have hra := (hgo.ra o1 (fun b hb => by subst hb; exact ⟨_, hR7⟩)).low (show w.heap.size ≤ w.heap.size + 3 by omega)
      exact ⟨_, rfl, hra, (((HLO.out _ (H6.out.2.2.setCell (p := ⟨w.heap.size + 1 + 1, 1, none⟩) (Nat.le_refl _) _)).1.mono (S' := fun b => b = w.heap.size + 1) (fun _ h => h.elim)).trans o1).old (fun q hq => Or.inl (by omega))⟩
end Go.Proofs.Ytelifjeppegcmaa
