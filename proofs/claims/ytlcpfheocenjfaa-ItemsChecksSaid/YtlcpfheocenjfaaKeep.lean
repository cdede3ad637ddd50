
/-
  What (*prop.Table).keep returns, and what it leaves: a block's number, the block kept once.
-/
import Derived.Test.YtlcpfheocenjfaaCut
import Derived.Test.YtlcpfheocenjfaaBs
import Derived.Deep.RegionHeldLaw
namespace Go.Proofs.Ytlcpfheocenjfaa
open Go.RowKit Go.Maps
set_option linter.unusedVariables false
set_option linter.unusedSimpArgs false

/-- blocks as cells. -/
def flat (B : List (List Int)) : List Value := B.flatMap fun f => f.map (Value.int .u8)
theorem flat_snoc (B : List (List Int)) (f : List Int) : flat (B ++ [f]) = flat B ++ f.map (Value.int .u8) := by simp [flat]
/-- a block's number among those kept; 0: none. -/
def idx (f : List Int) (B : List (List Int)) : Int := if f ∈ B then (B.idxOf f : Int) + 1 else 0
/-- the blocks with one more, if it is new. -/
def add (B : List (List Int)) (f : List Int) : List (List Int) := if f ∈ B then B else B ++ [f]
/-- the map tells the blocks' numbers. -/
def KD (P : Program) (D : DataW Unit) (B : List (List Int)) : Prop := ∀ f, Byt f → D.atKey (kc P f) (.lit (.int .u16 0)) = .lit (.int .u16 (idx f B)) ∧ Maps.has D (kc P f) = decide (f ∈ B)
set_option maxRecDepth 100000 in
theorem kd_put {D : DataW Unit} {B : List (List Int)} {f : List Int} (hm : IsMap D) (h : KD Try.prog D B) (hf : Byt f) (hn : f ∉ B) :
    KD Try.prog (D.put (kc Try.prog f) (.lit (.int .u16 ((B.length : Int) + 1)))) (B ++ [f]) := by
  intro g hg
  have hk : WideAt.IsKeyLit (kc Try.prog f) := law58.key (kc_key hf)
  by_cases e : g = f
  · subst e
    refine ⟨?_, ?_⟩
    · rw [atKey_put_same hm hk]
      unfold idx
      rw [if_pos (by simp), List.idxOf_append, if_neg hn]
      simp
    · rw [has_put_same hm hk]
      simp
  · have hne : kc Try.prog g ≠ kc Try.prog f := fun h' => e (kc_inj hg hf h')
    refine ⟨?_, ?_⟩
    · rw [atKey_put_other hne, (h g hg).1]
      unfold idx
      by_cases hgB : g ∈ B
      · rw [if_pos hgB, if_pos (by simp [hgB]), List.idxOf_append, if_pos hgB]
      · rw [if_neg hgB, if_neg (by simp [hgB, e])]
    · rw [has_put_other hne, (h g hg).2]
      simp [e]
theorem step_of_wp {P : Program} {ops : Array Oper} {o : Oper} {a : Act} {w : World} {K : Act → World → Prop} {Q : Exit → Act → World → Prop} {E : Prop} (hg : o.guard = none) (h : Oper.wp P o a w K Q) :
    if Region.wanted o (yielded ops a.tmps) = true then Oper.wp P o a w K Q else E := by
  have hw : Region.wanted o (yielded ops a.tmps) = true := by simp [Region.wanted, hg]
  rw [if_pos hw]
  exact h
theorem tC_last (R : List Int) (v : Value) (h : R.length = 4352) : (tC R v)[4352]? = some v := by
  unfold tC
  rw [Array.getElem?_push]
  simp [h]
theorem tC_setLast (R : List Int) (v v' : Value) (h : R.length = 4352) : (tC R v).setIfInBounds 4352 v' = tC R v' := by
  unfold tC
  apply Array.ext_getElem?
  intro i
  rw [Array.getElem?_setIfInBounds, Array.getElem?_push, Array.getElem?_push]
  by_cases e : 4352 = i
  · subst e
    simp [h]
  · have e' : ¬ i = 4352 := by omega
    simp [e, e', h]
theorem foldl_zip : ∀ (l : List Value) (k : Nat) (cs : Array Value), k + l.length ≤ cs.size → ∀ i, ((l.zipIdx k).foldl (fun cs p => cs.setIfInBounds (0 + p.2) p.1) cs)[i]? = if k ≤ i ∧ i < k + l.length then l[i - k]? else cs[i]?
  | [], k, cs, h, i => by simp; omega
  | x :: l, k, cs, h, i => by
    rw [List.zipIdx_cons, List.foldl_cons, foldl_zip l (k + 1) _ (by simp at h ⊢; omega) i]
    simp only [List.length_cons] at h ⊢
    by_cases h1 : k + 1 ≤ i ∧ i < k + 1 + l.length
    · rw [if_pos h1, if_pos (by omega), show i - k = (i - (k + 1)) + 1 by omega, List.getElem?_cons_succ]
    · rw [if_neg h1, Array.getElem?_setIfInBounds]
      by_cases h2 : k = i
      · subst h2
        simp
        omega
      · rw [if_neg (by omega), if_neg (by omega)]
theorem fill_blk {a : Act} {f : List Int} {i0 : TypeInfo} (hz : i0.size = 256) (hf : f.length = 256) {x : Operand} (hx : a.eval x = .agg (bC f) := by rfl) :
    Instr.fill (fun i => some (i * i0.size, i0.size)) ((Array.range (1 * i0.size)).map ((Value.agg (bC Pr.zeros)).cells[· % (Value.agg (bC Pr.zeros)).cells.size]!)) (#[(0, x)].map fun p => (p.1, a.eval p.2)).toList = some (bC f) := by
  rw [hz]
  have e : (#[(0, x)].map fun p : Nat × Operand => (p.1, a.eval p.2)).toList = [(0, .agg (bC f))] := by simp [hx]
  rw [e]
  have hs : (bC f).size = 256 := (bC_size f).trans hf
  unfold Instr.fill
  simp only
  rw [if_neg (by show ¬ ((decide ((bC f).size ≠ 256) || decide (0 * 256 + (bC f).size > _)) = true); rw [hs]; simp)]
  unfold Instr.fill
  congr 1
  apply Array.ext_getElem?
  intro i
  have := foldl_zip (bC f).toList 0 ((Array.range (1 * 256)).map ((Value.agg (bC Pr.zeros)).cells[· % (Value.agg (bC Pr.zeros)).cells.size]!)) (by rw [Array.length_toList, hs]; simp) i
  rw [Array.length_toList, hs] at this
  show (Array.foldl _ _ (bC f).zipIdx)[i]? = _
  rw [← Array.foldl_toList, Array.toList_zipIdx]
  refine this.trans ?_
  by_cases hi : i < 256
  · rw [if_pos (by omega)]
    simp
  · rw [if_neg (by omega), Array.getElem?_eq_none (by simp; omega), Array.getElem?_eq_none (by rw [hs]; omega)]
theorem range_row {w : World} {g : Nat} {f : List Int} {t : TypeId} (h : w.heap[g]? = some (.cells (bC f) t (0, 0))) : w.rangeAt g 0 (f.map (Value.int .u8)) := by
  intro j u hj
  rw [cell_of_row w g (0 + j) _ _ _ h, Nat.zero_add]
  unfold bC
  simpa using hj
theorem news_row {w : World} {g : Nat} {f : List Int} {t : TypeId} (h : w.heap[g]? = some (.cells (bC f) t (0, 0))) : ∀ j u, (f.map (Value.int .u8))[j]? = some u → w.cell? ((⟨g, 0, none⟩ : Addr).add j) = some u := by
  intro j u hj
  rw [Addr.add_mid]
  exact range_row h j u hj
theorem wf_u16 {a : Int} (h0 : 0 ≤ a) (h1 : a ≤ 65535) : (Lit.int .u16 a).wf = true := by
  have e1 : IntKind.min .u16 = 0 := by decide
  have e2 : IntKind.max .u16 = 65535 := by decide
  simp only [Lit.wf, e1, e2, h0, h1, decide_true, Bool.and_self]
theorem ownsRow_grown {w w' : World} {base e size n : Nat} {v : Value} {xs : List Value} {M : Nat} (h : w.ownsRow base e size v n xs) (hg : w.grownBy w' (some M)) (hM : ¬ base ≤ M) : w'.ownsRow base e size v n xs := by
  obtain ⟨hl, h | ⟨g, cap, cur, hv, hb, hh, h1, h2, h3, h4⟩⟩ := h
  · exact ⟨hl, Or.inl h⟩
  · refine ⟨hl, Or.inr ⟨g, cap, cur, hv, hb, ?_, h1, h2, h3, h4⟩⟩
    rw [hg.block g (Array.getElem?_eq_some_iff.1 hh).1 (fun e => hM (by injection e with e; omega))]
    exact hh
theorem zero51 (w : World) : (zeroValue 78).run Try.prog w = .ok (.int .u16 0) w := by kernel_rfl

set_option maxRecDepth 100000 in
set_option maxHeartbeats 4000000 in
theorem keep_any (T M base : Nat) (f R : List Int) (v : Value) (B : List (List Int)) (D : DataW Unit) (w : World)
    (hT : w.heap[T]? = some (.cells (tC R v) 82 (0, 0))) (hR : R.length = 4352) (hv : w.ownsRow base 85 256 v B.length (flat B)) (hM : w.ownsMap Try.prog 85 (plainElem Try.prog 78) M B.length D) (hD : KD Try.prog D B)
    (hf : Byt f) (hTM : T ≠ M) (hTb : T < base) (hMb : M < base) (hbase : base ≤ w.heap.size) (hBl : B.length ≤ 5000) :
    Calls Try.prog 38 #[.pointer (some ⟨T, 0, none⟩), .agg (bC f), .map (some M)] w fun e w' => ∃ (v' : Value) (D' : DataW Unit), e = .returned (.int .u16 (idx f (add B f))) ∧
      w'.heap[T]? = some (.cells (tC R v') 82 (0, 0)) ∧ w'.ownsRow base 85 256 v' (add B f).length (flat (add B f)) ∧ w'.ownsMap Try.prog 85 (plainElem Try.prog 78) M (add B f).length D' ∧ KD Try.prog D' (add B f) ∧
      Only (fun g => g = T ∨ g = M ∨ v.ownBlock = some g) w w' := by
  obtain ⟨i0, hi, hz0, hz1, hz2⟩ := info_parts info58
  have hz58 := zero58
  have hTH : Hid (w.heap[T]? = some (.cells (tC R v) 82 (0, 0))) := hT
  have hDH : Hid (KD Try.prog D B) := hD
  have hlen : Hid (f.length = 256) := hf.1
  have hRH : Hid (R.length = 4352) := hR
  have hfH : Hid (Byt f) := hf
  have q1 : Hid ((w.alloc (.cells (bC f) 85)).heap[w.heap.size]? = some (.cells (bC f) 85 (0, 0))) := heap_alloc_new _ _
  clear hT hD hf hR
  by_cases hin : f ∈ B
  · have hh : Maps.has D (kc Try.prog f) = true := by rw [(hDH.out f hfH.out).2]; simp [hin]
    have HI : Hid (f ∈ B) := hin
    clear hin
    go_enter Try.func38, Try.ntmps38
    go_wp2_with (first | refine wpList_load_row rfl 85 _ rfl w.heap.size rfl 85 _ (0, 0) _ q1.out Try.underlying85 rfl (sz58 hlen.out) ?_ | (at_lookup; refine wpList_lookup_own_ok_int _ rfl _ _ 83 rfl 85 78 .u16 law58 Try.underlying83 Try.underlying78 (zero51 _) M B.length D rfl (hM.alloc _) _ _ rfl (kc_key hfH.out) ?_; intro c hat hwc))
    go_ret
    have e1 := (hDH.out f hfH.out).1
    rw [hat] at e1
    have e2 : c = idx f B := by injection e1 with e1; injection e1
    have e3 : add B f = B := by unfold add; rw [if_pos HI.out]
    rw [e3]
    exact ⟨v, D, by rw [← e2]; rfl, (heap_alloc_old _ _ (by omega)).trans hTH.out, hv.alloc _, hM.alloc _, hDH.out, (Only.refl _ _).alloc _⟩
  · have hh : Maps.has D (kc Try.prog f) = false := by rw [(hDH.out f hfH.out).2]; simp [hin]
    have HI : Hid (f ∉ B) := hin
    clear hin
    go_enter Try.func38, Try.ntmps38
    go_wp2_with (first | refine wpList_load_row rfl 85 _ rfl w.heap.size rfl 85 _ (0, 0) _ q1.out Try.underlying85 rfl (sz58 hlen.out) ?_ | (at_lookup; refine wpList_lookup_own_ok_int _ rfl _ _ 83 rfl 85 78 .u16 law58 Try.underlying83 Try.underlying78 (zero51 _) M B.length D rfl (hM.alloc _) _ _ rfl (kc_key hfH.out) ?_; intro c hat hwc))
    have hvl : ∀ g, v.ownBlock = some g → base ≤ g ∧ g < w.heap.size := fun g hg => hv.lt g hg
    have hc1 : (w.alloc (.cells (bC f) 85)).cell? ⟨T, 4352, none⟩ = some v := (cell_of_row _ _ 4352 _ _ _ ((heap_alloc_old _ _ (by omega)).trans hTH.out)).trans (tC_last _ _ hRH.out)
    have hc2 : ((w.alloc (.cells (bC f) 85)).alloc (.cells (bC f) 85)).cell? ⟨T, 4352, none⟩ = some v := (cell_of_row _ _ 4352 _ _ _ ((heap_alloc_old _ _ (by simp; omega)).trans ((heap_alloc_old _ _ (by omega)).trans hTH.out))).trans (tC_last _ _ hRH.out)
    have hr1 : Hid ((w.alloc (.cells (bC f) 85)).drew.rangeAt w.heap.size 0 (f.map (Value.int .u8))) := range_row (w := (w.alloc (.cells (bC f) 85)).drew) q1.out
    have hr2 : Hid (((w.alloc (.cells (bC f) 85)).drew.alloc (.cells (bC f) 85)).rangeAt w.heap.size 0 (f.map (Value.int .u8))) := range_row ((heap_alloc_old _ _ (by show w.heap.size < (w.alloc _).heap.size; simp)).trans q1.out)
    have hu58 := Try.underlying85
    have hi58 : (Try.prog.info? 85).map (·.size) = some (f.map (Value.int .u8)).length := by rw [List.length_map, hlen.out]; exact (zero_of_info info58').2
    have hv3 : Hid (((w.alloc (.cells (bC f) 85)).drew.alloc (.cells (bC f) 85)).ownsRow base 85 256 v B.length (flat B)) := World.ownsRow.alloc (show (w.alloc (.cells (bC f) 85)).drew.ownsRow base 85 256 v B.length (flat B) from hv.alloc _) _
    have ones : ∀ u ∈ f.map (Value.int .u8), u.oneCell' = true := fun u hu => by obtain ⟨_, _, rfl⟩ := List.mem_map.1 hu; rfl
    have hq2 : Hid (((w.alloc (.cells (bC f) 85)).drew.alloc (.cells (bC f) 85)).heap[w.heap.size]? = some (.cells (bC f) 85 (0, 0))) := (heap_alloc_old _ _ (by show w.heap.size < (w.alloc _).heap.size; simp)).trans q1.out
    have hT3 : Hid (((w.alloc (.cells (bC f) 85)).drew.alloc (.cells (bC f) 85)).heap[T]? = some (.cells (tC R v) 82 (0, 0))) := (heap_alloc_old _ _ (by show T < (w.alloc _).heap.size; simp; omega)).trans ((heap_alloc_old _ _ (by omega)).trans hTH.out)
    have q3 : Hid (((w.alloc (.cells (bC f) 85)).drew.alloc (.cells (bC f) 85)).heap[w.heap.size + 1]? = some (.cells (bC f) 85 (0, 0))) := heap_alloc2_new _ _ _
    have hOH : Hid (∀ u ∈ f.map (Value.int .u8), u.oneCell' = true) := ones
    clear ones
    refine wp_region_held_drew (S := fun w' => w'.rangeAt w.heap.size 0 (f.map (Value.int .u8))) (by kernel_rfl) hr1.out (fun hHeld => ?_)
    refine wpAnyH_take (i := 0) (v := .pointer (some ⟨T, 0, none⟩)) rfl (by kernel_rfl) (by kernel_rfl) (by kernel_rfl) (fun _ _ _ h => h) (Or.inl ⟨by rfl, fun w hSw => by go_simp⟩) (by assumption) ?_
    simp only [Act.put, List.setIfInBounds_toArray, List.set_cons_zero, List.set_cons_succ]
    refine wpAnyH_take (i := 1) (v := .pointer (some ⟨T, 0, none⟩)) rfl (by kernel_rfl) (by kernel_rfl) (by kernel_rfl) (fun _ _ _ h => h) (Or.inl ⟨by rfl, fun w hSw => by go_simp⟩) (by assumption) ?_
    simp only [Act.put, List.setIfInBounds_toArray, List.set_cons_zero, List.set_cons_succ]
    refine wpAnyH_take (i := 2) (v := .pointer (some ⟨T, 0, none⟩)) rfl (by kernel_rfl) (by kernel_rfl) (by kernel_rfl) (fun _ _ _ h => h) (Or.inl ⟨by rfl, fun w hSw => by go_simp⟩) (by assumption) ?_
    simp only [Act.put, List.setIfInBounds_toArray, List.set_cons_zero, List.set_cons_succ]
    refine wpAnyH_take (i := 3) (v := .pointer (some ⟨T, 4352, none⟩)) rfl (by kernel_rfl) (by kernel_rfl) (by kernel_rfl) (fun _ _ _ h => h) (Or.inl ⟨by rfl, fun w hSw => by go_simp⟩) (by assumption) ?_
    simp only [Act.put, List.setIfInBounds_toArray, List.set_cons_zero, List.set_cons_succ]
    refine wpAnyH_take (i := 5) (v := .agg (bC f)) rfl (by kernel_rfl) (by kernel_rfl) (by kernel_rfl) (fun _ _ _ h => h) (yieldsIf_load_mid (by rfl) _ _ rfl _ _ rfl _ _ (fun w hS => hS) hu58 rfl hi58) (by assumption) ?_
    simp only [Act.put, List.setIfInBounds_toArray, List.set_cons_zero, List.set_cons_succ]
    refine wpAnyH_ready (rs := [4, 6]) (by kernel_rfl) (by simp) ?_
    refine AllReadyH.cons rfl (fun K hK => ?_) (AllReadyH.cons rfl (fun K hK => ?_) AllReadyH.nil)
    · rw [if_pos (by rfl)]
      go_simp
      refine hK.out _ _ hHeld (fun hHeld => ?_)
      clear hK
      refine wpAnyH_ready (rs := [6]) (by kernel_rfl) (by simp) ?_
      refine AllReadyH.cons rfl (fun K hK => ?_) AllReadyH.nil
      refine step_of_wp rfl (wp_buildSlice 80 85 1 _ rfl (bC f) i0 (.agg (bC Pr.zeros)) Try.underlying80 hi hz0 (by rw [hz1]; decide) (by rw [hz1]; decide) (fill_blk hz1 hlen.out) ?_)
      refine hK.out _ _ hr2.out (fun hHeld => ?_)
      clear hK
      simp only [Act.put, List.setIfInBounds_toArray, List.set_cons_zero, List.set_cons_succ]
      refine wpAnyH_ready (rs := [7]) (by kernel_rfl) (by simp) ?_
      refine AllReadyH.cons rfl (fun K hK => ?_) AllReadyH.nil
      refine step_of_wp rfl (wp_append_own _ _ _ 80 rfl base 85 i0 (.agg (bC Pr.zeros)) 256 256 Try.underlying80 hi hz0 hz1 hz2 rfl (by decide) v B.length (flat B) rfl hv3.out _ 1 1 (f.map (Value.int .u8)) rfl (by rw [List.length_map, hlen.out]) (fun j u hj => ?_) hOH.out (by unfold maxLen; omega) (by omega) (by simp; omega) ?_)
      · first | exact news_row (heap_alloc_new _ _) j u hj | exact news_row q3.out j u hj
      · intro v' w2 hown2 hg2 _
        refine hK.out _ _ (range_row ((hg2.block w.heap.size (by simp; omega) (fun e => by have := hvl w.heap.size e.symm; omega)).trans hq2.out)) (fun hHeld => ?_)
        clear hK
        obtain ⟨g', cap', rfl, hgb, hgl, hgc, _⟩ := row_form hown2 (by omega)
        have hT2 : Hid (w2.heap[T]? = some (.cells (tC R v) 82 (0, 0))) := (hg2.block T (by simp; omega) (fun e => by have := hvl T e.symm; omega)).trans hT3.out
        have hc3 : w2.cell? ⟨T, 4352, none⟩ = some v := (cell_of_row _ _ 4352 _ _ _ hT2.out).trans (tC_last _ _ hRH.out)
        have hf3 : w2.frozen? ⟨T, 4352, none⟩ = false := frozen_row _ _ _ _ _ hT2.out
        simp only [Act.put, List.setIfInBounds_toArray, List.set_cons_zero, List.set_cons_succ]
        refine wpAnyH_take (i := 8) (v := .pointer (some ⟨T, 0, none⟩)) rfl (by kernel_rfl) (by kernel_rfl) (by kernel_rfl) (fun _ _ _ h => h) (Or.inl ⟨by rfl, fun w hSw => by go_simp⟩) (by assumption) ?_
        simp only [Act.put, List.setIfInBounds_toArray, List.set_cons_zero, List.set_cons_succ]
        refine wpAnyH_take (i := 9) (v := .pointer (some ⟨T, 4352, none⟩)) rfl (by kernel_rfl) (by kernel_rfl) (by kernel_rfl) (fun _ _ _ h => h) (Or.inl ⟨by rfl, fun w hSw => by go_simp⟩) (by assumption) ?_
        simp only [Act.put, List.setIfInBounds_toArray, List.set_cons_zero, List.set_cons_succ]
        refine wpAnyH_ready (rs := [10]) (by kernel_rfl) (by simp) ?_
        refine AllReadyH.cons rfl (fun K hK => ?_) AllReadyH.nil
        rw [if_pos (by rfl)]
        go_simp
        have hT5 : Hid ((w2.setCell ⟨T, 4352, none⟩ (.slice (some ⟨g', 0, none⟩) (B.length + 1) cap')).heap[T]? = some (.cells (tC R (.slice (some ⟨g', 0, none⟩) (B.length + 1) cap')) 82 (0, 0))) := by
          rw [← tC_setLast R v _ hRH.out]
          exact heap_setCell_row _ _ _ _ _ _ _ hT2.out
        have hq5 : Hid ((w2.setCell ⟨T, 4352, none⟩ (.slice (some ⟨g', 0, none⟩) (B.length + 1) cap')).heap[w.heap.size]? = some (.cells (bC f) 85 (0, 0))) := (Below.heap_setCell _ _ _ _ (by show w.heap.size ≠ T; omega)).trans ((hg2.block w.heap.size (by simp; omega) (fun e => by have := hvl w.heap.size e.symm; omega)).trans hq2.out)
        have hM5 : Hid ((w2.setCell ⟨T, 4352, none⟩ (.slice (some ⟨g', 0, none⟩) (B.length + 1) cap')).ownsMap Try.prog 85 (plainElem Try.prog 78) M B.length D) := ((World.ownsMap.alloc (hM.alloc _).drew _).kept hg2 (fun e => by have := hvl M e.symm; omega)).setCell (by show M ≠ T; omega) _
        have hv5 : Hid ((w2.setCell ⟨T, 4352, none⟩ (.slice (some ⟨g', 0, none⟩) (B.length + 1) cap')).ownsRow base 85 256 (.slice (some ⟨g', 0, none⟩) (B.length + 1) cap') (B.length + 1) (flat B ++ f.map (Value.int .u8))) := ownsRow_setCell_below hown2 (by show T < base; omega) _
        have hO5 : Hid (Only (fun g => g = T ∨ g = M ∨ v.ownBlock = some g) w (w2.setCell ⟨T, 4352, none⟩ (.slice (some ⟨g', 0, none⟩) (B.length + 1) cap'))) := ((((Only.refl (fun g => g = T ∨ g = M ∨ v.ownBlock = some g) w).alloc _).drew.alloc _).grown hg2 (fun k hk => Or.inr (Or.inr hk))).setCell (p := ⟨T, 4352, none⟩) (Or.inl rfl) _
        have hs5 : (w2.setCell ⟨T, 4352, none⟩ (.slice (some ⟨g', 0, none⟩) (B.length + 1) cap')).heap.size = w2.heap.size := by simp [World.setCell]
        have hc5 : (w2.setCell ⟨T, 4352, none⟩ (.slice (some ⟨g', 0, none⟩) (B.length + 1) cap')).cell? ⟨T, 4352, none⟩ = some (.slice (some ⟨g', 0, none⟩) (B.length + 1) cap') := (cell_of_row _ _ 4352 _ _ _ hT5.out).trans (tC_last _ _ hRH.out)
        refine hK.out _ _ (range_row hq5.out) (fun hHeld => ?_)
        clear hK
        refine wpAnyH_done (by kernel_rfl) ?_ _
        clear hHeld hown2 hg2 hu58 hi58 hc1 hc2 hc3 hf3 hvl hs5
        go_wp2_with (first | refine wpList_load_row rfl 85 _ rfl w.heap.size rfl 85 _ (0, 0) _ hq5.out Try.underlying85 rfl (sz58 hlen.out) ?_ | (at_mapUpdate; refine wpList_mapUpdate_own _ rfl _ _ _ 83 rfl 85 78 law58 Try.underlying83 _ M B.length D rfl hM5.out (by unfold maxLen; omega) _ _ _ rfl rfl (kc_key hfH.out) _ [] (plainElem_int Try.underlying78 (wf_u16 (by omega) (by omega))) ?_; intro w6 hM6 hg6))
        go_ret
        have e3 : add B f = B ++ [f] := by unfold add; rw [if_neg HI.out]
        have e4 : idx f (B ++ [f]) = (B.length : Int) + 1 := by
          unfold idx
          rw [if_pos (by simp), List.idxOf_append, if_neg HI.out]
          simp
        rw [e3, e4, List.length_append, flat_snoc]
        exact ⟨_, _, rfl, (hg6.block T (Array.getElem?_eq_some_iff.1 hT5.out).1 (fun e => hTM (by injection e))).trans hT5.out, ownsRow_grown hv5.out hg6 (fun e => by omega), hM6, kd_put (World.ownsMap.isMap hM) hDH.out hfH.out HI.out, hO5.out.grown hg6 (fun k hk => Or.inr (Or.inl (by injection hk with hk; exact hk.symm)))⟩
    · refine step_of_wp rfl (wp_buildSlice 80 85 1 _ rfl (bC f) i0 (.agg (bC Pr.zeros)) Try.underlying80 hi hz0 (by rw [hz1]; decide) (by rw [hz1]; decide) (fill_blk hz1 hlen.out) ?_)
      refine hK.out _ _ hr2.out (fun hHeld => ?_)
      clear hK
      simp only [Act.put, List.setIfInBounds_toArray, List.set_cons_zero, List.set_cons_succ]
      refine wpAnyH_ready (rs := [4]) (by kernel_rfl) (by simp) ?_
      refine AllReadyH.cons rfl (fun K hK => ?_) AllReadyH.nil
      rw [if_pos (by rfl)]
      go_simp
      refine hK.out _ _ hr2.out (fun hHeld => ?_)
      clear hK
      refine wpAnyH_ready (rs := [7]) (by kernel_rfl) (by simp) ?_
      refine AllReadyH.cons rfl (fun K hK => ?_) AllReadyH.nil
      refine step_of_wp rfl (wp_append_own _ _ _ 80 rfl base 85 i0 (.agg (bC Pr.zeros)) 256 256 Try.underlying80 hi hz0 hz1 hz2 rfl (by decide) v B.length (flat B) rfl hv3.out _ 1 1 (f.map (Value.int .u8)) rfl (by rw [List.length_map, hlen.out]) (fun j u hj => ?_) hOH.out (by unfold maxLen; omega) (by omega) (by simp; omega) ?_)
      · first | exact news_row (heap_alloc_new _ _) j u hj | exact news_row q3.out j u hj
      · intro v' w2 hown2 hg2 _
        refine hK.out _ _ (range_row ((hg2.block w.heap.size (by simp; omega) (fun e => by have := hvl w.heap.size e.symm; omega)).trans hq2.out)) (fun hHeld => ?_)
        clear hK
        obtain ⟨g', cap', rfl, hgb, hgl, hgc, _⟩ := row_form hown2 (by omega)
        have hT2 : Hid (w2.heap[T]? = some (.cells (tC R v) 82 (0, 0))) := (hg2.block T (by simp; omega) (fun e => by have := hvl T e.symm; omega)).trans hT3.out
        have hc3 : w2.cell? ⟨T, 4352, none⟩ = some v := (cell_of_row _ _ 4352 _ _ _ hT2.out).trans (tC_last _ _ hRH.out)
        have hf3 : w2.frozen? ⟨T, 4352, none⟩ = false := frozen_row _ _ _ _ _ hT2.out
        simp only [Act.put, List.setIfInBounds_toArray, List.set_cons_zero, List.set_cons_succ]
        refine wpAnyH_take (i := 8) (v := .pointer (some ⟨T, 0, none⟩)) rfl (by kernel_rfl) (by kernel_rfl) (by kernel_rfl) (fun _ _ _ h => h) (Or.inl ⟨by rfl, fun w hSw => by go_simp⟩) (by assumption) ?_
        simp only [Act.put, List.setIfInBounds_toArray, List.set_cons_zero, List.set_cons_succ]
        refine wpAnyH_take (i := 9) (v := .pointer (some ⟨T, 4352, none⟩)) rfl (by kernel_rfl) (by kernel_rfl) (by kernel_rfl) (fun _ _ _ h => h) (Or.inl ⟨by rfl, fun w hSw => by go_simp⟩) (by assumption) ?_
        simp only [Act.put, List.setIfInBounds_toArray, List.set_cons_zero, List.set_cons_succ]
        refine wpAnyH_ready (rs := [10]) (by kernel_rfl) (by simp) ?_
        refine AllReadyH.cons rfl (fun K hK => ?_) AllReadyH.nil
        rw [if_pos (by rfl)]
        go_simp
        have hT5 : Hid ((w2.setCell ⟨T, 4352, none⟩ (.slice (some ⟨g', 0, none⟩) (B.length + 1) cap')).heap[T]? = some (.cells (tC R (.slice (some ⟨g', 0, none⟩) (B.length + 1) cap')) 82 (0, 0))) := by
          rw [← tC_setLast R v _ hRH.out]
          exact heap_setCell_row _ _ _ _ _ _ _ hT2.out
        have hq5 : Hid ((w2.setCell ⟨T, 4352, none⟩ (.slice (some ⟨g', 0, none⟩) (B.length + 1) cap')).heap[w.heap.size]? = some (.cells (bC f) 85 (0, 0))) := (Below.heap_setCell _ _ _ _ (by show w.heap.size ≠ T; omega)).trans ((hg2.block w.heap.size (by simp; omega) (fun e => by have := hvl w.heap.size e.symm; omega)).trans hq2.out)
        have hM5 : Hid ((w2.setCell ⟨T, 4352, none⟩ (.slice (some ⟨g', 0, none⟩) (B.length + 1) cap')).ownsMap Try.prog 85 (plainElem Try.prog 78) M B.length D) := ((World.ownsMap.alloc (hM.alloc _).drew _).kept hg2 (fun e => by have := hvl M e.symm; omega)).setCell (by show M ≠ T; omega) _
        have hv5 : Hid ((w2.setCell ⟨T, 4352, none⟩ (.slice (some ⟨g', 0, none⟩) (B.length + 1) cap')).ownsRow base 85 256 (.slice (some ⟨g', 0, none⟩) (B.length + 1) cap') (B.length + 1) (flat B ++ f.map (Value.int .u8))) := ownsRow_setCell_below hown2 (by show T < base; omega) _
        have hO5 : Hid (Only (fun g => g = T ∨ g = M ∨ v.ownBlock = some g) w (w2.setCell ⟨T, 4352, none⟩ (.slice (some ⟨g', 0, none⟩) (B.length + 1) cap'))) := ((((Only.refl (fun g => g = T ∨ g = M ∨ v.ownBlock = some g) w).alloc _).drew.alloc _).grown hg2 (fun k hk => Or.inr (Or.inr hk))).setCell (p := ⟨T, 4352, none⟩) (Or.inl rfl) _
        have hs5 : (w2.setCell ⟨T, 4352, none⟩ (.slice (some ⟨g', 0, none⟩) (B.length + 1) cap')).heap.size = w2.heap.size := by simp [World.setCell]
        have hc5 : (w2.setCell ⟨T, 4352, none⟩ (.slice (some ⟨g', 0, none⟩) (B.length + 1) cap')).cell? ⟨T, 4352, none⟩ = some (.slice (some ⟨g', 0, none⟩) (B.length + 1) cap') := (cell_of_row _ _ 4352 _ _ _ hT5.out).trans (tC_last _ _ hRH.out)
        refine hK.out _ _ (range_row hq5.out) (fun hHeld => ?_)
        clear hK
        refine wpAnyH_done (by kernel_rfl) ?_ _
        clear hHeld hown2 hg2 hu58 hi58 hc1 hc2 hc3 hf3 hvl hs5
        go_wp2_with (first | refine wpList_load_row rfl 85 _ rfl w.heap.size rfl 85 _ (0, 0) _ hq5.out Try.underlying85 rfl (sz58 hlen.out) ?_ | (at_mapUpdate; refine wpList_mapUpdate_own _ rfl _ _ _ 83 rfl 85 78 law58 Try.underlying83 _ M B.length D rfl hM5.out (by unfold maxLen; omega) _ _ _ rfl rfl (kc_key hfH.out) _ [] (plainElem_int Try.underlying78 (wf_u16 (by omega) (by omega))) ?_; intro w6 hM6 hg6))
        go_ret
        have e3 : add B f = B ++ [f] := by unfold add; rw [if_neg HI.out]
        have e4 : idx f (B ++ [f]) = (B.length : Int) + 1 := by
          unfold idx
          rw [if_pos (by simp), List.idxOf_append, if_neg HI.out]
          simp
        rw [e3, e4, List.length_append, flat_snoc]
        exact ⟨_, _, rfl, (hg6.block T (Array.getElem?_eq_some_iff.1 hT5.out).1 (fun e => hTM (by injection e))).trans hT5.out, ownsRow_grown hv5.out hg6 (fun e => by omega), hM6, kd_put (World.ownsMap.isMap hM) hDH.out hfH.out HI.out, hO5.out.grown hg6 (fun k hk => Or.inr (Or.inl (by injection hk with hk; exact hk.symm)))⟩
end Go.Proofs.Ytlcpfheocenjfaa
