/-
  pats.add: a word comes behind those of its kind.
-/
import Derived.Test.YtjgbfpemkjpikaaDoorL10
import Derived.Deep.RegionLaw
import Derived.Deep.RegionWith
namespace Go.Proofs.YtjgbfpemkjpikaaDoor
open Go.RowKit Go.Maps
set_option linter.unusedVariables false
set_option linter.unusedSimpArgs false
theorem info37 : (Tryd.prog.info? 37).map (fun i => (i.zero, i.size, i.bytes)) = some (some (.agg #[.slice none 0 0, .slice none 0 0]), 2, 48) := by kernel_rfl
/-- what becomes of a word. -/
def addR (R : List Nat) (P Q : List Pt.Pat) : Nat × List Pt.Pat × List Pt.Pat :=
  if P.length + Q.length = 256 then (24, P, Q)
  else if 45 ∈ R then
    match Pt.told R with
    | none => (30, P, Q)
    | some p => if Q.any (tq p.letters) = true then (23, P, Q) else (0, P, Q ++ [p])
  else
    match Pt.patt R with
    | none => (30, P, Q)
    | some p => (0, P ++ [p], Q)
def adP (W : World) (o B : Nat) (r : Nat × List Pt.Pat × List Pt.Pat) (e : Ending) (w' : World) : Prop := ∃ xs ys vL vW, e = .returned (.int .i64 (r.1 : Int)) ∧ Ou w' o B xs ys vL vW ∧ xs.map (·.p) = r.2.1 ∧ ys.map (·.p) = r.2.2 ∧ Only (fun b => b = o ∨ B ≤ b) W w'
theorem Only.any {w w' : World} (h : Only (fun _ => False) w w') (S : Nat → Prop) : Only S w w' := h.mono (fun _ h => h.elim)
theorem Hid_in {p : Prop} (h : p) : Hid p := h
set_option maxRecDepth 100000 in
set_option maxHeartbeats 4000000 in
theorem add_any (S : List (Nat × Nat × Nat)) (a : Option Addr) (n c o B : Nat) (xs ys : List Qd) (vL vW : Value) (W : World) (hS : Sw W a n S) (hn : n ≤ 10000) (hO : Ou W o B xs ys vL vW) (hl : xs.length + ys.length ≤ 256) :
    Calls Tryd.prog 16 #[.pointer (some ⟨o, 0, none⟩), .slice a n c] W (adP W o B (addR (rs S) (xs.map (·.p)) (ys.map (·.p)))) := by
  obtain ⟨PR, hPR⟩ : ∃ PR, PR = addR (rs S) (xs.map (·.p)) (ys.map (·.p)) := ⟨_, rfl⟩
  rw [← hPR]
  unfold addR at hPR
  rw [List.length_map, List.length_map] at hPR
  obtain ⟨i7, h7, h70, h71, h72⟩ := info_parts info37
  obtain ⟨aL, cL, rfl⟩ := own_form hO.rL
  obtain ⟨aW, cW, rfl⟩ := own_form hO.rW
  have HO : Hid (Ou W o B xs ys (.slice aL xs.length cL) (.slice aW ys.length cW)) := hO
  obtain ⟨nl, hnl⟩ : ∃ nl, nl = xs.length := ⟨_, rfl⟩
  obtain ⟨nw, hnw⟩ : ∃ nw, nw = ys.length := ⟨_, rfl⟩
  have HNL : Hid (nl = xs.length) := hnl
  have HNW : Hid (nw = ys.length) := hnw
  have HS : Hid (Sw W a n S) := hS
  rw [← hnl, ← hnw] at HO hPR hl
  clear hO hS hnl hnw
  have c0 : W.cell? ⟨o, 0, none⟩ = some (.slice aL nl cL) := HO.out.c0
  have c1 : W.cell? ⟨o, 1, none⟩ = some (.slice aW nw cW) := HO.out.c1
  have hoW : o < W.heap.size := HO.out.lt
  by_cases hfull : nl + nw = 256
  · rw [if_pos hfull] at hPR
    subst hPR
    have t1 : (nl : Int) + (nw : Int) = 256 := by omega
    have t2 : IntKind.i64.wrap ((nl : Int) + (nw : Int)) = 256 := by rw [t1]; rfl
    go_enter Tryd.func16, Tryd.ntmps16
    go_wp2_with fail
    go_quiet (fail)
    go_wp2_with fail
    go_ret
    exact ⟨xs, ys, _, _, rfl, HO.out.keep (by first | exact (Only.refl _ _).drew | exact (Only.refl _ _).drewN _ | exact Only.refl _ _), rfl, rfl, by first | exact (Only.refl _ _).drew | exact (Only.refl _ _).drewN _ | exact Only.refl _ _⟩
  rw [if_neg hfull] at hPR
  have t1 : ¬ (nl : Int) + (nw : Int) = 256 := by omega
  have t1' : ((nl : Int) + (nw : Int) == 256) = false := beq_eq_false_iff_ne.2 t1
  have t2 : IntKind.i64.wrap ((nl : Int) + (nw : Int)) = (nl : Int) + (nw : Int) := by rw [IntKind.wrap_i64]; omega
  have W0 : ∃ W0 : World, W0 = W.drew := ⟨_, rfl⟩
  obtain ⟨bb, hbb⟩ : ∃ bb, bb = decide (45 ∈ rs S) := ⟨_, rfl⟩
  have HHAS : Hid (∀ X, Only (fun _ => False) W X → Calls Tryd.prog 23 #[.slice a n c, .int .i32 ((45 : Nat) : Int)] X fun e w' => e = .returned (.bool bb) ∧ Only (fun _ => False) X w') := fun X hX => by
    rw [hbb]
    exact has_any S a n c 45 X (HS.out.keep hX) hn
  cases bb with
  | false =>
    have hno : ¬ 45 ∈ rs S := of_decide_eq_false hbb.symm
    rw [if_neg hno] at hPR
    have HRD0 : Hid (∀ X, Only (fun _ => False) W X → Calls Tryd.prog 24 #[.slice a n c] X (rdP X (Pt.patt (rs S)))) := fun X hX => pattern_any S a n c X (HS.out.keep hX) hn
    clear hbb hno
    cases hpt : Pt.patt (rs S) with
    | none =>
      rw [hpt] at hPR
      subst hPR
      have HRD : Hid (∀ X, Only (fun _ => False) W X → Calls Tryd.prog 24 #[.slice a n c] X (rdP X none)) := by rw [← hpt]; exact HRD0
      clear hpt HRD0
      go_enter Tryd.func16, Tryd.ntmps16
      go_wp2_with fail
      go_quiet (fail)
      go_wp2_with (first
        | (go_at_call 23; refine Calls.mono (HHAS.out _ (by first | exact (Only.refl _ _).drew | exact (Only.refl _ _).drewN _ | exact Only.refl _ _)) ?_; rintro e w1 ⟨rfl, ho1⟩; have HO1 : Hid (Only (fun _ => False) W w1) := (by first | exact ((Only.refl _ _).drew).trans ho1 | exact ((Only.refl _ _).drewN _).trans ho1 | exact ho1); clear ho1)
        | (go_at_call 24; refine Calls.mono (HRD.out _ HO1.out) ?_; rintro e w2 ⟨rfl, ho2⟩; have HO2 : Hid (Only (fun _ => False) W w2) := HO1.out.trans ho2; clear ho2))
      go_ret
      exact ⟨xs, ys, _, _, rfl, HO.out.keep (HO2.out.alloc _), rfl, rfl, (HO2.out.alloc _).any _⟩
    | some p =>
      rw [hpt] at hPR
      subst hPR
      have HRD : Hid (∀ X, Only (fun _ => False) W X → Calls Tryd.prog 24 #[.slice a n c] X (rdP X (some p))) := by rw [← hpt]; exact HRD0
      clear hpt HRD0
      go_enter Tryd.func16, Tryd.ntmps16
      go_wp2_with fail
      go_quiet (fail)
      go_wp2_with (first
        | (go_at_call 23; refine Calls.mono (HHAS.out _ (by first | exact (Only.refl _ _).drew | exact (Only.refl _ _).drewN _ | exact Only.refl _ _)) ?_; rintro e w1 ⟨rfl, ho1⟩; have HO1 : Hid (Only (fun _ => False) W w1) := (by first | exact ((Only.refl _ _).drew).trans ho1 | exact ((Only.refl _ _).drewN _).trans ho1 | exact ho1); clear ho1)
        | (go_at_call 24; refine Calls.mono (HRD.out _ HO1.out) ?_; rintro e w2 ⟨gL, cL2, gV, cV2, rfl, hNL, hBV, h24, h25, ho2, hgl, hgv, hp0, hpv⟩; have HO2 : Hid (Only (fun _ => False) W w2) := HO1.out.trans ho2; have HQ : Hid (Qok w2 ⟨p, gL, cL2, gV, cV2⟩) := ⟨hNL, hBV, h24, h25, hp0, hpv⟩; have HG : Hid (W.heap.size ≤ gL ∧ W.heap.size ≤ gV) := ⟨Nat.le_trans HO1.out.size hgl, Nat.le_trans HO1.out.size hgv⟩; have HU2 : Hid (Ou w2 o B xs ys (.slice aL nl cL) (.slice aW nw cW)) := HO.out.keep HO2.out; have d0 : w2.cell? ⟨o, 0, none⟩ = some (.slice aL nl cL) := HU2.out.c0; have d1 : w2.cell? ⟨o, 1, none⟩ = some (.slice aW nw cW) := HU2.out.c1; have hoW2 : o < w2.heap.size := HU2.out.lt; clear hNL hBV h24 h25 ho2 hgl hgv hp0 hpv))
      go_region_law (refine step_append_lies _ (by rfl) _ _ _ (by rfl) B 37 i7 _ 2 48 Tryd.underlying26 h7 h70 h71 h72 rfl (by decide) (.slice aL nl cL) nl (qcs xs) (by rfl) (by have hk := (HO.out.keep (((HO2.out.alloc (.cells #[.slice (some ⟨gL, 0, none⟩) p.letters.length cL2, .slice (some ⟨gV, 0, none⟩) p.values.length cV2] 37)).alloc (.cells #[.slice (some ⟨gL, 0, none⟩) p.letters.length cL2, .slice (some ⟨gV, 0, none⟩) p.values.length cV2] 37)).drew)).rL; rw [← HNL.out] at hk; exact hk) ⟨w2.heap.size + 1, 0, none⟩ 1 1 (Qd.cells ⟨p, gL, cL2, gV, cV2⟩) (by rfl) rfl (World.news_of_block (cs := #[.slice (some ⟨gL, 0, none⟩) p.letters.length cL2, .slice (some ⟨gV, 0, none⟩) p.values.length cV2]) (heap_alloc2_new w2 (.cells #[.slice (some ⟨gL, 0, none⟩) p.letters.length cL2, .slice (some ⟨gV, 0, none⟩) p.values.length cV2] 37) (.cells #[.slice (some ⟨gL, 0, none⟩) p.letters.length cL2, .slice (some ⟨gV, 0, none⟩) p.values.length cV2] 37))) (fun u hu => by simp [Qd.cells] at hu; rcases hu with rfl | rfl <;> rfl) (by decide) (by unfold maxLen; omega) (by omega) (by have := HO.out.bs; have := HO2.out.size; simp; omega) (w2.heap.size + 1 + 1) (by simp) ?_; intro gq cq w5 hown5 hgrow5 hat5 hlt5; rw [HNL.out] at hown5; have hA := Ou.addL (q := ⟨p, gL, cL2, gV, cV2⟩) HO.out (((HO2.out.alloc (.cells #[.slice (some ⟨gL, 0, none⟩) p.letters.length cL2, .slice (some ⟨gV, 0, none⟩) p.values.length cV2] 37)).alloc (.cells #[.slice (some ⟨gL, 0, none⟩) p.letters.length cL2, .slice (some ⟨gV, 0, none⟩) p.values.length cV2] 37)).drew) (HQ.out.keep ((((Only.refl _ _).alloc (.cells #[.slice (some ⟨gL, 0, none⟩) p.letters.length cL2, .slice (some ⟨gV, 0, none⟩) p.values.length cV2] 37)).alloc (.cells #[.slice (some ⟨gL, 0, none⟩) p.letters.length cL2, .slice (some ⟨gV, 0, none⟩) p.values.length cV2] 37)).drew)) HG.out.1 HG.out.2 hown5 hgrow5 (by rcases hat5 with h | h; exact Or.inl h; right; rw [h]; simp); rw [← HNL.out] at hA; obtain ⟨hA1, hA2⟩ := hA; have q0 : w5.cell? ⟨o, 0, none⟩ = some (.slice aL nl cL) := cell_blk hA1; have qf := fz_blk hA1 0; have HA5 := (Hid_in hA2); clear hA1 hA2 hown5 hgrow5 hat5)
      all_goals
        go_wp2_with fail
        go_ret
        exact ⟨xs ++ [⟨p, gL, cL2, gV, cV2⟩], ys, _, _, rfl, HA5.out.1, by simp, rfl, HA5.out.2⟩
  | true =>
    have hno : 45 ∈ rs S := of_decide_eq_true hbb.symm
    rw [if_pos hno] at hPR
    have HRD0 : Hid (∀ X, Only (fun _ => False) W X → Calls Tryd.prog 25 #[.slice a n c] X (rdP X (Pt.told (rs S)))) := fun X hX => told_any S a n c X (HS.out.keep hX) hn
    clear hbb hno
    cases hpt : Pt.told (rs S) with
    | none =>
      rw [hpt] at hPR
      subst hPR
      have HRD : Hid (∀ X, Only (fun _ => False) W X → Calls Tryd.prog 25 #[.slice a n c] X (rdP X none)) := by rw [← hpt]; exact HRD0
      clear hpt HRD0
      go_enter Tryd.func16, Tryd.ntmps16
      go_wp2_with fail
      go_quiet (fail)
      go_wp2_with (first
        | (go_at_call 23; refine Calls.mono (HHAS.out _ (by first | exact (Only.refl _ _).drew | exact (Only.refl _ _).drewN _ | exact Only.refl _ _)) ?_; rintro e w1 ⟨rfl, ho1⟩; have HO1 : Hid (Only (fun _ => False) W w1) := (by first | exact ((Only.refl _ _).drew).trans ho1 | exact ((Only.refl _ _).drewN _).trans ho1 | exact ho1); clear ho1)
        | (go_at_call 25; refine Calls.mono (HRD.out _ HO1.out) ?_; rintro e w2 ⟨rfl, ho2⟩; have HO2 : Hid (Only (fun _ => False) W w2) := HO1.out.trans ho2; clear ho2))
      go_ret
      exact ⟨xs, ys, _, _, rfl, HO.out.keep (HO2.out.alloc _), rfl, rfl, (HO2.out.alloc _).any _⟩
    | some p =>
      rw [hpt] at hPR
      have HRD : Hid (∀ X, Only (fun _ => False) W X → Calls Tryd.prog 25 #[.slice a n c] X (rdP X (some p))) := by rw [← hpt]; exact HRD0
      clear hpt HRD0
      cases hany : (ys.map (·.p)).any (tq p.letters) with
      | true =>
        have HANY : Hid ((ys.map (·.p)).any (tq p.letters) = true) := hany
        simp only [hany, if_true] at hPR
        subst hPR
        clear hany
        go_enter Tryd.func16, Tryd.ntmps16
        go_wp2_with fail
        go_quiet (fail)
        go_wp2_with (first
          | (go_at_call 23; refine Calls.mono (HHAS.out _ (by first | exact (Only.refl _ _).drew | exact (Only.refl _ _).drewN _ | exact Only.refl _ _)) ?_; rintro e w1 ⟨rfl, ho1⟩; have HO1 : Hid (Only (fun _ => False) W w1) := (by first | exact ((Only.refl _ _).drew).trans ho1 | exact ((Only.refl _ _).drewN _).trans ho1 | exact ho1); clear ho1)
          | (go_at_call 25; refine Calls.mono (HRD.out _ HO1.out) ?_; rintro e w2 ⟨gL, cL2, gV, cV2, rfl, hNL, hBV, h24, h25, ho2, hgl, hgv, hp0, hpv⟩; have HO2 : Hid (Only (fun _ => False) W w2) := HO1.out.trans ho2; have HQ : Hid (Qok w2 ⟨p, gL, cL2, gV, cV2⟩) := ⟨hNL, hBV, h24, h25, hp0, hpv⟩; have HG : Hid (W.heap.size ≤ gL ∧ W.heap.size ≤ gV) := ⟨Nat.le_trans HO1.out.size hgl, Nat.le_trans HO1.out.size hgv⟩; have HU2 : Hid (Ou w2 o B xs ys (.slice aL nl cL) (.slice aW nw cW)) := HO.out.keep HO2.out; have d0 : w2.cell? ⟨o, 0, none⟩ = some (.slice aL nl cL) := HU2.out.c0; have d1 : w2.cell? ⟨o, 1, none⟩ = some (.slice aW nw cW) := HU2.out.c1; have hoW2 : o < w2.heap.size := HU2.out.lt; clear hNL hBV h24 h25 ho2 hgl hgv hp0 hpv))
        go_region_with (go_at_call 26; refine Calls.mono (isTold_any (ys.map (·.p)) p.letters aW nw cW (some ⟨gL, 0, none⟩) p.letters.length cL2 _ ((HU2.out.keep (by first | exact ((Only.refl _ _).alloc _).drew | exact (Only.refl _ _).alloc _)).pw HNW.out) (by omega) (HQ.out.l.keep (by first | exact ((Only.refl _ _).alloc _).drew | exact (Only.refl _ _).alloc _)) (by have : p.letters.length ≤ 24 := HQ.out.l24; omega)) ?_; rintro e w3 ⟨rfl, ho3⟩; rw [HANY.out]; have HA3 : Hid (Only (fun _ => False) (w2.alloc (.cells #[.slice (some ⟨gL, 0, none⟩) p.letters.length cL2, .slice (some ⟨gV, 0, none⟩) p.values.length cV2] 37)) w3) := (by first | exact ho3 | exact ((Only.refl _ _).drew).trans ho3); have HO3 : Hid (Only (fun _ => False) W w3) := (HO2.out.alloc (.cells #[.slice (some ⟨gL, 0, none⟩) p.letters.length cL2, .slice (some ⟨gV, 0, none⟩) p.values.length cV2] 37)).trans HA3.out; have HQ3 : Hid (Qok w3 ⟨p, gL, cL2, gV, cV2⟩) := (HQ.out.keep ((Only.refl _ _).alloc (.cells #[.slice (some ⟨gL, 0, none⟩) p.letters.length cL2, .slice (some ⟨gV, 0, none⟩) p.values.length cV2] 37))).keep HA3.out; have b7 : w3.heap[w2.heap.size]? = some (.cells #[.slice (some ⟨gL, 0, none⟩) p.letters.length cL2, .slice (some ⟨gV, 0, none⟩) p.values.length cV2] 37) := (HA3.out.block _ (by simp) (fun h => h)).trans (heap_alloc_new w2 (.cells #[.slice (some ⟨gL, 0, none⟩) p.letters.length cL2, .slice (some ⟨gV, 0, none⟩) p.values.length cV2] 37)); have k0 : w3.cell? ⟨w2.heap.size, 0, none⟩ = some (.slice (some ⟨gL, 0, none⟩) p.letters.length cL2) := cell_blk b7; have k1 : w3.cell? ⟨w2.heap.size, 1, none⟩ = some (.slice (some ⟨gV, 0, none⟩) p.values.length cV2) := cell_blk b7; have hU3 := HO.out.keep HO3.out; have e0 : w3.cell? ⟨o, 0, none⟩ = some (.slice aL nl cL) := hU3.c0; have e1 : w3.cell? ⟨o, 1, none⟩ = some (.slice aW nw cW) := hU3.c1; have hoW3 : o < w3.heap.size := hU3.lt; have hz3 : w2.heap.size < w3.heap.size := (Array.getElem?_eq_some_iff.1 b7).1; clear b7 hU3 ho3)
        all_goals
          go_wp2_with fail
          go_ret
          exact ⟨xs, ys, _, _, rfl, HO.out.keep HO3.out, rfl, rfl, HO3.out.any _⟩
      | false =>
        have HANY : Hid ((ys.map (·.p)).any (tq p.letters) = false) := hany
        simp only [hany, Bool.false_eq_true, if_false] at hPR
        subst hPR
        clear hany
        go_enter Tryd.func16, Tryd.ntmps16
        go_wp2_with fail
        go_quiet (fail)
        go_wp2_with (first
          | (go_at_call 23; refine Calls.mono (HHAS.out _ (by first | exact (Only.refl _ _).drew | exact (Only.refl _ _).drewN _ | exact Only.refl _ _)) ?_; rintro e w1 ⟨rfl, ho1⟩; have HO1 : Hid (Only (fun _ => False) W w1) := (by first | exact ((Only.refl _ _).drew).trans ho1 | exact ((Only.refl _ _).drewN _).trans ho1 | exact ho1); clear ho1)
          | (go_at_call 25; refine Calls.mono (HRD.out _ HO1.out) ?_; rintro e w2 ⟨gL, cL2, gV, cV2, rfl, hNL, hBV, h24, h25, ho2, hgl, hgv, hp0, hpv⟩; have HO2 : Hid (Only (fun _ => False) W w2) := HO1.out.trans ho2; have HQ : Hid (Qok w2 ⟨p, gL, cL2, gV, cV2⟩) := ⟨hNL, hBV, h24, h25, hp0, hpv⟩; have HG : Hid (W.heap.size ≤ gL ∧ W.heap.size ≤ gV) := ⟨Nat.le_trans HO1.out.size hgl, Nat.le_trans HO1.out.size hgv⟩; have HU2 : Hid (Ou w2 o B xs ys (.slice aL nl cL) (.slice aW nw cW)) := HO.out.keep HO2.out; have d0 : w2.cell? ⟨o, 0, none⟩ = some (.slice aL nl cL) := HU2.out.c0; have d1 : w2.cell? ⟨o, 1, none⟩ = some (.slice aW nw cW) := HU2.out.c1; have hoW2 : o < w2.heap.size := HU2.out.lt; clear hNL hBV h24 h25 ho2 hgl hgv hp0 hpv))
        go_region_with (go_at_call 26; refine Calls.mono (isTold_any (ys.map (·.p)) p.letters aW nw cW (some ⟨gL, 0, none⟩) p.letters.length cL2 _ ((HU2.out.keep (by first | exact ((Only.refl _ _).alloc _).drew | exact (Only.refl _ _).alloc _)).pw HNW.out) (by omega) (HQ.out.l.keep (by first | exact ((Only.refl _ _).alloc _).drew | exact (Only.refl _ _).alloc _)) (by have : p.letters.length ≤ 24 := HQ.out.l24; omega)) ?_; rintro e w3 ⟨rfl, ho3⟩; rw [HANY.out]; have HA3 : Hid (Only (fun _ => False) (w2.alloc (.cells #[.slice (some ⟨gL, 0, none⟩) p.letters.length cL2, .slice (some ⟨gV, 0, none⟩) p.values.length cV2] 37)) w3) := (by first | exact ho3 | exact ((Only.refl _ _).drew).trans ho3); have HO3 : Hid (Only (fun _ => False) W w3) := (HO2.out.alloc (.cells #[.slice (some ⟨gL, 0, none⟩) p.letters.length cL2, .slice (some ⟨gV, 0, none⟩) p.values.length cV2] 37)).trans HA3.out; have HQ3 : Hid (Qok w3 ⟨p, gL, cL2, gV, cV2⟩) := (HQ.out.keep ((Only.refl _ _).alloc (.cells #[.slice (some ⟨gL, 0, none⟩) p.letters.length cL2, .slice (some ⟨gV, 0, none⟩) p.values.length cV2] 37))).keep HA3.out; have b7 : w3.heap[w2.heap.size]? = some (.cells #[.slice (some ⟨gL, 0, none⟩) p.letters.length cL2, .slice (some ⟨gV, 0, none⟩) p.values.length cV2] 37) := (HA3.out.block _ (by simp) (fun h => h)).trans (heap_alloc_new w2 (.cells #[.slice (some ⟨gL, 0, none⟩) p.letters.length cL2, .slice (some ⟨gV, 0, none⟩) p.values.length cV2] 37)); have k0 : w3.cell? ⟨w2.heap.size, 0, none⟩ = some (.slice (some ⟨gL, 0, none⟩) p.letters.length cL2) := cell_blk b7; have k1 : w3.cell? ⟨w2.heap.size, 1, none⟩ = some (.slice (some ⟨gV, 0, none⟩) p.values.length cV2) := cell_blk b7; have hU3 := HO.out.keep HO3.out; have e0 : w3.cell? ⟨o, 0, none⟩ = some (.slice aL nl cL) := hU3.c0; have e1 : w3.cell? ⟨o, 1, none⟩ = some (.slice aW nw cW) := hU3.c1; have hoW3 : o < w3.heap.size := hU3.lt; have hz3 : w2.heap.size < w3.heap.size := (Array.getElem?_eq_some_iff.1 b7).1; clear b7 hU3 ho3)
        all_goals
          go_wp2_with fail
          go_region_law (refine step_append_lies _ (by rfl) _ _ _ (by rfl) B 37 i7 _ 2 48 Tryd.underlying26 h7 h70 h71 h72 rfl (by decide) (.slice aW nw cW) nw (qcs ys) (by rfl) (by have hk := (HO.out.keep ((HO3.out.alloc (.cells #[.slice (some ⟨gL, 0, none⟩) p.letters.length cL2, .slice (some ⟨gV, 0, none⟩) p.values.length cV2] 37)).drew)).rW; rw [← HNW.out] at hk; exact hk) ⟨w3.heap.size, 0, none⟩ 1 1 (Qd.cells ⟨p, gL, cL2, gV, cV2⟩) (by rfl) rfl (World.news_of_block (cs := #[.slice (some ⟨gL, 0, none⟩) p.letters.length cL2, .slice (some ⟨gV, 0, none⟩) p.values.length cV2]) (heap_alloc_new w3 (.cells #[.slice (some ⟨gL, 0, none⟩) p.letters.length cL2, .slice (some ⟨gV, 0, none⟩) p.values.length cV2] 37))) (fun u hu => by simp [Qd.cells] at hu; rcases hu with rfl | rfl <;> rfl) (by decide) (by unfold maxLen; omega) (by omega) (by have := HO.out.bs; have := HO3.out.size; simp; omega) (w3.heap.size + 1) (by simp) ?_; intro gq cq w5 hown5 hgrow5 hat5 hlt5; rw [HNW.out] at hown5; have hA := Ou.addW (q := ⟨p, gL, cL2, gV, cV2⟩) HO.out ((HO3.out.alloc (.cells #[.slice (some ⟨gL, 0, none⟩) p.letters.length cL2, .slice (some ⟨gV, 0, none⟩) p.values.length cV2] 37)).drew) (HQ3.out.keep (((Only.refl _ _).alloc (.cells #[.slice (some ⟨gL, 0, none⟩) p.letters.length cL2, .slice (some ⟨gV, 0, none⟩) p.values.length cV2] 37)).drew)) HG.out.1 HG.out.2 hown5 hgrow5 (by rcases hat5 with h | h; exact Or.inl h; right; rw [h]; simp); rw [← HNW.out] at hA; obtain ⟨hA1, hA2⟩ := hA; have q0 : w5.cell? ⟨o, 1, none⟩ = some (.slice aW nw cW) := cell_blk hA1; have qf := fz_blk hA1 1; have HA5 := (Hid_in hA2); clear hA1 hA2 hown5 hgrow5 hat5)
          all_goals
            go_wp2_with fail
            go_ret
            exact ⟨xs, ys ++ [⟨p, gL, cL2, gV, cV2⟩], _, _, rfl, HA5.out.1, rfl, by simp, HA5.out.2⟩
end Go.Proofs.YtjgbfpemkjpikaaDoor
