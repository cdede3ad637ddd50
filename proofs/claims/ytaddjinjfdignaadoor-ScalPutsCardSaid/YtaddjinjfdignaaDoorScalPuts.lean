/-
  stanzalaw01.ScalPuts returns true at every int32, which reads afterwards as it read before; unicode/utf8's two tables are as the program's text lays them (the card ties them).
-/
import Derived.Test.YtaddjinjfdignaaDoorCards
import Derived.Test.YtaddjinjfdignaaDoorTie
import Derived.Test.YtaddjinjfdignaaDoorView
import Derived.Test.YtaddjinjfdignaaDoorPut
import Derived.Deep.RegionWith
namespace Go.Proofs.YtaddjinjfdignaaDoor.scalPuts
open Go.ChangeShapes Go.WideShapes Go.ChangeAt Go.RowKit
set_option linter.unusedVariables false

theorem after_ref {w2 w3 : World} {L g2 c2 base : Nat} {X : Nat → Nat} {v3 : Value} (ho : w3.ownsRow base 5 1 v3 L (byCells L X)) (hb : Below w2.drew.heap.size w2.drew w3) (hg : g2 < w2.heap.size)
    (hc : ∀ j, j < L → w2.cell? ⟨g2, j, none⟩ = some (.int .u8 (X j : Nat))) :
    ∃ a3 c3, v3 = .slice a3 L c3 ∧ (convert 22 9 (.slice a3 L c3)).run Tryd.prog w3 = .ok (.string (strOf L X)) w3 ∧ (convert 22 9 (.slice (some ⟨g2, 0, none⟩) L c2)).run Tryd.prog w3 = .ok (.string (strOf L X)) w3 ∧
      Hid (Below w2.heap.size w2 w3) := by
  obtain ⟨a3, g3, c3, rfl, hc3, ha3, hg3, hgb3, hcc3⟩ := row_view ho
  have hb' : Below w2.heap.size w2 w3 := ⟨hb.os, hb.tape, hb.output, hb.size, hb.block⟩
  refine ⟨a3, c3, rfl, ?_, ?_, hb'⟩
  · exact conv_bytes w3 a3 L c3 g3 0 X ha3 (fun j hj => by rw [Nat.zero_add]; exact (hcc3 j (by omega)).trans (byCells_at _ _ j hj))
  · exact conv_bytes w3 _ L c2 g2 0 X (fun _ => rfl) (fun j hj => by rw [Nat.zero_add]; exact (hb'.cell (p := ⟨g2, j, none⟩) hg).trans (hc j hj))

set_option maxRecDepth 100000 in
set_option maxHeartbeats 4000000 in
theorem walk (r : Int) (w : World) (h0 : -2147483648 ≤ r) (h1 : r ≤ 2147483647) (hz : 2 ≤ w.heap.size) (hT : Lib.Utf8Tabs 0 1 w) :
    Calls Tryd.prog 6 #[.int .i32 r] w fun e w' => e = .returned (.bool true) ∧ Below w.heap.size w w' := by
  have hTH : Hid (Lib.Utf8Tabs 0 1 w) := hT
  clear hT
  go_enter Tryd.func6, Tryd.ntmps6
  go_wp2_with (go_at_call 9; refine (awake_any _ hz hTH.out).mono ?_; rintro e w1 ⟨rfl, hb1⟩)
  have hs1 := hb1.size
  refine (put_any r w1 h0 h1).mono ?_
  rintro e w2 ⟨v2, rfl, ho2, hb2⟩
  have hs2 := hb2.size
  obtain ⟨a2, g2, c2, rfl, hc2, ha2, hg2, hgb2, hcc2⟩ := row_view ho2
  have hB2 : Hid (Below w.heap.size w w2) := hb1.trans (hb2.mono hs1)
  have hlen := pb_len (nrm r)
  have hR := nrm_right r
  have hRH : Hid (Right (nrm r)) := hR
  have hall : Hid (Sg.all (pb (nrm r)).length (nth (pb (nrm r))) = [(nrm r, 0, (pb (nrm r)).length)]) := put_all _ hR
  have hlt : Hid (∀ j, nth (pb (nrm r)) j < 256) := pb_lt' _ hR
  have hcc2' : ∀ j, j < (pb (nrm r)).length → w2.cell? ⟨g2, j, none⟩ = some (.int .u8 (nth (pb (nrm r)) j : Nat)) := fun j hj => (hcc2 j (by omega)).trans (byCells_at _ _ j hj)
  clear ho2 hb1 hb2 hcc2 hR
  generalize hL : (pb (nrm r)).length = L at *
  generalize hX : nth (pb (nrm r)) = X at *
  have hLH : Hid ((pb (nrm r)).length = L) := hL
  have hXH : Hid (nth (pb (nrm r)) = X) := hX
  clear hL hX
  have hcH : Hid (∀ j, j < L → w2.cell? ⟨g2, j, none⟩ = some (.int .u8 (X j : Nat))) := hcc2'
  have haH : Hid (0 < L → a2 = some ⟨g2, 0, none⟩) := ha2
  have hgH : Hid (0 < L → g2 < w2.heap.size) := hg2
  obtain rfl := haH.out (by omega)
  have hg2' := hgH.out (by omega)
  clear hcc2' ha2 hg2
  have k1 : ∀ q, (convert 22 9 (.slice (some ⟨g2, 0, none⟩) L c2)).run Tryd.prog (w2.drewN q) = .ok (.string (strOf L X)) (w2.drewN q) := fun q => conv_bytes (w2.drewN q) _ L c2 g2 0 X (fun _ => rfl) (fun j hj => by rw [Nat.zero_add]; exact hcH.out j hj)
  have k1a : (convert 22 9 (.slice (some ⟨g2, 0, none⟩) L c2)).run Tryd.prog w2.drew = .ok (.string (strOf L X)) w2.drew := k1 1
  clear k1
  go_wp2_with fail
  go_region_with (go_at_call 17; refine (refPut_any r _).mono ?_; rintro e w3 ⟨v3, rfl, ho3, hb3⟩; rw [hLH.out, hXH.out] at ho3; obtain ⟨a3, c3, rfl, k3, k4, HB3⟩ := after_ref (c2 := c2) ho3 hb3 hg2' hcH.out; clear ho3 hb3)
  all_goals
    clear k1a k3 k4
    go_wp2_with fail
    have hB3 : Hid (Below w.heap.size w w3) := hB2.out.trans (HB3.out.mono (by omega))
    have hs3 := HB3.out.size
    refine (all_any L X (some ⟨g2, 0, none⟩) g2 0 c2 w3 hc2 (by omega) (fun _ => rfl) (fun _ => Nat.lt_of_lt_of_le hg2' hs3) (by omega) hlt.out (tabs_below hTH.out hz hB3.out) (fun j hj => by rw [Nat.zero_add]; exact (HB3.out.cell (p := ⟨g2, j, none⟩) hg2').trans (hcH.out j hj))).mono ?_
    rintro e w4 ⟨v4, rfl, ho4, hb4⟩
    rw [hall.out] at ho4
    obtain ⟨g4, c4, hv4, hg4, hg4', hp4, hcc4⟩ := row_form ho4 (by simp)
    have hp4' : 1 ≤ c4 := hp4
    have d0 : w4.cell? ⟨g4, 0, none⟩ = some (.int .i32 (nrm r : Nat)) := hcc4 0 (by simp)
    have d2 : w4.cell? ⟨g4, 2, none⟩ = some (.int .i64 (L : Nat)) := hcc4 2 (by simp)
    have hB4 : Hid (Below w.heap.size w w4) := hB3.out.trans (hb4.mono (by omega))
    clear ho4 hcc4 hb4 hp4
    rw [hv4]
    clear hv4
    by_cases hv : (0 ≤ r ∧ r < 55296) ∨ (57343 < r ∧ r ≤ 1114111)
    · have e0 : ((nrm r : Nat) : Int) = r := by unfold nrm; rw [if_pos hv]; omega
      rw [e0] at d0
      clear e0
      rcases hv with hv | hv
      all_goals
        go_wp2
        go_ret
        exact ⟨rfl, hB4.out⟩
    · have e0 : ((nrm r : Nat) : Int) = 65533 := by unfold nrm; rw [if_neg hv]; rfl
      rw [e0] at d0
      have hb : r < 0 ∨ 1114111 < r ∨ (55296 ≤ r ∧ r ≤ 57343) := by omega
      clear e0 hv
      rcases hb with hb | hb | ⟨hb, hb'⟩
      all_goals
        go_wp2
        go_ret
        exact ⟨rfl, hB4.out⟩
theorem contract (H : Type) (enc : TypeId × Value → H) (W : World) (base : Nat) (args : Array Value) (ds gs : List (DataW H)) (before : List MemPlace)
    (hval : ∀ (j : Nat) t v, Tryd.f6.params[j]? = some t → args[j]? = some v → Value.okWide Tryd.prog W .any base t v)
    (hW : DataW.Whole enc Tryd.prog Tryd.f6.params.toList Rows.scalPutsSpec.vars false W args.toList ds gs before) (hL : laidMetH Tryd.prog Rows.scalPutsRow.laid W) :
    Calls Tryd.prog 6 args W fun e W' => ∃ v, e = .returned v ∧ Rows.scalPutsSpec.post enc Tryd.prog Tryd.f6 false true false false W args v W' := by
  have hW' := hW
  obtain ⟨p, q, hA0, hV, rfl, hfz, hnd⟩ := hW
  have hA : DataW.TrodAll enc Tryd.prog W 0 (fun _ => true) true Tryd.f6.params.toList args.toList ds p := hA0
  rw [Tryd.params6] at hA hval
  obtain ⟨v0, vs0, d0, ds0, p0, q0, hargs, rfl, rfl, h0, r0⟩ := trodAll_cons hA
  obtain ⟨rfl, rfl, rfl⟩ := trodAll_nil r0
  obtain rfl : args = #[v0] := by cases args; simp_all
  obtain ⟨rfl, rfl⟩ := trodVars_none hV
  obtain ⟨a0, rfl, rfl, rfl, w0⟩ := open_int Tryd.underlying21 (hval 0 21 v0 rfl rfl) h0
  clear hA0
  obtain ⟨hT, hz⟩ := tabs_of hL
  refine (walk a0 W (bounds_i32 w0).1 (bounds_i32 w0).2 hz hT).mono fun e W' ⟨he, bel⟩ => ?_
  subst he
  exact ⟨_, rfl, _, _, _, [], _, [], hW', trodAll_mk1 (shut_bool Tryd.underlying4 _), (trodAll_cons_mk (shut_int Tryd.underlying21 w0) trodAll_mk0), rfl, bel.frame _, fun h => by cases h⟩

theorem reads (os : Os) {H : Type} (enc : TypeId × Value → H) : ∃ places, DataW.whole enc Tryd.prog ((laidWorld Tryd.prog os).forCall (fun _ _ => 0) ⟨#[], #[.int .i32 0], []⟩).memory Tryd.f6.params.toList Rows.scalPutsSpec.vars false (#[.int .i32 0] : Array Value).toList 8 = some ([.lit (.int .i32 0)], [], places) :=
  ⟨[], by kernel_rfl⟩

set_option maxRecDepth 100000 in
theorem lifted (os : Os) (started : os.Started) (H : Type) (enc : TypeId × Value → H) (F : Stop.Interp) :
    ReturnsInHanded {} Tryd.checked os 6 .any ((OpenSpec.ofChange Rows.scalPutsSpec).preRow enc Tryd.prog Tryd.f6 Rows.scalPutsRow.domain false Rows.scalPutsRow.laid) (((OpenSpec.ofChange Rows.scalPutsSpec).at F).post enc Tryd.prog Tryd.f6 false true false false) := by
  obtain ⟨places, hx⟩ := reads os enc
  refine returnsInHanded_of_row (C := Tryd.checked) (s := OpenSpec.ofChange Rows.scalPutsSpec) own started (by kernel_rfl) Tryd.func6
    (witness_row_at (enc := enc) (C := Tryd.checked) false (laidWorld Tryd.prog os) #[.int .i32 0] rfl (by kernel_rfl) (by kernel_rfl) (by kernel_rfl)
      (OpenSpec.preRow_of_cond 8 hx (by kernel_rfl) (fun k hk => by cases hk) (by kernel_rfl) (laid_met os _))) ?_
  intro W base args ds gs before hval hW _ _ _ hL _ _
  exact contract H enc W base args ds gs before hval hW hL

theorem said : Rows.ScalPutsSaid :=
  OpenClaim.holds_of_cond 6 Tryd.f6 rfl rfl rfl rfl rfl rfl rfl ⟨rfl, rfl, rfl, rfl, rfl⟩ rfl rfl rfl rfl rfl (by kernel_rfl) Tryd.func6 (by kernel_rfl)
    (of_decide_eq_true (by kernel_rfl)) (by unfold Func.isWrapper; first | (rw [if_pos (by decide +kernel)]; kernel_rfl) | (rw [if_neg (by decide +kernel)]; exact ⟨rfl, rfl⟩))
    (fun os started H enc _ F => by rw [OpenClaim.pre_eq_preRow]; exact lifted os started H enc F)

theorem plain (f : FuncId) (fn : Func) (hf : Tryd.pinned.checked.prog.funcNamed "stanza/stanzalaw01.ScalPuts" = some f) (hfn : Tryd.pinned.checked.prog.funcs[f]? = some fn) :
    false = Tryd.pinned.checked.prog.looks [] ∧ ∀ (j : Nat) t, fn.params[j]? = some t → Tryd.pinned.checked.prog.wantsStandIn t = false := by
  obtain rfl : f = 6 := Option.some.inj ((show Tryd.prog.funcNamed "stanza/stanzalaw01.ScalPuts" = some 6 by kernel_rfl).symm.trans hf) |>.symm
  obtain rfl : fn = Tryd.f6 := (Option.some.inj (Tryd.func6.symm.trans hfn)).symm
  refine ⟨by kernel_rfl, fun j t ht => ?_⟩
  rw [Tryd.params6] at ht
  have hm : t ∈ [21] := by simpa using Array.mem_of_getElem? ht
  have hall : ([21].all fun u => !Tryd.prog.wantsStandIn u) = true := by kernel_rfl
  exact (show Tryd.prog.wantsStandIn t = false by simpa using List.all_eq_true.1 hall t hm)

/-- THE CARD. -/
theorem card : Rows.ScalPutsCardSaid :=
  Claim7.holds_tied_plain_at .later [] _ _ _ _ said (fun _ h => by cases h) (by kernel_rfl) (fun _ h => by cases h) scalPuts_row_tie rfl ⟨rfl, rfl⟩ (by kernel_rfl) rfl plain (by kernel_rfl)
end Go.Proofs.YtaddjinjfdignaaDoor.scalPuts
namespace Go.Proofs.YtaddjinjfdignaaDoor
/-- THE STATEMENT. -/
theorem scalPutsCard_holds : Rows.ScalPutsCardSaid := scalPuts.card
#print axioms scalPutsCard_holds
end Go.Proofs.YtaddjinjfdignaaDoor
