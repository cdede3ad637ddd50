/-
  stanzalaw04.AutoMakes returns true at every plan; no condition.
-/
import Derived.Test.YtfbcijnacbfjpaaRows
import Derived.Test.YtfbcijnacbfjpaaSamx
import Derived.Test.YtfbcijnacbfjpaaEx1x
import Derived.ChangeMaps5
import Derived.ChangeOld
import Derived.OpenShut
import Derived.ProofKit
namespace Go.Proofs.Ytfbcijnacbfjpaa.autoMakes
open Go.ChangeShapes Go.WideShapes Go.ChangeAt Go.RowKit Go.Maps
set_option linter.unusedVariables false
set_option linter.unusedSimpArgs false
theorem own : ownKnob Try.prog.godebug = none := by kernel_rfl
set_option maxRecDepth 100000 in
set_option maxHeartbeats 4000000 in
theorem walk0 (c jo af : Nat) (aT : Option Addr) (nT cT : Nat) (T : List Nat) (aR : Option Addr) (nR cR : Nat) (rs : List Pr) (w : World) (hc : c ≤ 255) (hjo : jo ≤ 255) (haf : af ≤ 255) (hT : Bw w aT nT T) (hR : Rw w aR nR rs) :
    Calls Try.prog 3 #[planV c jo af aT nT cT aR nR cR] w fun e w' => e = .returned (.bool true) ∧ Only (fun _ => False) w w' := by
  have HT : Hid (Bw w aT nT T) := hT
  have HR : Hid (Rw w aR nR rs) := hR
  clear hT hR
  have B0 : Hid ((w.alloc (.cells #[.int .u8 (c : Int), .int .u8 (jo : Int), .int .u8 (af : Int), .slice aT nT cT, .slice aR nR cR] 25)).heap[w.heap.size]? = some (.cells #[.int .u8 (c : Int), .int .u8 (jo : Int), .int .u8 (af : Int), .slice aT nT cT, .slice aR nR cR] 25 (0, 0))) := heap_alloc_new _ _
  obtain ⟨n, hn⟩ : ∃ n, n = 1 + c % 6 := ⟨_, rfl⟩
  have HN : Hid (n = 1 + c % 6) := hn
  clear hn
  unfold planV
  go_enter Try.func3, Try.ntmps3
  go_wp2_with (first
    | (go_at_call 9; refine (awake_any _).mono ?_; rintro e w1 ⟨rfl, ho1⟩; have HO1 : Hid (Only (fun _ => False) w w1) := ((Only.refl _ _).alloc _).trans ho1; have hb := (ho1.block _ (Array.getElem?_eq_some_iff.1 B0.out).1 (fun h => h)).trans B0.out; have y0 : w1.cell? ⟨w.heap.size, 0, none⟩ = some (.int .u8 (c : Int)) := cell_blk hb; have y1 : w1.cell? ⟨w.heap.size, 1, none⟩ = some (.int .u8 (jo : Int)) := cell_blk hb; have y2 : w1.cell? ⟨w.heap.size, 2, none⟩ = some (.int .u8 (af : Int)) := cell_blk hb; have y3 : w1.cell? ⟨w.heap.size, 3, none⟩ = some (.slice aT nT cT) := cell_blk hb; have y4 : w1.cell? ⟨w.heap.size, 4, none⟩ = some (.slice aR nR cR) := cell_blk hb; have hl1 : w.heap.size < w1.heap.size := (Array.getElem?_eq_some_iff.1 hb).1; clear ho1 hb)
    | (go_at_call 10; have hq := exprs_any c jo af aT nT cT T aR nR cR rs w1 hc hjo haf (HT.out.keep HO1.out) (HR.out.keep HO1.out); unfold planV at hq; rw [← HN.out] at hq; refine hq.mono ?_; clear hq; rintro e w2 ⟨s, aE, cE, rfl, hLx, hFi, hcl, hll, ho2⟩; have HO2 : Hid (Only (fun _ => False) w w2) := HO1.out.trans ho2; have HC : Hid _ := mk_both (Rl.sides s.list) aE cE (n : Int) w2 hLx hFi.nn (by rw [hFi.cn]; have := hFi.pl; omega) (fun e he => Nat.le_trans (Au.dps_mem _ _ he) (by have := hFi.dp; omega)); clear ho2 hLx hFi hcl hll y0 y1 y2 y3 y4)
    | (go_at_call 11; refine Calls.mono HC.out ?_; rintro e w3 ⟨aN, nN, cN, aO, nO, cO, k, rfl, ho3, h3⟩; have HO3 : Hid (Only (fun _ => False) w w3) := HO2.out.trans ho3; have HC3 : Hid _ := h3 _ rfl; clear ho3 h3)
    | (go_at_call 12; refine Calls.mono HC3.out ?_; rintro e w4 ⟨aM, nM, cM, aP, nP, cP, rfl, ho4, h4⟩; have HO4 : Hid (Only (fun _ => False) w w4) := (HO3.out.alloc _).trans ho4; have hb4 := (ho4.block w3.heap.size (by simp) (fun h => h)).trans (heap_alloc_new w3 (.cells #[.slice aN nN cN, .slice aO nO cO] 33)); have z0 : w4.cell? ⟨w3.heap.size, 0, none⟩ = some (.slice aN nN cN) := cell_blk hb4; have z1 : w4.cell? ⟨w3.heap.size, 1, none⟩ = some (.slice aO nO cO) := cell_blk hb4; have hl4 : w3.heap.size < w4.heap.size := (Array.getElem?_eq_some_iff.1 hb4).1; have HC4 : Hid _ := h4 _ rfl; clear ho4 h4 hb4)
    | (go_at_call 13; refine Calls.mono HC4.out ?_; rintro e w5 ⟨rfl, ho5⟩; have HO5 : Hid (Only (fun _ => False) w w5) := (HO4.out.alloc _).trans ho5; clear ho5))
  go_ret
  exact ⟨rfl, HO5.out⟩
theorem walk (c jo af : Nat) (aT : Option Addr) (nT cT : Nat) (T : List Nat) (aR : Option Addr) (nR cR : Nat) (rs : List Pr) (w : World) (hc : c ≤ 255) (hjo : jo ≤ 255) (haf : af ≤ 255) (hT : Bw w aT nT T) (hR : Rw w aR nR rs) :
    Calls Try.prog 3 #[planV c jo af aT nT cT aR nR cR] w fun e w' => e = .returned (.bool true) ∧ Below w.heap.size w w' := by
  refine (walk0 c jo af aT nT cT T aR nR cR rs w hc hjo haf hT hR).mono ?_
  rintro e w' ⟨rfl, ho⟩
  exact ⟨rfl, ho.below (Nat.le_refl _) (fun _ h => h.elim)⟩
set_option maxRecDepth 100000 in
theorem contract (H : Type) (enc : TypeId × Value → H) (W : World) (base : Nat) (args : Array Value) (ds gs : List (DataW H)) (before : List MemPlace)
    (hval : ∀ (j : Nat) t v, Try.f3.params[j]? = some t → args[j]? = some v → Value.okWide Try.prog W .any base t v)
    (hW : DataW.Whole enc Try.prog Try.f3.params.toList Rows.autoMakesSpec.vars false W args.toList ds gs before) :
    Calls Try.prog 3 args W fun e W' => ∃ v, e = .returned v ∧ Rows.autoMakesSpec.post enc Try.prog Try.f3 false true false false W args v W' := by
  have hW' := hW
  obtain ⟨p, q, hA0, hV, rfl, hfz, hnd⟩ := hW
  have hA : DataW.TrodAll enc Try.prog W 0 (fun _ => true) true Try.f3.params.toList args.toList ds p := hA0
  rw [Try.params3] at hA hval
  obtain ⟨v0, vs0, d0, ds0, p0, q0, hargs, rfl, rfl, h0, r0⟩ := trodAll_cons hA
  obtain ⟨rfl, rfl, rfl⟩ := trodAll_nil r0
  obtain rfl : args = #[v0] := by cases args; simp_all
  obtain ⟨rfl, rfl⟩ := trodVars_none hV
  have k0 := h0
  have lt0 : ∀ x ∈ p0, x.block < W.heap.size := by obtain ⟨m, hm⟩ := k0; exact DataW.trod_lt m _ _ _ hm
  obtain ⟨c0, jo0, af0, aT0, nT0, cT0, T0, aR0, nR0, cR0, rs0, rfl, hc0, hjo0, haf0, hT0, hTc0, hTm0, hR0, hRc0, hRm0⟩ := plan_view (hval 0 25 v0 rfl rfl) h0
  clear hA0
  refine (walk c0 jo0 af0 aT0 nT0 cT0 T0 aR0 nR0 cR0 rs0 W hc0 hjo0 haf0 hT0 hR0).mono fun e W' ⟨he, bel⟩ => ?_
  subst he
  exact ⟨_, rfl, _, _, _, [], _, [], hW', trodAll_mk1 (shut_bool Try.underlying4 _), (trodAll_cons_mk (Below.trod laidOut (by kernel_rfl) (of_decide_eq_true (by kernel_rfl)) k0 bel lt0) trodAll_mk0), rfl, bel.frame _, fun h => by cases h⟩

set_option maxRecDepth 100000 in
theorem lifted (os : Os) (started : os.Started) (H : Type) (enc : TypeId × Value → H) :
    ReturnsInHanded {} Try.checked os 3 .any (Rows.autoMakesSpec.pre6 enc Try.prog Try.f3 Rows.autoMakesRow.domain false) (Rows.autoMakesSpec.post enc Try.prog Try.f3 false true false false) := by
  refine returnsInHanded_of_change (C := Try.checked) own started (by kernel_rfl) Try.func3
    (ChangeSpec.witness6 (enc := enc) (C := Try.checked) false ⟨#[], #[.agg #[.int .u8 0, .int .u8 0, .int .u8 0, .slice none 0 0, .slice none 0 0]], []⟩ 8 (by kernel_rfl) (by kernel_rfl) (by kernel_rfl) (by kernel_rfl)) ?_
  intro W base args ds gs before hval hW _ _
  exact contract H enc W base args ds gs before hval hW

theorem over : Rows.autoMakesRow.holds Try.pinned (OpenSpec.ofChange Rows.autoMakesSpec) :=
  OpenClaim.holds_of_wide 3 Try.f3 rfl rfl rfl rfl rfl rfl rfl ⟨rfl, rfl, rfl, rfl, rfl⟩ rfl rfl rfl rfl rfl (by kernel_rfl) Try.func3 (by kernel_rfl)
    (of_decide_eq_true (by kernel_rfl)) (by unfold Func.isWrapper; first | (rw [if_pos (by decide +kernel)]; kernel_rfl) | (rw [if_neg (by decide +kernel)]; exact ⟨rfl, rfl⟩))
    (fun os started H enc _ => lifted os started H enc)
end Go.Proofs.Ytfbcijnacbfjpaa.autoMakes
namespace Go.Proofs.Ytfbcijnacbfjpaa
/-- THE STATEMENT. -/
theorem autoMakes_holds : Rows.AutoMakesSaid := autoMakes.over
#print axioms autoMakes_holds
end Go.Proofs.Ytfbcijnacbfjpaa
