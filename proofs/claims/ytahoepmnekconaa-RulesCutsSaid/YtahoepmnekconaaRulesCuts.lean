/-
  stanzalaw03.RulesCuts returns true at every plan and every number; no condition.
-/
import Derived.Test.YtahoepmnekconaaRows
import Derived.Test.YtahoepmnekconaaV1x
import Derived.ChangeMaps5
import Derived.ChangeOld
import Derived.OpenShut
import Derived.ProofKit
import Derived.ShutString
namespace Go.Proofs.Ytahoepmnekconaa.rulesCuts
open Go.ChangeShapes Go.WideShapes Go.ChangeAt Go.RowKit
open Go.ChangeMaps (open_string shut_string)
set_option linter.unusedVariables false
set_option linter.unusedSimpArgs false
theorem u64_ge (x : Int) : 0 ≤ IntKind.u64.wrap x := by
  show 0 ≤ x % _
  exact Int.emod_nonneg _ (by decide)
theorem cut_at (x : Int) (n : Nat) : ∃ k : Nat, (IntKind.u64.wrap x).tmod ((n : Int) + 1) = (k : Int) ∧ k ≤ n := by
  have h := u64_ge x
  rw [Int.tmod_eq_emod_of_nonneg h]
  have h1 := Int.emod_nonneg (IntKind.u64.wrap x) (by omega : ((n : Int) + 1) ≠ 0)
  have h2 := Int.emod_lt_of_pos (IntKind.u64.wrap x) (by omega : (0 : Int) < (n : Int) + 1)
  exact ⟨((IntKind.u64.wrap x) % ((n : Int) + 1)).toNat, by omega, by omega⟩
theorem own : ownKnob Try.prog.godebug = none := by kernel_rfl
set_option maxRecDepth 100000 in
set_option maxHeartbeats 4000000 in
theorem walk (c jo af : Nat) (aT : Option Addr) (nT cT : Nat) (T : List Nat) (aR : Option Addr) (nR cR : Nat) (rs : List Pr) (cut : Int) (w : World) (hc : c ≤ 255) (hjo : jo ≤ 255) (haf : af ≤ 255) (hT : Bw w aT nT T) (hR : Rw w aR nR rs) (hcut : (Lit.int .i64 cut).wf = true) :
    Calls Try.prog 5 #[planV c jo af aT nT cT aR nR cR, .int .i64 cut] w fun e w' => e = .returned (.bool true) ∧ Below w.heap.size w w' := by
  have HT : Hid (Bw w aT nT T) := hT
  have HR : Hid (Rw w aR nR rs) := hR
  clear hT hR
  unfold planV
  go_enter Try.func5, Try.ntmps5
  go_wp2_with (first | (go_at_call 9; refine (awake_any _).mono ?_; rintro e w1 ⟨rfl, ho1⟩; have P1 : Hid (Pbx w1 w.heap.size c jo af aT nT cT aR nR cR) := Pbx.keep (heap_alloc_new w _) ho1; have k0 := P1.out.c0; have k1 := P1.out.c1; have k2 := P1.out.c2; have k3 := P1.out.c3; have k4 := P1.out.c4; have HO1 : Hid (Only (fun _ => False) w w1) := ((Only.refl (fun _ => False) w).alloc _).trans ho1) | (go_at_call 11; have hcc := text_some c jo af aT nT cT T aR nR cR rs w1 hc hjo haf (HT.out.keep HO1.out) (HR.out.keep HO1.out); unfold planV at hcc; refine hcc.mono ?_; clear hcc; rintro e w2 ⟨S, rfl, hS7, hS9, ho2⟩; obtain ⟨k, hk, hkS⟩ := cut_at cut S.size) | (go_at_call 10; refine (told_any _ _).mono ?_; rintro e w3 ⟨rfl, ho3⟩))
  go_ret
  exact ⟨rfl, (HO1.out.trans (ho2.trans ho3)).below (Nat.le_refl _) (fun _ h => h.elim)⟩
set_option maxRecDepth 100000 in
theorem contract (H : Type) (enc : TypeId × Value → H) (W : World) (base : Nat) (args : Array Value) (ds gs : List (DataW H)) (before : List MemPlace)
    (hval : ∀ (j : Nat) t v, Try.f5.params[j]? = some t → args[j]? = some v → Value.okWide Try.prog W .any base t v)
    (hW : DataW.Whole enc Try.prog Try.f5.params.toList Rows.rulesCutsSpec.vars false W args.toList ds gs before) :
    Calls Try.prog 5 args W fun e W' => ∃ v, e = .returned v ∧ Rows.rulesCutsSpec.post enc Try.prog Try.f5 false true false false W args v W' := by
  have hW' := hW
  obtain ⟨p, q, hA0, hV, rfl, hfz, hnd⟩ := hW
  have hA : DataW.TrodAll enc Try.prog W 0 (fun _ => true) true Try.f5.params.toList args.toList ds p := hA0
  rw [Try.params5] at hA hval
  obtain ⟨v0, vs0, d0, ds0, p0, q0, hargs, rfl, rfl, h0, r0⟩ := trodAll_cons hA
  obtain ⟨v1, vs1, d1, ds1, p1, q1, rfl, rfl, rfl, h1, r1⟩ := trodAll_cons r0
  obtain ⟨rfl, rfl, rfl⟩ := trodAll_nil r1
  obtain rfl : args = #[v0, v1] := by cases args; simp_all
  obtain ⟨rfl, rfl⟩ := trodVars_none hV
  have k0 := h0
  have lt0 : ∀ x ∈ p0, x.block < W.heap.size := by obtain ⟨m, hm⟩ := k0; exact DataW.trod_lt m _ _ _ hm
  obtain ⟨c0, jo0, af0, aT0, nT0, cT0, T0, aR0, nR0, cR0, rs0, rfl, hc0, hjo0, haf0, hT0, hTc0, hTm0, hR0, hRc0, hRm0⟩ := plan_view (hval 0 27 v0 rfl rfl) h0
  obtain ⟨a1, rfl, rfl, rfl, w1⟩ := open_int Try.underlying3 (hval 1 3 v1 rfl rfl) h1
  clear hA0
  refine (walk c0 jo0 af0 aT0 nT0 cT0 T0 aR0 nR0 cR0 rs0 a1 W hc0 hjo0 haf0 hT0 hR0 w1).mono fun e W' ⟨he, bel⟩ => ?_
  subst he
  exact ⟨_, rfl, _, _, _, [], _, [], hW', trodAll_mk1 (shut_bool Try.underlying4 _), (trodAll_cons_mk (Below.trod laidOut (by kernel_rfl) (of_decide_eq_true (by kernel_rfl)) k0 bel lt0) (trodAll_cons_mk (shut_int Try.underlying3 w1) trodAll_mk0)), rfl, bel.frame _, fun h => by cases h⟩

set_option maxRecDepth 100000 in
theorem lifted (os : Os) (started : os.Started) (H : Type) (enc : TypeId × Value → H) :
    ReturnsInHanded {} Try.checked os 5 .any (Rows.rulesCutsSpec.pre6 enc Try.prog Try.f5 Rows.rulesCutsRow.domain false) (Rows.rulesCutsSpec.post enc Try.prog Try.f5 false true false false) := by
  refine returnsInHanded_of_change (C := Try.checked) own started (by kernel_rfl) Try.func5
    (ChangeSpec.witness6 (enc := enc) (C := Try.checked) false ⟨#[], #[.agg #[.int .u8 0, .int .u8 0, .int .u8 0, .slice none 0 0, .slice none 0 0], .int .i64 0], []⟩ 8 (by kernel_rfl) (by kernel_rfl) (by kernel_rfl) (by kernel_rfl)) ?_
  intro W base args ds gs before hval hW _ _
  exact contract H enc W base args ds gs before hval hW

theorem over : Rows.rulesCutsRow.holds Try.pinned (OpenSpec.ofChange Rows.rulesCutsSpec) :=
  OpenClaim.holds_of_wide 5 Try.f5 rfl rfl rfl rfl rfl rfl rfl ⟨rfl, rfl, rfl, rfl, rfl⟩ rfl rfl rfl rfl rfl (by kernel_rfl) Try.func5 (by kernel_rfl)
    (of_decide_eq_true (by kernel_rfl)) (by unfold Func.isWrapper; first | (rw [if_pos (by decide +kernel)]; kernel_rfl) | (rw [if_neg (by decide +kernel)]; exact ⟨rfl, rfl⟩))
    (fun os started H enc _ => lifted os started H enc)
end Go.Proofs.Ytahoepmnekconaa.rulesCuts
namespace Go.Proofs.Ytahoepmnekconaa
/-- THE STATEMENT. -/
theorem rulesCuts_holds : Rows.RulesCutsSaid := rulesCuts.over
#print axioms rulesCuts_holds
end Go.Proofs.Ytahoepmnekconaa
