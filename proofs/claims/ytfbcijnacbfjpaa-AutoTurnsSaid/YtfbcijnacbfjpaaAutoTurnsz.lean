/-
  stanzalaw04.AutoTurns returns true at every plan and all classes; no condition.
-/
import Derived.Test.YtfbcijnacbfjpaaRows
import Derived.Test.YtfbcijnacbfjpaaTn10z
import Derived.Test.YtfbcijnacbfjpaaVwz
import Derived.ChangeMaps5
import Derived.ChangeOld
import Derived.OpenShut
import Derived.ProofKit
namespace Go.Proofs.Ytfbcijnacbfjpaa.autoTurns
open Go.ChangeShapes Go.WideShapes Go.ChangeAt Go.RowKit Go.Maps
set_option linter.unusedVariables false
set_option linter.unusedSimpArgs false
theorem own : ownKnob Try.prog.godebug = none := by kernel_rfl
set_option maxRecDepth 100000 in
theorem ints_view2 {H : Type} {enc : TypeId × Value → H} {W : World} {v : Value} {d : DataW H} {p : List MemPlace} {b0 : Nat} (hv : Value.okWide Try.prog W .any b0 43 v)
    (h : DataW.Trod enc Try.prog W 0 (fun _ => true) true 43 v d p) : ∃ (a : Option Addr) (len cap : Nat) (L : List Int), v = .slice a len cap ∧ Iw W a len L ∧ len ≤ cap ∧ cap ≤ maxLen := by
  obtain ⟨a, len, cap, rfl⟩ := okWide_slice Try.underlying43 hv
  obtain ⟨fuel, hf⟩ := h
  obtain ⟨a', len', cap', L, e, hI, hl, hm, hz⟩ := ints_cells hf
  have e2 : [Value.slice a len cap] = [Value.slice a' len' cap'] := e
  injection e2 with e2
  rw [e2]
  exact ⟨a', len', cap', L, rfl, hI, hl, hm⟩
theorem walk (c jo af : Nat) (aT : Option Addr) (nT cT : Nat) (T : List Nat) (aR : Option Addr) (nR cR : Nat) (rs : List Pr) (aC : Option Addr) (L cC : Nat) (C : List Int) (w : World) (hc : c ≤ 255) (hjo : jo ≤ 255) (haf : af ≤ 255) (hT : Bw w aT nT T) (hR : Rw w aR nR rs) (hC : Iw w aC L C) (hLm : L ≤ maxLen) :
    Calls Try.prog 6 #[planV c jo af aT nT cT aR nR cR, .slice aC L cC] w fun e w' => e = .returned (.bool true) ∧ Below w.heap.size w w' := by
  refine (turns_all c jo af aT nT cT T aR nR cR rs aC L cC C w hc hjo haf hT hR hC hLm).mono ?_
  rintro e w' ⟨rfl, ho⟩
  exact ⟨rfl, ho.below (Nat.le_refl _) (fun _ h => h.elim)⟩
set_option maxRecDepth 100000 in
theorem contract (H : Type) (enc : TypeId × Value → H) (W : World) (base : Nat) (args : Array Value) (ds gs : List (DataW H)) (before : List MemPlace)
    (hval : ∀ (j : Nat) t v, Try.f6.params[j]? = some t → args[j]? = some v → Value.okWide Try.prog W .any base t v)
    (hW : DataW.Whole enc Try.prog Try.f6.params.toList Rows.autoTurnsSpec.vars false W args.toList ds gs before) :
    Calls Try.prog 6 args W fun e W' => ∃ v, e = .returned v ∧ Rows.autoTurnsSpec.post enc Try.prog Try.f6 false true false false W args v W' := by
  have hW' := hW
  obtain ⟨p, q, hA0, hV, rfl, hfz, hnd⟩ := hW
  have hA : DataW.TrodAll enc Try.prog W 0 (fun _ => true) true Try.f6.params.toList args.toList ds p := hA0
  rw [Try.params6] at hA hval
  obtain ⟨v0, vs0, d0, ds0, p0, q0, hargs, rfl, rfl, h0, r0⟩ := trodAll_cons hA
  obtain ⟨v1, vs1, d1, ds1, p1, q1, rfl, rfl, rfl, h1, r1⟩ := trodAll_cons r0
  obtain ⟨rfl, rfl, rfl⟩ := trodAll_nil r1
  obtain rfl : args = #[v0, v1] := by cases args; simp_all
  obtain ⟨rfl, rfl⟩ := trodVars_none hV
  have k0 := h0
  have lt0 : ∀ x ∈ p0, x.block < W.heap.size := by obtain ⟨m, hm⟩ := k0; exact DataW.trod_lt m _ _ _ hm
  obtain ⟨c0, jo0, af0, aT0, nT0, cT0, T0, aR0, nR0, cR0, rs0, rfl, hc0, hjo0, haf0, hT0, hTc0, hTm0, hR0, hRc0, hRm0⟩ := plan_view (hval 0 25 v0 rfl rfl) h0
  have k1 := h1
  have lt1 : ∀ x ∈ p1, x.block < W.heap.size := by obtain ⟨m, hm⟩ := k1; exact DataW.trod_lt m _ _ _ hm
  obtain ⟨aC, nC, cC, C, rfl, hC, hLc, hcm⟩ := ints_view2 (hval 1 43 v1 rfl rfl) h1
  clear hA0
  refine (walk c0 jo0 af0 aT0 nT0 cT0 T0 aR0 nR0 cR0 rs0 aC nC cC C W hc0 hjo0 haf0 hT0 hR0 hC (Nat.le_trans hLc hcm)).mono fun e W' ⟨he, bel⟩ => ?_
  subst he
  exact ⟨_, rfl, _, _, _, [], _, [], hW', trodAll_mk1 (shut_bool Try.underlying4 _), (trodAll_cons_mk (Below.trod laidOut (by kernel_rfl) (of_decide_eq_true (by kernel_rfl)) k0 bel lt0) (trodAll_cons_mk (Below.trod laidOut (by kernel_rfl) (of_decide_eq_true (by kernel_rfl)) k1 bel lt1) trodAll_mk0)), rfl, bel.frame _, fun h => by cases h⟩

set_option maxRecDepth 100000 in
theorem lifted (os : Os) (started : os.Started) (H : Type) (enc : TypeId × Value → H) :
    ReturnsInHanded {} Try.checked os 6 .any (Rows.autoTurnsSpec.pre6 enc Try.prog Try.f6 Rows.autoTurnsRow.domain false) (Rows.autoTurnsSpec.post enc Try.prog Try.f6 false true false false) := by
  refine returnsInHanded_of_change (C := Try.checked) own started (by kernel_rfl) Try.func6
    (ChangeSpec.witness6 (enc := enc) (C := Try.checked) false ⟨#[], #[.agg #[.int .u8 0, .int .u8 0, .int .u8 0, .slice none 0 0, .slice none 0 0], .slice none 0 0], []⟩ 8 (by kernel_rfl) (by kernel_rfl) (by kernel_rfl) (by kernel_rfl)) ?_
  intro W base args ds gs before hval hW _ _
  exact contract H enc W base args ds gs before hval hW

theorem over : Rows.autoTurnsRow.holds Try.pinned (OpenSpec.ofChange Rows.autoTurnsSpec) :=
  OpenClaim.holds_of_wide 6 Try.f6 rfl rfl rfl rfl rfl rfl rfl ⟨rfl, rfl, rfl, rfl, rfl⟩ rfl rfl rfl rfl rfl (by kernel_rfl) Try.func6 (by kernel_rfl)
    (of_decide_eq_true (by kernel_rfl)) (by unfold Func.isWrapper; first | (rw [if_pos (by decide +kernel)]; kernel_rfl) | (rw [if_neg (by decide +kernel)]; exact ⟨rfl, rfl⟩))
    (fun os started H enc _ => lifted os started H enc)
end Go.Proofs.Ytfbcijnacbfjpaa.autoTurns
namespace Go.Proofs.Ytfbcijnacbfjpaa
/-- THE STATEMENT. -/
theorem autoTurns_holds : Rows.AutoTurnsSaid := autoTurns.over
#print axioms autoTurns_holds
end Go.Proofs.Ytfbcijnacbfjpaa
