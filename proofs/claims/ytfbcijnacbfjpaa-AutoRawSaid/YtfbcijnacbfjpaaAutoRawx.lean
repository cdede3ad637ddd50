/-
  stanzalaw04.AutoRaw returns true at every list of expressions and any number of classes; no condition.
-/
import Derived.Test.YtfbcijnacbfjpaaRows
import Derived.Test.YtfbcijnacbfjpaaLix
import Derived.ChangeMaps5
import Derived.ChangeOld
import Derived.OpenShut
import Derived.ProofKit
namespace Go.Proofs.Ytfbcijnacbfjpaa.autoRaw
open Go.ChangeShapes Go.WideShapes Go.ChangeAt Go.RowKit Go.Maps
open Rl (Ex)
set_option linter.unusedVariables false
set_option linter.unusedSimpArgs false
theorem own : ownKnob Try.prog.godebug = none := by kernel_rfl
set_option maxRecDepth 100000 in
set_option maxHeartbeats 4000000 in
theorem walk0 (a : Option Addr) (len cap : Nat) (es : List Ex) (cl : Int) (w : World) (hE : Exw w a len cap es) :
    Calls Try.prog 4 #[.slice a len cap, .int .i64 cl] w fun e w' => e = .returned (.bool true) ∧ Only (fun _ => False) w w' := by
  obtain ⟨rfl, hN, hlc, hcm, hE⟩ := hE
  have HL : Hid (Lex w (fun b => b < w.heap.size) es a cap) := ⟨Nat.le_trans hlc hcm, hE⟩
  have HN : Hid (Nns es) := hN
  clear hN hlc hcm hE
  by_cases hA : (Au.lta es 0 && decide (es.length ≤ 100)) = true
  · have h1 : Au.lta es 0 = true := by
      cases h : Au.lta es 0
      · rw [h] at hA; cases hA
      · rfl
    have HT : Hid (Au.cnts es ≤ 1000000000000000) := by
      rcases Au.lta_fine es 0 h1 with h | h
      · show _ ≤ _; omega
      · subst h; show Au.cnts [] ≤ _; simp only [Au.cnts]; omega
    have HD : Hid (∀ e ∈ es, Au.dp e ≤ 1000000) := fun e he => Nat.le_trans (Au.lta_dp es 0 h1 e he) (by omega)
    have HA : Hid ((Au.lta es 0 && decide (es.length ≤ 100)) = true) := hA
    clear hA h1
    go_enter Try.func4, Try.ntmps4
    go_wp2_with (first
      | (go_at_call 9; refine (awake_any _).mono ?_; rintro e w1 ⟨rfl, ho1⟩; have HO1 : Hid (Only (fun _ => False) w w1) := ho1; have HL1 : Hid (Lex w1 (fun b => b < w1.heap.size) es a cap) := HL.out.keep ho1 (fun b hb => Nat.lt_of_lt_of_le hb ho1.size); clear ho1)
      | (go_at_call 14; have hq := all_laws _ es a cap w1 HL1.out; rw [HA.out] at hq; refine hq.mono ?_; clear hq; rintro e w2 ⟨rfl, ho2⟩; have HO2 : Hid (Only (fun _ => False) w w2) := HO1.out.trans ho2; have HC : Hid _ := mk_both es a cap cl w2 (HL1.out.keep ho2 (fun b hb => Nat.lt_of_lt_of_le hb ho2.size)) HN.out HT.out HD.out; clear ho2)
      | (go_at_call 11; refine Calls.mono HC.out ?_; rintro e w3 ⟨aN, nN, cN, aO, nO, cO, k, rfl, ho3, h3⟩; have HO3 : Hid (Only (fun _ => False) w w3) := HO2.out.trans ho3; have HC3 : Hid _ := h3 _ rfl; clear ho3 h3)
      | (go_at_call 12; refine Calls.mono HC3.out ?_; rintro e w4 ⟨aM, nM, cM, aP, nP, cP, rfl, ho4, h4⟩; have HO4 : Hid (Only (fun _ => False) w w4) := (HO3.out.alloc _).trans ho4; have hb4 := (ho4.block w3.heap.size (by simp) (fun h => h)).trans (heap_alloc_new w3 (.cells #[.slice aN nN cN, .slice aO nO cO] 33)); have z0 : w4.cell? ⟨w3.heap.size, 0, none⟩ = some (.slice aN nN cN) := cell_blk hb4; have z1 : w4.cell? ⟨w3.heap.size, 1, none⟩ = some (.slice aO nO cO) := cell_blk hb4; have hl4 : w3.heap.size < w4.heap.size := (Array.getElem?_eq_some_iff.1 hb4).1; have HC4 : Hid _ := h4 _ rfl; clear ho4 h4 hb4)
      | (go_at_call 13; refine Calls.mono HC4.out ?_; rintro e w5 ⟨rfl, ho5⟩; have HO5 : Hid (Only (fun _ => False) w w5) := (HO4.out.alloc _).trans ho5; clear ho5))
    go_ret
    exact ⟨rfl, HO5.out⟩
  · have HA : Hid ((Au.lta es 0 && decide (es.length ≤ 100)) = false) := by
      cases h : (Au.lta es 0 && decide (es.length ≤ 100))
      · exact rfl
      · exact (hA h).elim
    clear hA
    go_enter Try.func4, Try.ntmps4
    go_wp2_with (first
      | (go_at_call 9; refine (awake_any _).mono ?_; rintro e w1 ⟨rfl, ho1⟩; have HO1 : Hid (Only (fun _ => False) w w1) := ho1; have HL1 : Hid (Lex w1 (fun b => b < w1.heap.size) es a cap) := HL.out.keep ho1 (fun b hb => Nat.lt_of_lt_of_le hb ho1.size); clear ho1)
      | (go_at_call 14; have hq := all_laws _ es a cap w1 HL1.out; rw [HA.out] at hq; refine hq.mono ?_; clear hq; rintro e w2 ⟨rfl, ho2⟩; have HO2 : Hid (Only (fun _ => False) w w2) := HO1.out.trans ho2; clear ho2))
    go_ret
    exact ⟨rfl, HO2.out⟩
theorem walk (a : Option Addr) (len cap : Nat) (es : List Ex) (cl : Int) (w : World) (hE : Exw w a len cap es) :
    Calls Try.prog 4 #[.slice a len cap, .int .i64 cl] w fun e w' => e = .returned (.bool true) ∧ Below w.heap.size w w' := by
  refine (walk0 a len cap es cl w hE).mono ?_
  rintro e w' ⟨rfl, ho⟩
  exact ⟨rfl, ho.below (Nat.le_refl _) (fun _ h => h.elim)⟩
set_option maxRecDepth 100000 in
theorem contract (H : Type) (enc : TypeId × Value → H) (W : World) (base : Nat) (args : Array Value) (ds gs : List (DataW H)) (before : List MemPlace)
    (hval : ∀ (j : Nat) t v, Try.f4.params[j]? = some t → args[j]? = some v → Value.okWide Try.prog W .any base t v)
    (hW : DataW.Whole enc Try.prog Try.f4.params.toList Rows.autoRawSpec.vars false W args.toList ds gs before) :
    Calls Try.prog 4 args W fun e W' => ∃ v, e = .returned v ∧ Rows.autoRawSpec.post enc Try.prog Try.f4 false true false false W args v W' := by
  have hW' := hW
  obtain ⟨p, q, hA0, hV, rfl, hfz, hnd⟩ := hW
  have hA : DataW.TrodAll enc Try.prog W 0 (fun _ => true) true Try.f4.params.toList args.toList ds p := hA0
  rw [Try.params4] at hA hval
  obtain ⟨v0, vs0, d0, ds0, p0, q0, hargs, rfl, rfl, h0, r0⟩ := trodAll_cons hA
  obtain ⟨v1, vs1, d1, ds1, p1, q1, rfl, rfl, rfl, h1, r1⟩ := trodAll_cons r0
  obtain ⟨rfl, rfl, rfl⟩ := trodAll_nil r1
  obtain rfl : args = #[v0, v1] := by cases args; simp_all
  obtain ⟨rfl, rfl⟩ := trodVars_none hV
  have k0 := h0
  have lt0 : ∀ x ∈ p0, x.block < W.heap.size := by obtain ⟨m, hm⟩ := k0; exact DataW.trod_lt m _ _ _ hm
  obtain ⟨aC, nC, cC, C, rfl, hC⟩ := exs_view (hval 0 27 v0 rfl rfl) h0
  obtain ⟨a1, rfl, rfl, rfl, w1⟩ := open_int Try.underlying3 (hval 1 3 v1 rfl rfl) h1
  clear hA0
  refine (walk aC nC cC C a1 W hC).mono fun e W' ⟨he, bel⟩ => ?_
  subst he
  exact ⟨_, rfl, _, _, _, [], _, [], hW', trodAll_mk1 (shut_bool Try.underlying4 _), (trodAll_cons_mk (Below.trod laidOut (by kernel_rfl) (of_decide_eq_true (by kernel_rfl)) k0 bel lt0) (trodAll_cons_mk (shut_int Try.underlying3 w1) trodAll_mk0)), rfl, bel.frame _, fun h => by cases h⟩

set_option maxRecDepth 100000 in
theorem lifted (os : Os) (started : os.Started) (H : Type) (enc : TypeId × Value → H) :
    ReturnsInHanded {} Try.checked os 4 .any (Rows.autoRawSpec.pre6 enc Try.prog Try.f4 Rows.autoRawRow.domain false) (Rows.autoRawSpec.post enc Try.prog Try.f4 false true false false) := by
  refine returnsInHanded_of_change (C := Try.checked) own started (by kernel_rfl) Try.func4
    (ChangeSpec.witness6 (enc := enc) (C := Try.checked) false ⟨#[], #[.slice none 0 0, .int .i64 0], []⟩ 8 (by kernel_rfl) (by kernel_rfl) (by kernel_rfl) (by kernel_rfl)) ?_
  intro W base args ds gs before hval hW _ _
  exact contract H enc W base args ds gs before hval hW

theorem over : Rows.autoRawRow.holds Try.pinned (OpenSpec.ofChange Rows.autoRawSpec) :=
  OpenClaim.holds_of_wide 4 Try.f4 rfl rfl rfl rfl rfl rfl rfl ⟨rfl, rfl, rfl, rfl, rfl⟩ rfl rfl rfl rfl rfl (by kernel_rfl) Try.func4 (by kernel_rfl)
    (of_decide_eq_true (by kernel_rfl)) (by unfold Func.isWrapper; first | (rw [if_pos (by decide +kernel)]; kernel_rfl) | (rw [if_neg (by decide +kernel)]; exact ⟨rfl, rfl⟩))
    (fun os started H enc _ => lifted os started H enc)
end Go.Proofs.Ytfbcijnacbfjpaa.autoRaw
namespace Go.Proofs.Ytfbcijnacbfjpaa
/-- THE STATEMENT. -/
theorem autoRaw_holds : Rows.AutoRawSaid := autoRaw.over
#print axioms autoRaw_holds
end Go.Proofs.Ytfbcijnacbfjpaa
