/-
  stanzalaw07.PatsJoins returns true at every two strings, which read afterwards as they read before; unicode/utf8's two tables are as the program's text lays them (the card ties them).
-/
import Derived.Test.YtjgbfpemkjpikaaDoorCards
import Derived.Test.YtjgbfpemkjpikaaDoorTie
import Derived.Test.YtjgbfpemkjpikaaDoorView
import Derived.Test.YtjgbfpemkjpikaaDoorJw2
import Derived.Test.YtjgbfpemkjpikaaDoorJw3
import Derived.ChangeMaps5
namespace Go.Proofs.YtjgbfpemkjpikaaDoor.patsJoins
open Go.ChangeShapes Go.WideShapes Go.ChangeAt Go.RowKit
open Go.ChangeMaps (open_string shut_string)
set_option linter.unusedVariables false
theorem walkO (s t : ByteArray) (hs : s.size ≤ 9223372036854775807) (ht : t.size ≤ 9223372036854775807) (w : World) (hz : 2 ≤ w.heap.size) (hT : Lib.Utf8Tabs 0 1 w) : Calls Tryd.prog 7 #[.string s, .string t] w fun e w' => e = .returned (.bool true) ∧ Only (fun _ => False) w w' := by
  obtain ⟨⟨rc, ra, P, Q⟩, hA⟩ : ∃ R, parseR s = R := ⟨_, rfl⟩
  obtain ⟨⟨sc, sa, P2, Q2⟩, hB⟩ : ∃ R, parseR t = R := ⟨_, rfl⟩
  have long : ∀ x : ByteArray, 4096 < x.size → parseR x = (24, 4096, [], []) := fun x hx => by unfold parseR; rw [if_pos hx]
  by_cases hbig : 9223372036854775807 < s.size + t.size
  · by_cases hrc : rc = 0
    · subst hrc
      refine joinB3 s t w hz hT hs ht hbig 0 ra _ _ P Q hA rfl rfl sc sa _ _ P2 Q2 hB rfl rfl (fun h0 => ?_)
      subst h0
      by_cases h4 : 4096 < s.size
      · rw [long s h4] at hA
        cases hA
      · rw [long t (by omega)] at hB
        cases hB
    · exact joinA3 s t w hz hT hs ht hbig rc ra _ _ P Q hA rfl rfl sc sa _ _ P2 Q2 hB rfl rfl hrc
  · by_cases h4 : 4096 ≤ s.size + t.size
    · exact joinBig s t w hz hT hs ht h4 (by omega)
    · by_cases hrc : rc = 0
      · subst hrc
        by_cases hsc : sc = 0
        · subst hsc
          obtain ⟨⟨tc, ta, P3, Q3⟩, hC⟩ : ∃ R, parseR (s ++ ⟨#[32]⟩ ++ t) = R := ⟨_, rfl⟩
          have hj := parse_join s t (by omega) (by rw [hA]) (by rw [hB])
          have e : s ++ sp1 ++ t = s ++ ⟨#[32]⟩ ++ t := rfl
          rw [e, hC, hA, hB] at hj
          have hsm := parse_small (s ++ ⟨#[32]⟩ ++ t)
          rw [hC] at hsm
          rcases hj with h | ⟨h1, h2, h3, h5⟩ | h1
          · simp only [Prod.mk.injEq] at h
            obtain ⟨rfl, rfl, hP, hQ⟩ := h
            exact joinE s t w hz hT hs ht (by omega) 0 ra _ _ P Q hA rfl rfl 0 sa _ _ P2 Q2 hB rfl rfl _ rfl 0 _ _ P3 Q3 hC rfl rfl hP hQ hsm
          · simp only at h1 h2 h3 h5
            subst h1
            exact joinD s t w hz hT hs ht (by omega) 0 ra _ _ P Q hA rfl rfl 0 sa _ _ P2 Q2 hB rfl rfl _ rfl ta _ _ P3 Q3 hC rfl rfl h2 h3 h5
          · simp only at h1
            subst h1
            exact joinC s t w hz hT hs ht (by omega) 0 ra _ _ P Q hA rfl rfl 0 sa _ _ P2 Q2 hB rfl rfl _ rfl ta _ _ P3 Q3 hC rfl rfl
        · exact joinB s t w hz hT hs ht (by omega) 0 ra _ _ P Q hA rfl rfl sc sa _ _ P2 Q2 hB rfl rfl hsc
      · exact joinA s t w hz hT hs ht (by omega) rc ra _ _ P Q hA rfl rfl sc sa _ _ P2 Q2 hB rfl rfl hrc
theorem walk (s t : ByteArray) (hs : s.size ≤ maxLen) (ht : t.size ≤ maxLen) (w : World) (hz : 2 ≤ w.heap.size) (hT : Lib.Utf8Tabs 0 1 w) : Calls Tryd.prog 7 #[.string s, .string t] w fun e w' => e = .returned (.bool true) ∧ Below w.heap.size w w' :=
  (walkO s t (by unfold maxLen at hs; exact hs) (by unfold maxLen at ht; exact ht) w hz hT).mono fun e w' ⟨he, ho⟩ => ⟨he, ho.below (Nat.le_refl _) (fun _ h => h.elim)⟩
theorem contract (H : Type) (enc : TypeId × Value → H) (W : World) (base : Nat) (args : Array Value) (ds gs : List (DataW H)) (before : List MemPlace)
    (hval : ∀ (j : Nat) t v, Tryd.f7.params[j]? = some t → args[j]? = some v → Value.okWide Tryd.prog W .any base t v)
    (hW : DataW.Whole enc Tryd.prog Tryd.f7.params.toList Rows.patsJoinsSpec.vars false W args.toList ds gs before) (hL : laidMetH Tryd.prog Rows.patsJoinsRow.laid W) :
    Calls Tryd.prog 7 args W fun e W' => ∃ v, e = .returned v ∧ Rows.patsJoinsSpec.post enc Tryd.prog Tryd.f7 false true false false W args v W' := by
  have hW' := hW
  obtain ⟨p, q, hA0, hV, rfl, hfz, hnd⟩ := hW
  have hA : DataW.TrodAll enc Tryd.prog W 0 (fun _ => true) true Tryd.f7.params.toList args.toList ds p := hA0
  rw [Tryd.params7] at hA hval
  obtain ⟨v0, vs0, d0, ds0, p0, q0, hargs, rfl, rfl, h0, r0⟩ := trodAll_cons hA
  obtain ⟨v1, vs1, d1, ds1, p1, q1, rfl, rfl, rfl, h1, r1⟩ := trodAll_cons r0
  obtain ⟨rfl, rfl, rfl⟩ := trodAll_nil r1
  obtain rfl : args = #[v0, v1] := by cases args; simp_all
  obtain ⟨rfl, rfl⟩ := trodVars_none hV
  obtain ⟨s0, rfl, rfl, rfl, w0⟩ := open_string Tryd.underlying9 (hval 0 9 v0 rfl rfl) h0
  obtain ⟨s1, rfl, rfl, rfl, w1⟩ := open_string Tryd.underlying9 (hval 1 9 v1 rfl rfl) h1
  clear hA0
  obtain ⟨hT, hz⟩ := tabs_of hL
  refine (walk s0 s1 w0 w1 W hz hT).mono fun e W' ⟨he, bel⟩ => ?_
  subst he
  exact ⟨_, rfl, _, _, _, [], _, [], hW', trodAll_mk1 (shut_bool Tryd.underlying4 _), (trodAll_cons_mk (shut_string Tryd.underlying9 w0) (trodAll_cons_mk (shut_string Tryd.underlying9 w1) trodAll_mk0)), rfl, bel.frame _, fun h => by cases h⟩

theorem reads (os : Os) {H : Type} (enc : TypeId × Value → H) : ∃ places, DataW.whole enc Tryd.prog ((laidWorld Tryd.prog os).forCall (fun _ _ => 0) ⟨#[], #[.string ⟨#[]⟩, .string ⟨#[]⟩], []⟩).memory Tryd.f7.params.toList Rows.patsJoinsSpec.vars false (#[.string ⟨#[]⟩, .string ⟨#[]⟩] : Array Value).toList 8 = some ([.lit (.string []), .lit (.string [])], [], places) :=
  ⟨[], by kernel_rfl⟩

set_option maxRecDepth 100000 in
theorem lifted (os : Os) (started : os.Started) (H : Type) (enc : TypeId × Value → H) (F : Stop.Interp) :
    ReturnsInHanded {} Tryd.checked os 7 .any ((OpenSpec.ofChange Rows.patsJoinsSpec).preRow enc Tryd.prog Tryd.f7 Rows.patsJoinsRow.domain false Rows.patsJoinsRow.laid) (((OpenSpec.ofChange Rows.patsJoinsSpec).at F).post enc Tryd.prog Tryd.f7 false true false false) := by
  obtain ⟨places, hx⟩ := reads os enc
  refine returnsInHanded_of_row (C := Tryd.checked) (s := OpenSpec.ofChange Rows.patsJoinsSpec) own started (by kernel_rfl) Tryd.func7
    (witness_row_at (enc := enc) (C := Tryd.checked) false (laidWorld Tryd.prog os) #[.string ⟨#[]⟩, .string ⟨#[]⟩] rfl (by kernel_rfl) (by kernel_rfl) (by kernel_rfl)
      (OpenSpec.preRow_of_cond 8 hx (by kernel_rfl) (fun k hk => by cases hk) (by kernel_rfl) (laid_met os _))) ?_
  intro W base args ds gs before hval hW _ _ _ hL _ _
  exact contract H enc W base args ds gs before hval hW hL

theorem said : Rows.PatsJoinsSaid :=
  OpenClaim.holds_of_cond 7 Tryd.f7 rfl rfl rfl rfl rfl rfl rfl ⟨rfl, rfl, rfl, rfl, rfl⟩ rfl rfl rfl rfl rfl (by kernel_rfl) Tryd.func7 (by kernel_rfl)
    (of_decide_eq_true (by kernel_rfl)) (by unfold Func.isWrapper; first | (rw [if_pos (by decide +kernel)]; kernel_rfl) | (rw [if_neg (by decide +kernel)]; exact ⟨rfl, rfl⟩))
    (fun os started H enc _ F => by rw [OpenClaim.pre_eq_preRow]; exact lifted os started H enc F)

theorem plain (f : FuncId) (fn : Func) (hf : Tryd.pinned.checked.prog.funcNamed "stanza/stanzalaw07.PatsJoins" = some f) (hfn : Tryd.pinned.checked.prog.funcs[f]? = some fn) :
    false = Tryd.pinned.checked.prog.looks [] ∧ ∀ (j : Nat) t, fn.params[j]? = some t → Tryd.pinned.checked.prog.wantsStandIn t = false := by
  obtain rfl : f = 7 := Option.some.inj ((show Tryd.prog.funcNamed "stanza/stanzalaw07.PatsJoins" = some 7 by kernel_rfl).symm.trans hf) |>.symm
  obtain rfl : fn = Tryd.f7 := (Option.some.inj (Tryd.func7.symm.trans hfn)).symm
  refine ⟨by kernel_rfl, fun j t ht => ?_⟩
  rw [Tryd.params7] at ht
  have hm : t ∈ [9, 9] := by simpa using Array.mem_of_getElem? ht
  have hall : ([9, 9].all fun u => !Tryd.prog.wantsStandIn u) = true := by kernel_rfl
  exact (show Tryd.prog.wantsStandIn t = false by simpa using List.all_eq_true.1 hall t hm)

/-- THE CARD. -/
theorem card : Rows.PatsJoinsCardSaid :=
  Claim7.holds_tied_plain_at .later [] _ _ _ _ said (fun _ h => by cases h) (by kernel_rfl) (fun _ h => by cases h) patsJoins_row_tie rfl ⟨rfl, rfl⟩ (by kernel_rfl) rfl plain (by kernel_rfl)
end Go.Proofs.YtjgbfpemkjpikaaDoor.patsJoins
namespace Go.Proofs.YtjgbfpemkjpikaaDoor
/-- THE STATEMENT. -/
theorem patsJoinsCard_holds : Rows.PatsJoinsCardSaid := patsJoins.card
#print axioms patsJoinsCard_holds
end Go.Proofs.YtjgbfpemkjpikaaDoor
