/-
  stanzalaw03.RulesTurned returns true at every plan, numbers and bytes, which read afterwards as they read before; no condition.
-/
import Derived.Test.YtahoepmnekconaaRows
import Derived.Test.YtahoepmnekconaaTu
import Derived.ChangeMaps5
import Derived.ChangeOld
import Derived.OpenShut
import Derived.ProofKit
import Derived.ShutString
namespace Go.Proofs.Ytahoepmnekconaa.rulesTurned
open Go.ChangeShapes Go.WideShapes Go.ChangeAt Go.RowKit
open Go.ChangeMaps (open_string shut_string)
set_option linter.unusedVariables false
set_option linter.unusedSimpArgs false
theorem own : ownKnob Try.prog.godebug = none := by kernel_rfl
theorem ints_cells {H : Type} {enc : TypeId × Value → H} {W : World} {fuel : Nat} {cs : List Value} {x : DataW H × List MemPlace}
    (hf : DataW.trod enc Try.prog W 0 (fun _ => true) true fuel 28 cs = some x) : ∃ (a : Option Addr) (len cap : Nat) (L : List Int), cs = [.slice a len cap] ∧ Iw W a len L := by
  rcases Deep.open_slice Try.underlying28 hf with ⟨rfl, _⟩ | ⟨ad, len, cap, m, n, D, Pl, rfl, _, hl, hm, hmm, _, hx⟩
  · exact ⟨none, 0, 0, [], rfl, rfl, 0, 0, fun h => absurd h (by omega), fun j x hj => by simp at hj⟩
  · have hlm : len ≤ m := by rw [hmm]; simpa using hl
    have each : ∀ i, i < len → ∃ x : Int, W.cell? (ad.add i) = some (.int .i64 x) := by
      intro i hi
      obtain ⟨cs', h1, h2⟩ := hx i (by omega)
      have ce : Try.prog.cellsOf 3 = 1 := by kernel_rfl
      rw [ce, Nat.mul_one] at h1
      obtain ⟨_, hlen, hcell⟩ := World.cells?_some h1
      match cs', hlen with
      | [v0], _ =>
        obtain ⟨n0, e0, _, w0⟩ := DataW.trod_int Try.underlying3 h2
        simp at e0
        subst e0
        have k0 := hcell 0 (by omega)
        rw [Deep.add_add] at k0
        exact ⟨n0, k0⟩
    obtain ⟨F, hF⟩ := Deep.choose_lt each
    by_cases h0 : 0 < len
    · obtain ⟨b, off, spot⟩ := ad
      have hspot : spot = none := by simpa [Addr.add] using World.cell?_spot (hF 0 h0)
      subst hspot
      refine ⟨some ⟨b, off, none⟩, len, cap, (List.range len).map F, rfl, by simp, b, off, fun _ => ⟨rfl, ?_⟩, fun j x hj => ?_⟩
      · have := hF 0 h0
        rw [Addr.add_mid] at this
        exact World.block_lt_of_cell? W _ this
      · obtain ⟨hj', rfl⟩ := map_get hj
        have := hF j hj'
        rw [Addr.add_mid] at this
        exact this
    · exact ⟨some ad, len, cap, (List.range len).map F, rfl, by simp, 0, 0, fun h => absurd h h0, fun j x hj => absurd (map_get hj).1 (by omega)⟩
set_option maxRecDepth 100000 in
theorem ints_view {H : Type} {enc : TypeId × Value → H} {W : World} {v : Value} {d : DataW H} {p : List MemPlace} {b0 : Nat} (hv : Value.okWide Try.prog W .any b0 28 v)
    (h : DataW.Trod enc Try.prog W 0 (fun _ => true) true 28 v d p) : ∃ (a : Option Addr) (len cap : Nat) (L : List Int), v = .slice a len cap ∧ Iw W a len L := by
  obtain ⟨a, len, cap, rfl⟩ := okWide_slice Try.underlying28 hv
  obtain ⟨fuel, hf⟩ := h
  obtain ⟨a', len', cap', L, e, hI⟩ := ints_cells hf
  have e2 : [Value.slice a len cap] = [Value.slice a' len' cap'] := e
  injection e2 with e2
  rw [e2]
  exact ⟨a', len', cap', L, rfl, hI⟩
set_option maxRecDepth 100000 in
theorem bytes_view {H : Type} {enc : TypeId × Value → H} {W : World} {v : Value} {d : DataW H} {p : List MemPlace} {b0 : Nat} (hv : Value.okWide Try.prog W .any b0 24 v)
    (h : DataW.Trod enc Try.prog W 0 (fun _ => true) true 24 v d p) : ∃ (a : Option Addr) (len cap : Nat) (L : List Nat), v = .slice a len cap ∧ Bw W a len L := by
  obtain ⟨a, len, cap, rfl⟩ := okWide_slice Try.underlying24 hv
  obtain ⟨fuel, hf⟩ := h
  obtain ⟨a', len', cap', L, e, hI, _⟩ := bytes_cells hf
  have e2 : [Value.slice a len cap] = [Value.slice a' len' cap'] := e
  injection e2 with e2
  rw [e2]
  exact ⟨a', len', cap', L, rfl, hI⟩
theorem walk (c jo af : Nat) (aT : Option Addr) (nT cT : Nat) (T : List Nat) (aR : Option Addr) (nR cR : Nat) (rs : List Pr) (aA : Option Addr) (nA cA : Nat) (LA : List Int) (aB : Option Addr) (nB cB : Nat) (LB : List Nat) (w : World) (hc : c ≤ 255) (hjo : jo ≤ 255) (haf : af ≤ 255) (hT : Bw w aT nT T) (hR : Rw w aR nR rs) (hA : Iw w aA nA LA) (hB : Bw w aB nB LB) :
    Calls Try.prog 4 #[planV c jo af aT nT cT aR nR cR, .slice aA nA cA, .slice aB nB cB] w fun e w' => e = .returned (.bool true) ∧ Below w.heap.size w w' := by
  refine (turned_walk c jo af aT nT cT T aR nR cR rs aA nA cA LA aB nB cB LB w hc hjo haf hT hR hA hB).mono ?_
  rintro e w' ⟨rfl, ho⟩
  exact ⟨rfl, ho.below (Nat.le_refl _) (fun _ h => h.elim)⟩
set_option maxRecDepth 100000 in
theorem contract (H : Type) (enc : TypeId × Value → H) (W : World) (base : Nat) (args : Array Value) (ds gs : List (DataW H)) (before : List MemPlace)
    (hval : ∀ (j : Nat) t v, Try.f4.params[j]? = some t → args[j]? = some v → Value.okWide Try.prog W .any base t v)
    (hW : DataW.Whole enc Try.prog Try.f4.params.toList Rows.rulesTurnedSpec.vars false W args.toList ds gs before) :
    Calls Try.prog 4 args W fun e W' => ∃ v, e = .returned v ∧ Rows.rulesTurnedSpec.post enc Try.prog Try.f4 false true false false W args v W' := by
  have hW' := hW
  obtain ⟨p, q, hA0, hV, rfl, hfz, hnd⟩ := hW
  have hA : DataW.TrodAll enc Try.prog W 0 (fun _ => true) true Try.f4.params.toList args.toList ds p := hA0
  rw [Try.params4] at hA hval
  obtain ⟨v0, vs0, d0, ds0, p0, q0, hargs, rfl, rfl, h0, r0⟩ := trodAll_cons hA
  obtain ⟨v1, vs1, d1, ds1, p1, q1, rfl, rfl, rfl, h1, r1⟩ := trodAll_cons r0
  obtain ⟨v2, vs2, d2, ds2, p2, q2, rfl, rfl, rfl, h2, r2⟩ := trodAll_cons r1
  obtain ⟨rfl, rfl, rfl⟩ := trodAll_nil r2
  obtain rfl : args = #[v0, v1, v2] := by cases args; simp_all
  obtain ⟨rfl, rfl⟩ := trodVars_none hV
  have k0 := h0
  have lt0 : ∀ x ∈ p0, x.block < W.heap.size := by obtain ⟨m, hm⟩ := k0; exact DataW.trod_lt m _ _ _ hm
  obtain ⟨c0, jo0, af0, aT0, nT0, cT0, T0, aR0, nR0, cR0, rs0, rfl, hc0, hjo0, haf0, hT0, hTc0, hTm0, hR0, hRc0, hRm0⟩ := plan_view (hval 0 27 v0 rfl rfl) h0
  have k1 := h1
  have lt1 : ∀ x ∈ p1, x.block < W.heap.size := by obtain ⟨m, hm⟩ := k1; exact DataW.trod_lt m _ _ _ hm
  obtain ⟨a1, len1, cap1, L1, rfl, hB1⟩ := ints_view (hval 1 28 v1 rfl rfl) h1
  have k2 := h2
  have lt2 : ∀ x ∈ p2, x.block < W.heap.size := by obtain ⟨m, hm⟩ := k2; exact DataW.trod_lt m _ _ _ hm
  obtain ⟨a2, len2, cap2, L2, rfl, hB2⟩ := bytes_view (hval 2 24 v2 rfl rfl) h2
  clear hA0
  refine (walk c0 jo0 af0 aT0 nT0 cT0 T0 aR0 nR0 cR0 rs0 a1 len1 cap1 L1 a2 len2 cap2 L2 W hc0 hjo0 haf0 hT0 hR0 hB1 hB2).mono fun e W' ⟨he, bel⟩ => ?_
  subst he
  exact ⟨_, rfl, _, _, _, [], _, [], hW', trodAll_mk1 (shut_bool Try.underlying4 _), (trodAll_cons_mk (Below.trod laidOut (by kernel_rfl) (of_decide_eq_true (by kernel_rfl)) k0 bel lt0) (trodAll_cons_mk (Below.trod laidOut (by kernel_rfl) (of_decide_eq_true (by kernel_rfl)) k1 bel lt1) (trodAll_cons_mk (Below.trod laidOut (by kernel_rfl) (of_decide_eq_true (by kernel_rfl)) k2 bel lt2) trodAll_mk0))), rfl, bel.frame _, fun h => by cases h⟩

set_option maxRecDepth 100000 in
theorem lifted (os : Os) (started : os.Started) (H : Type) (enc : TypeId × Value → H) :
    ReturnsInHanded {} Try.checked os 4 .any (Rows.rulesTurnedSpec.pre6 enc Try.prog Try.f4 Rows.rulesTurnedRow.domain false) (Rows.rulesTurnedSpec.post enc Try.prog Try.f4 false true false false) := by
  refine returnsInHanded_of_change (C := Try.checked) own started (by kernel_rfl) Try.func4
    (ChangeSpec.witness6 (enc := enc) (C := Try.checked) false ⟨#[], #[.agg #[.int .u8 0, .int .u8 0, .int .u8 0, .slice none 0 0, .slice none 0 0], .slice none 0 0, .slice none 0 0], []⟩ 8 (by kernel_rfl) (by kernel_rfl) (by kernel_rfl) (by kernel_rfl)) ?_
  intro W base args ds gs before hval hW _ _
  exact contract H enc W base args ds gs before hval hW

theorem over : Rows.rulesTurnedRow.holds Try.pinned (OpenSpec.ofChange Rows.rulesTurnedSpec) :=
  OpenClaim.holds_of_wide 4 Try.f4 rfl rfl rfl rfl rfl rfl rfl ⟨rfl, rfl, rfl, rfl, rfl⟩ rfl rfl rfl rfl rfl (by kernel_rfl) Try.func4 (by kernel_rfl)
    (of_decide_eq_true (by kernel_rfl)) (by unfold Func.isWrapper; first | (rw [if_pos (by decide +kernel)]; kernel_rfl) | (rw [if_neg (by decide +kernel)]; exact ⟨rfl, rfl⟩))
    (fun os started H enc _ => lifted os started H enc)
end Go.Proofs.Ytahoepmnekconaa.rulesTurned
namespace Go.Proofs.Ytahoepmnekconaa
/-- THE STATEMENT. -/
theorem rulesTurned_holds : Rows.RulesTurnedSaid := rulesTurned.over
#print axioms rulesTurned_holds
end Go.Proofs.Ytahoepmnekconaa
