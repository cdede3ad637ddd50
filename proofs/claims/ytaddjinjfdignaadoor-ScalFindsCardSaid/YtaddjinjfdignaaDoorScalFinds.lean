/-
  stanzalaw01.ScalFinds returns true at every slice of bytes and every int, and both read afterwards as they read before; unicode/utf8's two tables are as the program's text lays them (the card ties them).
-/
import Derived.Test.YtaddjinjfdignaaDoorCards
import Derived.Test.YtaddjinjfdignaaDoorTie
import Derived.Test.YtaddjinjfdignaaDoorView
import Derived.Test.YtaddjinjfdignaaDoorFind
namespace Go.Proofs.YtaddjinjfdignaaDoor.scalFinds
open Go.ChangeShapes Go.WideShapes Go.ChangeAt Go.RowKit
set_option linter.unusedVariables false

set_option maxRecDepth 100000 in
set_option maxHeartbeats 4000000 in
theorem walk (a : Option Addr) (n cap : Nat) (x : Nat → Nat) (b off : Nat) (k : Int) (w : World) (hcap : n ≤ cap) (hmax : cap ≤ maxLen) (ha : 0 < n → a = some ⟨b, off, none⟩)
    (hb : 0 < n → b < w.heap.size) (hz : 2 ≤ w.heap.size) (hx : ∀ j, x j < 256) (hT : Lib.Utf8Tabs 0 1 w)
    (hc : ∀ j, j < n → w.cell? ⟨b, off + j, none⟩ = some (.int .u8 (x j : Nat))) :
    Calls Tryd.prog 7 #[.slice a n cap, .int .i64 k] w fun e w' => e = .returned (.bool true) ∧ Below w.heap.size w w' := by
  have hcH : Hid (∀ j, j < n → w.cell? ⟨b, off + j, none⟩ = some (.int .u8 (x j : Nat))) := hc
  have hTH : Hid (Lib.Utf8Tabs 0 1 w) := hT
  have hxH : Hid (∀ j, x j < 256) := hx
  have haH : Hid (0 < n → a = some ⟨b, off, none⟩) := ha
  have hbH : Hid (0 < n → b < w.heap.size) := hb
  clear hc hT hx ha hb
  unfold maxLen at hmax
  by_cases hbig : 5000 < n
  · go_enter Tryd.func7, Tryd.ntmps7
    go_wp2_with (go_at_call 9; refine (awake_any _ hz hTH.out).mono ?_; rintro e w1 ⟨rfl, hb1⟩)
    go_ret
    exact ⟨rfl, by assumption⟩
  · have hbig' : decide ((5000 : Int) < (n : Int)) = false := decide_eq_false (by omega)
    go_enter Tryd.func7, Tryd.ntmps7
    go_wp2_with (go_at_call 9; refine (awake_any _ hz hTH.out).mono ?_; rintro e w1 ⟨rfl, hb1⟩)
    have hs1 := hb1.size
    refine (all_any n x a b off cap w1 hcap (by omega) haH.out (fun h => Nat.lt_of_lt_of_le (hbH.out h) hs1) (by omega) hxH.out (tabs_below hTH.out hz hb1) (fun j hj => (hb1.cell (p := ⟨b, off + j, none⟩) (hbH.out (by omega))).trans (hcH.out j hj))).mono ?_
    rintro e w2 ⟨v2, rfl, ho2, hb2⟩
    obtain ⟨a2, g2, c2, rfl, hc2, ha2, hg2, hgb2, hcc2⟩ := row_view ho2
    have hs2 := hb2.size
    have hB2 : Hid (Below w.heap.size w w2) := hb1.trans (hb2.mono hs1)
    have hN : (Sg.all n x).length ≤ 5000 := Nat.le_trans (Sg.rest_len n x n 0 (by omega)) (by omega)
    have hup : Hid (EndsUp (Sg.all n x)) := all_up n x
    have hsm : Hid (EndsSmall (Sg.all n x)) := all_small n x (by omega)
    generalize Sg.all n x = l at *
    obtain ⟨N, hNN⟩ : ∃ N, N = l.length := ⟨_, rfl⟩
    rw [← hNN] at hN hc2 ha2 hg2 hcc2 ⊢
    have ha2H : Hid (0 < N → a2 = some ⟨g2, 0, none⟩) := ha2
    have hg2H : Hid (0 < N → g2 < w2.heap.size) := hg2
    have hcc2H : Hid (∀ j, j < N * 3 → w2.cell? ⟨g2, j, none⟩ = (sgCells l)[j]?) := hcc2
    have hNH : Hid (N = l.length) := hNN
    clear ho2 hb1 hb2 ha2 hg2 hcc2 hgb2 hNN
    go_wp2_with fail
    go_loopw [6] (fun vt wr => ∃ t : Nat, t ≤ N ∧ vt = .int .i64 t ∧ EndsLe l k t ∧ ∃ q, wr = w2.drewN q) (fun vt _ => N - (intOf vt).toNat)
    case atStart => exact ⟨0, by omega, rfl, fun t s h => by omega, 0, rfl⟩
    case round =>
      obtain ⟨t, ht, rfl, hle, q, rfl⟩ := hrel
      have hLE : Hid (EndsLe l k t) := hle
      clear hle
      by_cases hlt : t < N
      · obtain ⟨s, hs⟩ : ∃ s, l[t]? = some s := ⟨l[t]'(by have := hNH.out; omega), List.getElem?_eq_getElem (by have := hNH.out; omega)⟩
        have qq := sgCells_at l t s hs
        have hsE := hsm.out t s hs
        obtain ⟨R, A, L⟩ := s
        simp only at hsE
        have hsX : Hid (l[t]? = some (R, A, L)) := hs
        have d1 : w2.cell? ⟨g2, t * 3 + 1, none⟩ = some (.int .i64 (A : Nat)) := (hcc2H.out _ (by omega)).trans qq.2.1
        have d2 : w2.cell? ⟨g2, t * 3 + 2, none⟩ = some (.int .i64 (L : Nat)) := (hcc2H.out _ (by omega)).trans qq.2.2
        clear qq hs
        obtain rfl := ha2H.out (by omega)
        have hltI : (t : Int) < (N : Int) := by omega
        by_cases hp : (A : Int) + L ≤ k
        · have hp' : decide ((A : Int) + L ≤ k) = true := decide_eq_true hp
          go_wp2_with fail
          go_quiet (fail)
          go_wp2
          go_roundw
          case rel => exact ⟨t + 1, by omega, by go_num, ends_le hup.out hsX.out (by simp only; omega), _, rfl⟩
          case measure => simp [intOf]; omega
        · have hp' : decide ((A : Int) + L ≤ k) = false := decide_eq_false hp
          go_wp2_with fail
          go_quiet (fail)
          have hgt : Hid (EndsGt l k t) := ends_gt hup.out hsX.out (by simp only; omega)
          go_wp2_with fail
          refine (find_any l (some ⟨g2, 0, none⟩) g2 c2 N k (w2.drewN (q + nq)) (by omega) hNH.out.symm (fun h => rfl) (fun h => hg2H.out h) (fun j hj => hcc2H.out j hj) hsm.out hup.out).mono ?_
          rintro e w5 ⟨r, rfl, hr, h1, h2, hb5⟩
          have hrt : Hid (r = t) := ends_one (by have := hNH.out; omega) (by have := hNH.out; omega) h1 h2 hLE.out hgt.out
          have hrt' : ((r : Int) == (t : Int)) = true := by rw [hrt.out]; simp
          have hB5 : Hid (Below w.heap.size w w5) := Below.trans (b := w2.drewN (q + nq)) ⟨hB2.out.os, hB2.out.tape, hB2.out.output, hB2.out.size, hB2.out.block⟩ (hb5.mono (by simp; omega))
          clear h1 h2 hb5
          go_wp2
          go_ret
          exact ⟨rfl, hB5.out⟩
      · have hdl : decide ((t : Int) < (N : Int)) = false := decide_eq_false (by omega)
        go_wp2_with fail
        go_quiet (fail)
        have hgt : Hid (EndsGt l k t) := (fun t' s h e => by rw [List.getElem?_eq_none (by have := hNH.out; omega)] at e; cases e)
        go_wp2_with fail
        refine (find_any l a2 g2 c2 N k (w2.drewN (q + nq)) (by omega) hNH.out.symm (fun h => ha2H.out h) (fun h => hg2H.out h) (fun j hj => hcc2H.out j hj) hsm.out hup.out).mono ?_
        rintro e w5 ⟨r, rfl, hr, h1, h2, hb5⟩
        have hrt : Hid (r = t) := ends_one (by have := hNH.out; omega) (by have := hNH.out; omega) h1 h2 hLE.out hgt.out
        have hrt' : ((r : Int) == (t : Int)) = true := by rw [hrt.out]; simp
        have hB5 : Hid (Below w.heap.size w w5) := Below.trans (b := w2.drewN (q + nq)) ⟨hB2.out.os, hB2.out.tape, hB2.out.output, hB2.out.size, hB2.out.block⟩ (hb5.mono (by simp; omega))
        clear h1 h2 hb5
        go_wp2
        go_ret
        exact ⟨rfl, hB5.out⟩
theorem contract (H : Type) (enc : TypeId × Value → H) (W : World) (base : Nat) (args : Array Value) (ds gs : List (DataW H)) (before : List MemPlace)
    (hval : ∀ (j : Nat) t v, Tryd.f7.params[j]? = some t → args[j]? = some v → Value.okWide Tryd.prog W .any base t v)
    (hW : DataW.Whole enc Tryd.prog Tryd.f7.params.toList Rows.scalFindsSpec.vars false W args.toList ds gs before) (hL : laidMetH Tryd.prog Rows.scalFindsRow.laid W) :
    Calls Tryd.prog 7 args W fun e W' => ∃ v, e = .returned v ∧ Rows.scalFindsSpec.post enc Tryd.prog Tryd.f7 false true false false W args v W' := by
  have hW' := hW
  obtain ⟨p, q, hA0, hV, rfl, hfz, hnd⟩ := hW
  have hA : DataW.TrodAll enc Tryd.prog W 0 (fun _ => true) true Tryd.f7.params.toList args.toList ds p := hA0
  rw [Tryd.params7] at hA hval
  obtain ⟨v0, vs0, d0, ds0, p0, q0, hargs, rfl, rfl, h0, r0⟩ := trodAll_cons hA
  obtain ⟨v1, vs1, d1, ds1, p1, q1, rfl, rfl, rfl, h1, r1⟩ := trodAll_cons r0
  obtain ⟨rfl, rfl, rfl⟩ := trodAll_nil r1
  obtain rfl : args = #[v0, v1] := by cases args; simp_all
  obtain ⟨rfl, rfl⟩ := trodVars_none hV
  obtain ⟨a0, len0, cap0, rfl⟩ := okWide_slice Tryd.underlying22 (hval 0 22 v0 rfl rfl)
  have k0 := h0
  have lt0 : ∀ x ∈ p0, x.block < W.heap.size := by obtain ⟨m, hm⟩ := k0; exact DataW.trod_lt m _ _ _ hm
  have hnone0 := fun (h : a0 = none) => bytes_none h0 h
  obtain ⟨x0, b0, off0, hcap0, hmax0, ha0, hb0, hx0, hc0⟩ := bytes_view h0
  obtain ⟨a1, rfl, rfl, rfl, w1⟩ := open_int Tryd.underlying3 (hval 1 3 v1 rfl rfl) h1
  clear hA0
  obtain ⟨hT, hz⟩ := tabs_of hL
  refine (walk a0 len0 cap0 x0 b0 off0 a1 W hcap0 hmax0 ha0 hb0 hz hx0 hT hc0).mono fun e W' ⟨he, bel⟩ => ?_
  subst he
  exact ⟨_, rfl, _, _, _, [], _, [], hW', trodAll_mk1 (shut_bool Tryd.underlying4 _), (trodAll_cons_mk (Below.trod laidOut (by kernel_rfl) (of_decide_eq_true (by kernel_rfl)) k0 bel lt0) (trodAll_cons_mk (shut_int Tryd.underlying3 w1) trodAll_mk0)), rfl, bel.frame _, fun h => by cases h⟩

theorem reads (os : Os) {H : Type} (enc : TypeId × Value → H) : ∃ places, DataW.whole enc Tryd.prog ((laidWorld Tryd.prog os).forCall (fun _ _ => 0) ⟨#[], #[.slice none 0 0, .int .i64 0], []⟩).memory Tryd.f7.params.toList Rows.scalFindsSpec.vars false (#[.slice none 0 0, .int .i64 0] : Array Value).toList 8 = some ([.nil, .lit (.int .i64 0)], [], places) :=
  ⟨[], by kernel_rfl⟩

set_option maxRecDepth 100000 in
theorem lifted (os : Os) (started : os.Started) (H : Type) (enc : TypeId × Value → H) (F : Stop.Interp) :
    ReturnsInHanded {} Tryd.checked os 7 .any ((OpenSpec.ofChange Rows.scalFindsSpec).preRow enc Tryd.prog Tryd.f7 Rows.scalFindsRow.domain false Rows.scalFindsRow.laid) (((OpenSpec.ofChange Rows.scalFindsSpec).at F).post enc Tryd.prog Tryd.f7 false true false false) := by
  obtain ⟨places, hx⟩ := reads os enc
  refine returnsInHanded_of_row (C := Tryd.checked) (s := OpenSpec.ofChange Rows.scalFindsSpec) own started (by kernel_rfl) Tryd.func7
    (witness_row_at (enc := enc) (C := Tryd.checked) false (laidWorld Tryd.prog os) #[.slice none 0 0, .int .i64 0] rfl (by kernel_rfl) (by kernel_rfl) (by kernel_rfl)
      (OpenSpec.preRow_of_cond 8 hx (by kernel_rfl) (fun k hk => by cases hk) (by kernel_rfl) (laid_met os _))) ?_
  intro W base args ds gs before hval hW _ _ _ hL _ _
  exact contract H enc W base args ds gs before hval hW hL

theorem said : Rows.ScalFindsSaid :=
  OpenClaim.holds_of_cond 7 Tryd.f7 rfl rfl rfl rfl rfl rfl rfl ⟨rfl, rfl, rfl, rfl, rfl⟩ rfl rfl rfl rfl rfl (by kernel_rfl) Tryd.func7 (by kernel_rfl)
    (of_decide_eq_true (by kernel_rfl)) (by unfold Func.isWrapper; first | (rw [if_pos (by decide +kernel)]; kernel_rfl) | (rw [if_neg (by decide +kernel)]; exact ⟨rfl, rfl⟩))
    (fun os started H enc _ F => by rw [OpenClaim.pre_eq_preRow]; exact lifted os started H enc F)

theorem plain (f : FuncId) (fn : Func) (hf : Tryd.pinned.checked.prog.funcNamed "stanza/stanzalaw01.ScalFinds" = some f) (hfn : Tryd.pinned.checked.prog.funcs[f]? = some fn) :
    false = Tryd.pinned.checked.prog.looks [] ∧ ∀ (j : Nat) t, fn.params[j]? = some t → Tryd.pinned.checked.prog.wantsStandIn t = false := by
  obtain rfl : f = 7 := Option.some.inj ((show Tryd.prog.funcNamed "stanza/stanzalaw01.ScalFinds" = some 7 by kernel_rfl).symm.trans hf) |>.symm
  obtain rfl : fn = Tryd.f7 := (Option.some.inj (Tryd.func7.symm.trans hfn)).symm
  refine ⟨by kernel_rfl, fun j t ht => ?_⟩
  rw [Tryd.params7] at ht
  have hm : t ∈ [22, 3] := by simpa using Array.mem_of_getElem? ht
  have hall : ([22, 3].all fun u => !Tryd.prog.wantsStandIn u) = true := by kernel_rfl
  exact (show Tryd.prog.wantsStandIn t = false by simpa using List.all_eq_true.1 hall t hm)

/-- THE CARD. -/
theorem card : Rows.ScalFindsCardSaid :=
  Claim7.holds_tied_plain_at .later [] _ _ _ _ said (fun _ h => by cases h) (by kernel_rfl) (fun _ h => by cases h) scalFinds_row_tie rfl ⟨rfl, rfl⟩ (by kernel_rfl) rfl plain (by kernel_rfl)
end Go.Proofs.YtaddjinjfdignaaDoor.scalFinds
namespace Go.Proofs.YtaddjinjfdignaaDoor
/-- THE STATEMENT. -/
theorem scalFindsCard_holds : Rows.ScalFindsCardSaid := scalFinds.card
#print axioms scalFindsCard_holds
end Go.Proofs.YtaddjinjfdignaaDoor
