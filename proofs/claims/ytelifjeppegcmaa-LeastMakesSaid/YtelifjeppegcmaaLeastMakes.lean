/-
  stanzalaw05.LeastMakes returns true at all numbers; no condition.
-/
import Derived.Test.YtelifjeppegcmaaRows
import Derived.Test.YtelifjeppegcmaaLm0
import Derived.Test.YtelifjeppegcmaaVw
import Derived.ChangeMaps5
import Derived.ChangeOld
import Derived.OpenShut
import Derived.ProofKit
namespace Go.Proofs.Ytelifjeppegcmaa.leastMakes
open Go.ChangeShapes Go.WideShapes Go.ChangeAt Go.RowKit Go.Maps
set_option linter.unusedVariables false
set_option linter.unusedSimpArgs false
theorem own : ownKnob Try.prog.godebug = none := by kernel_rfl
set_option maxRecDepth 100000 in
set_option maxHeartbeats 8000000 in
theorem walk0 (aU : Option Addr) (nU cU : Nat) (U : List Nat) (aC : Option Addr) (nC cC : Nat) (C : List Int) (x : Nat) (w : World) (hU : Uw w aU nU U) (hC : Iw w aC nC C) (hnU : nU ≤ maxLen) (hnC : nC ≤ maxLen) (hx : x < 256) :
    Calls Try.prog 3 #[.slice aU nU cU, .slice aC nC cC, .int .u8 (x : Int)] w fun e w' => e = .returned (.bool true) ∧ Only (fun _ => False) w w' := by
  have HMD : Hid (∀ W, Only (fun _ => False) w W → Calls Try.prog 9 #[.slice aU nU cU, .slice aC nC cC, .int .u8 (x : Int)] W (mdP (min nU 30) (x % 4) W)) := fun W ho => made_any aU nU cU U aC nC cC C x W (Uw.keep hU ho) (hC.keep ho) hnU hnC hx
  obtain ⟨n, hn⟩ : ∃ n, n = min nU 30 := ⟨_, rfl⟩
  obtain ⟨k, hk⟩ : ∃ k, k = x % 4 := ⟨_, rfl⟩
  have hn30 : n ≤ 30 := by omega
  have hk3 : k ≤ 3 := by omega
  rw [← hn, ← hk] at HMD
  clear hn hk hU hC hnU hnC hx
  by_cases h0 : n = 0
  · subst h0
    go_enter Try.func3, Try.ntmps3
    go_wp2_with (first | (go_at_call 8; refine (awake_any _).mono ?_; rintro e w1 ⟨rfl, ho1⟩; have HO1 : Hid (Only (fun _ => False) w w1) := ho1; clear ho1) | (go_at_call 9; refine Calls.mono (HMD.out w1 HO1.out) ?_; rintro e w2 ⟨v, rows, outs, rfl, hRa, h1, h2, hRI, ho2⟩; obtain ⟨aX, kX, aO, kO, rfl⟩ := hRa.form; rw [h1, h2]; have HO2 : Hid (Only (fun _ => False) w w2) := HO1.out.trans ho2; clear hRa h1 h2 hRI ho2) | (go_at_call 10; refine (check_none _ _ _ _ _ _).mono ?_; rintro e w3 ⟨rfl, ho3⟩; have HO3 : Hid (Only (fun _ => False) w w3) := (HO2.out.alloc _).trans ho3; clear ho3))
    go_ret
    exact ⟨rfl, HO3.out⟩
  · have e0 : ((n : Int) == 0) = false := by rw [beq_eq_false_iff_ne]; omega
    go_enter Try.func3, Try.ntmps3
    go_wp2_with (first | (go_at_call 8; refine (awake_any _).mono ?_; rintro e w1 ⟨rfl, ho1⟩; have HO1 : Hid (Only (fun _ => False) w w1) := ho1; clear ho1) | (go_at_call 9; refine Calls.mono (HMD.out w1 HO1.out) ?_; rintro e w2 ⟨v, rows, outs, rfl, hRa, h1, h2, hRI, ho2⟩; have hok : Hm.Ok rows outs k := mk_ok (by omega) h1 h2 hRI; obtain ⟨aX, kX, aO, kO, rfl⟩ := hRa.form; rw [h1, h2] at hRa ⊢; have H2 : Hid (Only (fun _ => False) w w2 ∧ Ra w2 w1.heap.size (.agg #[.slice aX n kX, .slice aO n kO]) rows outs ∧ Hm.Ok rows outs k ∧ rows.length = n ∧ outs.length = n) := ⟨HO1.out.trans ho2, hRa, hok, h1, h2⟩; obtain ⟨hb1, hb2, hb3⟩ := box_at (W := w2) (c := #[.slice aX n kX, .slice aO n kO]) rfl; have z0 : (w2.alloc (.cells #[.slice aX n kX, .slice aO n kO] 27)).cell? ⟨w2.heap.size, 0, none⟩ = some (.slice aX n kX) := cell_blk hb2; clear hRa h1 h2 hRI ho2 hok hb1 hb2 hb3) | fail)
    obtain ⟨Z2, hZ2⟩ : ∃ Z, Z = w2.alloc (.cells #[.slice aX n kX, .slice aO n kO] 27) := ⟨_, rfl⟩
    rw [← hZ2] at z0 ⊢
    have HZ2 : Hid (Only (fun _ => False) w2 Z2 ∧ Z2.heap[w2.heap.size]? = some (.cells #[.slice aX n kX, .slice aO n kO] 27 (0, 0)) ∧ w2.heap.size < Z2.heap.size) := box_at hZ2
    clear hZ2 z0
    go_wp2_with (first | (go_at_call 11; refine Calls.mono (copied_any _ _ rows outs Z2 (H2.out.2.1.keep HZ2.out.1) (by have := H2.out.2.2.2.1; omega) (by have := H2.out.2.2.2.2; omega) (by have := H2.out.2.2.2.2; omega) (fun L hL => by have := Ok_len H2.out.2.2.1 (by omega) L hL; omega)) ?_; rintro e w3 ⟨v3, rfl, hR3, ho3⟩; obtain ⟨bX, lX, bO, lO, rfl⟩ := hR3.form; rw [H2.out.2.2.2.1, H2.out.2.2.2.2] at hR3 ⊢; have H3 : Hid (Only (fun _ => False) Z2 w3 ∧ Ra w3 Z2.heap.size (.agg #[.slice bX n lX, .slice bO n lO]) rows outs) := ⟨ho3, hR3⟩; clear hR3 ho3) | fail)
    obtain ⟨Z3, hZ3⟩ : ∃ Z, Z = w3.alloc (.cells #[.slice bX n lX, .slice bO n lO] 27) := ⟨_, rfl⟩
    rw [← hZ3]
    have HZ3 : Hid (Only (fun _ => False) w3 Z3 ∧ Z3.heap[w3.heap.size]? = some (.cells #[.slice bX n lX, .slice bO n lO] 27 (0, 0)) ∧ w3.heap.size < Z3.heap.size) := box_at hZ3
    clear hZ3
    go_wp2_with (first | (go_at_call 12; refine Calls.mono (make_ra _ k _ rows outs Z3 (H3.out.2.keep HZ3.out.1) H2.out.2.2.1 (by have := H2.out.2.2.2.1; omega) (by omega)) ?_; rintro e w4 ⟨v4, rows4, outs4, r4, rfl, hR4, hL4, ho4⟩; obtain ⟨cX, mX, cO, mO, rfl⟩ := hR4.form; have H4 : Hid (Only (fun _ => False) Z3 w4 ∧ Ra w4 Z3.heap.size (.agg #[.slice cX rows4.length mX, .slice cO outs4.length mO]) rows4 outs4 ∧ Hm.Lst rows.length k (Hm.dR rows) (Hm.oR outs) rows4 outs4 r4) := ⟨ho4, hR4, hL4⟩; clear hR4 ho4 hL4) | fail)
    obtain ⟨Z, hZ⟩ : ∃ Z, Z = w4.alloc (.cells #[.slice cX rows4.length mX, .slice cO outs4.length mO] 27) := ⟨_, rfl⟩
    rw [← hZ]
    have HZ : Hid (Only (fun _ => False) w4 Z ∧ Z.heap[w4.heap.size]? = some (.cells #[.slice cX rows4.length mX, .slice cO outs4.length mO] 27 (0, 0)) ∧ w4.heap.size < Z.heap.size) := box_at hZ
    clear hZ
    have HW : Hid (Only (fun _ => False) w2 Z ∧ Only (fun _ => False) w3 Z ∧ Only (fun _ => False) w Z ∧ Only (fun _ => False) Z2 Z ∧ Only (fun _ => False) Z3 Z) := by
      have a4 := H4.out.1.trans HZ.out.1
      have a3 := HZ3.out.1.trans a4
      have a2 := H3.out.1.trans a3
      have a1 := HZ2.out.1.trans a2
      exact ⟨a1, a3, H2.out.1.trans a1, a2, a4⟩
    have HKK : Hid (∀ X, Only (fun _ => False) Z X → (X.cell? ⟨w2.heap.size, 0, none⟩ = some (.slice aX n kX) ∧ X.cell? ⟨w2.heap.size, 1, none⟩ = some (.slice aO n kO)) ∧ (X.cell? ⟨w3.heap.size, 0, none⟩ = some (.slice bX n lX) ∧ X.cell? ⟨w3.heap.size, 1, none⟩ = some (.slice bO n lO)) ∧ (X.cell? ⟨w4.heap.size, 0, none⟩ = some (.slice cX rows4.length mX) ∧ X.cell? ⟨w4.heap.size, 1, none⟩ = some (.slice cO outs4.length mO))) := fun X ho => by
      have b2 := ((HW.out.2.2.2.1.trans ho).block _ HZ2.out.2.2 (fun h => h)).trans HZ2.out.2.1
      have b3 := ((HW.out.2.2.2.2.trans ho).block _ HZ3.out.2.2 (fun h => h)).trans HZ3.out.2.1
      have b4 := (ho.block _ HZ.out.2.2 (fun h => h)).trans HZ.out.2.1
      exact ⟨⟨cell_blk b2, cell_blk b2⟩, ⟨cell_blk b3, cell_blk b3⟩, cell_blk b4, cell_blk b4⟩
    refine wp_region_held_drew (S := (fun X => (X.cell? ⟨w2.heap.size, 0, none⟩ = some (.slice aX n kX) ∧ X.cell? ⟨w2.heap.size, 1, none⟩ = some (.slice aO n kO)) ∧ (X.cell? ⟨w3.heap.size, 0, none⟩ = some (.slice bX n lX) ∧ X.cell? ⟨w3.heap.size, 1, none⟩ = some (.slice bO n lO)) ∧ (X.cell? ⟨w4.heap.size, 0, none⟩ = some (.slice cX rows4.length mX) ∧ X.cell? ⟨w4.heap.size, 1, none⟩ = some (.slice cO outs4.length mO)))) (by kernel_rfl) (HKK.out _ ((Only.refl (fun _ => False) Z).drew)) (fun hHeld => ?_)
    refine wpAnyH_take (i := 0) (oi := { dst := some 31, op := _, type := _, pos := _, after := _, guard := _ }) (v := .int .i64 0) rfl (by kernel_rfl) (by kernel_rfl) (by kernel_rfl) (fun _ _ _ h => h) (Or.inl ⟨by rfl, fun w hSw => by first | (go_simp; done) | go_simp⟩) (by assumption) ?_
    (try simp only [Act.put, List.setIfInBounds_toArray, List.set_cons_zero, List.set_cons_succ])
    refine wpAnyH_take (i := 1) (oi := { dst := some 32, op := _, type := _, pos := _, after := _, guard := _ }) (v := .bool true) rfl (by kernel_rfl) (by kernel_rfl) (by kernel_rfl) (fun _ _ _ h => h) (Or.inl ⟨by rfl, fun w hSw => by first | (go_simp; done) | go_simp⟩) (by assumption) ?_
    (try simp only [Act.put, List.setIfInBounds_toArray, List.set_cons_zero, List.set_cons_succ])
    refine wpAnyH_take (i := 2) (oi := { dst := some 33, op := _, type := _, pos := _, after := _, guard := _ }) (v := .bool true) rfl (by kernel_rfl) (by kernel_rfl) (by kernel_rfl) (fun _ _ _ h => h) (Or.inl ⟨by rfl, fun w hSw => by first | (go_simp; done) | go_simp⟩) (by assumption) ?_
    (try simp only [Act.put, List.setIfInBounds_toArray, List.set_cons_zero, List.set_cons_succ])
    refine wpAnyH_take (i := 3) (oi := { dst := some 34, op := _, type := _, pos := _, after := _, guard := _ }) (v := .agg #[.slice cX rows4.length mX, .slice cO outs4.length mO]) rfl (by kernel_rfl) (by kernel_rfl) (by kernel_rfl) (fun _ _ _ h => h) (Or.inl ⟨by rfl, fun w hSw => by obtain ⟨⟨q0, q1⟩, ⟨q2, q3⟩, q4, q5⟩ := hSw; first | (go_simp; done) | go_simp⟩) (by assumption) ?_
    (try simp only [Act.put, List.setIfInBounds_toArray, List.set_cons_zero, List.set_cons_succ])
    refine wpAnyH_take (i := 4) (oi := { dst := some 35, op := _, type := _, pos := _, after := _, guard := _ }) (v := .agg #[.slice aX n kX, .slice aO n kO]) rfl (by kernel_rfl) (by kernel_rfl) (by kernel_rfl) (fun _ _ _ h => h) (Or.inl ⟨by rfl, fun w hSw => by obtain ⟨⟨q0, q1⟩, ⟨q2, q3⟩, q4, q5⟩ := hSw; first | (go_simp; done) | go_simp⟩) (by assumption) ?_
    (try simp only [Act.put, List.setIfInBounds_toArray, List.set_cons_zero, List.set_cons_succ])
    refine wpAnyH_ready (rs := [5]) (by kernel_rfl) (by simp) ?_
    refine AllReadyH.cons rfl (fun K hK => ?_) AllReadyH.nil
    rw [if_pos (by rfl)]
    go_simp
    refine Calls.mono (least_ra _ k _ rows outs _ (H2.out.2.1.keep HW.out.1.drew) H2.out.2.2.1 (by have := H2.out.2.2.2.1; omega) (by omega)) ?_
    rintro e w5 ⟨v5, rows5, outs5, r5, rfl, hR5, hL5, ho5⟩
    obtain ⟨e5, e6⟩ := Hm.lst_one hL5 H4.out.2.2 (Hm.Eqx.refl 0)
    rw [e5, e6] at hR5
    clear e5 e6
    have H5 : Hid (Ra w5 _ v5 rows4 outs4 ∧ Only (fun _ => False) Z w5) := ⟨hR5, ((Only.refl (fun _ => False) Z).drew).trans ho5⟩
    clear hR5 hL5 ho5
    refine hK.out _ _ (HKK.out _ H5.out.2) (fun hHeld => ?_)
    clear hK
    (try simp only [Act.put, List.setIfInBounds_toArray, List.set_cons_zero, List.set_cons_succ])
    refine wpAnyH_ready (rs := [6]) (by kernel_rfl) (by simp) ?_
    refine AllReadyH.cons rfl (fun K hK => ?_) AllReadyH.nil
    rw [if_pos (by rfl)]
    go_simp
    refine Calls.mono (same_auto _ _ _ _ rows4 outs4 _ (H4.out.2.1.keep (HZ.out.1.trans H5.out.2)) H5.out.1 (Lst_len H4.out.2.2 (by omega))) ?_
    rintro e w6 ⟨rfl, ho6⟩
    have H6 : Hid (Only (fun _ => False) Z w6) := H5.out.2.trans ho6
    clear ho6
    refine hK.out _ _ (HKK.out _ H6.out) (fun hHeld => ?_)
    clear hK
    (try simp only [Act.put, List.setIfInBounds_toArray, List.set_cons_zero, List.set_cons_succ])
    refine wpAnyH_take (i := 7) (oi := { dst := some 38, op := _, type := _, pos := _, after := _, guard := _ }) (v := .bool true) rfl (by kernel_rfl) (by kernel_rfl) (by kernel_rfl) (fun _ _ _ h => h) (Or.inl ⟨by rfl, fun w hSw => by first | (go_simp; done) | go_simp⟩) (by assumption) ?_
    (try simp only [Act.put, List.setIfInBounds_toArray, List.set_cons_zero, List.set_cons_succ])
    refine wpAnyH_take (i := 8) (oi := { dst := some 39, op := _, type := _, pos := _, after := _, guard := _ }) (v := .bool true) rfl (by kernel_rfl) (by kernel_rfl) (by kernel_rfl) (fun _ _ _ h => h) (Or.inl ⟨by rfl, fun w hSw => by first | (go_simp; done) | go_simp⟩) (by assumption) ?_
    (try simp only [Act.put, List.setIfInBounds_toArray, List.set_cons_zero, List.set_cons_succ])
    refine wpAnyH_take (i := 9) (oi := { dst := some 40, op := _, type := _, pos := _, after := _, guard := _ }) (v := .agg #[.slice aX n kX, .slice aO n kO]) rfl (by kernel_rfl) (by kernel_rfl) (by kernel_rfl) (fun _ _ _ h => h) (Or.inl ⟨by rfl, fun w hSw => by obtain ⟨⟨q0, q1⟩, ⟨q2, q3⟩, q4, q5⟩ := hSw; first | (go_simp; done) | go_simp⟩) (by assumption) ?_
    (try simp only [Act.put, List.setIfInBounds_toArray, List.set_cons_zero, List.set_cons_succ])
    refine wpAnyH_take (i := 10) (oi := { dst := some 41, op := _, type := _, pos := _, after := _, guard := _ }) (v := .agg #[.slice bX n lX, .slice bO n lO]) rfl (by kernel_rfl) (by kernel_rfl) (by kernel_rfl) (fun _ _ _ h => h) (Or.inl ⟨by rfl, fun w hSw => by obtain ⟨⟨q0, q1⟩, ⟨q2, q3⟩, q4, q5⟩ := hSw; first | (go_simp; done) | go_simp⟩) (by assumption) ?_
    (try simp only [Act.put, List.setIfInBounds_toArray, List.set_cons_zero, List.set_cons_succ])
    refine wpAnyH_ready (rs := [11]) (by kernel_rfl) (by simp) ?_
    refine AllReadyH.cons rfl (fun K hK => ?_) AllReadyH.nil
    rw [if_pos (by rfl)]
    go_simp
    refine Calls.mono (same_auto _ _ _ _ rows outs _ (H2.out.2.1.keep (HW.out.1.trans H6.out)) (H3.out.2.keep (HW.out.2.1.trans H6.out)) (Ok_len H2.out.2.2.1 (by omega))) ?_
    rintro e w7 ⟨rfl, ho7⟩
    have H7 : Hid (Only (fun _ => False) Z w7) := H6.out.trans ho7
    clear ho7
    refine hK.out _ _ (HKK.out _ H7.out) (fun hHeld => ?_)
    clear hK
    (try simp only [Act.put, List.setIfInBounds_toArray, List.set_cons_zero, List.set_cons_succ])
    refine wpAnyH_take (i := 12) (oi := { dst := some 43, op := _, type := _, pos := _, after := _, guard := _ }) (v := .bool true) rfl (by kernel_rfl) (by kernel_rfl) (by kernel_rfl) (fun _ _ _ h => h) (Or.inl ⟨by rfl, fun w hSw => by first | (go_simp; done) | go_simp⟩) (by assumption) ?_
    (try simp only [Act.put, List.setIfInBounds_toArray, List.set_cons_zero, List.set_cons_succ])
    refine wpAnyH_take (i := 13) (oi := { dst := some 6, op := _, type := _, pos := _, after := _, guard := _ }) (v := .bool true) rfl (by kernel_rfl) (by kernel_rfl) (by kernel_rfl) (fun _ _ _ h => h) (Or.inl ⟨by rfl, fun w hSw => by first | (go_simp; done) | go_simp⟩) (by assumption) ?_
    (try simp only [Act.put, List.setIfInBounds_toArray, List.set_cons_zero, List.set_cons_succ])
    refine wpAnyH_done (by kernel_rfl) ?_ _
    clear hHeld
    go_wp2_with fail
    go_ret
    exact ⟨rfl, HW.out.2.2.1.trans H7.out⟩
theorem walk (aU : Option Addr) (nU cU : Nat) (U : List Nat) (aC : Option Addr) (nC cC : Nat) (C : List Int) (x : Int) (w : World) (hU : Uw w aU nU U) (hC : Iw w aC nC C) (hnU : nU ≤ maxLen) (hnC : nC ≤ maxLen) (hx : (Lit.int .u8 x).wf = true) :
    Calls Try.prog 3 #[.slice aU nU cU, .slice aC nC cC, .int .u8 x] w fun e w' => e = .returned (.bool true) ∧ Below w.heap.size w w' := by
  have w1 : (decide (IntKind.u8.min ≤ x) && decide (x ≤ IntKind.u8.max)) = true := hx
  rw [Bool.and_eq_true, decide_eq_true_iff, decide_eq_true_iff] at w1
  have m0 : IntKind.u8.min = 0 := rfl
  have m1 : IntKind.u8.max = 255 := rfl
  rw [m0, m1] at w1
  obtain ⟨q, rfl⟩ : ∃ q : Nat, x = (q : Int) := ⟨x.toNat, by omega⟩
  refine (walk0 aU nU cU U aC nC cC C q w hU hC hnU hnC (by omega)).mono ?_
  rintro e w' ⟨rfl, ho⟩
  exact ⟨rfl, ho.below (Nat.le_refl _) (fun _ h => h.elim)⟩
set_option maxRecDepth 100000 in
theorem contract (H : Type) (enc : TypeId × Value → H) (W : World) (base : Nat) (args : Array Value) (ds gs : List (DataW H)) (before : List MemPlace)
    (hval : ∀ (j : Nat) t v, Try.f3.params[j]? = some t → args[j]? = some v → Value.okWide Try.prog W .any base t v)
    (hW : DataW.Whole enc Try.prog Try.f3.params.toList Rows.leastMakesSpec.vars false W args.toList ds gs before) :
    Calls Try.prog 3 args W fun e W' => ∃ v, e = .returned v ∧ Rows.leastMakesSpec.post enc Try.prog Try.f3 false true false false W args v W' := by
  have hW' := hW
  obtain ⟨p, q, hA0, hV, rfl, hfz, hnd⟩ := hW
  have hA : DataW.TrodAll enc Try.prog W 0 (fun _ => true) true Try.f3.params.toList args.toList ds p := hA0
  rw [Try.params3] at hA hval
  obtain ⟨v0, vs0, d0, ds0, p0, q0, hargs, rfl, rfl, h0, r0⟩ := trodAll_cons hA
  obtain ⟨v1, vs1, d1, ds1, p1, q1, rfl, rfl, rfl, h1, r1⟩ := trodAll_cons r0
  obtain ⟨v2, vs2, d2, ds2, p2, q2, rfl, rfl, rfl, h2, r2⟩ := trodAll_cons r1
  obtain ⟨rfl, rfl, rfl⟩ := trodAll_nil r2
  obtain rfl : args = #[v0, v1, v2] := by cases args; simp_all
  obtain ⟨rfl, rfl⟩ := trodVars_none hV
  have k0 := h0
  have lt0 : ∀ x ∈ p0, x.block < W.heap.size := by obtain ⟨m, hm⟩ := k0; exact DataW.trod_lt m _ _ _ hm
  obtain ⟨aU, nU, cU, U, rfl, hU, hnU⟩ := outs_view (hval 0 22 v0 rfl rfl) h0
  have k1 := h1
  have lt1 : ∀ x ∈ p1, x.block < W.heap.size := by obtain ⟨m, hm⟩ := k1; exact DataW.trod_lt m _ _ _ hm
  obtain ⟨aC1, nC1, cC1, C1, rfl, hC1, hnC1, hz1⟩ := ints_view (hval 1 23 v1 rfl rfl) h1
  obtain ⟨a2, rfl, rfl, rfl, w2⟩ := open_int Try.underlying5 (hval 2 5 v2 rfl rfl) h2
  clear hA0
  refine (walk aU nU cU U aC1 nC1 cC1 C1 a2 W hU hC1 hnU hnC1 w2).mono fun e W' ⟨he, bel⟩ => ?_
  subst he
  exact ⟨_, rfl, _, _, _, [], _, [], hW', trodAll_mk1 (shut_bool Try.underlying4 _), (trodAll_cons_mk (Below.trod laidOut (by kernel_rfl) (of_decide_eq_true (by kernel_rfl)) k0 bel lt0) (trodAll_cons_mk (Below.trod laidOut (by kernel_rfl) (of_decide_eq_true (by kernel_rfl)) k1 bel lt1) (trodAll_cons_mk (shut_int Try.underlying5 w2) trodAll_mk0))), rfl, bel.frame _, fun h => by cases h⟩

set_option maxRecDepth 100000 in
theorem lifted (os : Os) (started : os.Started) (H : Type) (enc : TypeId × Value → H) :
    ReturnsInHanded {} Try.checked os 3 .any (Rows.leastMakesSpec.pre6 enc Try.prog Try.f3 Rows.leastMakesRow.domain false) (Rows.leastMakesSpec.post enc Try.prog Try.f3 false true false false) := by
  refine returnsInHanded_of_change (C := Try.checked) own started (by kernel_rfl) Try.func3
    (ChangeSpec.witness6 (enc := enc) (C := Try.checked) false ⟨#[], #[.slice none 0 0, .slice none 0 0, .int .u8 0], []⟩ 8 (by kernel_rfl) (by kernel_rfl) (by kernel_rfl) (by kernel_rfl)) ?_
  intro W base args ds gs before hval hW _ _
  exact contract H enc W base args ds gs before hval hW

theorem over : Rows.leastMakesRow.holds Try.pinned (OpenSpec.ofChange Rows.leastMakesSpec) :=
  OpenClaim.holds_of_wide 3 Try.f3 rfl rfl rfl rfl rfl rfl rfl ⟨rfl, rfl, rfl, rfl, rfl⟩ rfl rfl rfl rfl rfl (by kernel_rfl) Try.func3 (by kernel_rfl)
    (of_decide_eq_true (by kernel_rfl)) (by unfold Func.isWrapper; first | (rw [if_pos (by decide +kernel)]; kernel_rfl) | (rw [if_neg (by decide +kernel)]; exact ⟨rfl, rfl⟩))
    (fun os started H enc _ => lifted os started H enc)
end Go.Proofs.Ytelifjeppegcmaa.leastMakes
namespace Go.Proofs.Ytelifjeppegcmaa
/-- THE STATEMENT. -/
theorem leastMakes_holds : Rows.LeastMakesSaid := leastMakes.over
#print axioms leastMakes_holds
end Go.Proofs.Ytelifjeppegcmaa
