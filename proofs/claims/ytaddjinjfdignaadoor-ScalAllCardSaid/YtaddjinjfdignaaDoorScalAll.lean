/-
  stanzalaw01.ScalAll returns true at every slice of bytes, which reads afterwards as it read before; unicode/utf8's two tables are as the program's text lays them (the card ties them).
-/
import Derived.Test.YtaddjinjfdignaaDoorCards
import Derived.Test.YtaddjinjfdignaaDoorTie
import Derived.Test.YtaddjinjfdignaaDoorView
import Derived.Test.YtaddjinjfdignaaDoorLists
namespace Go.Proofs.YtaddjinjfdignaaDoor.scalAll
open Go.ChangeShapes Go.WideShapes Go.ChangeAt Go.RowKit
set_option linter.unusedVariables false

theorem made_empty (w : World) : (w.alloc (.cells #[] 5)).ownsRow w.heap.size 5 1 (.slice (some ⟨w.heap.size, 0, none⟩) 0 0) 0 [] := by
  refine ⟨rfl, Or.inr ⟨w.heap.size, 0, #[], rfl, Nat.le_refl _, ?_, Nat.le_refl _, Nat.zero_le _, rfl, rfl⟩⟩
  show (w.heap.push (.cells #[] 5))[w.heap.size]? = _
  simp

set_option maxRecDepth 100000 in
set_option maxHeartbeats 2000000 in
theorem walk (a : Option Addr) (n cap : Nat) (x : Nat → Nat) (b off : Nat) (w : World) (hcap : n ≤ cap) (hmax : cap ≤ maxLen) (ha : 0 < n → a = some ⟨b, off, none⟩) (han : a = none → n = 0 ∧ cap = 0)
    (hb : 0 < n → b < w.heap.size) (hz : 2 ≤ w.heap.size) (hx : ∀ j, x j < 256) (hT : Lib.Utf8Tabs 0 1 w)
    (hc : ∀ j, j < n → w.cell? ⟨b, off + j, none⟩ = some (.int .u8 (x j : Nat))) :
    Calls Tryd.prog 3 #[.slice a n cap] w fun e w' => e = .returned (.bool true) ∧ Below w.heap.size w w' := by
  have hcH : Hid (∀ j, j < n → w.cell? ⟨b, off + j, none⟩ = some (.int .u8 (x j : Nat))) := hc
  have hTH : Hid (Lib.Utf8Tabs 0 1 w) := hT
  have hxH : Hid (∀ j, x j < 256) := hx
  have haH : Hid (0 < n → a = some ⟨b, off, none⟩) := ha
  have hbH : Hid (0 < n → b < w.heap.size) := hb
  clear hc hT hx ha hb
  unfold maxLen at hmax
  obtain ⟨i0, hi, hz0, hz1, hz2⟩ := info_parts info5
  by_cases hbig : 5000 < n
  · go_enter Tryd.func3, Tryd.ntmps3
    go_wp2_with (go_at_call 9; refine (awake_any _ hz hTH.out).mono ?_; rintro e w1 ⟨rfl, hb1⟩)
    go_ret
    exact ⟨rfl, by assumption⟩
  · cases a with
    | none =>
      obtain ⟨rfl, rfl⟩ := han rfl
      clear han
      go_enter Tryd.func3, Tryd.ntmps3
      go_wp2_with (first | (go_at_call 9; refine (awake_any _ hz hTH.out).mono ?_; rintro e w1 ⟨rfl, hb1⟩) | (at_builtin; refine wpList_append_own_none rfl _ _ 22 rfl w1.heap.size 5 i0 1 Tryd.underlying22 hi _ _ _ rfl (made_empty w1) rfl ?_))
      have hs1 := hb1.size
      have hB2 : Hid (Below w.heap.size w (w1.alloc (.cells #[] 5))) := hb1.alloc hs1 _
      have hs2 : w.heap.size ≤ (w1.alloc (.cells #[] 5)).heap.size := by simp; omega
      refine (all_any 0 x (some ⟨w1.heap.size, 0, none⟩) w1.heap.size 0 0 (w1.alloc (.cells #[] 5)) (by omega) (by omega) (fun h => by omega) (fun h => by omega) (by omega) hxH.out (tabs_below hTH.out hz hB2.out) (fun j hj => by omega)).mono ?_
      rintro e w3 ⟨v3, rfl, ho3, hb3⟩
      obtain ⟨a3, g3, c3, rfl, hc3, ha3, hg3, hgb3, hcc3⟩ := row_view ho3
      have hs3 := hb3.size
      have hB3 : Hid (Below w.heap.size w w3) := hB2.out.trans (hb3.mono hs2)
      clear ho3
      go_wp2_with fail
      refine (refAll_any 0 x none b off 0 w3 (by omega) (by omega) (fun h => by omega) (fun h => by omega) hxH.out (fun j hj => by omega)).mono ?_
      rintro e w4 ⟨v4, rfl, ho4, hb4⟩
      obtain ⟨a4, g4, c4, rfl, hc4, ha4, hg4, hgb4, hcc4⟩ := row_view ho4
      have hs4 := hb4.size
      have hB4 : Hid (Below w.heap.size w w4) := hB3.out.trans (hb4.mono (by omega))
      clear ho4
      go_wp2_with fail
      refine (same_any (Sg.all 0 x) a3 a4 g3 g4 c3 c4 _ w4 rfl ha3 ha4 (Nat.le_trans (Sg.rest_len 0 x 0 0 (by omega)) (by omega)) (fun j hj => (hb4.cell (p := ⟨g3, j, none⟩) (hg3 (by omega))).trans (hcc3 j hj)) hcc4).mono ?_
      rintro e w5 ⟨rfl, hb5⟩
      have hB5 : Hid (Below w.heap.size w w5) := hB4.out.trans (hb5.mono (by omega))
      have k1 : (convert 22 9 (.slice (some ⟨w1.heap.size, 0, none⟩) 0 0)).run Tryd.prog w5 = .ok (.string (strOf 0 x)) w5 := conv_bytes w5 _ 0 0 0 0 x (fun h => by omega) (fun j hj => by omega)
      have k2 : (convert 22 9 (.slice none 0 0)).run Tryd.prog w5 = .ok (.string (strOf 0 x)) w5 := conv_bytes w5 none 0 0 b off x (fun h => by omega) (fun j hj => by omega)
      clear hb3 hb4 hb5 hcc3 hcc4
      go_wp2
      go_ret
      exact ⟨rfl, hB5.out⟩
    | some ad =>
      clear han
      go_enter Tryd.func3, Tryd.ntmps3
      go_wp2_with (first | (go_at_call 9; refine (awake_any _ hz hTH.out).mono ?_; rintro e w1 ⟨rfl, hb1⟩) | (at_builtin; refine wpList_append_own _ rfl _ _ 22 rfl w1.heap.size 5 i0 (.int .u8 0) 1 1 Tryd.underlying22 hi hz0 hz1 hz2 rfl (by decide) _ _ _ rfl (made_empty w1) ad n cap (byCells n x) rfl ?c0 ?c1 ?c2 ?c3 ?c4 ?c5 ?_))
      case c0 => rw [byCells_length, Nat.mul_one]
      case c1 =>
        intro j u hj
        have hjn : j < n := by
          by_cases h : j < n
          · exact h
          · rw [List.getElem?_eq_none (by rw [byCells_length]; omega)] at hj; cases hj
        rw [byCells_at n x j hjn] at hj
        cases hj
        obtain rfl : ad = ⟨b, off, none⟩ := Option.some.inj (haH.out (by omega))
        rw [Go.WideShapes.add_plain]
        have hbw := hbH.out (by omega)
        exact (World.cell?_alloc_past _ b _ (Nat.lt_of_lt_of_le hbw hb1.size)).trans ((hb1.cell (p := ⟨b, off + j, none⟩) hbw).trans (hcH.out j hjn))
      case c2 => exact byCells_one n x
      case c3 => unfold maxLen; omega
      case c4 => omega
      case c5 => simp
      intro v2 w2 hown2 hg2' _
      have hs1 := hb1.size
      have hB2 : Hid (Below w.heap.size w w2) := (hb1.alloc hs1 _).grown hg2' (by simp; omega) (fun k hk => by cases hk; exact hs1)
      have hs2 : w.heap.size ≤ w2.heap.size := hB2.out.size
      obtain ⟨a2, g2, c2, rfl, hc2, ha2, hg2, hgb2, hcc2'⟩ := row_view hown2
      have hcc2 : Hid (∀ j, j < n → w2.cell? ⟨g2, j, none⟩ = some (.int .u8 (x j : Nat))) := fun j hj => (hcc2' j (by omega)).trans (byCells_at n x j hj)
      clear hown2 hg2' hcc2' hb1
      go_wp2_with fail
      refine (all_any n x a2 g2 0 c2 w2 hc2 (by omega) ha2 hg2 (by omega) hxH.out (tabs_below hTH.out hz hB2.out) (fun j hj => by rw [Nat.zero_add]; exact hcc2.out j hj)).mono ?_
      rintro e w3 ⟨v3, rfl, ho3, hb3⟩
      obtain ⟨a3, g3, c3, rfl, hc3, ha3, hg3, hgb3, hcc3⟩ := row_view ho3
      have hs3 := hb3.size
      have hB3 : Hid (Below w.heap.size w w3) := hB2.out.trans (hb3.mono hs2)
      clear ho3
      go_wp2_with fail
      refine (refAll_any n x (some ad) b off cap w3 hcap (by omega) haH.out (fun h => Nat.lt_of_lt_of_le (hbH.out h) (by omega)) hxH.out (fun j hj => (hB3.out.cell (p := ⟨b, off + j, none⟩) (hbH.out (by omega))).trans (hcH.out j hj))).mono ?_
      rintro e w4 ⟨v4, rfl, ho4, hb4⟩
      obtain ⟨a4, g4, c4, rfl, hc4, ha4, hg4, hgb4, hcc4⟩ := row_view ho4
      have hs4 := hb4.size
      have hB4 : Hid (Below w.heap.size w w4) := hB3.out.trans (hb4.mono (by omega))
      clear ho4
      go_wp2_with fail
      refine (same_any (Sg.all n x) a3 a4 g3 g4 c3 c4 _ w4 rfl ha3 ha4 (Nat.le_trans (Sg.rest_len n x n 0 (by omega)) (by omega)) (fun j hj => (hb4.cell (p := ⟨g3, j, none⟩) (hg3 (by omega))).trans (hcc3 j hj)) hcc4).mono ?_
      rintro e w5 ⟨rfl, hb5⟩
      have hB5 : Hid (Below w.heap.size w w5) := hB4.out.trans (hb5.mono (by omega))
      have k1 : (convert 22 9 (.slice a2 n c2)).run Tryd.prog w5 = .ok (.string (strOf n x)) w5 := conv_bytes w5 a2 n c2 g2 0 x ha2 (fun j hj => by
        rw [Nat.zero_add]
        exact (hb5.cell (p := ⟨g2, j, none⟩) (Nat.lt_of_lt_of_le (hg2 (by omega)) (by omega))).trans ((hb4.cell (p := ⟨g2, j, none⟩) (Nat.lt_of_lt_of_le (hg2 (by omega)) (by omega))).trans ((hb3.cell (p := ⟨g2, j, none⟩) (hg2 (by omega))).trans (hcc2.out j hj))))
      have k2 : (convert 22 9 (.slice (some ad) n cap)).run Tryd.prog w5 = .ok (.string (strOf n x)) w5 := conv_bytes w5 (some ad) n cap b off x haH.out (fun j hj => (hB5.out.cell (p := ⟨b, off + j, none⟩) (hbH.out (by omega))).trans (hcH.out j hj))
      clear hb3 hb4 hb5 hcc3 hcc4
      go_wp2
      go_ret
      exact ⟨rfl, hB5.out⟩
theorem contract (H : Type) (enc : TypeId × Value → H) (W : World) (base : Nat) (args : Array Value) (ds gs : List (DataW H)) (before : List MemPlace)
    (hval : ∀ (j : Nat) t v, Tryd.f3.params[j]? = some t → args[j]? = some v → Value.okWide Tryd.prog W .any base t v)
    (hW : DataW.Whole enc Tryd.prog Tryd.f3.params.toList Rows.scalAllSpec.vars false W args.toList ds gs before) (hL : laidMetH Tryd.prog Rows.scalAllRow.laid W) :
    Calls Tryd.prog 3 args W fun e W' => ∃ v, e = .returned v ∧ Rows.scalAllSpec.post enc Tryd.prog Tryd.f3 false true false false W args v W' := by
  have hW' := hW
  obtain ⟨p, q, hA0, hV, rfl, hfz, hnd⟩ := hW
  have hA : DataW.TrodAll enc Tryd.prog W 0 (fun _ => true) true Tryd.f3.params.toList args.toList ds p := hA0
  rw [Tryd.params3] at hA hval
  obtain ⟨v0, vs0, d0, ds0, p0, q0, hargs, rfl, rfl, h0, r0⟩ := trodAll_cons hA
  obtain ⟨rfl, rfl, rfl⟩ := trodAll_nil r0
  obtain rfl : args = #[v0] := by cases args; simp_all
  obtain ⟨rfl, rfl⟩ := trodVars_none hV
  obtain ⟨a0, len0, cap0, rfl⟩ := okWide_slice Tryd.underlying22 (hval 0 22 v0 rfl rfl)
  have k0 := h0
  have lt0 : ∀ x ∈ p0, x.block < W.heap.size := by obtain ⟨m, hm⟩ := k0; exact DataW.trod_lt m _ _ _ hm
  have hnone0 := fun (h : a0 = none) => bytes_none h0 h
  obtain ⟨x0, b0, off0, hcap0, hmax0, ha0, hb0, hx0, hc0⟩ := bytes_view h0
  clear hA0
  obtain ⟨hT, hz⟩ := tabs_of hL
  refine (walk a0 len0 cap0 x0 b0 off0 W hcap0 hmax0 ha0 hnone0 hb0 hz hx0 hT hc0).mono fun e W' ⟨he, bel⟩ => ?_
  subst he
  exact ⟨_, rfl, _, _, _, [], _, [], hW', trodAll_mk1 (shut_bool Tryd.underlying4 _), (trodAll_cons_mk (Below.trod laidOut (by kernel_rfl) (of_decide_eq_true (by kernel_rfl)) k0 bel lt0) trodAll_mk0), rfl, bel.frame _, fun h => by cases h⟩

theorem reads (os : Os) {H : Type} (enc : TypeId × Value → H) : ∃ places, DataW.whole enc Tryd.prog ((laidWorld Tryd.prog os).forCall (fun _ _ => 0) ⟨#[], #[.slice none 0 0], []⟩).memory Tryd.f3.params.toList Rows.scalAllSpec.vars false (#[.slice none 0 0] : Array Value).toList 8 = some ([.nil], [], places) :=
  ⟨[], by kernel_rfl⟩

set_option maxRecDepth 100000 in
theorem lifted (os : Os) (started : os.Started) (H : Type) (enc : TypeId × Value → H) (F : Stop.Interp) :
    ReturnsInHanded {} Tryd.checked os 3 .any ((OpenSpec.ofChange Rows.scalAllSpec).preRow enc Tryd.prog Tryd.f3 Rows.scalAllRow.domain false Rows.scalAllRow.laid) (((OpenSpec.ofChange Rows.scalAllSpec).at F).post enc Tryd.prog Tryd.f3 false true false false) := by
  obtain ⟨places, hx⟩ := reads os enc
  refine returnsInHanded_of_row (C := Tryd.checked) (s := OpenSpec.ofChange Rows.scalAllSpec) own started (by kernel_rfl) Tryd.func3
    (witness_row_at (enc := enc) (C := Tryd.checked) false (laidWorld Tryd.prog os) #[.slice none 0 0] rfl (by kernel_rfl) (by kernel_rfl) (by kernel_rfl)
      (OpenSpec.preRow_of_cond 8 hx (by kernel_rfl) (fun k hk => by cases hk) (by kernel_rfl) (laid_met os _))) ?_
  intro W base args ds gs before hval hW _ _ _ hL _ _
  exact contract H enc W base args ds gs before hval hW hL

theorem said : Rows.ScalAllSaid :=
  OpenClaim.holds_of_cond 3 Tryd.f3 rfl rfl rfl rfl rfl rfl rfl ⟨rfl, rfl, rfl, rfl, rfl⟩ rfl rfl rfl rfl rfl (by kernel_rfl) Tryd.func3 (by kernel_rfl)
    (of_decide_eq_true (by kernel_rfl)) (by unfold Func.isWrapper; first | (rw [if_pos (by decide +kernel)]; kernel_rfl) | (rw [if_neg (by decide +kernel)]; exact ⟨rfl, rfl⟩))
    (fun os started H enc _ F => by rw [OpenClaim.pre_eq_preRow]; exact lifted os started H enc F)

theorem plain (f : FuncId) (fn : Func) (hf : Tryd.pinned.checked.prog.funcNamed "stanza/stanzalaw01.ScalAll" = some f) (hfn : Tryd.pinned.checked.prog.funcs[f]? = some fn) :
    false = Tryd.pinned.checked.prog.looks [] ∧ ∀ (j : Nat) t, fn.params[j]? = some t → Tryd.pinned.checked.prog.wantsStandIn t = false := by
  obtain rfl : f = 3 := Option.some.inj ((show Tryd.prog.funcNamed "stanza/stanzalaw01.ScalAll" = some 3 by kernel_rfl).symm.trans hf) |>.symm
  obtain rfl : fn = Tryd.f3 := (Option.some.inj (Tryd.func3.symm.trans hfn)).symm
  refine ⟨by kernel_rfl, fun j t ht => ?_⟩
  rw [Tryd.params3] at ht
  have hm : t ∈ [22] := by simpa using Array.mem_of_getElem? ht
  have hall : ([22].all fun u => !Tryd.prog.wantsStandIn u) = true := by kernel_rfl
  exact (show Tryd.prog.wantsStandIn t = false by simpa using List.all_eq_true.1 hall t hm)

/-- THE CARD. -/
theorem card : Rows.ScalAllCardSaid :=
  Claim7.holds_tied_plain_at .later [] _ _ _ _ said (fun _ h => by cases h) (by kernel_rfl) (fun _ h => by cases h) scalAll_row_tie rfl ⟨rfl, rfl⟩ (by kernel_rfl) rfl plain (by kernel_rfl)
end Go.Proofs.YtaddjinjfdignaaDoor.scalAll
namespace Go.Proofs.YtaddjinjfdignaaDoor
/-- THE STATEMENT. -/
theorem scalAllCard_holds : Rows.ScalAllCardSaid := scalAll.card
#print axioms scalAllCard_holds
end Go.Proofs.YtaddjinjfdignaaDoor
