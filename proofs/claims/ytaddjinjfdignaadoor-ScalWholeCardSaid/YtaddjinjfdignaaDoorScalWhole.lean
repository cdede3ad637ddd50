/-
  stanzalaw01.ScalWhole returns true at every slice of bytes, which reads afterwards as it read before; unicode/utf8's two tables are as the program's text lays them (the card ties them).
-/
import Derived.Test.YtaddjinjfdignaaDoorCards
import Derived.Test.YtaddjinjfdignaaDoorTie
import Derived.Test.YtaddjinjfdignaaDoorView
import Derived.Test.YtaddjinjfdignaaDoorLists
namespace Go.Proofs.YtaddjinjfdignaaDoor.scalWhole
open Go.ChangeShapes Go.WideShapes Go.ChangeAt Go.RowKit
set_option linter.unusedVariables false

/-- DecodeRune of what is no whole sign. -/
theorem decode_bad (m : Nat) (y : Nat → Nat) (b off cap : Nat) (w : World) (hm : 0 < m) (hy : ∀ j, y j < 256) (hw : Sg.whole m y = false) (hT : Lib.Utf8Tabs 0 1 w)
    (hc : ∀ j, j < m → w.cell? ⟨b, off + j, none⟩ = some (.int .u8 (y j : Nat))) :
    Calls Tryd.prog 15 #[.slice (some ⟨b, off, none⟩) m cap] w fun e w' => e = .returned (.tuple #[.int .i32 65533, .int .i64 1]) ∧ Below w.heap.size w w' := by
  have h := Tryd.utf8_DecodeRune (Sg.arr m y) b off cap w hT (fun j hj => by rw [Sg.arr_size] at hj; rw [Sg.arr_get m y hy j hj]; exact hc j hj)
  rw [Sg.arr_size, Sg.decode_arr m y hm hy, hw] at h
  exact h
theorem bad_le3 {m : Nat} {y : Nat → Nat} (h : Sg.whole m y = false) : Sg.cnt m y ≤ 3 := by
  have h' : Sg.cnt m y ≠ Sg.sz (y 0) := by simpa [Sg.whole] using h
  have a := Sg.sz_le (y 0)
  unfold Sg.cnt at h' ⊢
  (repeat' split at h') <;> (repeat' split) <;> omega
theorem whole_fffd {m : Nat} {y : Nat → Nat} (hy : ∀ j, y j < 256) (h : Sg.whole m y = true) (hv : Sg.num m y = 65533) : Sg.cnt m y = 3 := by
  have h' : Sg.cnt m y = Sg.sz (y 0) := by simpa [Sg.whole] using h
  have e : Sg.num m y = Sg.val y (Sg.cnt m y) := by unfold Sg.num; rw [h]; rfl
  rw [e] at hv
  have q0 := hy 0
  have hc := Sg.sz_cases (y 0) q0
  have hp := Sg.cnt_pos m y
  have h4 := Sg.cnt_le4 m y
  obtain h1 | h1 | h1 | h1 : Sg.cnt m y = 1 ∨ Sg.cnt m y = 2 ∨ Sg.cnt m y = 3 ∨ Sg.cnt m y = 4 := by omega
  · rw [h1] at hv; simp only [Sg.val, reduceIte] at hv; omega
  · rw [h1] at hv; simp only [Sg.val, reduceIte, Nat.reduceEqDiff] at hv; omega
  · exact h1
  · exfalso
    have hlo : Sg.lo (y 0) ≤ y 1 ∧ y 1 ≤ Sg.hi (y 0) := by
      unfold Sg.cnt at h1
      (repeat' split at h1) <;> omega
    rw [h1] at hv; simp only [Sg.val, Nat.reduceEqDiff, reduceIte] at hv; omega

theorem after_cells {wr w3 : World} {u0 u1 u2 : Value} (h : Below (wr.alloc (.cells #[u0, u1, u2] 29)).heap.size (wr.alloc (.cells #[u0, u1, u2] 29)) w3) :
    w3.cell? ⟨wr.heap.size, 0, none⟩ = some u0 ∧ w3.cell? ⟨wr.heap.size, 1, none⟩ = some u1 ∧ w3.cell? ⟨wr.heap.size, 2, none⟩ = some u2 ∧ Hid (Below wr.heap.size wr w3) :=
  ⟨(h.cell (p := ⟨wr.heap.size, 0, none⟩) (by simp)).trans (by simp), (h.cell (p := ⟨wr.heap.size, 1, none⟩) (by simp)).trans (by simp), (h.cell (p := ⟨wr.heap.size, 2, none⟩) (by simp)).trans (by simp), ((Below.refl _ wr).alloc (Nat.le_refl _) _).trans (h.mono (by simp))⟩

/-- where one stands in the list of signs. -/
theorem at_place {n : Nat} {x : Nat → Nat} {i p : Nat} (h : (Sg.all n x).drop i = Sg.rest n x p) (hi : i < (Sg.all n x).length) (hp : p ≤ n) :
    p < n ∧ (Sg.all n x)[i]? = some (Sg.num (n - p) (fun j => x (p + j)), p, Sg.cnt (n - p) (fun j => x (p + j))) ∧ (Sg.all n x).drop (i + 1) = Sg.rest n x (p + Sg.cnt (n - p) (fun j => x (p + j))) := by
  have hpn : p < n := by
    by_cases hh : p < n
    · exact hh
    · rw [Sg.rest_end n x p (by omega)] at h
      have := congrArg List.length h
      simp at this
      omega
  rw [Sg.rest_step n x p hpn] at h
  refine ⟨hpn, ?_, ?_⟩
  · have := congrArg (·[0]?) h
    simpa using this
  · have := congrArg List.tail h
    simpa using this
theorem at_end {n : Nat} {x : Nat → Nat} {i p : Nat} (h : (Sg.all n x).drop i = Sg.rest n x p) (hi : (Sg.all n x).length ≤ i) (hp : p ≤ n) : p = n := by
  by_cases hh : p < n
  · rw [Sg.rest_step n x p hh, List.drop_eq_nil_of_le hi] at h
    cases h
  · omega

set_option maxRecDepth 100000 in
set_option maxHeartbeats 4000000 in
theorem walk (a : Option Addr) (n cap : Nat) (x : Nat → Nat) (b off : Nat) (w : World) (hcap : n ≤ cap) (hmax : cap ≤ maxLen) (ha : 0 < n → a = some ⟨b, off, none⟩)
    (hb : 0 < n → b < w.heap.size) (hz : 2 ≤ w.heap.size) (hx : ∀ j, x j < 256) (hT : Lib.Utf8Tabs 0 1 w)
    (hc : ∀ j, j < n → w.cell? ⟨b, off + j, none⟩ = some (.int .u8 (x j : Nat))) :
    Calls Tryd.prog 5 #[.slice a n cap] w fun e w' => e = .returned (.bool true) ∧ Below w.heap.size w w' := by
  have hcH : Hid (∀ j, j < n → w.cell? ⟨b, off + j, none⟩ = some (.int .u8 (x j : Nat))) := hc
  have hTH : Hid (Lib.Utf8Tabs 0 1 w) := hT
  have hxH : Hid (∀ j, x j < 256) := hx
  have haH : Hid (0 < n → a = some ⟨b, off, none⟩) := ha
  have hbH : Hid (0 < n → b < w.heap.size) := hb
  clear hc hT hx ha hb
  unfold maxLen at hmax
  by_cases hbig : 5000 < n
  · go_enter Tryd.func5, Tryd.ntmps5
    go_wp2_with (go_at_call 9; refine (awake_any _ hz hTH.out).mono ?_; rintro e w1 ⟨rfl, hb1⟩)
    go_ret
    exact ⟨rfl, by assumption⟩
  · have hbig' : decide ((5000 : Int) < (n : Int)) = false := decide_eq_false (by omega)
    go_enter Tryd.func5, Tryd.ntmps5
    go_wp2_with (go_at_call 9; refine (awake_any _ hz hTH.out).mono ?_; rintro e w1 ⟨rfl, hb1⟩)
    have hs1 := hb1.size
    refine (all_any n x a b off cap w1 hcap (by omega) haH.out (fun h => Nat.lt_of_lt_of_le (hbH.out h) hs1) (by omega) hxH.out (tabs_below hTH.out hz hb1) (fun j hj => (hb1.cell (p := ⟨b, off + j, none⟩) (hbH.out (by omega))).trans (hcH.out j hj))).mono ?_
    rintro e w2 ⟨v2, rfl, ho2, hb2⟩
    obtain ⟨a2, g2, c2, rfl, hc2, ha2, hg2, hgb2, hcc2⟩ := row_view ho2
    have hs2 := hb2.size
    have hB2 : Hid (Below w.heap.size w w2) := hb1.trans (hb2.mono hs1)
    have ha2H : Hid (0 < (Sg.all n x).length → a2 = some ⟨g2, 0, none⟩) := ha2
    have hg2H : Hid (0 < (Sg.all n x).length → g2 < w2.heap.size) := hg2
    have hcc2H : Hid (∀ j, j < (Sg.all n x).length * 3 → w2.cell? ⟨g2, j, none⟩ = (sgCells (Sg.all n x))[j]?) := hcc2
    have hN : (Sg.all n x).length ≤ 5000 := Nat.le_trans (Sg.rest_len n x n 0 (by omega)) (by omega)
    clear ho2 hb1 hb2 ha2 hg2 hcc2 hgb2
    obtain ⟨N, hNN⟩ : ∃ N, N = (Sg.all n x).length := ⟨_, rfl⟩
    rw [← hNN] at hN hc2 ⊢
    have hNH : Hid (N = (Sg.all n x).length) := hNN
    clear hNN
    go_wp2_with fail
    go_loopw [3, 16] (fun vp vi wr => ∃ p i : Nat, p ≤ n ∧ i ≤ N ∧ vp = .int .i64 p ∧ vi = .int .i64 i ∧ (Sg.all n x).drop i = Sg.rest n x p ∧ Below w2.heap.size w2 wr) (fun _ vi _ => N - (intOf vi).toNat)
    case atStart => exact ⟨0, 0, by omega, by omega, rfl, rfl, rfl, Below.refl _ _⟩
    case round =>
      obtain ⟨p, i, hp, hi, rfl, rfl, hdr, hbel⟩ := hrel
      have hD : Hid ((Sg.all n x).drop i = Sg.rest n x p) := hdr
      have hBr : Hid (Below w2.heap.size w2 wr) := hbel
      have hsr := hbel.size
      clear hdr hbel
      by_cases hlt : i < N
      · obtain ⟨hpn, hat, hnx⟩ := at_place hD.out (by have := hNH.out; omega) hp
        have hL1 := Sg.cnt_pos (n - p) (fun j => x (p + j))
        have hL4 := Sg.cnt_le4 (n - p) (fun j => x (p + j))
        have hLn := Sg.cnt_le (n - p) (fun j => x (p + j)) (by omega)
        obtain ⟨R, hR⟩ : ∃ R, R = Sg.num (n - p) (fun j => x (p + j)) := ⟨_, rfl⟩
        obtain ⟨L, hL⟩ : ∃ L, L = Sg.cnt (n - p) (fun j => x (p + j)) := ⟨_, rfl⟩
        rw [← hR, ← hL] at hat
        rw [← hL] at hnx hL1 hL4 hLn
        have HR : Hid (R = Sg.num (n - p) (fun j => x (p + j))) := hR
        have HL : Hid (L = Sg.cnt (n - p) (fun j => x (p + j))) := hL
        have HN : Hid ((Sg.all n x).drop (i + 1) = Sg.rest n x (p + L)) := hnx
        have q := sgCells_at _ i _ hat
        have hN3 : Hid (i * 3 + 2 < (Sg.all n x).length * 3) := (by have := hNH.out; omega : i * 3 + 2 < (Sg.all n x).length * 3)
        clear hR hL hnx hat
        obtain rfl := ha2H.out (by have := hNH.out; omega)
        obtain rfl := haH.out (by omega)
        have hg2w := hg2H.out (by have := hNH.out; omega)
        have hbw := hbH.out (by omega)
        have d0 : wr.cell? ⟨g2, i * 3, none⟩ = some (.int .i32 (R : Nat)) := (hBr.out.cell (p := ⟨g2, i * 3, none⟩) hg2w).trans ((hcc2H.out _ (by have := hN3.out; omega)).trans q.1)
        have d1 : wr.cell? ⟨g2, i * 3 + 1, none⟩ = some (.int .i64 (p : Nat)) := (hBr.out.cell (p := ⟨g2, i * 3 + 1, none⟩) hg2w).trans ((hcc2H.out _ (by have := hN3.out; omega)).trans q.2.1)
        have d2 : wr.cell? ⟨g2, i * 3 + 2, none⟩ = some (.int .i64 (L : Nat)) := (hBr.out.cell (p := ⟨g2, i * 3 + 2, none⟩) hg2w).trans ((hcc2H.out _ (by have := hN3.out; omega)).trans q.2.2)
        have hcr : Hid (∀ o j, j < n → (wr.alloc o).cell? ⟨b, off + j, none⟩ = some (.int .u8 (x j : Nat))) := fun o j hj => (World.cell?_alloc_past o b _ (by omega)).trans ((hBr.out.cell (p := ⟨b, off + j, none⟩) (show b < _ by omega)).trans ((hB2.out.cell (p := ⟨b, off + j, none⟩) hbw).trans (hcH.out j hj)))
        have hTr : Hid (∀ o, Lib.Utf8Tabs 0 1 (wr.alloc o)) := fun o => tabs_alloc (tabs_below (tabs_below hTH.out hz hB2.out) (by omega) hBr.out) (by omega) o
        clear q
        have t1 : ((p : Int) != (p : Int)) = false := by simp
        cases hwh : Sg.whole (n - p) (fun j => x (p + j)) with
        | true =>
          have hwH : Hid (Sg.whole (n - p) (fun j => x (p + j)) = true) := hwh
          clear hwh
          by_cases hR3 : R = 65533
          · have hL3 : Hid (L = 3) := (by rw [HL.out]; exact whole_fffd (fun j => hxH.out _) hwH.out (by rw [← HR.out]; exact hR3) : L = 3)
            have t2 : ((R : Int) != 65533) = false := by rw [bne_eq_false_iff_eq]; omega
            have t3 : ((L : Int) == 3) = true := by rw [hL3.out]; rfl
            have hR3H : Hid (R = 65533) := hR3
            clear hR3
            go_wp2_with (go_at_call 15; refine (decode_whole (n - p) (fun j => x (p + j)) b (off + p) _ _ (by omega) (fun j => hxH.out _) hwH.out (hTr.out _) (fun j hj => by rw [Nat.add_assoc]; exact hcr.out _ _ (by omega))).mono ?_; rw [← HR.out, ← HL.out]; rintro e w3 ⟨rfl, hb3⟩; obtain ⟨e0, e1, e2, HB3⟩ := after_cells hb3; clear hb3)
            go_roundw
            case rel => exact ⟨p + L, i + 1, by omega, by omega, by go_num, by go_num, HN.out, hBr.out.trans (HB3.out.mono hsr)⟩
            case measure => simp [intOf]; omega
          · have t2 : ((R : Int) != 65533) = true := by rw [bne_iff_ne]; omega
            go_wp2_with (go_at_call 15; refine (decode_whole (n - p) (fun j => x (p + j)) b (off + p) _ _ (by omega) (fun j => hxH.out _) hwH.out (hTr.out _) (fun j hj => by rw [Nat.add_assoc]; exact hcr.out _ _ (by omega))).mono ?_; rw [← HR.out, ← HL.out]; rintro e w3 ⟨rfl, hb3⟩; obtain ⟨e0, e1, e2, HB3⟩ := after_cells hb3; clear hb3)
            go_roundw
            case rel => exact ⟨p + L, i + 1, by omega, by omega, by go_num, by go_num, HN.out, hBr.out.trans (HB3.out.mono hsr)⟩
            case measure => simp [intOf]; omega
        | false =>
          have hwH : Hid (Sg.whole (n - p) (fun j => x (p + j)) = false) := hwh
          clear hwh
          have hL3 : L ≤ 3 := by rw [HL.out]; exact bad_le3 hwH.out
          have t2 : ((R : Int) != 65533) = false := by
            rw [bne_eq_false_iff_eq, HR.out]
            unfold Sg.num
            rw [hwH.out]
            rfl
          go_wp2_with (go_at_call 15; refine (decode_bad (n - p) (fun j => x (p + j)) b (off + p) _ _ (by omega) (fun j => hxH.out _) hwH.out (hTr.out _) (fun j hj => by rw [Nat.add_assoc]; exact hcr.out _ _ (by omega))).mono ?_; rintro e w3 ⟨rfl, hb3⟩; obtain ⟨e0, e1, e2, HB3⟩ := after_cells hb3; clear hb3)
          go_roundw
          case rel => exact ⟨p + L, i + 1, by omega, by omega, by go_num, by go_num, HN.out, hBr.out.trans (HB3.out.mono hsr)⟩
          case measure => simp [intOf]; omega
      · have hpe : p = n := at_end hD.out (by have := hNH.out; omega) hp
        have hpe' : ((p : Int) == (n : Int)) = true := by rw [hpe]; simp
        have hPE : Hid (p = n) := hpe
        clear hpe
        go_wp2
        go_ret
        exact ⟨rfl, hB2.out.trans (hBr.out.mono (by omega))⟩
theorem contract (H : Type) (enc : TypeId × Value → H) (W : World) (base : Nat) (args : Array Value) (ds gs : List (DataW H)) (before : List MemPlace)
    (hval : ∀ (j : Nat) t v, Tryd.f5.params[j]? = some t → args[j]? = some v → Value.okWide Tryd.prog W .any base t v)
    (hW : DataW.Whole enc Tryd.prog Tryd.f5.params.toList Rows.scalWholeSpec.vars false W args.toList ds gs before) (hL : laidMetH Tryd.prog Rows.scalWholeRow.laid W) :
    Calls Tryd.prog 5 args W fun e W' => ∃ v, e = .returned v ∧ Rows.scalWholeSpec.post enc Tryd.prog Tryd.f5 false true false false W args v W' := by
  have hW' := hW
  obtain ⟨p, q, hA0, hV, rfl, hfz, hnd⟩ := hW
  have hA : DataW.TrodAll enc Tryd.prog W 0 (fun _ => true) true Tryd.f5.params.toList args.toList ds p := hA0
  rw [Tryd.params5] at hA hval
  obtain ⟨v0, vs0, d0, ds0, p0, q0, hargs, rfl, rfl, h0, r0⟩ := trodAll_cons hA
  obtain ⟨rfl, rfl, rfl⟩ := trodAll_nil r0
  obtain rfl : args = #[v0] := by cases args; simp_all
  obtain ⟨rfl, rfl⟩ := trodVars_none hV
  obtain ⟨a0, len0, cap0, rfl⟩ := okWide_slice Tryd.underlying22 (hval 0 22 v0 rfl rfl)
  have k0 := h0
  have lt0 : ∀ x ∈ p0, x.block < W.heap.size := by obtain ⟨m, hm⟩ := k0; exact DataW.trod_lt m _ _ _ hm
  have hnone0 := fun (h : a0 = none) => bytes_none h0 h
  obtain ⟨x0, b0, off0, hcap0, hmax0, ha0, hb0, hx0, hc0⟩ := bytes_view h0
  clear hA0
  obtain ⟨hT, hz⟩ := tabs_of hL
  refine (walk a0 len0 cap0 x0 b0 off0 W hcap0 hmax0 ha0 hb0 hz hx0 hT hc0).mono fun e W' ⟨he, bel⟩ => ?_
  subst he
  exact ⟨_, rfl, _, _, _, [], _, [], hW', trodAll_mk1 (shut_bool Tryd.underlying4 _), (trodAll_cons_mk (Below.trod laidOut (by kernel_rfl) (of_decide_eq_true (by kernel_rfl)) k0 bel lt0) trodAll_mk0), rfl, bel.frame _, fun h => by cases h⟩

theorem reads (os : Os) {H : Type} (enc : TypeId × Value → H) : ∃ places, DataW.whole enc Tryd.prog ((laidWorld Tryd.prog os).forCall (fun _ _ => 0) ⟨#[], #[.slice none 0 0], []⟩).memory Tryd.f5.params.toList Rows.scalWholeSpec.vars false (#[.slice none 0 0] : Array Value).toList 8 = some ([.nil], [], places) :=
  ⟨[], by kernel_rfl⟩

set_option maxRecDepth 100000 in
theorem lifted (os : Os) (started : os.Started) (H : Type) (enc : TypeId × Value → H) (F : Stop.Interp) :
    ReturnsInHanded {} Tryd.checked os 5 .any ((OpenSpec.ofChange Rows.scalWholeSpec).preRow enc Tryd.prog Tryd.f5 Rows.scalWholeRow.domain false Rows.scalWholeRow.laid) (((OpenSpec.ofChange Rows.scalWholeSpec).at F).post enc Tryd.prog Tryd.f5 false true false false) := by
  obtain ⟨places, hx⟩ := reads os enc
  refine returnsInHanded_of_row (C := Tryd.checked) (s := OpenSpec.ofChange Rows.scalWholeSpec) own started (by kernel_rfl) Tryd.func5
    (witness_row_at (enc := enc) (C := Tryd.checked) false (laidWorld Tryd.prog os) #[.slice none 0 0] rfl (by kernel_rfl) (by kernel_rfl) (by kernel_rfl)
      (OpenSpec.preRow_of_cond 8 hx (by kernel_rfl) (fun k hk => by cases hk) (by kernel_rfl) (laid_met os _))) ?_
  intro W base args ds gs before hval hW _ _ _ hL _ _
  exact contract H enc W base args ds gs before hval hW hL

theorem said : Rows.ScalWholeSaid :=
  OpenClaim.holds_of_cond 5 Tryd.f5 rfl rfl rfl rfl rfl rfl rfl ⟨rfl, rfl, rfl, rfl, rfl⟩ rfl rfl rfl rfl rfl (by kernel_rfl) Tryd.func5 (by kernel_rfl)
    (of_decide_eq_true (by kernel_rfl)) (by unfold Func.isWrapper; first | (rw [if_pos (by decide +kernel)]; kernel_rfl) | (rw [if_neg (by decide +kernel)]; exact ⟨rfl, rfl⟩))
    (fun os started H enc _ F => by rw [OpenClaim.pre_eq_preRow]; exact lifted os started H enc F)

theorem plain (f : FuncId) (fn : Func) (hf : Tryd.pinned.checked.prog.funcNamed "stanza/stanzalaw01.ScalWhole" = some f) (hfn : Tryd.pinned.checked.prog.funcs[f]? = some fn) :
    false = Tryd.pinned.checked.prog.looks [] ∧ ∀ (j : Nat) t, fn.params[j]? = some t → Tryd.pinned.checked.prog.wantsStandIn t = false := by
  obtain rfl : f = 5 := Option.some.inj ((show Tryd.prog.funcNamed "stanza/stanzalaw01.ScalWhole" = some 5 by kernel_rfl).symm.trans hf) |>.symm
  obtain rfl : fn = Tryd.f5 := (Option.some.inj (Tryd.func5.symm.trans hfn)).symm
  refine ⟨by kernel_rfl, fun j t ht => ?_⟩
  rw [Tryd.params5] at ht
  have hm : t ∈ [22] := by simpa using Array.mem_of_getElem? ht
  have hall : ([22].all fun u => !Tryd.prog.wantsStandIn u) = true := by kernel_rfl
  exact (show Tryd.prog.wantsStandIn t = false by simpa using List.all_eq_true.1 hall t hm)

/-- THE CARD. -/
theorem card : Rows.ScalWholeCardSaid :=
  Claim7.holds_tied_plain_at .later [] _ _ _ _ said (fun _ h => by cases h) (by kernel_rfl) (fun _ h => by cases h) scalWhole_row_tie rfl ⟨rfl, rfl⟩ (by kernel_rfl) rfl plain (by kernel_rfl)
end Go.Proofs.YtaddjinjfdignaaDoor.scalWhole
namespace Go.Proofs.YtaddjinjfdignaaDoor
/-- THE STATEMENT. -/
theorem scalWholeCard_holds : Rows.ScalWholeCardSaid := scalWhole.card
#print axioms scalWholeCard_holds
end Go.Proofs.YtaddjinjfdignaaDoor
