/-
  LeastChecks: its walk.
-/
import Derived.Test.YtelifjeppegcmaaLc0
namespace Go.Proofs.Ytelifjeppegcmaa
open Go.RowKit Go.Maps
set_option linter.unusedVariables false
set_option linter.unusedSimpArgs false
set_option maxRecDepth 100000 in
set_option maxHeartbeats 4000000 in
theorem checks_wide (aN : Option Addr) (nN cN : Nat) (aO : Option Addr) (nO cO : Nat) (w : World) (hw : 100 < nN) : Calls Try.prog 4 #[.agg #[.slice aN nN cN, .slice aO nO cO]] w fun e w' => e = .returned (.bool true) ∧ Only (fun _ => False) w w' := by
  have t0 : (100 : Int) < (nN : Int) := by omega
  have HB : Hid ((w.alloc (.cells #[.slice aN nN cN, .slice aO nO cO] 27)).heap[w.heap.size]? = some (.cells #[.slice aN nN cN, .slice aO nO cO] 27 (0, 0))) := heap_alloc_new w _
  go_enter Try.func4, Try.ntmps4
  go_wp2_with (go_at_call 8; refine (awake_any _).mono ?_; rintro e w1 ⟨rfl, ho1⟩; have HO1 : Hid (Only (fun _ => False) w w1) := ((Only.refl (fun _ => False) w).alloc _).trans ho1; have b1 := (ho1.block w.heap.size (by simp) (fun h => h)).trans HB.out; have d0 : w1.cell? ⟨w.heap.size, 0, none⟩ = some (.slice aN nN cN) := cell_blk b1; have l0 : w.heap.size < w1.heap.size := World.block_lt_of_cell? w1 _ d0; clear ho1 b1)
  go_ret
  exact ⟨rfl, HO1.out⟩
set_option maxRecDepth 100000 in
set_option maxHeartbeats 8000000 in
theorem checks_walk (aN : Option Addr) (nN cN : Nat) (aO : Option Addr) (nO cO : Nat) (ws : List Wy) (U : List Nat) (w : World) (hN : Nw w aN nN ws) (hw : nN ≤ 100) (hU : Uw w aO nO U) (hnO : nO ≤ maxLen) : Calls Try.prog 4 #[.agg #[.slice aN nN cN, .slice aO nO cO]] w fun e w' => e = .returned (.bool true) ∧ Only (fun _ => False) w w' := by
  have HN : Hid (Nw w aN nN ws) := hN
  have HU : Hid (Uw w aO nO U) := hU
  have HMO : Hid (nO ≤ maxLen) := hnO
  unfold maxLen at hnO
  have t0 : decide ((100 : Int) < (nN : Int)) = false := decide_eq_false (by omega)
  have HB : Hid ((w.alloc (.cells #[.slice aN nN cN, .slice aO nO cO] 27)).heap[w.heap.size]? = some (.cells #[.slice aN nN cN, .slice aO nO cO] 27 (0, 0))) := heap_alloc_new w _
  clear hN hU
  go_enter Try.func4, Try.ntmps4
  go_wp2_with (go_at_call 8; refine (awake_any _).mono ?_; rintro e w1 ⟨rfl, ho1⟩; have HO1 : Hid (Only (fun _ => False) w w1 ∧ w1.heap[w.heap.size]? = some (.cells #[.slice aN nN cN, .slice aO nO cO] 27 (0, 0))) := ⟨((Only.refl (fun _ => False) w).alloc _).trans ho1, (ho1.block w.heap.size (by simp) (fun h => h)).trans HB.out⟩; have d0 : w1.cell? ⟨w.heap.size, 0, none⟩ = some (.slice aN nN cN) := cell_blk HO1.out.2; have d1 : w1.cell? ⟨w.heap.size, 1, none⟩ = some (.slice aO nO cO) := cell_blk HO1.out.2; have l0 : w.heap.size < w1.heap.size := World.block_lt_of_cell? w1 _ d0; clear ho1)
  go_loopg [17] nN (fun gh v wr => ∃ (j : Nat), w1 = wr ∧ gh = nN - j ∧ j ≤ nN ∧ v = .int .i64 (j : Int) ∧ (∀ (i : Nat) (x : Wy), i < j → ws[i]? = some x → x.n ≤ 100))
  case atStart => exact ⟨0, rfl, rfl, Nat.zero_le _, rfl, fun i x h => by omega⟩
  case round =>
    obtain ⟨j, hY, rfl, hj, rfl, hall⟩ := hrel
    subst hY
    have HALL : Hid (∀ (i : Nat) (x : Wy), i < j → ws[i]? = some x → x.n ≤ 100) := hall
    clear hall
    by_cases hlt : j < nN
    · have t1 : (j : Int) < (nN : Int) := by omega
      obtain ⟨x, hx⟩ : ∃ x, ws[j]? = some x := ⟨_, List.getElem?_eq_getElem (by have := HN.out.1; omega)⟩
      have HX : Hid (ws[j]? = some x) := hx
      obtain ⟨_, b, off, h1, h2⟩ := HN.out
      obtain ⟨ha, hb⟩ := h1 (by omega)
      subst ha
      obtain ⟨_, hm, hc⟩ := h2 j x hx
      have e1 := keepC HO1.out.1 hc
      have l1 := World.block_lt_of_cell? w1 _ e1
      obtain ⟨xa, xn, xc, xL⟩ := x
      simp only at e1 hm
      unfold maxLen at hm
      clear h1 h2 hc hx hb
      by_cases hbig : 100 < xn
      · have t2 : (100 : Int) < (xn : Int) := by omega
        go_wp2_with fail
        go_ret
        exact ⟨rfl, HO1.out.1⟩
      · have t2 : decide ((100 : Int) < (xn : Int)) = false := decide_eq_false (by omega)
        go_wp2_with fail
        go_roundg (nN - (j + 1))
        case measure => omega
        case rel =>
          refine ⟨j + 1, rfl, rfl, by omega, by go_num, fun i x hi hx => ?_⟩
          by_cases e : i = j
          · subst e
            rw [HX.out] at hx
            injection hx with hx
            subst hx
            show xn ≤ 100
            omega
          · exact HALL.out i x (by omega) hx
    · have t1 : decide ((j : Int) < (nN : Int)) = false := decide_eq_false (by omega)
      have hjn : nN = j := by omega
      subst hjn
      have HAL : Hid (∀ (i : Nat) (x : Wy), ws[i]? = some x → x.n ≤ 100) := fun i x hx => HALL.out i x (by have := (List.getElem?_eq_some_iff.1 hx).1; have := HN.out.1; omega) hx
      clear HALL
      have HC15 : Hid (Calls Try.prog 15 #[.agg #[.slice aN nN cN, .slice aO nO cO]] w1 (chkP ws nN nO w1)) := check_any aN nN cN aO nO cO ws w1 (HN.out.keep HO1.out.1) (by unfold maxLen; omega) HMO.out
      by_cases hchk : ChkB ws nN nO
      · have hO : nO = nN := hchk.2.1
        have h0 : 0 < nN := hchk.1
        subst hO
        obtain ⟨bn, on, rfl, hA⟩ := HN.out.any h0
        obtain ⟨hUl, bo, oo, hU1, hU2⟩ := HU.out
        obtain ⟨rfl, _⟩ := hU1 h0
        have hnx := hA.nxt (chk_good HN.out.1 hchk) rfl
        have hOu : ∀ s, s < nO → w.cell? ⟨bo, oo + s, none⟩ = some (.int .u32 (outU U s : Int)) := fun s hs => by
          have e : U[s]? = some (U[s]'(by omega)) := List.getElem?_eq_getElem _
          rw [(hU2 s _ e).1]
          unfold outU
          rw [e]
          rfl
        obtain ⟨nc, hnc⟩ : ∃ nc, nc = lenW ws 0 := ⟨_, rfl⟩
        rw [← hnc] at hnx
        have hnc1 : nc ≤ 100 := by
          rw [hnc]
          unfold lenW
          cases e : ws[0]? with
          | none => exact Nat.zero_le _
          | some x => exact HAL.out 0 x e
        have HCK : Hid (∀ W, Only (fun _ => False) w W → Calls Try.prog 10 #[.agg #[.slice (some ⟨bn, on, none⟩) nO cN, .slice (some ⟨bo, oo, none⟩) nO cO]] W fun e w' => e = .returned (.bool true) ∧ Only (fun _ => False) W w') := fun W ho => check_true _ cO nO nc bn on cN (nxW ws) W h0 (by omega) (by omega) (hnx.keep ho)
        have HMK : Hid (∀ W, Only (fun _ => False) w W → Calls Try.prog 12 #[.agg #[.slice (some ⟨bn, on, none⟩) nO cN, .slice (some ⟨bo, oo, none⟩) nO cO]] W (mkP nO nc (nxW ws) (outU U) W)) := fun W ho => make_any nO nc bn on cN bo oo cO (nxW ws) (outU U) W h0 (by omega) (by omega) (hnx.keep ho) (fun s hs => keepC ho (hOu s hs))
        have HRL : Hid (∀ W, Only (fun _ => False) w W → Calls Try.prog 14 #[.agg #[.slice (some ⟨bn, on, none⟩) nO cN, .slice (some ⟨bo, oo, none⟩) nO cO]] W fun e w' => ∃ v rows outs r, e = .returned v ∧ Ra w' W.heap.size v rows outs ∧ Hm.Lst nO nc (nxW ws) (outU U) rows outs r ∧ Only (fun _ => False) W w') := fun W ho => refLeast_any nO nc bn on cN bo oo cO (nxW ws) (outU U) W h0 (by omega) (by omega) (hnx.keep ho) (fun s hs => keepC ho (hOu s hs))
        have HCB : Hid (ChkB ws nO nO) := hchk
        clear hnx hOu hA hUl hU1 hU2 hchk hnc
        go_wp2_with (first | (go_at_call 15; refine Calls.mono HC15.out ?_; rintro e w2 ⟨bb, rfl, hbb, ho2⟩; obtain rfl : bb = true := hbb.2 HCB.out; have HO2 : Hid (Only (fun _ => False) w w2 ∧ w2.heap[w.heap.size]? = some (.cells #[.slice (some ⟨bn, on, none⟩) nO cN, .slice (some ⟨bo, oo, none⟩) nO cO] 27 (0, 0))) := ⟨HO1.out.1.trans ho2, (ho2.block _ l0 (fun h => h)).trans HO1.out.2⟩; have f0 : w2.cell? ⟨w.heap.size, 0, none⟩ = some (.slice (some ⟨bn, on, none⟩) nO cN) := cell_blk HO2.out.2; have f1 : w2.cell? ⟨w.heap.size, 1, none⟩ = some (.slice (some ⟨bo, oo, none⟩) nO cO) := cell_blk HO2.out.2; have l2 : w.heap.size < w2.heap.size := World.block_lt_of_cell? w2 _ f0; clear ho2 hbb) | (go_at_call 12; refine Calls.mono (HMK.out w2 HO2.out.1) ?_; rintro e w3 ⟨v3, rows, outs, r, rfl, hRa, hL, ho3⟩; obtain ⟨vX, vO, rws, rfl, hq1, hq2, hq3, hq4⟩ := hRa; obtain ⟨aX, kX, rfl⟩ := own_form hq2; obtain ⟨aO', kO, rfl⟩ := own_form hq4; have H3 : Hid (Ra w3 w2.heap.size (.agg #[.slice aX rws.length kX, .slice aO' outs.length kO]) rows outs ∧ Hm.Lst nO nc (nxW ws) (outU U) rows outs r ∧ Only (fun _ => False) w w3 ∧ w3.heap[w.heap.size]? = some (.cells #[.slice (some ⟨bn, on, none⟩) nO cN, .slice (some ⟨bo, oo, none⟩) nO cO] 27 (0, 0))) := ⟨⟨_, _, rws, rfl, hq1, hq2, hq3, hq4⟩, hL, HO2.out.1.trans ho3, (ho3.block _ l2 (fun h => h)).trans HO2.out.2⟩; have l3 : w.heap.size < w3.heap.size := Nat.lt_of_lt_of_le l2 ho3.size; clear hq1 hq2 hq3 hq4 hL ho3))
        obtain ⟨Z, hZ⟩ : ∃ Z, Z = w3.alloc (.cells #[.slice aX rws.length kX, .slice aO' outs.length kO] 27) := ⟨_, rfl⟩
        rw [← hZ]
        have HZ : Hid (Only (fun _ => False) w3 Z ∧ Z.heap[w.heap.size]? = some (.cells #[.slice (some ⟨bn, on, none⟩) nO cN, .slice (some ⟨bo, oo, none⟩) nO cO] 27 (0, 0)) ∧ Z.heap[w3.heap.size]? = some (.cells #[.slice aX rws.length kX, .slice aO' outs.length kO] 27 (0, 0))) := by
          rw [hZ]
          exact ⟨(Only.refl _ _).alloc _, (Below.heap_alloc _ _ _ l3).trans H3.out.2.2.2, heap_alloc_new _ _⟩
        clear hZ
        have lz : w3.heap.size < Z.heap.size := (Array.getElem?_eq_some_iff.1 HZ.out.2.2).1
        have HKK : Hid (∀ X, Only (fun _ => False) Z X → X.cell? ⟨w.heap.size, 0, none⟩ = some (.slice (some ⟨bn, on, none⟩) nO cN) ∧ X.cell? ⟨w.heap.size, 1, none⟩ = some (.slice (some ⟨bo, oo, none⟩) nO cO) ∧ X.cell? ⟨w3.heap.size, 0, none⟩ = some (.slice aX rws.length kX) ∧ X.cell? ⟨w3.heap.size, 1, none⟩ = some (.slice aO' outs.length kO)) := fun X ho => by
          have b1 := (ho.block w.heap.size (by omega) (fun h => h)).trans HZ.out.2.1
          have b2 := (ho.block w3.heap.size lz (fun h => h)).trans HZ.out.2.2
          exact ⟨cell_blk b1, cell_blk b1, cell_blk b2, cell_blk b2⟩
        have HwZ : Hid (Only (fun _ => False) w Z) := H3.out.2.2.1.trans HZ.out.1
        have HRL1 : Hid (∀ lr : List Nat, ∀ L ∈ rows, L.length ≤ 1000) := fun _ L hL => by
          obtain ⟨i, hi⟩ := List.getElem?_of_mem hL
          have := H3.out.2.1.ok.rlen i L hi
          omega
        refine wp_region_held_drew (S := (fun X => X.cell? ⟨w.heap.size, 0, none⟩ = some (.slice (some ⟨bn, on, none⟩) nO cN) ∧ X.cell? ⟨w.heap.size, 1, none⟩ = some (.slice (some ⟨bo, oo, none⟩) nO cO) ∧ X.cell? ⟨w3.heap.size, 0, none⟩ = some (.slice aX rws.length kX) ∧ X.cell? ⟨w3.heap.size, 1, none⟩ = some (.slice aO' outs.length kO))) (by kernel_rfl) (HKK.out _ ((Only.refl (fun _ => False) Z).drew)) (fun hHeld => ?_)
        refine wpAnyH_take (i := 0) (oi := { dst := some 32, op := _, type := _, pos := _, after := _, guard := _ }) (v := .agg #[.slice (some ⟨bn, on, none⟩) nO cN, .slice (some ⟨bo, oo, none⟩) nO cO]) rfl (by kernel_rfl) (by kernel_rfl) (by kernel_rfl) (fun _ _ _ h => h) (Or.inl ⟨by rfl, fun w hSw => by obtain ⟨q0, q1, q2, q3⟩ := hSw; first | (go_simp; done) | go_simp⟩) (by assumption) ?_
        (try simp only [Act.put, List.setIfInBounds_toArray, List.set_cons_zero, List.set_cons_succ])
        refine wpAnyH_take (i := 2) (oi := { dst := some 34, op := _, type := _, pos := _, after := _, guard := _ }) (v := .bool true) rfl (by kernel_rfl) (by kernel_rfl) (by kernel_rfl) (fun _ _ _ h => h) (Or.inl ⟨by rfl, fun w hSw => by first | (go_simp; done) | go_simp⟩) (by assumption) ?_
        (try simp only [Act.put, List.setIfInBounds_toArray, List.set_cons_zero, List.set_cons_succ])
        refine wpAnyH_ready (rs := [1]) (by kernel_rfl) (by simp) ?_
        refine AllReadyH.cons rfl (fun K hK => ?_) AllReadyH.nil
        rw [if_pos (by rfl)]
        go_simp
        refine Calls.mono (HCK.out _ HwZ.out.drew) ?_
        rintro e w4 ⟨rfl, ho4⟩
        have HO4 : Hid (Only (fun _ => False) Z w4) := ((Only.refl (fun _ => False) Z).drew).trans ho4
        clear ho4
        refine hK.out _ _ (HKK.out _ HO4.out) (fun hHeld => ?_)
        clear hK
        (try simp only [Act.put, List.setIfInBounds_toArray, List.set_cons_zero, List.set_cons_succ])
        refine wpAnyH_take (i := 3) (oi := { dst := some 35, op := _, type := _, pos := _, after := _, guard := _ }) (v := .bool true) rfl (by kernel_rfl) (by kernel_rfl) (by kernel_rfl) (fun _ _ _ h => h) (Or.inl ⟨by rfl, fun w hSw => by first | (go_simp; done) | go_simp⟩) (by assumption) ?_
        (try simp only [Act.put, List.setIfInBounds_toArray, List.set_cons_zero, List.set_cons_succ])
        refine wpAnyH_take (i := 4) (oi := { dst := some 36, op := _, type := _, pos := _, after := _, guard := _ }) (v := .bool true) rfl (by kernel_rfl) (by kernel_rfl) (by kernel_rfl) (fun _ _ _ h => h) (Or.inl ⟨by rfl, fun w hSw => by first | (go_simp; done) | go_simp⟩) (by assumption) ?_
        (try simp only [Act.put, List.setIfInBounds_toArray, List.set_cons_zero, List.set_cons_succ])
        refine wpAnyH_take (i := 5) (oi := { dst := some 37, op := _, type := _, pos := _, after := _, guard := _ }) (v := .int .i64 0) rfl (by kernel_rfl) (by kernel_rfl) (by kernel_rfl) (fun _ _ _ h => h) (Or.inl ⟨by rfl, fun w hSw => by first | (go_simp; done) | go_simp⟩) (by assumption) ?_
        (try simp only [Act.put, List.setIfInBounds_toArray, List.set_cons_zero, List.set_cons_succ])
        refine wpAnyH_take (i := 6) (oi := { dst := some 38, op := _, type := _, pos := _, after := _, guard := _ }) (v := .bool true) rfl (by kernel_rfl) (by kernel_rfl) (by kernel_rfl) (fun _ _ _ h => h) (Or.inl ⟨by rfl, fun w hSw => by first | (go_simp; done) | go_simp⟩) (by assumption) ?_
        (try simp only [Act.put, List.setIfInBounds_toArray, List.set_cons_zero, List.set_cons_succ])
        refine wpAnyH_take (i := 7) (oi := { dst := some 39, op := _, type := _, pos := _, after := _, guard := _ }) (v := .bool true) rfl (by kernel_rfl) (by kernel_rfl) (by kernel_rfl) (fun _ _ _ h => h) (Or.inl ⟨by rfl, fun w hSw => by first | (go_simp; done) | go_simp⟩) (by assumption) ?_
        (try simp only [Act.put, List.setIfInBounds_toArray, List.set_cons_zero, List.set_cons_succ])
        refine wpAnyH_take (i := 8) (oi := { dst := some 40, op := _, type := _, pos := _, after := _, guard := _ }) (v := .bool true) rfl (by kernel_rfl) (by kernel_rfl) (by kernel_rfl) (fun _ _ _ h => h) (Or.inl ⟨by rfl, fun w hSw => by first | (go_simp; done) | go_simp⟩) (by assumption) ?_
        (try simp only [Act.put, List.setIfInBounds_toArray, List.set_cons_zero, List.set_cons_succ])
        refine wpAnyH_take (i := 9) (oi := { dst := some 41, op := _, type := _, pos := _, after := _, guard := _ }) (v := .bool true) rfl (by kernel_rfl) (by kernel_rfl) (by kernel_rfl) (fun _ _ _ h => h) (Or.inl ⟨by rfl, fun w hSw => by first | (go_simp; done) | go_simp⟩) (by assumption) ?_
        (try simp only [Act.put, List.setIfInBounds_toArray, List.set_cons_zero, List.set_cons_succ])
        refine wpAnyH_take (i := 10) (oi := { dst := some 42, op := _, type := _, pos := _, after := _, guard := _ }) (v := .bool true) rfl (by kernel_rfl) (by kernel_rfl) (by kernel_rfl) (fun _ _ _ h => h) (Or.inl ⟨by rfl, fun w hSw => by first | (go_simp; done) | go_simp⟩) (by assumption) ?_
        (try simp only [Act.put, List.setIfInBounds_toArray, List.set_cons_zero, List.set_cons_succ])
        refine wpAnyH_take (i := 11) (oi := { dst := some 43, op := _, type := _, pos := _, after := _, guard := _ }) (v := .bool true) rfl (by kernel_rfl) (by kernel_rfl) (by kernel_rfl) (fun _ _ _ h => h) (Or.inl ⟨by rfl, fun w hSw => by first | (go_simp; done) | go_simp⟩) (by assumption) ?_
        (try simp only [Act.put, List.setIfInBounds_toArray, List.set_cons_zero, List.set_cons_succ])
        refine wpAnyH_take (i := 12) (oi := { dst := some 44, op := _, type := _, pos := _, after := _, guard := _ }) (v := .bool true) rfl (by kernel_rfl) (by kernel_rfl) (by kernel_rfl) (fun _ _ _ h => h) (Or.inl ⟨by rfl, fun w hSw => by first | (go_simp; done) | go_simp⟩) (by assumption) ?_
        (try simp only [Act.put, List.setIfInBounds_toArray, List.set_cons_zero, List.set_cons_succ])
        refine wpAnyH_take (i := 13) (oi := { dst := some 45, op := _, type := _, pos := _, after := _, guard := _ }) (v := undef) rfl (by kernel_rfl) (by kernel_rfl) (by kernel_rfl) (fun _ _ _ h => h) (Or.inr ⟨by rfl, rfl⟩) (by assumption) ?_
        (try simp only [Act.put, List.setIfInBounds_toArray, List.set_cons_zero, List.set_cons_succ])
        refine wpAnyH_take (i := 14) (oi := { dst := some 46, op := _, type := _, pos := _, after := _, guard := _ }) (v := undef) rfl (by kernel_rfl) (by kernel_rfl) (by kernel_rfl) (fun _ _ _ h => h) (Or.inr ⟨by rfl, rfl⟩) (by assumption) ?_
        (try simp only [Act.put, List.setIfInBounds_toArray, List.set_cons_zero, List.set_cons_succ])
        refine wpAnyH_take (i := 15) (oi := { dst := some 47, op := _, type := _, pos := _, after := _, guard := _ }) (v := undef) rfl (by kernel_rfl) (by kernel_rfl) (by kernel_rfl) (fun _ _ _ h => h) (Or.inr ⟨by rfl, rfl⟩) (by assumption) ?_
        (try simp only [Act.put, List.setIfInBounds_toArray, List.set_cons_zero, List.set_cons_succ])
        refine wpAnyH_take (i := 16) (oi := { dst := some 48, op := _, type := _, pos := _, after := _, guard := _ }) (v := undef) rfl (by kernel_rfl) (by kernel_rfl) (by kernel_rfl) (fun _ _ _ h => h) (Or.inr ⟨by rfl, rfl⟩) (by assumption) ?_
        (try simp only [Act.put, List.setIfInBounds_toArray, List.set_cons_zero, List.set_cons_succ])
        refine wpAnyH_take (i := 17) (oi := { dst := some 49, op := _, type := _, pos := _, after := _, guard := _ }) (v := undef) rfl (by kernel_rfl) (by kernel_rfl) (by kernel_rfl) (fun _ _ _ h => h) (Or.inr ⟨by rfl, rfl⟩) (by assumption) ?_
        (try simp only [Act.put, List.setIfInBounds_toArray, List.set_cons_zero, List.set_cons_succ])
        refine wpAnyH_take (i := 18) (oi := { dst := some 50, op := _, type := _, pos := _, after := _, guard := _ }) (v := undef) rfl (by kernel_rfl) (by kernel_rfl) (by kernel_rfl) (fun _ _ _ h => h) (Or.inr ⟨by rfl, rfl⟩) (by assumption) ?_
        (try simp only [Act.put, List.setIfInBounds_toArray, List.set_cons_zero, List.set_cons_succ])
        refine wpAnyH_take (i := 19) (oi := { dst := some 51, op := _, type := _, pos := _, after := _, guard := _ }) (v := undef) rfl (by kernel_rfl) (by kernel_rfl) (by kernel_rfl) (fun _ _ _ h => h) (Or.inr ⟨by rfl, rfl⟩) (by assumption) ?_
        (try simp only [Act.put, List.setIfInBounds_toArray, List.set_cons_zero, List.set_cons_succ])
        refine wpAnyH_take (i := 20) (oi := { dst := some 52, op := _, type := _, pos := _, after := _, guard := _ }) (v := undef) rfl (by kernel_rfl) (by kernel_rfl) (by kernel_rfl) (fun _ _ _ h => h) (Or.inr ⟨by rfl, rfl⟩) (by assumption) ?_
        (try simp only [Act.put, List.setIfInBounds_toArray, List.set_cons_zero, List.set_cons_succ])
        refine wpAnyH_take (i := 21) (oi := { dst := some 53, op := _, type := _, pos := _, after := _, guard := _ }) (v := .bool true) rfl (by kernel_rfl) (by kernel_rfl) (by kernel_rfl) (fun _ _ _ h => h) (Or.inl ⟨by rfl, fun w hSw => by first | (go_simp; done) | go_simp⟩) (by assumption) ?_
        (try simp only [Act.put, List.setIfInBounds_toArray, List.set_cons_zero, List.set_cons_succ])
        refine wpAnyH_take (i := 22) (oi := { dst := some 54, op := _, type := _, pos := _, after := _, guard := _ }) (v := .bool true) rfl (by kernel_rfl) (by kernel_rfl) (by kernel_rfl) (fun _ _ _ h => h) (Or.inl ⟨by rfl, fun w hSw => by first | (go_simp; done) | go_simp⟩) (by assumption) ?_
        (try simp only [Act.put, List.setIfInBounds_toArray, List.set_cons_zero, List.set_cons_succ])
        refine wpAnyH_take (i := 23) (oi := { dst := some 55, op := _, type := _, pos := _, after := _, guard := _ }) (v := .bool true) rfl (by kernel_rfl) (by kernel_rfl) (by kernel_rfl) (fun _ _ _ h => h) (Or.inl ⟨by rfl, fun w hSw => by first | (go_simp; done) | go_simp⟩) (by assumption) ?_
        (try simp only [Act.put, List.setIfInBounds_toArray, List.set_cons_zero, List.set_cons_succ])
        refine wpAnyH_take (i := 24) (oi := { dst := some 56, op := _, type := _, pos := _, after := _, guard := _ }) (v := .bool true) rfl (by kernel_rfl) (by kernel_rfl) (by kernel_rfl) (fun _ _ _ h => h) (Or.inl ⟨by rfl, fun w hSw => by first | (go_simp; done) | go_simp⟩) (by assumption) ?_
        (try simp only [Act.put, List.setIfInBounds_toArray, List.set_cons_zero, List.set_cons_succ])
        refine wpAnyH_take (i := 25) (oi := { dst := some 57, op := _, type := _, pos := _, after := _, guard := _ }) (v := .bool false) rfl (by kernel_rfl) (by kernel_rfl) (by kernel_rfl) (fun _ _ _ h => h) (Or.inl ⟨by rfl, fun w hSw => by first | (go_simp; done) | go_simp⟩) (by assumption) ?_
        (try simp only [Act.put, List.setIfInBounds_toArray, List.set_cons_zero, List.set_cons_succ])
        refine wpAnyH_take (i := 26) (oi := { dst := some 58, op := _, type := _, pos := _, after := _, guard := _ }) (v := .bool false) rfl (by kernel_rfl) (by kernel_rfl) (by kernel_rfl) (fun _ _ _ h => h) (Or.inl ⟨by rfl, fun w hSw => by first | (go_simp; done) | go_simp⟩) (by assumption) ?_
        (try simp only [Act.put, List.setIfInBounds_toArray, List.set_cons_zero, List.set_cons_succ])
        refine wpAnyH_take (i := 27) (oi := { dst := some 59, op := _, type := _, pos := _, after := _, guard := _ }) (v := .agg #[.slice aX rws.length kX, .slice aO' outs.length kO]) rfl (by kernel_rfl) (by kernel_rfl) (by kernel_rfl) (fun _ _ _ h => h) (Or.inl ⟨by rfl, fun w hSw => by obtain ⟨q0, q1, q2, q3⟩ := hSw; first | (go_simp; done) | go_simp⟩) (by assumption) ?_
        (try simp only [Act.put, List.setIfInBounds_toArray, List.set_cons_zero, List.set_cons_succ])
        refine wpAnyH_take (i := 28) (oi := { dst := some 60, op := _, type := _, pos := _, after := _, guard := _ }) (v := .agg #[.slice (some ⟨bn, on, none⟩) nO cN, .slice (some ⟨bo, oo, none⟩) nO cO]) rfl (by kernel_rfl) (by kernel_rfl) (by kernel_rfl) (fun _ _ _ h => h) (Or.inl ⟨by rfl, fun w hSw => by obtain ⟨q0, q1, q2, q3⟩ := hSw; first | (go_simp; done) | go_simp⟩) (by assumption) ?_
        (try simp only [Act.put, List.setIfInBounds_toArray, List.set_cons_zero, List.set_cons_succ])
        refine wpAnyH_ready (rs := [29]) (by kernel_rfl) (by simp) ?_
        refine AllReadyH.cons rfl (fun K hK => ?_) AllReadyH.nil
        rw [if_pos (by rfl)]
        go_simp
        refine Calls.mono (HRL.out w4 (HwZ.out.trans HO4.out)) ?_
        rintro e w5 ⟨v5, rows5, outs5, r5, rfl, hRa5, hL5, ho5⟩
        obtain ⟨e5, e6⟩ := Hm.lst_one hL5 H3.out.2.1 (Hm.Eqx.refl 0)
        rw [e5, e6] at hRa5
        clear e5 e6
        have HO5 : Hid (Only (fun _ => False) Z w5) := HO4.out.trans ho5
        have H5 : Hid (Ra w5 w4.heap.size v5 rows outs) := hRa5
        clear hRa5 hL5 ho5
        refine hK.out _ _ (HKK.out _ HO5.out) (fun hHeld => ?_)
        clear hK
        (try simp only [Act.put, List.setIfInBounds_toArray, List.set_cons_zero, List.set_cons_succ])
        refine wpAnyH_ready (rs := [30]) (by kernel_rfl) (by simp) ?_
        refine AllReadyH.cons rfl (fun K hK => ?_) AllReadyH.nil
        rw [if_pos (by rfl)]
        go_simp
        refine Calls.mono (same_auto w2.heap.size _ _ _ rows outs _ (H3.out.1.keep (HZ.out.1.trans HO5.out)) H5.out (HRL1.out [])) ?_
        rintro e w6 ⟨rfl, ho6⟩
        have HO6 : Hid (Only (fun _ => False) Z w6) := HO5.out.trans ho6
        clear ho6
        refine hK.out _ _ (HKK.out _ HO6.out) (fun hHeld => ?_)
        clear hK
        (try simp only [Act.put, List.setIfInBounds_toArray, List.set_cons_zero, List.set_cons_succ])
        refine wpAnyH_take (i := 31) (oi := { dst := some 63, op := _, type := _, pos := _, after := _, guard := _ }) (v := .bool true) rfl (by kernel_rfl) (by kernel_rfl) (by kernel_rfl) (fun _ _ _ h => h) (Or.inl ⟨by rfl, fun w hSw => by first | (go_simp; done) | go_simp⟩) (by assumption) ?_
        (try simp only [Act.put, List.setIfInBounds_toArray, List.set_cons_zero, List.set_cons_succ])
        refine wpAnyH_take (i := 32) (oi := { dst := some 64, op := _, type := _, pos := _, after := _, guard := _ }) (v := .bool true) rfl (by kernel_rfl) (by kernel_rfl) (by kernel_rfl) (fun _ _ _ h => h) (Or.inl ⟨by rfl, fun w hSw => by first | (go_simp; done) | go_simp⟩) (by assumption) ?_
        (try simp only [Act.put, List.setIfInBounds_toArray, List.set_cons_zero, List.set_cons_succ])
        refine wpAnyH_take (i := 33) (oi := { dst := some 2, op := _, type := _, pos := _, after := _, guard := _ }) (v := .bool true) rfl (by kernel_rfl) (by kernel_rfl) (by kernel_rfl) (fun _ _ _ h => h) (Or.inl ⟨by rfl, fun w hSw => by first | (go_simp; done) | go_simp⟩) (by assumption) ?_
        (try simp only [Act.put, List.setIfInBounds_toArray, List.set_cons_zero, List.set_cons_succ])
        refine wpAnyH_done (by kernel_rfl) ?_ _
        clear hHeld
        go_wp2_with fail
        go_ret
        exact ⟨rfl, HwZ.out.trans HO6.out⟩
      · have HCK : Hid (∀ W, Only (fun _ => False) w W → Calls Try.prog 10 #[.agg #[.slice aN nN cN, .slice aO nO cO]] W fun e w' => e = .returned (.bool false) ∧ Only (fun _ => False) W w') := fun W ho => check_no aN nN cN aO nO cO ws W (HN.out.keep ho) hw HAL.out hchk
        have HCB : Hid (¬ ChkB ws nN nO) := hchk
        clear hchk
        go_wp2_with (first | (go_at_call 15; refine Calls.mono HC15.out ?_; rintro e w2 ⟨bb, rfl, hbb, ho2⟩; obtain rfl : bb = false := (by cases bb with | false => rfl | true => exact absurd (hbb.1 rfl) HCB.out); have HO2 : Hid (Only (fun _ => False) w w2 ∧ w2.heap[w.heap.size]? = some (.cells #[.slice aN nN cN, .slice aO nO cO] 27 (0, 0))) := ⟨HO1.out.1.trans ho2, (ho2.block _ l0 (fun h => h)).trans HO1.out.2⟩; have f0 : w2.cell? ⟨w.heap.size, 0, none⟩ = some (.slice aN nN cN) := cell_blk HO2.out.2; have f1 : w2.cell? ⟨w.heap.size, 1, none⟩ = some (.slice aO nO cO) := cell_blk HO2.out.2; have l2 : w.heap.size < w2.heap.size := World.block_lt_of_cell? w2 _ f0; clear ho2 hbb) | (go_at_call 12; refine Calls.mono (make_bad aN aO nN cN nO cO w2 (fun W ho => HCK.out W (HO2.out.1.trans ho))) ?_; rintro e w3 ⟨rfl, ho3⟩; have H3 : Hid (Only (fun _ => False) w w3 ∧ w3.heap[w.heap.size]? = some (.cells #[.slice aN nN cN, .slice aO nO cO] 27 (0, 0))) := ⟨HO2.out.1.trans ho3, (ho3.block _ l2 (fun h => h)).trans HO2.out.2⟩; have l3 : w.heap.size < w3.heap.size := Nat.lt_of_lt_of_le l2 ho3.size; clear ho3))
        obtain ⟨Z, hZ⟩ : ∃ Z, Z = w3.alloc (.cells #[.slice none 0 0, .slice none 0 0] 27) := ⟨_, rfl⟩
        rw [← hZ]
        have HZ : Hid (Only (fun _ => False) w3 Z ∧ Z.heap[w.heap.size]? = some (.cells #[.slice aN nN cN, .slice aO nO cO] 27 (0, 0)) ∧ Z.heap[w3.heap.size]? = some (.cells #[.slice none 0 0, .slice none 0 0] 27 (0, 0))) := by
          rw [hZ]
          exact ⟨(Only.refl _ _).alloc _, (Below.heap_alloc _ _ _ l3).trans H3.out.2, heap_alloc_new _ _⟩
        clear hZ
        have lz : w3.heap.size < Z.heap.size := (Array.getElem?_eq_some_iff.1 HZ.out.2.2).1
        have HKK : Hid (∀ X, Only (fun _ => False) Z X → X.cell? ⟨w.heap.size, 0, none⟩ = some (.slice aN nN cN) ∧ X.cell? ⟨w.heap.size, 1, none⟩ = some (.slice aO nO cO) ∧ X.cell? ⟨w3.heap.size, 0, none⟩ = some (.slice none 0 0) ∧ X.cell? ⟨w3.heap.size, 1, none⟩ = some (.slice none 0 0)) := fun X ho => by
          have b1 := (ho.block w.heap.size (by omega) (fun h => h)).trans HZ.out.2.1
          have b2 := (ho.block w3.heap.size lz (fun h => h)).trans HZ.out.2.2
          exact ⟨cell_blk b1, cell_blk b1, cell_blk b2, cell_blk b2⟩
        have HwZ : Hid (Only (fun _ => False) w Z) := H3.out.1.trans HZ.out.1
        refine wp_region_held_drew (S := (fun X => X.cell? ⟨w.heap.size, 0, none⟩ = some (.slice aN nN cN) ∧ X.cell? ⟨w.heap.size, 1, none⟩ = some (.slice aO nO cO) ∧ X.cell? ⟨w3.heap.size, 0, none⟩ = some (.slice none 0 0) ∧ X.cell? ⟨w3.heap.size, 1, none⟩ = some (.slice none 0 0))) (by kernel_rfl) (HKK.out _ ((Only.refl (fun _ => False) Z).drew)) (fun hHeld => ?_)
        refine wpAnyH_take (i := 0) (oi := { dst := some 32, op := _, type := _, pos := _, after := _, guard := _ }) (v := .agg #[.slice aN nN cN, .slice aO nO cO]) rfl (by kernel_rfl) (by kernel_rfl) (by kernel_rfl) (fun _ _ _ h => h) (Or.inl ⟨by rfl, fun w hSw => by obtain ⟨q0, q1, q2, q3⟩ := hSw; first | (go_simp; done) | go_simp⟩) (by assumption) ?_
        (try simp only [Act.put, List.setIfInBounds_toArray, List.set_cons_zero, List.set_cons_succ])
        refine wpAnyH_take (i := 2) (oi := { dst := some 34, op := _, type := _, pos := _, after := _, guard := _ }) (v := .bool false) rfl (by kernel_rfl) (by kernel_rfl) (by kernel_rfl) (fun _ _ _ h => h) (Or.inl ⟨by rfl, fun w hSw => by first | (go_simp; done) | go_simp⟩) (by assumption) ?_
        (try simp only [Act.put, List.setIfInBounds_toArray, List.set_cons_zero, List.set_cons_succ])
        refine wpAnyH_ready (rs := [1]) (by kernel_rfl) (by simp) ?_
        refine AllReadyH.cons rfl (fun K hK => ?_) AllReadyH.nil
        rw [if_pos (by rfl)]
        go_simp
        refine Calls.mono (HCK.out _ HwZ.out.drew) ?_
        rintro e w4 ⟨rfl, ho4⟩
        have HO4 : Hid (Only (fun _ => False) Z w4) := ((Only.refl (fun _ => False) Z).drew).trans ho4
        clear ho4
        refine hK.out _ _ (HKK.out _ HO4.out) (fun hHeld => ?_)
        clear hK
        (try simp only [Act.put, List.setIfInBounds_toArray, List.set_cons_zero, List.set_cons_succ])
        refine wpAnyH_take (i := 3) (oi := { dst := some 35, op := _, type := _, pos := _, after := _, guard := _ }) (v := .bool true) rfl (by kernel_rfl) (by kernel_rfl) (by kernel_rfl) (fun _ _ _ h => h) (Or.inl ⟨by rfl, fun w hSw => by first | (go_simp; done) | go_simp⟩) (by assumption) ?_
        (try simp only [Act.put, List.setIfInBounds_toArray, List.set_cons_zero, List.set_cons_succ])
        refine wpAnyH_take (i := 4) (oi := { dst := some 36, op := _, type := _, pos := _, after := _, guard := _ }) (v := .bool true) rfl (by kernel_rfl) (by kernel_rfl) (by kernel_rfl) (fun _ _ _ h => h) (Or.inl ⟨by rfl, fun w hSw => by first | (go_simp; done) | go_simp⟩) (by assumption) ?_
        (try simp only [Act.put, List.setIfInBounds_toArray, List.set_cons_zero, List.set_cons_succ])
        refine wpAnyH_take (i := 5) (oi := { dst := some 37, op := _, type := _, pos := _, after := _, guard := _ }) (v := .int .i64 2) rfl (by kernel_rfl) (by kernel_rfl) (by kernel_rfl) (fun _ _ _ h => h) (Or.inl ⟨by rfl, fun w hSw => by first | (go_simp; done) | go_simp⟩) (by assumption) ?_
        (try simp only [Act.put, List.setIfInBounds_toArray, List.set_cons_zero, List.set_cons_succ])
        refine wpAnyH_take (i := 6) (oi := { dst := some 38, op := _, type := _, pos := _, after := _, guard := _ }) (v := .bool false) rfl (by kernel_rfl) (by kernel_rfl) (by kernel_rfl) (fun _ _ _ h => h) (Or.inl ⟨by rfl, fun w hSw => by first | (go_simp; done) | go_simp⟩) (by assumption) ?_
        (try simp only [Act.put, List.setIfInBounds_toArray, List.set_cons_zero, List.set_cons_succ])
        refine wpAnyH_take (i := 7) (oi := { dst := some 39, op := _, type := _, pos := _, after := _, guard := _ }) (v := .bool false) rfl (by kernel_rfl) (by kernel_rfl) (by kernel_rfl) (fun _ _ _ h => h) (Or.inl ⟨by rfl, fun w hSw => by first | (go_simp; done) | go_simp⟩) (by assumption) ?_
        (try simp only [Act.put, List.setIfInBounds_toArray, List.set_cons_zero, List.set_cons_succ])
        refine wpAnyH_take (i := 8) (oi := { dst := some 40, op := _, type := _, pos := _, after := _, guard := _ }) (v := .bool true) rfl (by kernel_rfl) (by kernel_rfl) (by kernel_rfl) (fun _ _ _ h => h) (Or.inl ⟨by rfl, fun w hSw => by first | (go_simp; done) | go_simp⟩) (by assumption) ?_
        (try simp only [Act.put, List.setIfInBounds_toArray, List.set_cons_zero, List.set_cons_succ])
        refine wpAnyH_take (i := 9) (oi := { dst := some 41, op := _, type := _, pos := _, after := _, guard := _ }) (v := .bool true) rfl (by kernel_rfl) (by kernel_rfl) (by kernel_rfl) (fun _ _ _ h => h) (Or.inl ⟨by rfl, fun w hSw => by first | (go_simp; done) | go_simp⟩) (by assumption) ?_
        (try simp only [Act.put, List.setIfInBounds_toArray, List.set_cons_zero, List.set_cons_succ])
        refine wpAnyH_take (i := 10) (oi := { dst := some 42, op := _, type := _, pos := _, after := _, guard := _ }) (v := .bool true) rfl (by kernel_rfl) (by kernel_rfl) (by kernel_rfl) (fun _ _ _ h => h) (Or.inl ⟨by rfl, fun w hSw => by first | (go_simp; done) | go_simp⟩) (by assumption) ?_
        (try simp only [Act.put, List.setIfInBounds_toArray, List.set_cons_zero, List.set_cons_succ])
        refine wpAnyH_take (i := 11) (oi := { dst := some 43, op := _, type := _, pos := _, after := _, guard := _ }) (v := .bool false) rfl (by kernel_rfl) (by kernel_rfl) (by kernel_rfl) (fun _ _ _ h => h) (Or.inl ⟨by rfl, fun w hSw => by first | (go_simp; done) | go_simp⟩) (by assumption) ?_
        (try simp only [Act.put, List.setIfInBounds_toArray, List.set_cons_zero, List.set_cons_succ])
        refine wpAnyH_take (i := 12) (oi := { dst := some 44, op := _, type := _, pos := _, after := _, guard := _ }) (v := .bool false) rfl (by kernel_rfl) (by kernel_rfl) (by kernel_rfl) (fun _ _ _ h => h) (Or.inl ⟨by rfl, fun w hSw => by first | (go_simp; done) | go_simp⟩) (by assumption) ?_
        (try simp only [Act.put, List.setIfInBounds_toArray, List.set_cons_zero, List.set_cons_succ])
        refine wpAnyH_take (i := 13) (oi := { dst := some 45, op := _, type := _, pos := _, after := _, guard := _ }) (v := .int .i64 2) rfl (by kernel_rfl) (by kernel_rfl) (by kernel_rfl) (fun _ _ _ h => h) (Or.inl ⟨by rfl, fun w hSw => by first | (go_simp; done) | go_simp⟩) (by assumption) ?_
        (try simp only [Act.put, List.setIfInBounds_toArray, List.set_cons_zero, List.set_cons_succ])
        refine wpAnyH_take (i := 14) (oi := { dst := some 46, op := _, type := _, pos := _, after := _, guard := _ }) (v := .bool true) rfl (by kernel_rfl) (by kernel_rfl) (by kernel_rfl) (fun _ _ _ h => h) (Or.inl ⟨by rfl, fun w hSw => by first | (go_simp; done) | go_simp⟩) (by assumption) ?_
        (try simp only [Act.put, List.setIfInBounds_toArray, List.set_cons_zero, List.set_cons_succ])
        refine wpAnyH_take (i := 15) (oi := { dst := some 47, op := _, type := _, pos := _, after := _, guard := _ }) (v := .bool true) rfl (by kernel_rfl) (by kernel_rfl) (by kernel_rfl) (fun _ _ _ h => h) (Or.inl ⟨by rfl, fun w hSw => by first | (go_simp; done) | go_simp⟩) (by assumption) ?_
        (try simp only [Act.put, List.setIfInBounds_toArray, List.set_cons_zero, List.set_cons_succ])
        refine wpAnyH_take (i := 16) (oi := { dst := some 48, op := _, type := _, pos := _, after := _, guard := _ }) (v := .pointer (some ⟨w3.heap.size, 0, none⟩)) rfl (by kernel_rfl) (by kernel_rfl) (by kernel_rfl) (fun _ _ _ h => h) (Or.inl ⟨by rfl, fun w hSw => by first | (go_simp; done) | go_simp⟩) (by assumption) ?_
        (try simp only [Act.put, List.setIfInBounds_toArray, List.set_cons_zero, List.set_cons_succ])
        refine wpAnyH_take (i := 17) (oi := { dst := some 49, op := _, type := _, pos := _, after := _, guard := _ }) (v := .slice none 0 0) rfl (by kernel_rfl) (by kernel_rfl) (by kernel_rfl) (fun _ _ _ h => h) (Or.inl ⟨by rfl, fun w hSw => by obtain ⟨q0, q1, q2, q3⟩ := hSw; first | (go_simp; done) | go_simp⟩) (by assumption) ?_
        (try simp only [Act.put, List.setIfInBounds_toArray, List.set_cons_zero, List.set_cons_succ])
        refine wpAnyH_take (i := 18) (oi := { dst := some 50, op := _, type := _, pos := _, after := _, guard := _ }) (v := .int .i64 0) rfl (by kernel_rfl) (by kernel_rfl) (by kernel_rfl) (fun _ _ _ h => h) (Or.inl ⟨by rfl, fun w hSw => by first | (go_simp; done) | go_simp⟩) (by assumption) ?_
        (try simp only [Act.put, List.setIfInBounds_toArray, List.set_cons_zero, List.set_cons_succ])
        refine wpAnyH_take (i := 19) (oi := { dst := some 51, op := _, type := _, pos := _, after := _, guard := _ }) (v := .bool true) rfl (by kernel_rfl) (by kernel_rfl) (by kernel_rfl) (fun _ _ _ h => h) (Or.inl ⟨by rfl, fun w hSw => by first | (go_simp; done) | go_simp⟩) (by assumption) ?_
        (try simp only [Act.put, List.setIfInBounds_toArray, List.set_cons_zero, List.set_cons_succ])
        refine wpAnyH_take (i := 20) (oi := { dst := some 52, op := _, type := _, pos := _, after := _, guard := _ }) (v := .bool true) rfl (by kernel_rfl) (by kernel_rfl) (by kernel_rfl) (fun _ _ _ h => h) (Or.inl ⟨by rfl, fun w hSw => by first | (go_simp; done) | go_simp⟩) (by assumption) ?_
        (try simp only [Act.put, List.setIfInBounds_toArray, List.set_cons_zero, List.set_cons_succ])
        refine wpAnyH_take (i := 21) (oi := { dst := some 53, op := _, type := _, pos := _, after := _, guard := _ }) (v := .bool true) rfl (by kernel_rfl) (by kernel_rfl) (by kernel_rfl) (fun _ _ _ h => h) (Or.inl ⟨by rfl, fun w hSw => by first | (go_simp; done) | go_simp⟩) (by assumption) ?_
        (try simp only [Act.put, List.setIfInBounds_toArray, List.set_cons_zero, List.set_cons_succ])
        refine wpAnyH_take (i := 22) (oi := { dst := some 54, op := _, type := _, pos := _, after := _, guard := _ }) (v := .bool true) rfl (by kernel_rfl) (by kernel_rfl) (by kernel_rfl) (fun _ _ _ h => h) (Or.inl ⟨by rfl, fun w hSw => by first | (go_simp; done) | go_simp⟩) (by assumption) ?_
        (try simp only [Act.put, List.setIfInBounds_toArray, List.set_cons_zero, List.set_cons_succ])
        refine wpAnyH_take (i := 23) (oi := { dst := some 55, op := _, type := _, pos := _, after := _, guard := _ }) (v := .bool true) rfl (by kernel_rfl) (by kernel_rfl) (by kernel_rfl) (fun _ _ _ h => h) (Or.inl ⟨by rfl, fun w hSw => by first | (go_simp; done) | go_simp⟩) (by assumption) ?_
        (try simp only [Act.put, List.setIfInBounds_toArray, List.set_cons_zero, List.set_cons_succ])
        refine wpAnyH_take (i := 24) (oi := { dst := some 56, op := _, type := _, pos := _, after := _, guard := _ }) (v := .bool false) rfl (by kernel_rfl) (by kernel_rfl) (by kernel_rfl) (fun _ _ _ h => h) (Or.inl ⟨by rfl, fun w hSw => by first | (go_simp; done) | go_simp⟩) (by assumption) ?_
        (try simp only [Act.put, List.setIfInBounds_toArray, List.set_cons_zero, List.set_cons_succ])
        refine wpAnyH_take (i := 25) (oi := { dst := some 57, op := _, type := _, pos := _, after := _, guard := _ }) (v := .bool true) rfl (by kernel_rfl) (by kernel_rfl) (by kernel_rfl) (fun _ _ _ h => h) (Or.inl ⟨by rfl, fun w hSw => by first | (go_simp; done) | go_simp⟩) (by assumption) ?_
        (try simp only [Act.put, List.setIfInBounds_toArray, List.set_cons_zero, List.set_cons_succ])
        refine wpAnyH_take (i := 26) (oi := { dst := some 58, op := _, type := _, pos := _, after := _, guard := _ }) (v := .bool true) rfl (by kernel_rfl) (by kernel_rfl) (by kernel_rfl) (fun _ _ _ h => h) (Or.inl ⟨by rfl, fun w hSw => by first | (go_simp; done) | go_simp⟩) (by assumption) ?_
        (try simp only [Act.put, List.setIfInBounds_toArray, List.set_cons_zero, List.set_cons_succ])
        refine wpAnyH_take (i := 27) (oi := { dst := some 59, op := _, type := _, pos := _, after := _, guard := _ }) (v := undef) rfl (by kernel_rfl) (by kernel_rfl) (by kernel_rfl) (fun _ _ _ h => h) (Or.inr ⟨by rfl, rfl⟩) (by assumption) ?_
        (try simp only [Act.put, List.setIfInBounds_toArray, List.set_cons_zero, List.set_cons_succ])
        refine wpAnyH_take (i := 28) (oi := { dst := some 60, op := _, type := _, pos := _, after := _, guard := _ }) (v := undef) rfl (by kernel_rfl) (by kernel_rfl) (by kernel_rfl) (fun _ _ _ h => h) (Or.inr ⟨by rfl, rfl⟩) (by assumption) ?_
        (try simp only [Act.put, List.setIfInBounds_toArray, List.set_cons_zero, List.set_cons_succ])
        refine wpAnyH_take (i := 29) (oi := { dst := some 61, op := _, type := _, pos := _, after := _, guard := _ }) (v := undef) rfl (by kernel_rfl) (by kernel_rfl) (by kernel_rfl) (fun _ _ _ h => h) (Or.inr ⟨by rfl, rfl⟩) (by assumption) ?_
        (try simp only [Act.put, List.setIfInBounds_toArray, List.set_cons_zero, List.set_cons_succ])
        refine wpAnyH_take (i := 30) (oi := { dst := some 62, op := _, type := _, pos := _, after := _, guard := _ }) (v := undef) rfl (by kernel_rfl) (by kernel_rfl) (by kernel_rfl) (fun _ _ _ h => h) (Or.inr ⟨by rfl, rfl⟩) (by assumption) ?_
        (try simp only [Act.put, List.setIfInBounds_toArray, List.set_cons_zero, List.set_cons_succ])
        refine wpAnyH_take (i := 31) (oi := { dst := some 63, op := _, type := _, pos := _, after := _, guard := _ }) (v := .bool true) rfl (by kernel_rfl) (by kernel_rfl) (by kernel_rfl) (fun _ _ _ h => h) (Or.inl ⟨by rfl, fun w hSw => by first | (go_simp; done) | go_simp⟩) (by assumption) ?_
        (try simp only [Act.put, List.setIfInBounds_toArray, List.set_cons_zero, List.set_cons_succ])
        refine wpAnyH_take (i := 32) (oi := { dst := some 64, op := _, type := _, pos := _, after := _, guard := _ }) (v := .bool true) rfl (by kernel_rfl) (by kernel_rfl) (by kernel_rfl) (fun _ _ _ h => h) (Or.inl ⟨by rfl, fun w hSw => by first | (go_simp; done) | go_simp⟩) (by assumption) ?_
        (try simp only [Act.put, List.setIfInBounds_toArray, List.set_cons_zero, List.set_cons_succ])
        refine wpAnyH_take (i := 33) (oi := { dst := some 2, op := _, type := _, pos := _, after := _, guard := _ }) (v := .bool true) rfl (by kernel_rfl) (by kernel_rfl) (by kernel_rfl) (fun _ _ _ h => h) (Or.inl ⟨by rfl, fun w hSw => by first | (go_simp; done) | go_simp⟩) (by assumption) ?_
        (try simp only [Act.put, List.setIfInBounds_toArray, List.set_cons_zero, List.set_cons_succ])
        refine wpAnyH_done (by kernel_rfl) ?_ _
        clear hHeld
        go_wp2_with fail
        go_ret
        exact ⟨rfl, HwZ.out.trans HO4.out⟩
end Go.Proofs.Ytelifjeppegcmaa
