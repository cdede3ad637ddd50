/-
  stanzalaw11.ItemsMakes: its walk.
-/
import Derived.Test.YtlcpfheocenjfaaAw1
import Derived.Test.YtlcpfheocenjfaaRm
import Derived.Test.YtlcpfheocenjfaaSp
import Derived.Test.YtlcpfheocenjfaaWs
import Derived.Test.YtlcpfheocenjfaaAl
import Derived.Test.YtlcpfheocenjfaaCm0
namespace Go.Proofs.Ytlcpfheocenjfaa.itemsMakes
open Go.RowKit Go.Maps
set_option linter.unusedVariables false
set_option linter.unusedSimpArgs false
set_option maxRecDepth 100000 in
set_option maxHeartbeats 8000000 in
theorem walk1 (K : Kase) (w : World) (hK : K.Ok w) (hs : K.S.length ≤ 500) : Calls Try.prog 8 #[K.val] w fun e w' => e = .returned (.bool true) ∧ Only (fun _ => False) w w' := by
  obtain ⟨LS, LM, LB, LP, LR, aS0, aM0, aB0, aP0, aR0, cS0, cM0, cB0, cP0, cR0, bR0, oR0⟩ := K
  obtain ⟨vS, bS, sS, vM, bM, sM, vB, bB, sB, vP, sP, vR, fR⟩ := hK
  simp only [Kase.val] at *
  have HWO : Hid (∀ W, Only (fun _ => False) w W → Calls Try.prog 16 #[.slice aS0 LS.length cS0] W (woP LS.length W)) := fun W ho => words_any LS aS0 cS0 W (vS.keep ho) bS (by omega)
  have HM : Hid (∀ W, Only (fun _ => False) w W → Calls Try.prog 19 #[.slice aM0 LM.length cM0] W (opP LM W)) := fun W ho => opps_any LM aM0 cM0 W (vM.keep ho) bM (by omega)
  have HB : Hid (∀ W, Only (fun _ => False) w W → Calls Try.prog 19 #[.slice aB0 LB.length cB0] W (opP LB W)) := fun W ho => opps_any LB aB0 cB0 W (vB.keep ho) bB (by omega)
  have HRI : Hid (∀ W, Only (fun _ => False) w W → Calls Try.prog 14 #[.slice aR0 LR.length cR0, .int .i64 3] W fun e w' => ∃ (M : List Rg) (v : Value), e = .returned v ∧ w'.ownsRow W.heap.size 45 3 v M.length (rgCells M) ∧ M.length ≤ 200 ∧ Pr.okFrom 3 (-1) M = true ∧ Below W.heap.size W w') := fun W ho => right_any LR 3 aR0 bR0 oR0 cR0 W (vR.keep ho) fR (by omega) (by omega)
  have HP : Hid (Vw w aP0 (bools LP) ∧ LP.length ≤ maxLen ∧ (∀ x ∈ LM, x < 256) ∧ (∀ x ∈ LB, x < 256) ∧ LM.length ≤ 140737488351232 ∧ LB.length ≤ 140737488351232) := ⟨vP, sP, bM, bB, sM, sB⟩
  unfold opP at HM HB
  obtain ⟨n0, hn0⟩ : ∃ n, n = LS.length := ⟨_, rfl⟩
  obtain ⟨nM, hnM⟩ : ∃ n, n = LM.length := ⟨_, rfl⟩
  obtain ⟨nB, hnB⟩ : ∃ n, n = LB.length := ⟨_, rfl⟩
  obtain ⟨nP, hnP⟩ : ∃ n, n = LP.length := ⟨_, rfl⟩
  obtain ⟨nR, hnR⟩ : ∃ n, n = LR.length := ⟨_, rfl⟩
  have HN : Hid (nM = LM.length ∧ nB = LB.length ∧ nP = LP.length) := ⟨hnM, hnB, hnP⟩
  rw [← hn0] at hs HWO ⊢
  rw [← hnM] at HM ⊢
  rw [← hnB] at HB ⊢
  rw [← hnP] at ⊢
  rw [← hnR] at HRI ⊢
  clear vS bS sS vM bM sM vB bB sB vP sP vR fR hn0 hnM hnB hnP hnR
  have s0 : decide ((500 : Int) < (n0 : Int)) = false := decide_eq_false (by omega)
  go_enter Try.func8, Try.ntmps8
  go_wp2_with fail
  obtain ⟨R, hR⟩ : ∃ b, b = w.heap.size := ⟨_, rfl⟩
  obtain ⟨w0, hw0⟩ : ∃ Z, Z = w.alloc (.cells #[.slice aS0 n0 cS0, .slice aM0 nM cM0, .slice aB0 nB cB0, .slice aP0 nP cP0, .slice aR0 nR cR0] 60) := ⟨_, rfl⟩
  rw [← hw0, ← hR]
  have H0 : Hid (w0.heap[R]? = some (.cells #[.slice aS0 n0 cS0, .slice aM0 nM cM0, .slice aB0 nB cB0, .slice aP0 nP cP0, .slice aR0 nR cR0] 60 (0, 0)) ∧ Only (fun _ => False) w w0) := by
    rw [hw0, hR]
    exact ⟨heap_alloc_new w _, (Only.refl _ _).alloc _⟩
  clear hw0 hR
  refine (awake11_any _).mono ?_
  rintro e w1 ⟨rfl, ho1⟩
  have H1 : Hid _ := And.intro (blk_keep ho1 H0.out.1) (H0.out.2.trans ho1)
  obtain ⟨k0, k1, k2, k3, k4, l1⟩ := blk_five H1.out.1
  clear ho1
  go_wp2_with fail
  refine Calls.mono (HRI.out _ H1.out.2) ?_
  rintro e w2 ⟨Lr, vr, rfl, hown2, hL200, hok2, hb2⟩
  obtain ⟨aL, gL, capL, rfl, hSL, _, _⟩ := row_sees hown2
  have H2 : Hid _ := And.intro (blk_keep (only_below hb2) H1.out.1) (And.intro (H1.out.2.trans (only_below hb2)) (And.intro hSL hok2))
  obtain ⟨nl, hnl⟩ : ∃ n, n = Lr.length := ⟨_, rfl⟩
  have HTB : Hid (Calls Try.prog 15 #[.slice aL nl capL, .int .i64 3] w2 (tbP Lr w2)) := by
    rw [hnl]
    exact table_any Lr 3 aL gL 0 capL w2 hSL (by omega) hok2
  have HNL : Hid (nl = Lr.length) := hnl
  rw [← hnl] at hL200 ⊢
  clear k0 k1 k2 k3 k4 hown2 hok2 hb2 hSL hnl
  obtain ⟨k0, k1, k2, k3, k4, l2⟩ := blk_five H2.out.1
  go_wp2_with fail
  refine Calls.mono HTB.out ?_
  rintro e w3 ⟨T, rfl, hT, ho3⟩
  have H3 : Hid _ := And.intro (blk_keep ho3 H2.out.1) (And.intro (H2.out.2.1.trans ho3) (And.intro hT (H2.out.2.2.1.keep ho3)))
  clear k0 k1 k2 k3 k4
  obtain ⟨k0, k1, k2, k3, k4, l3⟩ := blk_five H3.out.1
  clear ho3 hT
  go_wp2_with fail
  refine Calls.mono (HWO.out _ H3.out.2.1) ?_
  rintro e w4 ⟨D, aD, cD, rfl, hD, hDB, hDl, ho4⟩
  have hDc := own_le hD
  have H4 : Hid _ := And.intro (blk_keep ho4 H3.out.1) (And.intro (H3.out.2.1.trans ho4) (And.intro (H3.out.2.2.1.keep ho4) (And.intro (H3.out.2.2.2.keep ho4) (And.intro (own_vw hD) hDB))))
  clear k0 k1 k2 k3 k4
  obtain ⟨k0, k1, k2, k3, k4, l4⟩ := blk_five H4.out.1
  clear ho4 hD hDB
  go_wp2_with fail
  refine Calls.mono (all_signs D aD cD w4 H4.out.2.2.2.2.1 H4.out.2.2.2.2.2 (by omega) hDc) ?_
  rintro e w5 ⟨S, aS, cS, rfl, hS, hF, hRw, hSl, ho5⟩
  have hSc := own_le hS
  have hScm := own_cap hS
  have H5 : Hid _ := And.intro (blk_keep ho5 H4.out.1) (And.intro (H4.out.2.1.trans ho5) (And.intro (H4.out.2.2.1.keep ho5) (And.intro (H4.out.2.2.2.1.keep ho5) (And.intro (own_vw hS) hF))))
  clear k0 k1 k2 k3 k4
  obtain ⟨k0, k1, k2, k3, k4, l5⟩ := blk_five H5.out.1
  obtain ⟨q, hq⟩ : ∃ q, q = (Ce.cls (Pr.of Lr) S LM).length := ⟨_, rfl⟩
  have hq2 : q ≤ 100000 := by rw [hq, Ce.cls_len]; have := Ce.st_len LM S.length; omega
  obtain ⟨C, hC⟩ : ∃ C, C = Ce.cls (Pr.of Lr) S LM := ⟨_, rfl⟩
  obtain ⟨O, hO⟩ : ∃ O, O = It.opl LB LP (Ce.starts LM S.length) (Ce.cls (Pr.of Lr) S LM).length := ⟨_, rfl⟩
  have HQL : Hid (C.length = q ∧ O.length = q + 1) := ⟨by rw [hC, hq], by rw [hO, It.opl_len, hq]⟩
  have HOB : Hid (∀ x ∈ O, x < 256) := by
    rw [hO]
    intro x hx
    unfold It.opl at hx
    obtain ⟨j, _, rfl⟩ := List.mem_map.1 hx
    exact It.op_lt HP.out.2.2.2.1
  have HI : Hid (∀ W, Only (fun _ => False) w5 W → ∀ (aM : Option Addr) (cM : Nat) (aB : Option Addr) (cB : Nat), Vw W aM (u8s LM) → Vw W aB (u8s LB) → Calls Try.prog 26 #[.slice aS S.length cS, .slice aM LM.length cM, .slice aB LB.length cB, .slice aP0 nP cP0, .pointer (some ⟨T, 0, none⟩)] W (paP C O W)) := fun W ho aM cM aB cB h1 h2 => by
    rw [hC, hO, HN.out.2.2]
    exact items_any 3 Lr _ T S LM LB LP aS aM aB aP0 cS cM cB cP0 W (H5.out.2.2.1.keep ho) H2.out.2.2.2 (H5.out.2.2.2.2.1.keep ho) H5.out.2.2.2.2.2 h1 HP.out.2.2.1 h2 HP.out.2.2.2.1 (HP.out.1.keep (H5.out.2.1.trans ho)) (by omega) (by unfold maxLen; have := HP.out.2.2.2.2.1; omega) (by unfold maxLen; have := HP.out.2.2.2.2.2; omega) HP.out.2.1 hSc hScm
  have HJ : Hid (∀ W, Only (fun _ => False) w5 W → ∀ (aM : Option Addr) (cM : Nat) (aB : Option Addr) (cB : Nat), Vw W aM (u8s LM) → Vw W aB (u8s LB) → Calls Try.prog 28 #[.slice aS S.length cS, .slice aM LM.length cM, .slice aB LB.length cB, .slice aP0 nP cP0, .slice aL nl capL] W (paP C O W)) := fun W ho aM cM aB cB h1 h2 => by
    rw [hC, hO, HN.out.2.2, HNL.out]
    exact refMake_any Lr S LM LB LP aS aM aB aP0 aL cS cM cB cP0 gL 0 capL W (H5.out.2.2.2.1.keep ho) (by rw [← HNL.out]; omega) (cellsMakes.ok_more H2.out.2.2.2 (by omega)) (H5.out.2.2.2.2.1.keep ho) H5.out.2.2.2.2.2 h1 HP.out.2.2.1 h2 HP.out.2.2.2.1 (HP.out.1.keep (H5.out.2.1.trans ho)) (by omega) (by unfold maxLen; have := HP.out.2.2.2.2.1; omega) (by unfold maxLen; have := HP.out.2.2.2.2.2; omega) HP.out.2.1
  unfold paP at HI HJ
  have HOW : Hid (Only (fun _ => False) w w5) := H5.out.2.1
  have HKS : Hid (∀ W', Only (fun _ => False) w5 W' → W'.cell? ⟨R, 1, none⟩ = some (.slice aM0 nM cM0) ∧ W'.cell? ⟨R, 2, none⟩ = some (.slice aB0 nB cB0) ∧ W'.cell? ⟨R, 3, none⟩ = some (.slice aP0 nP cP0)) := fun W' ho => ⟨(blk_five (blk_keep ho H5.out.1)).2.1, (blk_five (blk_keep ho H5.out.1)).2.2.1, (blk_five (blk_keep ho H5.out.1)).2.2.2.1⟩
  obtain ⟨ns, hns⟩ : ∃ n, n = S.length := ⟨_, rfl⟩
  rw [← hns] at HI HJ ⊢
  rw [← HN.out.1, ← HN.out.2.1] at HI HJ
  unfold woP at HWO
  clear ho5 hS hF hRw hC hO hq hDl hDc hSl hns hSc hScm
  go_wp2_with fail
  go_cut [7] (fun v wr => ∃ (B : Nat) (aC aO : Option Addr) (cC cO : Nat) (W : World), W = wr ∧ v = .pointer (some ⟨B, 0, none⟩) ∧ W.heap[B]? = some (.cells #[.slice aC q cC, .slice aO (q + 1) cO] 62 (0, 0)) ∧ Vw W aC (ctC C) ∧ Vw W aO (u8s O) ∧ Only (fun _ => False) w5 W)
  case first =>
    have HXD : Hid (Only (fun _ => False) w5 w5.drew) := (Only.refl _ _).drew
    refine wp_region_held_drew (S := (fun W' => W'.cell? ⟨R, 1, none⟩ = some (.slice aM0 nM cM0) ∧ W'.cell? ⟨R, 2, none⟩ = some (.slice aB0 nB cB0) ∧ W'.cell? ⟨R, 3, none⟩ = some (.slice aP0 nP cP0))) (by kernel_rfl) (HKS.out _ (Only.refl _ _).drew) (fun hHeld => ?_)
    refine wpAnyH_take (i := 0) (oi := { dst := some 26, op := _, type := _, pos := _, after := _, guard := _ }) (v := .slice aS ns cS) rfl (by kernel_rfl) (by kernel_rfl) (by kernel_rfl) (fun _ _ _ h => h) (Or.inl ⟨by rfl, fun w hSw => by obtain ⟨y0, y1, y2⟩ := hSw; first | (go_simp; done) | go_simp⟩) (by assumption) ?_
    (try simp only [Act.put, List.setIfInBounds_toArray, List.set_cons_zero, List.set_cons_succ])
    refine wpAnyH_take (i := 1) (oi := { dst := some 27, op := _, type := _, pos := _, after := _, guard := _ }) (v := .pointer (some ⟨R, 1, none⟩)) rfl (by kernel_rfl) (by kernel_rfl) (by kernel_rfl) (fun _ _ _ h => h) (Or.inl ⟨by rfl, fun w hSw => by obtain ⟨y0, y1, y2⟩ := hSw; first | (go_simp; done) | go_simp⟩) (by assumption) ?_
    (try simp only [Act.put, List.setIfInBounds_toArray, List.set_cons_zero, List.set_cons_succ])
    refine wpAnyH_take (i := 2) (oi := { dst := some 28, op := _, type := _, pos := _, after := _, guard := _ }) (v := .slice aM0 nM cM0) rfl (by kernel_rfl) (by kernel_rfl) (by kernel_rfl) (fun _ _ _ h => h) (Or.inl ⟨by rfl, fun w hSw => by obtain ⟨y0, y1, y2⟩ := hSw; first | (go_simp; done) | go_simp⟩) (by assumption) ?_
    (try simp only [Act.put, List.setIfInBounds_toArray, List.set_cons_zero, List.set_cons_succ])
    refine wpAnyH_take (i := 4) (oi := { dst := some 30, op := _, type := _, pos := _, after := _, guard := _ }) (v := .pointer (some ⟨R, 2, none⟩)) rfl (by kernel_rfl) (by kernel_rfl) (by kernel_rfl) (fun _ _ _ h => h) (Or.inl ⟨by rfl, fun w hSw => by obtain ⟨y0, y1, y2⟩ := hSw; first | (go_simp; done) | go_simp⟩) (by assumption) ?_
    (try simp only [Act.put, List.setIfInBounds_toArray, List.set_cons_zero, List.set_cons_succ])
    refine wpAnyH_take (i := 5) (oi := { dst := some 31, op := _, type := _, pos := _, after := _, guard := _ }) (v := .slice aB0 nB cB0) rfl (by kernel_rfl) (by kernel_rfl) (by kernel_rfl) (fun _ _ _ h => h) (Or.inl ⟨by rfl, fun w hSw => by obtain ⟨y0, y1, y2⟩ := hSw; first | (go_simp; done) | go_simp⟩) (by assumption) ?_
    (try simp only [Act.put, List.setIfInBounds_toArray, List.set_cons_zero, List.set_cons_succ])
    refine wpAnyH_take (i := 7) (oi := { dst := some 33, op := _, type := _, pos := _, after := _, guard := _ }) (v := .pointer (some ⟨R, 3, none⟩)) rfl (by kernel_rfl) (by kernel_rfl) (by kernel_rfl) (fun _ _ _ h => h) (Or.inl ⟨by rfl, fun w hSw => by obtain ⟨y0, y1, y2⟩ := hSw; first | (go_simp; done) | go_simp⟩) (by assumption) ?_
    (try simp only [Act.put, List.setIfInBounds_toArray, List.set_cons_zero, List.set_cons_succ])
    refine wpAnyH_take (i := 8) (oi := { dst := some 34, op := _, type := _, pos := _, after := _, guard := _ }) (v := .slice aP0 nP cP0) rfl (by kernel_rfl) (by kernel_rfl) (by kernel_rfl) (fun _ _ _ h => h) (Or.inl ⟨by rfl, fun w hSw => by obtain ⟨y0, y1, y2⟩ := hSw; first | (go_simp; done) | go_simp⟩) (by assumption) ?_
    (try simp only [Act.put, List.setIfInBounds_toArray, List.set_cons_zero, List.set_cons_succ])
    refine wpAnyH_take (i := 9) (oi := { dst := some 35, op := _, type := _, pos := _, after := _, guard := _ }) (v := .pointer (some ⟨T, 0, none⟩)) rfl (by kernel_rfl) (by kernel_rfl) (by kernel_rfl) (fun _ _ _ h => h) (Or.inl ⟨by rfl, fun w hSw => by obtain ⟨y0, y1, y2⟩ := hSw; first | (go_simp; done) | go_simp⟩) (by assumption) ?_
    (try simp only [Act.put, List.setIfInBounds_toArray, List.set_cons_zero, List.set_cons_succ])
    refine wpAnyH_ready (rs := [3, 11]) (by kernel_rfl) (by simp) ?_
    refine AllReadyH.cons rfl (fun K hK => ?_) (AllReadyH.cons rfl (fun K hK => ?_) AllReadyH.nil)
    · rw [if_pos (by rfl)]
      go_simp
      refine Calls.mono (HM.out _ (HOW.out.trans HXD.out)) ?_
      rintro e w6 ⟨a6, c6, rfl, hown, ho⟩
      have HMw6 : Hid (Vw w6 a6 (u8s LM)) := own_vw hown
      have HXw6 : Hid (Only (fun _ => False) w5 w6) := HXD.out.trans ho
      clear hown ho
      refine hK.out _ _ (HKS.out _ HXw6.out) (fun hHeld => ?_)
      clear hK
      (try simp only [Act.put, List.setIfInBounds_toArray, List.set_cons_zero, List.set_cons_succ])
      refine wpAnyH_ready (rs := [6, 11]) (by kernel_rfl) (by simp) ?_
      refine AllReadyH.cons rfl (fun K hK => ?_) (AllReadyH.cons rfl (fun K hK => ?_) AllReadyH.nil)
      · rw [if_pos (by rfl)]
        go_simp
        refine Calls.mono (HB.out _ (HOW.out.trans HXw6.out)) ?_
        rintro e w7 ⟨a7, c7, rfl, hown, ho⟩
        have HMw7 : Hid (Vw w7 a6 (u8s LM)) := HMw6.out.keep ho
        have HBw7 : Hid (Vw w7 a7 (u8s LB)) := own_vw hown
        have HXw7 : Hid (Only (fun _ => False) w5 w7) := HXw6.out.trans ho
        clear hown ho
        refine hK.out _ _ (HKS.out _ HXw7.out) (fun hHeld => ?_)
        clear hK
        (try simp only [Act.put, List.setIfInBounds_toArray, List.set_cons_zero, List.set_cons_succ])
        refine wpAnyH_ready (rs := [10, 11]) (by kernel_rfl) (by simp) ?_
        refine AllReadyH.cons rfl (fun K hK => ?_) (AllReadyH.cons rfl (fun K hK => ?_) AllReadyH.nil)
        · rw [if_pos (by rfl)]
          go_simp
          refine Calls.mono (HI.out _ HXw7.out a6 c6 a7 c7 HMw7.out HBw7.out) ?_
          rintro e w8 ⟨aC, aO, cC, cO, rfl, hcl, hop, ho⟩
          rw [HQL.out.1] at hcl
          rw [HQL.out.2] at hop
          rw [HQL.out.1, HQL.out.2]
          obtain ⟨bc, hbc⟩ : ∃ n, n = w7.heap.size := ⟨_, rfl⟩
          rw [← hbc] at hcl hop
          have HCw8 : Hid (w8.ownsRow bc 48 4 (.slice aC q cC) q (ctC C) ∧ w8.ownsRow bc 54 1 (.slice aO (q + 1) cO) (q + 1) (u8s O)) := ⟨hcl, hop⟩
          clear hcl hop hbc
          have HXw8 : Hid (Only (fun _ => False) w5 w8) := HXw7.out.trans ho
          clear ho
          refine hK.out _ _ (HKS.out _ HXw8.out) (fun hHeld => ?_)
          clear hK
          (try simp only [Act.put, List.setIfInBounds_toArray, List.set_cons_zero, List.set_cons_succ])
          refine wpAnyH_ready (rs := [11]) (by kernel_rfl) (by simp) ?_
          refine AllReadyH.cons rfl (fun K hK => ?_) AllReadyH.nil
          rw [if_pos (by rfl)]
          go_simp
          obtain ⟨y3, hy3⟩ : ∃ Y, Y = w8.alloc (.cells #[.slice none 0 0, .slice none 0 0] 62) := ⟨_, rfl⟩
          obtain ⟨b, hb⟩ : ∃ b, b = w8.heap.size := ⟨_, rfl⟩
          have HXy3 : Hid (Only (fun _ => False) w5 y3) := by rw [hy3]; exact HXw8.out.alloc _
          have HZy3 : Hid (y3.heap[b]? = some (.cells #[.slice none 0 0, .slice none 0 0] 62 (0, 0)) ∧ w5.heap.size ≤ b) := by rw [hy3, hb]; exact ⟨heap_alloc_new w8 _, HXw8.out.size⟩
          have HCy3 : Hid (y3.ownsRow bc 48 4 (.slice aC q cC) q (ctC C) ∧ y3.ownsRow bc 54 1 (.slice aO (q + 1) cO) (q + 1) (u8s O)) := by rw [hy3]; exact ⟨HCw8.out.1.alloc _, HCw8.out.2.alloc _⟩
          have HNE : Hid ((∀ g, (Value.slice aC q cC).ownBlock = some g → ¬ g = b) ∧ (∀ g, (Value.slice aO (q + 1) cO).ownBlock = some g → ¬ g = b)) := by rw [hb]; exact ⟨fun g hg => Nat.ne_of_lt (own_lt HCw8.out.1 hg), fun g hg => Nat.ne_of_lt (own_lt HCw8.out.2 hg)⟩
          rw [← hy3, ← hb]
          clear hy3 hb
          refine hK.out _ _ (HKS.out _ HXy3.out) (fun hHeld => ?_)
          clear hK
          (try simp only [Act.put, List.setIfInBounds_toArray, List.set_cons_zero, List.set_cons_succ])
          obtain ⟨z0, z1, zl⟩ := blk_two HZy3.out.1
          have zf : ∀ x, y3.frozen? ⟨b, x, none⟩ = false := fun x => fz_blk HZy3.out.1 x
          have HE : Hid (Only (fun _ => False) w5 ((y3.setCell ⟨b, 0, none⟩ (.slice aC q cC)).setCell ⟨b, 1, none⟩ (.slice aO (q + 1) cO))) := ((((HXy3.out.mono (S' := fun b => w5.heap.size ≤ b) (fun _ h => h.elim)).setCell (p := ⟨b, 0, none⟩) HZy3.out.2 _).setCell (p := ⟨b, 1, none⟩) HZy3.out.2 _).old (fun b hb => Or.inl hb))
          have HOZ : Hid (Only (fun x => x = b) y3 ((y3.setCell ⟨b, 0, none⟩ (.slice aC q cC)).setCell ⟨b, 1, none⟩ (.slice aO (q + 1) cO))) := ((Only.refl (fun x => x = b) y3).setCell (p := ⟨b, 0, none⟩) rfl _).setCell (p := ⟨b, 1, none⟩) rfl _
          refine wpAnyH_ready (rs := [12]) (by kernel_rfl) (by simp) ?_
          refine AllReadyH.cons rfl (fun K hK => ?_) AllReadyH.nil
          rw [if_pos (by rfl)]
          go_simp
          refine hK.out _ _ (HKS.out _ HE.out) (fun hHeld => ?_)
          clear hK
          (try simp only [Act.put, List.setIfInBounds_toArray, List.set_cons_zero, List.set_cons_succ])
          refine wpAnyH_done (by kernel_rfl) ?_ _
          clear hHeld z0 z1 zf zl
          go_wp2_with fail
          go_meet
          exact ⟨b, aC, aO, cC, cO, _, rfl, rfl, heap_setCell_at (k := 1) (heap_setCell_at (k := 0) HZy3.out.1 _) _, own_vw (own_stay HCy3.out.1 HOZ.out HNE.out.1), own_vw (own_stay HCy3.out.2 HOZ.out HNE.out.2), HE.out⟩
        · rw [if_pos (by rfl)]
          go_simp
          obtain ⟨y2, hy2⟩ : ∃ Y, Y = w7.alloc (.cells #[.slice none 0 0, .slice none 0 0] 62) := ⟨_, rfl⟩
          obtain ⟨b, hb⟩ : ∃ b, b = w7.heap.size := ⟨_, rfl⟩
          have HXy2 : Hid (Only (fun _ => False) w5 y2) := by rw [hy2]; exact HXw7.out.alloc _
          have HZy2 : Hid (y2.heap[b]? = some (.cells #[.slice none 0 0, .slice none 0 0] 62 (0, 0)) ∧ w5.heap.size ≤ b) := by rw [hy2, hb]; exact ⟨heap_alloc_new w7 _, HXw7.out.size⟩
          have HMy2 : Hid (Vw y2 a6 (u8s LM)) := by rw [hy2]; exact HMw7.out.keep ((Only.refl _ _).alloc _)
          have HBy2 : Hid (Vw y2 a7 (u8s LB)) := by rw [hy2]; exact HBw7.out.keep ((Only.refl _ _).alloc _)
          rw [← hy2, ← hb]
          clear hy2 hb
          refine hK.out _ _ (HKS.out _ HXy2.out) (fun hHeld => ?_)
          clear hK
          (try simp only [Act.put, List.setIfInBounds_toArray, List.set_cons_zero, List.set_cons_succ])
          refine wpAnyH_ready (rs := [10]) (by kernel_rfl) (by simp) ?_
          refine AllReadyH.cons rfl (fun K hK => ?_) AllReadyH.nil
          rw [if_pos (by rfl)]
          go_simp
          refine Calls.mono (HI.out _ HXy2.out a6 c6 a7 c7 HMy2.out HBy2.out) ?_
          rintro e w8 ⟨aC, aO, cC, cO, rfl, hcl, hop, ho⟩
          rw [HQL.out.1] at hcl
          rw [HQL.out.2] at hop
          rw [HQL.out.1, HQL.out.2]
          obtain ⟨bc, hbc⟩ : ∃ n, n = y2.heap.size := ⟨_, rfl⟩
          rw [← hbc] at hcl hop
          have HCw8 : Hid (w8.ownsRow bc 48 4 (.slice aC q cC) q (ctC C) ∧ w8.ownsRow bc 54 1 (.slice aO (q + 1) cO) (q + 1) (u8s O)) := ⟨hcl, hop⟩
          have HNE : Hid ((∀ g, (Value.slice aC q cC).ownBlock = some g → ¬ g = b) ∧ (∀ g, (Value.slice aO (q + 1) cO).ownBlock = some g → ¬ g = b)) := ⟨fun g hg => Nat.ne_of_gt (Nat.lt_of_lt_of_le (Array.getElem?_eq_some_iff.1 HZy2.out.1).1 (by rw [← hbc]; exact (own_own hcl hg).1)), fun g hg => Nat.ne_of_gt (Nat.lt_of_lt_of_le (Array.getElem?_eq_some_iff.1 HZy2.out.1).1 (by rw [← hbc]; exact (own_own hop hg).1))⟩
          clear hcl hop hbc
          have HXw8 : Hid (Only (fun _ => False) w5 w8) := HXy2.out.trans ho
          have HZw8 : Hid (w8.heap[b]? = some (.cells #[.slice none 0 0, .slice none 0 0] 62 (0, 0)) ∧ w5.heap.size ≤ b) := ⟨blk_keep ho HZy2.out.1, HZy2.out.2⟩
          clear ho
          refine hK.out _ _ (HKS.out _ HXw8.out) (fun hHeld => ?_)
          clear hK
          (try simp only [Act.put, List.setIfInBounds_toArray, List.set_cons_zero, List.set_cons_succ])
          obtain ⟨z0, z1, zl⟩ := blk_two HZw8.out.1
          have zf : ∀ x, w8.frozen? ⟨b, x, none⟩ = false := fun x => fz_blk HZw8.out.1 x
          have HE : Hid (Only (fun _ => False) w5 ((w8.setCell ⟨b, 0, none⟩ (.slice aC q cC)).setCell ⟨b, 1, none⟩ (.slice aO (q + 1) cO))) := ((((HXw8.out.mono (S' := fun b => w5.heap.size ≤ b) (fun _ h => h.elim)).setCell (p := ⟨b, 0, none⟩) HZw8.out.2 _).setCell (p := ⟨b, 1, none⟩) HZw8.out.2 _).old (fun b hb => Or.inl hb))
          have HOZ : Hid (Only (fun x => x = b) w8 ((w8.setCell ⟨b, 0, none⟩ (.slice aC q cC)).setCell ⟨b, 1, none⟩ (.slice aO (q + 1) cO))) := ((Only.refl (fun x => x = b) w8).setCell (p := ⟨b, 0, none⟩) rfl _).setCell (p := ⟨b, 1, none⟩) rfl _
          refine wpAnyH_ready (rs := [12]) (by kernel_rfl) (by simp) ?_
          refine AllReadyH.cons rfl (fun K hK => ?_) AllReadyH.nil
          rw [if_pos (by rfl)]
          go_simp
          refine hK.out _ _ (HKS.out _ HE.out) (fun hHeld => ?_)
          clear hK
          (try simp only [Act.put, List.setIfInBounds_toArray, List.set_cons_zero, List.set_cons_succ])
          refine wpAnyH_done (by kernel_rfl) ?_ _
          clear hHeld z0 z1 zf zl
          go_wp2_with fail
          go_meet
          exact ⟨b, aC, aO, cC, cO, _, rfl, rfl, heap_setCell_at (k := 1) (heap_setCell_at (k := 0) HZw8.out.1 _) _, own_vw (own_stay HCw8.out.1 HOZ.out HNE.out.1), own_vw (own_stay HCw8.out.2 HOZ.out HNE.out.2), HE.out⟩
      · rw [if_pos (by rfl)]
        go_simp
        obtain ⟨y1, hy1⟩ : ∃ Y, Y = w6.alloc (.cells #[.slice none 0 0, .slice none 0 0] 62) := ⟨_, rfl⟩
        obtain ⟨b, hb⟩ : ∃ b, b = w6.heap.size := ⟨_, rfl⟩
        have HXy1 : Hid (Only (fun _ => False) w5 y1) := by rw [hy1]; exact HXw6.out.alloc _
        have HZy1 : Hid (y1.heap[b]? = some (.cells #[.slice none 0 0, .slice none 0 0] 62 (0, 0)) ∧ w5.heap.size ≤ b) := by rw [hy1, hb]; exact ⟨heap_alloc_new w6 _, HXw6.out.size⟩
        have HMy1 : Hid (Vw y1 a6 (u8s LM)) := by rw [hy1]; exact HMw6.out.keep ((Only.refl _ _).alloc _)
        rw [← hy1, ← hb]
        clear hy1 hb
        refine hK.out _ _ (HKS.out _ HXy1.out) (fun hHeld => ?_)
        clear hK
        (try simp only [Act.put, List.setIfInBounds_toArray, List.set_cons_zero, List.set_cons_succ])
        refine wpAnyH_ready (rs := [6]) (by kernel_rfl) (by simp) ?_
        refine AllReadyH.cons rfl (fun K hK => ?_) AllReadyH.nil
        rw [if_pos (by rfl)]
        go_simp
        refine Calls.mono (HB.out _ (HOW.out.trans HXy1.out)) ?_
        rintro e w7 ⟨a7, c7, rfl, hown, ho⟩
        have HMw7 : Hid (Vw w7 a6 (u8s LM)) := HMy1.out.keep ho
        have HBw7 : Hid (Vw w7 a7 (u8s LB)) := own_vw hown
        have HXw7 : Hid (Only (fun _ => False) w5 w7) := HXy1.out.trans ho
        have HZw7 : Hid (w7.heap[b]? = some (.cells #[.slice none 0 0, .slice none 0 0] 62 (0, 0)) ∧ w5.heap.size ≤ b) := ⟨blk_keep ho HZy1.out.1, HZy1.out.2⟩
        clear hown ho
        refine hK.out _ _ (HKS.out _ HXw7.out) (fun hHeld => ?_)
        clear hK
        (try simp only [Act.put, List.setIfInBounds_toArray, List.set_cons_zero, List.set_cons_succ])
        refine wpAnyH_ready (rs := [10]) (by kernel_rfl) (by simp) ?_
        refine AllReadyH.cons rfl (fun K hK => ?_) AllReadyH.nil
        rw [if_pos (by rfl)]
        go_simp
        refine Calls.mono (HI.out _ HXw7.out a6 c6 a7 c7 HMw7.out HBw7.out) ?_
        rintro e w8 ⟨aC, aO, cC, cO, rfl, hcl, hop, ho⟩
        rw [HQL.out.1] at hcl
        rw [HQL.out.2] at hop
        rw [HQL.out.1, HQL.out.2]
        obtain ⟨bc, hbc⟩ : ∃ n, n = w7.heap.size := ⟨_, rfl⟩
        rw [← hbc] at hcl hop
        have HCw8 : Hid (w8.ownsRow bc 48 4 (.slice aC q cC) q (ctC C) ∧ w8.ownsRow bc 54 1 (.slice aO (q + 1) cO) (q + 1) (u8s O)) := ⟨hcl, hop⟩
        have HNE : Hid ((∀ g, (Value.slice aC q cC).ownBlock = some g → ¬ g = b) ∧ (∀ g, (Value.slice aO (q + 1) cO).ownBlock = some g → ¬ g = b)) := ⟨fun g hg => Nat.ne_of_gt (Nat.lt_of_lt_of_le (Array.getElem?_eq_some_iff.1 HZw7.out.1).1 (by rw [← hbc]; exact (own_own hcl hg).1)), fun g hg => Nat.ne_of_gt (Nat.lt_of_lt_of_le (Array.getElem?_eq_some_iff.1 HZw7.out.1).1 (by rw [← hbc]; exact (own_own hop hg).1))⟩
        clear hcl hop hbc
        have HXw8 : Hid (Only (fun _ => False) w5 w8) := HXw7.out.trans ho
        have HZw8 : Hid (w8.heap[b]? = some (.cells #[.slice none 0 0, .slice none 0 0] 62 (0, 0)) ∧ w5.heap.size ≤ b) := ⟨blk_keep ho HZw7.out.1, HZw7.out.2⟩
        clear ho
        refine hK.out _ _ (HKS.out _ HXw8.out) (fun hHeld => ?_)
        clear hK
        (try simp only [Act.put, List.setIfInBounds_toArray, List.set_cons_zero, List.set_cons_succ])
        obtain ⟨z0, z1, zl⟩ := blk_two HZw8.out.1
        have zf : ∀ x, w8.frozen? ⟨b, x, none⟩ = false := fun x => fz_blk HZw8.out.1 x
        have HE : Hid (Only (fun _ => False) w5 ((w8.setCell ⟨b, 0, none⟩ (.slice aC q cC)).setCell ⟨b, 1, none⟩ (.slice aO (q + 1) cO))) := ((((HXw8.out.mono (S' := fun b => w5.heap.size ≤ b) (fun _ h => h.elim)).setCell (p := ⟨b, 0, none⟩) HZw8.out.2 _).setCell (p := ⟨b, 1, none⟩) HZw8.out.2 _).old (fun b hb => Or.inl hb))
        have HOZ : Hid (Only (fun x => x = b) w8 ((w8.setCell ⟨b, 0, none⟩ (.slice aC q cC)).setCell ⟨b, 1, none⟩ (.slice aO (q + 1) cO))) := ((Only.refl (fun x => x = b) w8).setCell (p := ⟨b, 0, none⟩) rfl _).setCell (p := ⟨b, 1, none⟩) rfl _
        refine wpAnyH_ready (rs := [12]) (by kernel_rfl) (by simp) ?_
        refine AllReadyH.cons rfl (fun K hK => ?_) AllReadyH.nil
        rw [if_pos (by rfl)]
        go_simp
        refine hK.out _ _ (HKS.out _ HE.out) (fun hHeld => ?_)
        clear hK
        (try simp only [Act.put, List.setIfInBounds_toArray, List.set_cons_zero, List.set_cons_succ])
        refine wpAnyH_done (by kernel_rfl) ?_ _
        clear hHeld z0 z1 zf zl
        go_wp2_with fail
        go_meet
        exact ⟨b, aC, aO, cC, cO, _, rfl, rfl, heap_setCell_at (k := 1) (heap_setCell_at (k := 0) HZw8.out.1 _) _, own_vw (own_stay HCw8.out.1 HOZ.out HNE.out.1), own_vw (own_stay HCw8.out.2 HOZ.out HNE.out.2), HE.out⟩
    · rw [if_pos (by rfl)]
      go_simp
      obtain ⟨y0, hy0⟩ : ∃ Y, Y = (w5.alloc (.cells #[.slice none 0 0, .slice none 0 0] 62)).drew := ⟨_, rfl⟩
      obtain ⟨b, hb⟩ : ∃ b, b = w5.heap.size := ⟨_, rfl⟩
      have HXy0 : Hid (Only (fun _ => False) w5 y0) := by rw [hy0]; exact ((Only.refl _ _).alloc _).drew
      have HZy0 : Hid (y0.heap[b]? = some (.cells #[.slice none 0 0, .slice none 0 0] 62 (0, 0)) ∧ w5.heap.size ≤ b) := by rw [hy0, hb]; exact ⟨heap_alloc_new w5 _, HXD.out.size⟩
      rw [← hy0, ← hb]
      clear hy0 hb
      refine hK.out _ _ (HKS.out _ HXy0.out) (fun hHeld => ?_)
      clear hK
      (try simp only [Act.put, List.setIfInBounds_toArray, List.set_cons_zero, List.set_cons_succ])
      refine wpAnyH_ready (rs := [3]) (by kernel_rfl) (by simp) ?_
      refine AllReadyH.cons rfl (fun K hK => ?_) AllReadyH.nil
      rw [if_pos (by rfl)]
      go_simp
      refine Calls.mono (HM.out _ (HOW.out.trans HXy0.out)) ?_
      rintro e w6 ⟨a6, c6, rfl, hown, ho⟩
      have HMw6 : Hid (Vw w6 a6 (u8s LM)) := own_vw hown
      have HXw6 : Hid (Only (fun _ => False) w5 w6) := HXy0.out.trans ho
      have HZw6 : Hid (w6.heap[b]? = some (.cells #[.slice none 0 0, .slice none 0 0] 62 (0, 0)) ∧ w5.heap.size ≤ b) := ⟨blk_keep ho HZy0.out.1, HZy0.out.2⟩
      clear hown ho
      refine hK.out _ _ (HKS.out _ HXw6.out) (fun hHeld => ?_)
      clear hK
      (try simp only [Act.put, List.setIfInBounds_toArray, List.set_cons_zero, List.set_cons_succ])
      refine wpAnyH_ready (rs := [6]) (by kernel_rfl) (by simp) ?_
      refine AllReadyH.cons rfl (fun K hK => ?_) AllReadyH.nil
      rw [if_pos (by rfl)]
      go_simp
      refine Calls.mono (HB.out _ (HOW.out.trans HXw6.out)) ?_
      rintro e w7 ⟨a7, c7, rfl, hown, ho⟩
      have HMw7 : Hid (Vw w7 a6 (u8s LM)) := HMw6.out.keep ho
      have HBw7 : Hid (Vw w7 a7 (u8s LB)) := own_vw hown
      have HXw7 : Hid (Only (fun _ => False) w5 w7) := HXw6.out.trans ho
      have HZw7 : Hid (w7.heap[b]? = some (.cells #[.slice none 0 0, .slice none 0 0] 62 (0, 0)) ∧ w5.heap.size ≤ b) := ⟨blk_keep ho HZw6.out.1, HZw6.out.2⟩
      clear hown ho
      refine hK.out _ _ (HKS.out _ HXw7.out) (fun hHeld => ?_)
      clear hK
      (try simp only [Act.put, List.setIfInBounds_toArray, List.set_cons_zero, List.set_cons_succ])
      refine wpAnyH_ready (rs := [10]) (by kernel_rfl) (by simp) ?_
      refine AllReadyH.cons rfl (fun K hK => ?_) AllReadyH.nil
      rw [if_pos (by rfl)]
      go_simp
      refine Calls.mono (HI.out _ HXw7.out a6 c6 a7 c7 HMw7.out HBw7.out) ?_
      rintro e w8 ⟨aC, aO, cC, cO, rfl, hcl, hop, ho⟩
      rw [HQL.out.1] at hcl
      rw [HQL.out.2] at hop
      rw [HQL.out.1, HQL.out.2]
      obtain ⟨bc, hbc⟩ : ∃ n, n = w7.heap.size := ⟨_, rfl⟩
      rw [← hbc] at hcl hop
      have HCw8 : Hid (w8.ownsRow bc 48 4 (.slice aC q cC) q (ctC C) ∧ w8.ownsRow bc 54 1 (.slice aO (q + 1) cO) (q + 1) (u8s O)) := ⟨hcl, hop⟩
      have HNE : Hid ((∀ g, (Value.slice aC q cC).ownBlock = some g → ¬ g = b) ∧ (∀ g, (Value.slice aO (q + 1) cO).ownBlock = some g → ¬ g = b)) := ⟨fun g hg => Nat.ne_of_gt (Nat.lt_of_lt_of_le (Array.getElem?_eq_some_iff.1 HZw7.out.1).1 (by rw [← hbc]; exact (own_own hcl hg).1)), fun g hg => Nat.ne_of_gt (Nat.lt_of_lt_of_le (Array.getElem?_eq_some_iff.1 HZw7.out.1).1 (by rw [← hbc]; exact (own_own hop hg).1))⟩
      clear hcl hop hbc
      have HXw8 : Hid (Only (fun _ => False) w5 w8) := HXw7.out.trans ho
      have HZw8 : Hid (w8.heap[b]? = some (.cells #[.slice none 0 0, .slice none 0 0] 62 (0, 0)) ∧ w5.heap.size ≤ b) := ⟨blk_keep ho HZw7.out.1, HZw7.out.2⟩
      clear ho
      refine hK.out _ _ (HKS.out _ HXw8.out) (fun hHeld => ?_)
      clear hK
      (try simp only [Act.put, List.setIfInBounds_toArray, List.set_cons_zero, List.set_cons_succ])
      obtain ⟨z0, z1, zl⟩ := blk_two HZw8.out.1
      have zf : ∀ x, w8.frozen? ⟨b, x, none⟩ = false := fun x => fz_blk HZw8.out.1 x
      have HE : Hid (Only (fun _ => False) w5 ((w8.setCell ⟨b, 0, none⟩ (.slice aC q cC)).setCell ⟨b, 1, none⟩ (.slice aO (q + 1) cO))) := ((((HXw8.out.mono (S' := fun b => w5.heap.size ≤ b) (fun _ h => h.elim)).setCell (p := ⟨b, 0, none⟩) HZw8.out.2 _).setCell (p := ⟨b, 1, none⟩) HZw8.out.2 _).old (fun b hb => Or.inl hb))
      have HOZ : Hid (Only (fun x => x = b) w8 ((w8.setCell ⟨b, 0, none⟩ (.slice aC q cC)).setCell ⟨b, 1, none⟩ (.slice aO (q + 1) cO))) := ((Only.refl (fun x => x = b) w8).setCell (p := ⟨b, 0, none⟩) rfl _).setCell (p := ⟨b, 1, none⟩) rfl _
      refine wpAnyH_ready (rs := [12]) (by kernel_rfl) (by simp) ?_
      refine AllReadyH.cons rfl (fun K hK => ?_) AllReadyH.nil
      rw [if_pos (by rfl)]
      go_simp
      refine hK.out _ _ (HKS.out _ HE.out) (fun hHeld => ?_)
      clear hK
      (try simp only [Act.put, List.setIfInBounds_toArray, List.set_cons_zero, List.set_cons_succ])
      refine wpAnyH_done (by kernel_rfl) ?_ _
      clear hHeld z0 z1 zf zl
      go_wp2_with fail
      go_meet
      exact ⟨b, aC, aO, cC, cO, _, rfl, rfl, heap_setCell_at (k := 1) (heap_setCell_at (k := 0) HZw8.out.1 _) _, own_vw (own_stay HCw8.out.1 HOZ.out HNE.out.1), own_vw (own_stay HCw8.out.2 HOZ.out HNE.out.2), HE.out⟩
  case rest =>
    obtain ⟨B, aC, aO, cC, cO, W, hW, rfl, hbB, hvC, hvO, hoW⟩ := hcut
    subst hW
    have HR : Hid (W.heap[B]? = some (.cells #[.slice aC q cC, .slice aO (q + 1) cO] 62 (0, 0)) ∧ Vw W aC (ctC C) ∧ Vw W aO (u8s O) ∧ Only (fun _ => False) w5 W) := ⟨hbB, hvC, hvO, hoW⟩
    clear hbB hvC hvO hoW k0 k1 k2 k3 k4
    have HKS2 : Hid (∀ W', Only (fun _ => False) W W' → (W'.cell? ⟨R, 1, none⟩ = some (.slice aM0 nM cM0) ∧ W'.cell? ⟨R, 2, none⟩ = some (.slice aB0 nB cB0) ∧ W'.cell? ⟨R, 3, none⟩ = some (.slice aP0 nP cP0) ∧ W'.cell? ⟨B, 0, none⟩ = some (.slice aC q cC) ∧ W'.cell? ⟨B, 1, none⟩ = some (.slice aO (q + 1) cO))) := fun W' ho => ⟨(HKS.out W' (HR.out.2.2.2.trans ho)).1, (HKS.out W' (HR.out.2.2.2.trans ho)).2.1, (HKS.out W' (HR.out.2.2.2.trans ho)).2.2, (blk_two (blk_keep ho HR.out.1)).1, (blk_two (blk_keep ho HR.out.1)).2.1⟩
    go_wp2_with fail
    refine wp_region_held_drew (S := (fun W' => W'.cell? ⟨R, 1, none⟩ = some (.slice aM0 nM cM0) ∧ W'.cell? ⟨R, 2, none⟩ = some (.slice aB0 nB cB0) ∧ W'.cell? ⟨R, 3, none⟩ = some (.slice aP0 nP cP0) ∧ W'.cell? ⟨B, 0, none⟩ = some (.slice aC q cC) ∧ W'.cell? ⟨B, 1, none⟩ = some (.slice aO (q + 1) cO))) (by kernel_rfl) (HKS2.out _ (Only.refl _ _).drew) (fun hHeld => ?_)
    refine wpAnyH_take (i := 0) (oi := { dst := some 37, op := _, type := _, pos := _, after := _, guard := _ }) (v := .int .i64 0) rfl (by kernel_rfl) (by kernel_rfl) (by kernel_rfl) (fun _ _ _ h => h) (Or.inl ⟨by rfl, fun w hSw => by obtain ⟨y0, y1, y2, y3, y4⟩ := hSw; first | (go_simp; done) | go_simp⟩) (by assumption) ?_
    (try simp only [Act.put, List.setIfInBounds_toArray, List.set_cons_zero, List.set_cons_succ])
    refine wpAnyH_take (i := 1) (oi := { dst := some 38, op := _, type := _, pos := _, after := _, guard := _ }) (v := .bool true) rfl (by kernel_rfl) (by kernel_rfl) (by kernel_rfl) (fun _ _ _ h => h) (Or.inl ⟨by rfl, fun w hSw => by obtain ⟨y0, y1, y2, y3, y4⟩ := hSw; first | (go_simp; done) | go_simp⟩) (by assumption) ?_
    (try simp only [Act.put, List.setIfInBounds_toArray, List.set_cons_zero, List.set_cons_succ])
    refine wpAnyH_take (i := 2) (oi := { dst := some 39, op := _, type := _, pos := _, after := _, guard := _ }) (v := .bool true) rfl (by kernel_rfl) (by kernel_rfl) (by kernel_rfl) (fun _ _ _ h => h) (Or.inl ⟨by rfl, fun w hSw => by obtain ⟨y0, y1, y2, y3, y4⟩ := hSw; first | (go_simp; done) | go_simp⟩) (by assumption) ?_
    (try simp only [Act.put, List.setIfInBounds_toArray, List.set_cons_zero, List.set_cons_succ])
    refine wpAnyH_take (i := 3) (oi := { dst := some 40, op := _, type := _, pos := _, after := _, guard := _ }) (v := .agg #[.slice aC q cC, .slice aO (q + 1) cO]) rfl (by kernel_rfl) (by kernel_rfl) (by kernel_rfl) (fun _ _ _ h => h) (Or.inl ⟨by rfl, fun w hSw => by obtain ⟨y0, y1, y2, y3, y4⟩ := hSw; first | (go_simp; done) | go_simp⟩) (by assumption) ?_
    (try simp only [Act.put, List.setIfInBounds_toArray, List.set_cons_zero, List.set_cons_succ])
    refine wpAnyH_take (i := 4) (oi := { dst := some 41, op := _, type := _, pos := _, after := _, guard := _ }) (v := .slice aS ns cS) rfl (by kernel_rfl) (by kernel_rfl) (by kernel_rfl) (fun _ _ _ h => h) (Or.inl ⟨by rfl, fun w hSw => by obtain ⟨y0, y1, y2, y3, y4⟩ := hSw; first | (go_simp; done) | go_simp⟩) (by assumption) ?_
    (try simp only [Act.put, List.setIfInBounds_toArray, List.set_cons_zero, List.set_cons_succ])
    refine wpAnyH_take (i := 5) (oi := { dst := some 42, op := _, type := _, pos := _, after := _, guard := _ }) (v := .pointer (some ⟨R, 1, none⟩)) rfl (by kernel_rfl) (by kernel_rfl) (by kernel_rfl) (fun _ _ _ h => h) (Or.inl ⟨by rfl, fun w hSw => by obtain ⟨y0, y1, y2, y3, y4⟩ := hSw; first | (go_simp; done) | go_simp⟩) (by assumption) ?_
    (try simp only [Act.put, List.setIfInBounds_toArray, List.set_cons_zero, List.set_cons_succ])
    refine wpAnyH_take (i := 6) (oi := { dst := some 43, op := _, type := _, pos := _, after := _, guard := _ }) (v := .slice aM0 nM cM0) rfl (by kernel_rfl) (by kernel_rfl) (by kernel_rfl) (fun _ _ _ h => h) (Or.inl ⟨by rfl, fun w hSw => by obtain ⟨y0, y1, y2, y3, y4⟩ := hSw; first | (go_simp; done) | go_simp⟩) (by assumption) ?_
    (try simp only [Act.put, List.setIfInBounds_toArray, List.set_cons_zero, List.set_cons_succ])
    refine wpAnyH_take (i := 8) (oi := { dst := some 45, op := _, type := _, pos := _, after := _, guard := _ }) (v := .pointer (some ⟨R, 2, none⟩)) rfl (by kernel_rfl) (by kernel_rfl) (by kernel_rfl) (fun _ _ _ h => h) (Or.inl ⟨by rfl, fun w hSw => by obtain ⟨y0, y1, y2, y3, y4⟩ := hSw; first | (go_simp; done) | go_simp⟩) (by assumption) ?_
    (try simp only [Act.put, List.setIfInBounds_toArray, List.set_cons_zero, List.set_cons_succ])
    refine wpAnyH_take (i := 9) (oi := { dst := some 46, op := _, type := _, pos := _, after := _, guard := _ }) (v := .slice aB0 nB cB0) rfl (by kernel_rfl) (by kernel_rfl) (by kernel_rfl) (fun _ _ _ h => h) (Or.inl ⟨by rfl, fun w hSw => by obtain ⟨y0, y1, y2, y3, y4⟩ := hSw; first | (go_simp; done) | go_simp⟩) (by assumption) ?_
    (try simp only [Act.put, List.setIfInBounds_toArray, List.set_cons_zero, List.set_cons_succ])
    refine wpAnyH_take (i := 11) (oi := { dst := some 48, op := _, type := _, pos := _, after := _, guard := _ }) (v := .pointer (some ⟨R, 3, none⟩)) rfl (by kernel_rfl) (by kernel_rfl) (by kernel_rfl) (fun _ _ _ h => h) (Or.inl ⟨by rfl, fun w hSw => by obtain ⟨y0, y1, y2, y3, y4⟩ := hSw; first | (go_simp; done) | go_simp⟩) (by assumption) ?_
    (try simp only [Act.put, List.setIfInBounds_toArray, List.set_cons_zero, List.set_cons_succ])
    refine wpAnyH_take (i := 12) (oi := { dst := some 49, op := _, type := _, pos := _, after := _, guard := _ }) (v := .slice aP0 nP cP0) rfl (by kernel_rfl) (by kernel_rfl) (by kernel_rfl) (fun _ _ _ h => h) (Or.inl ⟨by rfl, fun w hSw => by obtain ⟨y0, y1, y2, y3, y4⟩ := hSw; first | (go_simp; done) | go_simp⟩) (by assumption) ?_
    (try simp only [Act.put, List.setIfInBounds_toArray, List.set_cons_zero, List.set_cons_succ])
    refine wpAnyH_take (i := 13) (oi := { dst := some 50, op := _, type := _, pos := _, after := _, guard := _ }) (v := .slice aL nl capL) rfl (by kernel_rfl) (by kernel_rfl) (by kernel_rfl) (fun _ _ _ h => h) (Or.inl ⟨by rfl, fun w hSw => by obtain ⟨y0, y1, y2, y3, y4⟩ := hSw; first | (go_simp; done) | go_simp⟩) (by assumption) ?_
    (try simp only [Act.put, List.setIfInBounds_toArray, List.set_cons_zero, List.set_cons_succ])
    refine wpAnyH_ready (rs := [7]) (by kernel_rfl) (by simp) ?_
    refine AllReadyH.cons rfl (fun K hK => ?_) AllReadyH.nil
    rw [if_pos (by rfl)]
    go_simp
    refine Calls.mono (HM.out _ (HOW.out.trans (HR.out.2.2.2.trans (Only.refl _ _).drew))) ?_
    rintro e v6 ⟨b6, d6, rfl, hown, ho⟩
    have HV6 : Hid (Only (fun _ => False) W v6 ∧ Vw v6 b6 (u8s LM)) := ⟨((Only.refl _ _).drew).trans ho, own_vw hown⟩
    clear hown ho
    refine hK.out _ _ (HKS2.out _ HV6.out.1) (fun hHeld => ?_)
    clear hK
    (try simp only [Act.put, List.setIfInBounds_toArray, List.set_cons_zero, List.set_cons_succ])
    refine wpAnyH_ready (rs := [10]) (by kernel_rfl) (by simp) ?_
    refine AllReadyH.cons rfl (fun K hK => ?_) AllReadyH.nil
    rw [if_pos (by rfl)]
    go_simp
    refine Calls.mono (HB.out _ (HOW.out.trans (HR.out.2.2.2.trans HV6.out.1))) ?_
    rintro e v7 ⟨b7, d7, rfl, hown, ho⟩
    have HV7 : Hid (Only (fun _ => False) W v7 ∧ Vw v7 b6 (u8s LM) ∧ Vw v7 b7 (u8s LB)) := ⟨HV6.out.1.trans ho, HV6.out.2.keep ho, own_vw hown⟩
    clear hown ho
    refine hK.out _ _ (HKS2.out _ HV7.out.1) (fun hHeld => ?_)
    clear hK
    (try simp only [Act.put, List.setIfInBounds_toArray, List.set_cons_zero, List.set_cons_succ])
    refine wpAnyH_ready (rs := [14]) (by kernel_rfl) (by simp) ?_
    refine AllReadyH.cons rfl (fun K hK => ?_) AllReadyH.nil
    rw [if_pos (by rfl)]
    go_simp
    refine Calls.mono (HJ.out _ (HR.out.2.2.2.trans HV7.out.1) b6 d6 b7 d7 HV7.out.2.1 HV7.out.2.2) ?_
    rintro e v8 ⟨aC', aO', cC', cO', rfl, hcl, hop, ho⟩
    have HV8 : Hid (Only (fun _ => False) W v8 ∧ Vw v8 aC' (ctC C) ∧ Vw v8 aO' (u8s O)) := ⟨HV7.out.1.trans ho, own_vw hcl, own_vw hop⟩
    clear hcl hop ho
    have HSP : Hid (Calls Try.prog 27 #[.agg #[.slice aC q cC, .slice aO (q + 1) cO], .agg #[.slice aC' q cC', .slice aO' (q + 1) cO']] v8 fun e w' => e = .returned (.bool true) ∧ Only (fun _ => False) v8 w') := by
      have h := sameParas_any C O aC aC' aO aO' cC cC' cO cO' v8 (HR.out.2.1.keep HV8.out.1) HV8.out.2.1 (HR.out.2.2.1.keep HV8.out.1) HV8.out.2.2 HOB.out (by rw [HQL.out.1]; omega) (by rw [HQL.out.2]; omega)
      rw [HQL.out.1, HQL.out.2] at h
      exact h
    rw [HQL.out.1, HQL.out.2]
    refine hK.out _ _ (HKS2.out _ HV8.out.1) (fun hHeld => ?_)
    clear hK
    (try simp only [Act.put, List.setIfInBounds_toArray, List.set_cons_zero, List.set_cons_succ])
    refine wpAnyH_ready (rs := [15]) (by kernel_rfl) (by simp) ?_
    refine AllReadyH.cons rfl (fun K hK => ?_) AllReadyH.nil
    rw [if_pos (by rfl)]
    go_simp
    refine Calls.mono HSP.out ?_
    rintro e v9 ⟨rfl, ho⟩
    have HV9 : Hid (Only (fun _ => False) W v9) := HV8.out.1.trans ho
    clear ho
    refine hK.out _ _ (HKS2.out _ HV9.out) (fun hHeld => ?_)
    clear hK
    (try simp only [Act.put, List.setIfInBounds_toArray, List.set_cons_zero, List.set_cons_succ])
    refine wpAnyH_take (i := 16) (oi := { dst := some 53, op := _, type := _, pos := _, after := _, guard := _ }) (v := .bool true) rfl (by kernel_rfl) (by kernel_rfl) (by kernel_rfl) (fun _ _ _ h => h) (Or.inl ⟨by rfl, fun w hSw => by obtain ⟨y0, y1, y2, y3, y4⟩ := hSw; first | (go_simp; done) | go_simp⟩) (by assumption) ?_
    (try simp only [Act.put, List.setIfInBounds_toArray, List.set_cons_zero, List.set_cons_succ])
    refine wpAnyH_take (i := 17) (oi := { dst := some 2, op := _, type := _, pos := _, after := _, guard := _ }) (v := .bool true) rfl (by kernel_rfl) (by kernel_rfl) (by kernel_rfl) (fun _ _ _ h => h) (Or.inl ⟨by rfl, fun w hSw => by obtain ⟨y0, y1, y2, y3, y4⟩ := hSw; first | (go_simp; done) | go_simp⟩) (by assumption) ?_
    (try simp only [Act.put, List.setIfInBounds_toArray, List.set_cons_zero, List.set_cons_succ])
    refine wpAnyH_done (by kernel_rfl) ?_ _
    clear hHeld
    go_wp2_with fail
    go_ret
    exact ⟨rfl, HOW.out.trans (HR.out.2.2.2.trans HV9.out)⟩
end Go.Proofs.Ytlcpfheocenjfaa.itemsMakes
namespace Go.Proofs.Ytlcpfheocenjfaa.itemsMakes
open Go.RowKit Go.Maps
set_option linter.unusedVariables false
set_option maxRecDepth 100000 in
set_option maxHeartbeats 4000000 in
theorem walk (K : Kase) (w : World) (hK : K.Ok w) : Calls Try.prog 8 #[K.val] w fun e w' => e = .returned (.bool true) ∧ Only (fun _ => False) w w' := by
  by_cases h5 : K.S.length ≤ 500
  · exact walk1 K w hK h5
  · obtain ⟨LS, LM, LB, LP, LR, aS0, aM0, aB0, aP0, aR0, cS0, cM0, cB0, cP0, cR0, bR0, oR0⟩ := K
    obtain ⟨vS, bS, sS, vM, bM, sM, vB, bB, sB, vP, sP, vR, fR⟩ := hK
    simp only [Kase.val] at *
    obtain ⟨n0, hn0⟩ : ∃ n, n = LS.length := ⟨_, rfl⟩
    obtain ⟨nM, hnM⟩ : ∃ n, n = LM.length := ⟨_, rfl⟩
    obtain ⟨nB, hnB⟩ : ∃ n, n = LB.length := ⟨_, rfl⟩
    obtain ⟨nP, hnP⟩ : ∃ n, n = LP.length := ⟨_, rfl⟩
    obtain ⟨nR, hnR⟩ : ∃ n, n = LR.length := ⟨_, rfl⟩
    rw [← hn0] at h5 sS ⊢
    rw [← hnM, ← hnB, ← hnP, ← hnR]
    clear vS bS vM bM sM vB bB sB vP sP vR fR hn0 hnM hnB hnP hnR
    have s0 : (500 : Int) < (n0 : Int) := by omega
    go_enter Try.func8, Try.ntmps8
    go_wp2_with fail
    obtain ⟨R, hR⟩ : ∃ b, b = w.heap.size := ⟨_, rfl⟩
    obtain ⟨w0, hw0⟩ : ∃ Z, Z = w.alloc (.cells #[.slice aS0 n0 cS0, .slice aM0 nM cM0, .slice aB0 nB cB0, .slice aP0 nP cP0, .slice aR0 nR cR0] 60) := ⟨_, rfl⟩
    rw [← hw0, ← hR]
    have H0 : Hid (w0.heap[R]? = some (.cells #[.slice aS0 n0 cS0, .slice aM0 nM cM0, .slice aB0 nB cB0, .slice aP0 nP cP0, .slice aR0 nR cR0] 60 (0, 0)) ∧ Only (fun _ => False) w w0) := by
      rw [hw0, hR]
      exact ⟨heap_alloc_new w _, (Only.refl _ _).alloc _⟩
    clear hw0 hR
    refine (awake11_any _).mono ?_
    rintro e w1 ⟨rfl, ho1⟩
    have H1 : Hid (Only (fun _ => False) w w1) := H0.out.2.trans ho1
    obtain ⟨k0, k1, k2, k3, k4, l1⟩ := blk_five (blk_keep ho1 H0.out.1)
    clear ho1
    go_wp2_with fail
    go_ret
    exact ⟨rfl, H1.out⟩
end Go.Proofs.Ytlcpfheocenjfaa.itemsMakes
