/-
  stanzalaw11.ItemsRight: its walk.
-/
import Derived.Test.YtlcpfheocenjfaaAw1
import Derived.Test.YtlcpfheocenjfaaRight
import Derived.Test.YtlcpfheocenjfaaWs
import Derived.Test.YtlcpfheocenjfaaAl
import Derived.Test.YtlcpfheocenjfaaIr
import Derived.Test.YtlcpfheocenjfaaSm
namespace Go.Proofs.Ytlcpfheocenjfaa.itemsRight
open Go.RowKit Go.Maps
set_option linter.unusedVariables false
set_option linter.unusedSimpArgs false
/-- the first k of them, by 3 what is left. -/
def mix (L : List Nat) (k : Nat) : List Nat := (L.take k).map (· % 3) ++ L.drop k
theorem mix_zero (L : List Nat) : mix L 0 = L := by simp [mix]
theorem mix_len (L : List Nat) (k : Nat) : (mix L k).length = L.length := by simp [mix]; omega
theorem mix_all {L : List Nat} {k : Nat} (h : L.length ≤ k) : mix L k = L.map (· % 3) := by
  unfold mix
  rw [List.take_of_length_le h, List.drop_of_length_le h, List.append_nil]
theorem mix_at {L : List Nat} {k x : Nat} (h : L[k]? = some x) : (mix L k)[k]? = some x := by
  have hl := (List.getElem?_eq_some_iff.1 h).1
  unfold mix
  have e : ((L.take k).map (· % 3)).length = k := by simp; omega
  rw [List.getElem?_append_right (by omega), e, Nat.sub_self, List.getElem?_drop, Nat.add_zero, h]
theorem mix_set {L : List Nat} {k x : Nat} (h : L[k]? = some x) : (mix L k).set k (x % 3) = mix L (k + 1) := by
  have hl := (List.getElem?_eq_some_iff.1 h).1
  have hx := (List.getElem?_eq_some_iff.1 h).2
  have e : ((L.take k).map (· % 3)).length = k := by simp; omega
  have d : L.drop k = x :: L.drop (k + 1) := by rw [List.drop_eq_getElem_cons hl, hx]
  unfold mix
  rw [d, take_snoc h, List.map_append, List.set_append_right _ _ (by omega), e, Nat.sub_self]
  simp
theorem u8s_set (L : List Nat) (k y : Nat) : (u8s L).set k (.int .u8 (y : Int)) = u8s (L.set k y) := by
  unfold u8s
  rw [List.map_set]
theorem cls_kind {of : Int → Int} {S : List Sn} {M : List Nat} : ∀ c ∈ (Ce.cls of S M).map Ct.g, c.kind < 256 := by
  intro c hc
  obtain ⟨d, hd, rfl⟩ := List.mem_map.1 hc
  unfold Ce.cls at hd
  obtain ⟨j, _, rfl⟩ := List.mem_map.1 hd
  have := kind_le (Ce.seg S ((Ce.starts M S.length).getD j 0) ((Ce.starts M S.length).getD (j + 1) 0))
  show Ce.kind _ < 256
  omega
/-- what is told of the text that was made. -/
def Made (nD q : Nat) (C : List Ct) (O : List Nat) : Prop := C.length = q ∧ O.length = q + 1 ∧ It.chk (C.map Ct.g) O = true ∧ It.sum C = nD ∧ O.getD q 0 = 2 ∧ (∀ x ∈ O, x < 256) ∧ (∀ c ∈ C.map Ct.g, c.kind < 256) ∧ q ≤ 2000
theorem made {S : List Sn} {Lr : List Rg} {LM LB : List Nat} {LP : List Bool} {nD cS : Nat} (hF : Fits S) (hR : Row S 0 nD) (hSl : S.length ≤ nD) (hN : nD ≤ 2000) (hB : ∀ x ∈ LB, x < 3) (hc : S.length ≤ cS) (hcm : cS ≤ maxLen) :
    ∃ (C : List Ct) (O : List Nat) (q : Nat), Hid (∀ (X : World) (aM : Option Addr) (cM : Nat) (aB : Option Addr) (cB : Nat) (aP : Option Addr) (cP T base : Nat) {aS : Option Addr}, Tab X base T Lr → Pr.okFrom 3 (-1) Lr = true → Vw X aS (snC S) → Vw X aM (u8s LM) → (∀ x ∈ LM, x < 256) → Vw X aB (u8s LB) → Vw X aP (bools LP) → LM.length ≤ maxLen ∧ LB.length ≤ maxLen ∧ LP.length ≤ maxLen → Calls Try.prog 26 #[.slice aS S.length cS, .slice aM LM.length cM, .slice aB LB.length cB, .slice aP LP.length cP, .pointer (some ⟨T, 0, none⟩)] X fun e w' => ∃ (aC aO : Option Addr) (cC cO : Nat), e = .returned (.agg #[.slice aC q cC, .slice aO (q + 1) cO]) ∧ w'.ownsRow X.heap.size 48 4 (.slice aC q cC) q (ctC C) ∧ w'.ownsRow X.heap.size 54 1 (.slice aO (q + 1) cO) (q + 1) (u8s O) ∧ Only (fun _ => False) X w') ∧ Hid (Made nD q C O) := by
  obtain ⟨k1, k2⟩ := made_chk (of := Pr.of Lr) (M := LM) (Bk := LB) (Pt := LP) hR (by omega) hB
  refine ⟨Ce.cls (Pr.of Lr) S LM, It.opl LB LP (Ce.starts LM S.length) (Ce.cls (Pr.of Lr) S LM).length, (Ce.cls (Pr.of Lr) S LM).length, fun X aM cM aB cB aP cP T base aS hT hok hVS hVM hBM hVB hVP hm => ?_, ?_⟩
  · have h := items_any 3 Lr base T S LM LB LP aS aM aB aP cS cM cB cP X hT hok hVS hF hVM hBM hVB (fun x hx => by have := hB x hx; omega) hVP (by omega) hm.1 hm.2.1 hm.2.2 hc hcm
    unfold paP at h
    rw [It.opl_len] at h
    exact h
  · refine ⟨rfl, It.opl_len _ _ _ _, k1, k2, ?_, ?_, cls_kind, ?_⟩
    · rw [List.getD_eq_getElem?_getD, It.opl_at (Nat.le_refl _)]
      unfold It.op
      rw [if_pos rfl]
      rfl
    · intro x hx
      unfold It.opl at hx
      obtain ⟨j, _, rfl⟩ := List.mem_map.1 hx
      exact It.op_lt (fun x hx => by have := hB x hx; omega)
    · rw [Ce.cls_len]
      have := Ce.st_len LM S.length
      omega
set_option maxRecDepth 100000 in
set_option maxHeartbeats 16000000 in
theorem walk1 (K : Kase) (w : World) (hK : K.Ok w) (hs : K.S.length ≤ 500) : Calls Try.prog 9 #[K.val] w fun e w' => e = .returned (.bool true) ∧ Only (fun _ => False) w w' := by
  obtain ⟨LS, LM, LB, LP, LR, aS0, aM0, aB0, aP0, aR0, cS0, cM0, cB0, cP0, cR0, bR0, oR0⟩ := K
  obtain ⟨vS, bS, sS, vM, bM, sM, vB, bB, sB, vP, sP, vR, fR⟩ := hK
  simp only [Kase.val] at *
  have HWO : Hid (∀ W, Only (fun _ => False) w W → Calls Try.prog 16 #[.slice aS0 LS.length cS0] W (woP LS.length W)) := fun W ho => words_any LS aS0 cS0 W (vS.keep ho) bS (by omega)
  have HM : Hid (∀ W, Only (fun _ => False) w W → Calls Try.prog 19 #[.slice aM0 LM.length cM0] W (opP LM W)) := fun W ho => opps_any LM aM0 cM0 W (vM.keep ho) bM (by omega)
  have HB : Hid (∀ W, Only (fun _ => False) w W → Calls Try.prog 19 #[.slice aB0 LB.length cB0] W (opP LB W)) := fun W ho => opps_any LB aB0 cB0 W (vB.keep ho) bB (by omega)
  have HRI : Hid (∀ W, Only (fun _ => False) w W → Calls Try.prog 14 #[.slice aR0 LR.length cR0, .int .i64 3] W fun e w' => ∃ (M : List Rg) (v : Value), e = .returned v ∧ w'.ownsRow W.heap.size 45 3 v M.length (rgCells M) ∧ M.length ≤ 200 ∧ Pr.okFrom 3 (-1) M = true ∧ Below W.heap.size W w') := fun W ho => right_any LR 3 aR0 bR0 oR0 cR0 W (vR.keep ho) fR (by omega) (by omega)
  have HP : Hid (Vw w aP0 (bools LP) ∧ LP.length ≤ maxLen ∧ (∀ x ∈ LM, x < 256) ∧ (∀ x ∈ LB, x < 256) ∧ LM.length ≤ 140737488351232 ∧ LB.length ≤ 140737488351232) := ⟨vP, sP, bM, bB, sM, sB⟩
  unfold opP at HM HB
  obtain ⟨n0, hn0⟩ : ∃ n, n = LS.length := ⟨_, rfl⟩
  obtain ⟨nM, hnM⟩ : ∃ n, n = LM.length := ⟨_, rfl⟩
  obtain ⟨nB, hnB⟩ : ∃ n, n = LB.length := ⟨_, rfl⟩
  obtain ⟨nP, hnP⟩ : ∃ n, n = LP.length := ⟨_, rfl⟩
  obtain ⟨nR, hnR⟩ : ∃ n, n = LR.length := ⟨_, rfl⟩
  have HN : Hid (nM = LM.length ∧ nB = LB.length ∧ nP = LP.length) := ⟨hnM, hnB, hnP⟩
  have hnBm : nB ≤ 140737488351232 := by rw [hnB]; exact sB
  rw [← hn0] at hs HWO ⊢
  rw [← hnM] at HM ⊢
  rw [← hnB] at HB ⊢
  rw [← hnP] at ⊢
  rw [← hnR] at HRI ⊢
  clear vS bS sS vM bM sM vB bB sB vP sP vR fR hn0 hnM hnB hnP hnR
  have s0 : decide ((500 : Int) < (n0 : Int)) = false := decide_eq_false (by omega)
  go_enter Try.func9, Try.ntmps9
  go_wp2_with fail
  obtain ⟨R, hR⟩ : ∃ b, b = w.heap.size := ⟨_, rfl⟩
  obtain ⟨w0, hw0⟩ : ∃ Z, Z = w.alloc (.cells #[.slice aS0 n0 cS0, .slice aM0 nM cM0, .slice aB0 nB cB0, .slice aP0 nP cP0, .slice aR0 nR cR0] 60) := ⟨_, rfl⟩
  rw [← hw0, ← hR]
  have H0 : Hid (w0.heap[R]? = some (.cells #[.slice aS0 n0 cS0, .slice aM0 nM cM0, .slice aB0 nB cB0, .slice aP0 nP cP0, .slice aR0 nR cR0] 60 (0, 0)) ∧ Only (fun _ => False) w w0) := by
    rw [hw0, hR]
    exact ⟨heap_alloc_new w _, (Only.refl _ _).alloc _⟩
  clear hw0 hR
  refine (awake11_any _).mono ?_
  rintro e w1 ⟨rfl, ho1⟩
  have H1 : Hid _ := And.intro (blk_keep ho1 H0.out.1) (H0.out.2.trans ho1)
  obtain ⟨k0, k1, k2, k3, k4, l1⟩ := blk_five H1.out.1
  clear ho1
  go_wp2_with fail
  refine Calls.mono (HRI.out _ H1.out.2) ?_
  rintro e w2 ⟨Lr, vr, rfl, hown2, hL200, hok2, hb2⟩
  obtain ⟨aL, gL, capL, rfl, hSL, _, _⟩ := row_sees hown2
  have H2 : Hid _ := And.intro (blk_keep (only_below hb2) H1.out.1) (And.intro (H1.out.2.trans (only_below hb2)) (And.intro hSL hok2))
  obtain ⟨nl, hnl⟩ : ∃ n, n = Lr.length := ⟨_, rfl⟩
  have HTb : Hid (Calls Try.prog 15 #[.slice aL nl capL, .int .i64 3] w2 (tbP Lr w2)) := by
    rw [hnl]
    exact table_any Lr 3 aL gL 0 capL w2 hSL (by omega) hok2
  rw [← hnl] at hL200 ⊢
  clear k0 k1 k2 k3 k4 hown2 hok2 hb2 hSL hnl
  obtain ⟨k0, k1, k2, k3, k4, l2⟩ := blk_five H2.out.1
  go_wp2_with fail
  refine Calls.mono HTb.out ?_
  rintro e w3 ⟨T, rfl, hT, ho3⟩
  have H3 : Hid _ := And.intro (blk_keep ho3 H2.out.1) (And.intro (H2.out.2.1.trans ho3) hT)
  clear k0 k1 k2 k3 k4
  obtain ⟨k0, k1, k2, k3, k4, l3⟩ := blk_five H3.out.1
  clear ho3 hT
  go_wp2_with fail
  refine Calls.mono (HWO.out _ H3.out.2.1) ?_
  rintro e w4 ⟨D, aD, cD, rfl, hD, hDB, hDl, ho4⟩
  have hDc := own_le hD
  have H4 : Hid _ := And.intro (blk_keep ho4 H3.out.1) (And.intro (H3.out.2.1.trans ho4) (And.intro (H3.out.2.2.keep ho4) (And.intro (own_vw hD) hDB)))
  clear k0 k1 k2 k3 k4
  obtain ⟨k0, k1, k2, k3, k4, l4⟩ := blk_five H4.out.1
  clear ho4 hD hDB
  obtain ⟨nD, hnD⟩ : ∃ n, n = D.length := ⟨_, rfl⟩
  have hND : nD ≤ 2000 := by omega
  have HAL0 : Hid (∀ W, Only (fun _ => False) w4 W → Calls Try.prog 17 #[.slice aD nD cD] W (alP nD W)) := fun W ho => by
    rw [hnD]
    exact all_signs D aD cD W (H4.out.2.2.2.1.keep ho) H4.out.2.2.2.2 (by omega) hDc
  unfold alP at HAL0
  rw [← hnD] at hDc ⊢
  clear hDl hnD
  go_wp2_with fail
  refine Calls.mono (HB.out _ H4.out.2.1) ?_
  rintro e w5 ⟨aB, cB, rfl, hB5, ho5⟩
  have H5 : Hid (w5.ownsRow w4.heap.size 54 1 (.slice aB nB cB) nB (u8s (mix LB 0)) ∧ Only (fun _ => False) w4 w5) := ⟨by rw [mix_zero]; exact hB5, ho5⟩
  clear k0 k1 k2 k3 k4 hB5 ho5
  go_wp2_with fail
  go_loopg [35] nB (fun gh v wr => ∃ (k : Nat) (W : World), W = wr ∧ gh = nB - k ∧ k ≤ nB ∧ v = .int .i64 (k : Int) ∧ W.ownsRow w4.heap.size 54 1 (.slice aB nB cB) nB (u8s (mix LB k)) ∧ Only (fun _ => False) w4 W)
  case atStart => exact ⟨0, _, rfl, rfl, Nat.zero_le _, rfl, H5.out.1, H5.out.2⟩
  case round =>
   obtain ⟨k, W, hW, rfl, hk, rfl, hrow, hoW⟩ := hrel
   subst hW
   have HG : Hid (W.ownsRow w4.heap.size 54 1 (.slice aB nB cB) nB (u8s (mix LB k)) ∧ Only (fun _ => False) w4 W) := ⟨hrow, hoW⟩
   clear hrow hoW
   by_cases hlt : k < nB
   · have t1 : (k : Int) < (nB : Int) := by omega
     obtain ⟨x, hx⟩ : ∃ x, LB[k]? = some x := ⟨LB[k]'(by rw [← HN.out.2.1]; exact hlt), List.getElem?_eq_getElem _⟩
     obtain ⟨g, cap, ev, lg, _, hc⟩ := own_cells HG.out.1 (by omega)
     have e1 : aB = some ⟨g, 0, none⟩ := by injection ev
     subst e1
     have c1 : W.cell? ⟨g, k, none⟩ = some (.int .u8 (x : Int)) := hc k _ (u8s_at (mix_at hx))
     have f1 : W.frozen? ⟨g, k, none⟩ = false := HG.out.1.frozenAt k
     have hxb : x < 256 := HP.out.2.2.2.1 x (List.mem_of_getElem? hx)
     have HST := (HG.out.1.stored k (.int .u8 ((x % 3 : Nat) : Int))).1
     rw [u8s_set, mix_set hx] at HST
     have HST2 : Hid ((W.setCell ⟨g, k, none⟩ (.int .u8 ((x % 3 : Nat) : Int))).ownsRow w4.heap.size 54 1 (.slice (some ⟨g, 0, none⟩) nB cB) nB (u8s (mix LB (k + 1))) ∧ Only (fun _ => False) w4 (W.setCell ⟨g, k, none⟩ (.int .u8 ((x % 3 : Nat) : Int)))) := ⟨HST, HG.out.2.setNew (p := ⟨g, k, none⟩) (own_own HG.out.1 rfl).1 _⟩
     have r1 : (x : Int).tmod 3 = ((x % 3 : Nat) : Int) := by rw [Int.tmod_eq_emod_of_nonneg (by omega)]; rfl
     obtain ⟨y, hy⟩ : ∃ y, y = x % 3 := ⟨_, rfl⟩
     have hy3 : y < 3 := by omega
     rw [← hy] at r1 HST2
     clear HST ev hc hx hy
     go_wp2_with fail
     go_roundg (nB - (k + 1))
     case measure => omega
     case rel => exact ⟨k + 1, _, rfl, rfl, hlt, by go_num, HST2.out.1, HST2.out.2⟩
   · have t2 : decide ((k : Int) < (nB : Int)) = false := decide_eq_false (by omega)
     obtain ⟨w6, hw6⟩ : ∃ Z, Z = W := ⟨_, rfl⟩
     rw [← hw6] at HG ⊢
     clear hw6
     obtain ⟨LB3, hLB⟩ : ∃ L, L = LB.map (· % 3) := ⟨_, rfl⟩
     have HLB : Hid (∀ x ∈ LB3, x < 3) := by
       rw [hLB]
       intro x hx
       obtain ⟨y, _, rfl⟩ := List.mem_map.1 hx
       exact Nat.mod_lt _ (by decide)
     have HLL : Hid (nB = LB3.length) := by rw [hLB, List.length_map]; exact HN.out.2.1
     have HG2 : Hid (Vw w6 aB (u8s LB3) ∧ Only (fun _ => False) w4 w6) := by
       refine ⟨?_, HG.out.2⟩
       have h := own_vw HG.out.1
       rw [mix_all (by have := HN.out.2.1; omega), ← hLB] at h
       exact h
     clear hLB HG
     have HAL : Hid (∀ W, Only (fun _ => False) w6 W → Calls Try.prog 17 #[.slice aD nD cD] W fun e w' => ∃ (S : List Sn) (a : Option Addr) (c : Nat), e = .returned (.slice a S.length c) ∧ w'.ownsRow W.heap.size 50 3 (.slice a S.length c) S.length (snC S) ∧ Fits S ∧ Row S 0 nD ∧ S.length ≤ nD ∧ Only (fun _ => False) W w') := fun W ho => HAL0.out W (HG2.out.2.trans ho)
     have HOW : Hid (Only (fun _ => False) w w6) := H4.out.2.1.trans HG2.out.2
     have HBR : Hid _ := blk_keep HG2.out.2 H4.out.1
     have HKS : Hid (∀ W', Only (fun _ => False) w6 W' → W'.cell? ⟨R, 1, none⟩ = some (.slice aM0 nM cM0) ∧ W'.cell? ⟨R, 3, none⟩ = some (.slice aP0 nP cP0)) := fun W' ho => ⟨(blk_five (blk_keep ho HBR.out)).2.1, (blk_five (blk_keep ho HBR.out)).2.2.2.1⟩
     have HTB : Hid (∀ W, Only (fun _ => False) w6 W → Tab W w2.heap.size T Lr) := fun W ho => (H4.out.2.2.1.keep HG2.out.2).keep ho
     have HOK : Hid (Pr.okFrom 3 (-1) Lr = true) := H2.out.2.2.2
     have HVB : Hid (∀ W, Only (fun _ => False) w6 W → Vw W aB (u8s LB3)) := fun W ho => HG2.out.1.keep ho
     have HVP : Hid (∀ W, Only (fun _ => False) w6 W → Vw W aP0 (bools LP)) := fun W ho => HP.out.1.keep (HOW.out.trans ho)
     have HMX : Hid (nM ≤ maxLen ∧ nB ≤ maxLen ∧ nP ≤ maxLen) := ⟨by rw [HN.out.1]; unfold maxLen; have := HP.out.2.2.2.2.1; omega, by unfold maxLen; omega, by rw [HN.out.2.2]; exact HP.out.2.1⟩
     go_wp2_with fail
     go_cut [8] (fun v wr => ∃ (q : Nat) (C : List Ct) (O : List Nat) (B : Nat) (aC aO : Option Addr) (cC cO : Nat) (W : World), W = wr ∧ v = .pointer (some ⟨B, 0, none⟩) ∧ W.heap[B]? = some (.cells #[.slice aC q cC, .slice aO (q + 1) cO] 62 (0, 0)) ∧ Vw W aC (ctC C) ∧ Vw W aO (u8s O) ∧ Only (fun _ => False) w6 W ∧ Made nD q C O)
     case first =>
       have HXD : Hid (Only (fun _ => False) w6 w6.drew) := (Only.refl _ _).drew
       refine wp_region_held_drew (S := (fun W' => W'.cell? ⟨R, 1, none⟩ = some (.slice aM0 nM cM0) ∧ W'.cell? ⟨R, 3, none⟩ = some (.slice aP0 nP cP0))) (by kernel_rfl) (HKS.out _ (Only.refl _ _).drew) (fun hHeld => ?_)
       refine wpAnyH_take (i := 0) (oi := { dst := some 45, op := _, type := _, pos := _, after := _, guard := _ }) (v := .slice aD nD cD) rfl (by kernel_rfl) (by kernel_rfl) (by kernel_rfl) (fun _ _ _ h => h) (Or.inl ⟨by rfl, fun w hSw => by obtain ⟨y0, y1⟩ := hSw; first | (go_simp; done) | go_simp⟩) (by assumption) ?_
       (try simp only [Act.put, List.setIfInBounds_toArray, List.set_cons_zero, List.set_cons_succ])
       refine wpAnyH_take (i := 2) (oi := { dst := some 47, op := _, type := _, pos := _, after := _, guard := _ }) (v := .pointer (some ⟨R, 1, none⟩)) rfl (by kernel_rfl) (by kernel_rfl) (by kernel_rfl) (fun _ _ _ h => h) (Or.inl ⟨by rfl, fun w hSw => by obtain ⟨y0, y1⟩ := hSw; first | (go_simp; done) | go_simp⟩) (by assumption) ?_
       (try simp only [Act.put, List.setIfInBounds_toArray, List.set_cons_zero, List.set_cons_succ])
       refine wpAnyH_take (i := 3) (oi := { dst := some 48, op := _, type := _, pos := _, after := _, guard := _ }) (v := .slice aM0 nM cM0) rfl (by kernel_rfl) (by kernel_rfl) (by kernel_rfl) (fun _ _ _ h => h) (Or.inl ⟨by rfl, fun w hSw => by obtain ⟨y0, y1⟩ := hSw; first | (go_simp; done) | go_simp⟩) (by assumption) ?_
       (try simp only [Act.put, List.setIfInBounds_toArray, List.set_cons_zero, List.set_cons_succ])
       refine wpAnyH_take (i := 5) (oi := { dst := some 50, op := _, type := _, pos := _, after := _, guard := _ }) (v := .slice aB nB cB) rfl (by kernel_rfl) (by kernel_rfl) (by kernel_rfl) (fun _ _ _ h => h) (Or.inl ⟨by rfl, fun w hSw => by obtain ⟨y0, y1⟩ := hSw; first | (go_simp; done) | go_simp⟩) (by assumption) ?_
       (try simp only [Act.put, List.setIfInBounds_toArray, List.set_cons_zero, List.set_cons_succ])
       refine wpAnyH_take (i := 6) (oi := { dst := some 51, op := _, type := _, pos := _, after := _, guard := _ }) (v := .pointer (some ⟨R, 3, none⟩)) rfl (by kernel_rfl) (by kernel_rfl) (by kernel_rfl) (fun _ _ _ h => h) (Or.inl ⟨by rfl, fun w hSw => by obtain ⟨y0, y1⟩ := hSw; first | (go_simp; done) | go_simp⟩) (by assumption) ?_
       (try simp only [Act.put, List.setIfInBounds_toArray, List.set_cons_zero, List.set_cons_succ])
       refine wpAnyH_take (i := 7) (oi := { dst := some 52, op := _, type := _, pos := _, after := _, guard := _ }) (v := .slice aP0 nP cP0) rfl (by kernel_rfl) (by kernel_rfl) (by kernel_rfl) (fun _ _ _ h => h) (Or.inl ⟨by rfl, fun w hSw => by obtain ⟨y0, y1⟩ := hSw; first | (go_simp; done) | go_simp⟩) (by assumption) ?_
       (try simp only [Act.put, List.setIfInBounds_toArray, List.set_cons_zero, List.set_cons_succ])
       refine wpAnyH_take (i := 8) (oi := { dst := some 53, op := _, type := _, pos := _, after := _, guard := _ }) (v := .pointer (some ⟨T, 0, none⟩)) rfl (by kernel_rfl) (by kernel_rfl) (by kernel_rfl) (fun _ _ _ h => h) (Or.inl ⟨by rfl, fun w hSw => by obtain ⟨y0, y1⟩ := hSw; first | (go_simp; done) | go_simp⟩) (by assumption) ?_
       (try simp only [Act.put, List.setIfInBounds_toArray, List.set_cons_zero, List.set_cons_succ])
       refine wpAnyH_ready (rs := [1, 10]) (by kernel_rfl) (by simp) ?_
       refine AllReadyH.cons rfl (fun K hK => ?_) (AllReadyH.cons rfl (fun K hK => ?_) AllReadyH.nil)
       · as_aux_lemma =>
         rw [if_pos (by rfl)]
         go_simp
         refine Calls.mono (HAL.out _ HXD.out) ?_
         rintro e x6 ⟨S, aS, cS, rfl, hS, hF, hRw, hSl, ho⟩
         have HSx6 : Hid (Vw x6 aS (snC S)) := own_vw hS
         have hScm := own_cap hS
         have hSc := own_le hS
         obtain ⟨C, O, q, HMK, HQ⟩ := made (Lr := Lr) (LM := LM) (LB := LB3) (LP := LP) hF hRw hSl hND (HLB.out) hSc hScm
         rw [← HN.out.1, ← HLL.out, ← HN.out.2.2] at HMK
         obtain ⟨ns, hns⟩ : ∃ n, n = S.length := ⟨_, rfl⟩
         rw [← hns] at HMK ⊢
         clear hF hRw hSl hScm hSc hns
         have HXx6 : Hid (Only (fun _ => False) w6 x6) := HXD.out.trans ho
         clear hS ho
         refine hK.out _ _ (HKS.out _ HXx6.out) (fun hHeld => ?_)
         clear hK
         (try simp only [Act.put, List.setIfInBounds_toArray, List.set_cons_zero, List.set_cons_succ])
         refine wpAnyH_ready (rs := [4, 10]) (by kernel_rfl) (by simp) ?_
         refine AllReadyH.cons rfl (fun K hK => ?_) (AllReadyH.cons rfl (fun K hK => ?_) AllReadyH.nil)
         · as_aux_lemma =>
           rw [if_pos (by rfl)]
           go_simp
           refine Calls.mono (HM.out _ (HOW.out.trans HXx6.out)) ?_
           rintro e x7 ⟨a7, c7, rfl, hown, ho⟩
           have HSx7 : Hid (Vw x7 aS (snC S)) := HSx6.out.keep ho
           have HMx7 : Hid (Vw x7 a7 (u8s LM)) := own_vw hown
           have HXx7 : Hid (Only (fun _ => False) w6 x7) := HXx6.out.trans ho
           clear hown ho
           refine hK.out _ _ (HKS.out _ HXx7.out) (fun hHeld => ?_)
           clear hK
           (try simp only [Act.put, List.setIfInBounds_toArray, List.set_cons_zero, List.set_cons_succ])
           refine wpAnyH_ready (rs := [9, 10]) (by kernel_rfl) (by simp) ?_
           refine AllReadyH.cons rfl (fun K hK => ?_) (AllReadyH.cons rfl (fun K hK => ?_) AllReadyH.nil)
           · as_aux_lemma =>
             rw [if_pos (by rfl)]
             go_simp
             refine Calls.mono (HMK.out _ a7 c7 aB cB aP0 cP0 T _ (HTB.out _ HXx7.out) HOK.out HSx7.out HMx7.out HP.out.2.2.1 (HVB.out _ HXx7.out) (HVP.out _ HXx7.out) HMX.out) ?_
             rintro e x8 ⟨aC, aO, cC, cO, rfl, hcl, hop, ho⟩
             obtain ⟨bc, hbc⟩ : ∃ n, n = x7.heap.size := ⟨_, rfl⟩
             rw [← hbc] at hcl hop
             have HCx8 : Hid (x8.ownsRow bc 48 4 (.slice aC q cC) q (ctC C) ∧ x8.ownsRow bc 54 1 (.slice aO (q + 1) cO) (q + 1) (u8s O)) := ⟨hcl, hop⟩
             clear hcl hop hbc
             have HXx8 : Hid (Only (fun _ => False) w6 x8) := HXx7.out.trans ho
             clear ho
             refine hK.out _ _ (HKS.out _ HXx8.out) (fun hHeld => ?_)
             clear hK
             (try simp only [Act.put, List.setIfInBounds_toArray, List.set_cons_zero, List.set_cons_succ])
             refine wpAnyH_ready (rs := [10]) (by kernel_rfl) (by simp) ?_
             refine AllReadyH.cons rfl (fun K hK => ?_) AllReadyH.nil
             rw [if_pos (by rfl)]
             go_simp
             obtain ⟨y3, hy3⟩ : ∃ Y, Y = x8.alloc (.cells #[.slice none 0 0, .slice none 0 0] 62) := ⟨_, rfl⟩
             obtain ⟨b, hb⟩ : ∃ b, b = x8.heap.size := ⟨_, rfl⟩
             have HXy3 : Hid (Only (fun _ => False) w6 y3) := by rw [hy3]; exact HXx8.out.alloc _
             have HZy3 : Hid (y3.heap[b]? = some (.cells #[.slice none 0 0, .slice none 0 0] 62 (0, 0)) ∧ w6.heap.size ≤ b) := by rw [hy3, hb]; exact ⟨heap_alloc_new x8 _, HXx8.out.size⟩
             have HCy3 : Hid (y3.ownsRow bc 48 4 (.slice aC q cC) q (ctC C) ∧ y3.ownsRow bc 54 1 (.slice aO (q + 1) cO) (q + 1) (u8s O)) := by rw [hy3]; exact ⟨HCx8.out.1.alloc _, HCx8.out.2.alloc _⟩
             have HNE : Hid ((∀ g, (Value.slice aC q cC).ownBlock = some g → ¬ g = b) ∧ (∀ g, (Value.slice aO (q + 1) cO).ownBlock = some g → ¬ g = b)) := by rw [hb]; exact ⟨fun g hg => Nat.ne_of_lt (own_lt HCx8.out.1 hg), fun g hg => Nat.ne_of_lt (own_lt HCx8.out.2 hg)⟩
             rw [← hy3, ← hb]
             clear hy3 hb
             refine hK.out _ _ (HKS.out _ HXy3.out) (fun hHeld => ?_)
             clear hK
             (try simp only [Act.put, List.setIfInBounds_toArray, List.set_cons_zero, List.set_cons_succ])
             obtain ⟨z0, z1, zl⟩ := blk_two HZy3.out.1
             have zf : ∀ x, y3.frozen? ⟨b, x, none⟩ = false := fun x => fz_blk HZy3.out.1 x
             have HE : Hid (Only (fun _ => False) w6 ((y3.setCell ⟨b, 0, none⟩ (.slice aC q cC)).setCell ⟨b, 1, none⟩ (.slice aO (q + 1) cO))) := ((((HXy3.out.mono (S' := fun b => w6.heap.size ≤ b) (fun _ h => h.elim)).setCell (p := ⟨b, 0, none⟩) HZy3.out.2 _).setCell (p := ⟨b, 1, none⟩) HZy3.out.2 _).old (fun b hb => Or.inl hb))
             have HOZ : Hid (Only (fun x => x = b) y3 ((y3.setCell ⟨b, 0, none⟩ (.slice aC q cC)).setCell ⟨b, 1, none⟩ (.slice aO (q + 1) cO))) := ((Only.refl (fun x => x = b) y3).setCell (p := ⟨b, 0, none⟩) rfl _).setCell (p := ⟨b, 1, none⟩) rfl _
             refine wpAnyH_ready (rs := [11]) (by kernel_rfl) (by simp) ?_
             refine AllReadyH.cons rfl (fun K hK => ?_) AllReadyH.nil
             rw [if_pos (by rfl)]
             go_simp
             refine hK.out _ _ (HKS.out _ HE.out) (fun hHeld => ?_)
             clear hK
             (try simp only [Act.put, List.setIfInBounds_toArray, List.set_cons_zero, List.set_cons_succ])
             refine wpAnyH_done (by kernel_rfl) ?_ _
             clear hHeld z0 z1 zf zl
             go_wp2_with fail
             go_meet
             exact ⟨q, C, O, b, aC, aO, cC, cO, _, rfl, rfl, heap_setCell_at (k := 1) (heap_setCell_at (k := 0) HZy3.out.1 _) _, own_vw (own_stay HCy3.out.1 HOZ.out HNE.out.1), own_vw (own_stay HCy3.out.2 HOZ.out HNE.out.2), HE.out, HQ.out⟩
           · as_aux_lemma =>
             rw [if_pos (by rfl)]
             go_simp
             obtain ⟨y2, hy2⟩ : ∃ Y, Y = x7.alloc (.cells #[.slice none 0 0, .slice none 0 0] 62) := ⟨_, rfl⟩
             obtain ⟨b, hb⟩ : ∃ b, b = x7.heap.size := ⟨_, rfl⟩
             have HXy2 : Hid (Only (fun _ => False) w6 y2) := by rw [hy2]; exact HXx7.out.alloc _
             have HZy2 : Hid (y2.heap[b]? = some (.cells #[.slice none 0 0, .slice none 0 0] 62 (0, 0)) ∧ w6.heap.size ≤ b) := by rw [hy2, hb]; exact ⟨heap_alloc_new x7 _, HXx7.out.size⟩
             have HSy2 : Hid (Vw y2 aS (snC S)) := by rw [hy2]; exact HSx7.out.keep ((Only.refl _ _).alloc _)
             have HMy2 : Hid (Vw y2 a7 (u8s LM)) := by rw [hy2]; exact HMx7.out.keep ((Only.refl _ _).alloc _)
             rw [← hy2, ← hb]
             clear hy2 hb
             refine hK.out _ _ (HKS.out _ HXy2.out) (fun hHeld => ?_)
             clear hK
             (try simp only [Act.put, List.setIfInBounds_toArray, List.set_cons_zero, List.set_cons_succ])
             refine wpAnyH_ready (rs := [9]) (by kernel_rfl) (by simp) ?_
             refine AllReadyH.cons rfl (fun K hK => ?_) AllReadyH.nil
             rw [if_pos (by rfl)]
             go_simp
             refine Calls.mono (HMK.out _ a7 c7 aB cB aP0 cP0 T _ (HTB.out _ HXy2.out) HOK.out HSy2.out HMy2.out HP.out.2.2.1 (HVB.out _ HXy2.out) (HVP.out _ HXy2.out) HMX.out) ?_
             rintro e x8 ⟨aC, aO, cC, cO, rfl, hcl, hop, ho⟩
             obtain ⟨bc, hbc⟩ : ∃ n, n = y2.heap.size := ⟨_, rfl⟩
             rw [← hbc] at hcl hop
             have HCx8 : Hid (x8.ownsRow bc 48 4 (.slice aC q cC) q (ctC C) ∧ x8.ownsRow bc 54 1 (.slice aO (q + 1) cO) (q + 1) (u8s O)) := ⟨hcl, hop⟩
             have HNE : Hid ((∀ g, (Value.slice aC q cC).ownBlock = some g → ¬ g = b) ∧ (∀ g, (Value.slice aO (q + 1) cO).ownBlock = some g → ¬ g = b)) := ⟨fun g hg => Nat.ne_of_gt (Nat.lt_of_lt_of_le (Array.getElem?_eq_some_iff.1 HZy2.out.1).1 (by rw [← hbc]; exact (own_own hcl hg).1)), fun g hg => Nat.ne_of_gt (Nat.lt_of_lt_of_le (Array.getElem?_eq_some_iff.1 HZy2.out.1).1 (by rw [← hbc]; exact (own_own hop hg).1))⟩
             clear hcl hop hbc
             have HXx8 : Hid (Only (fun _ => False) w6 x8) := HXy2.out.trans ho
             have HZx8 : Hid (x8.heap[b]? = some (.cells #[.slice none 0 0, .slice none 0 0] 62 (0, 0)) ∧ w6.heap.size ≤ b) := ⟨blk_keep ho HZy2.out.1, HZy2.out.2⟩
             clear ho
             refine hK.out _ _ (HKS.out _ HXx8.out) (fun hHeld => ?_)
             clear hK
             (try simp only [Act.put, List.setIfInBounds_toArray, List.set_cons_zero, List.set_cons_succ])
             obtain ⟨z0, z1, zl⟩ := blk_two HZx8.out.1
             have zf : ∀ x, x8.frozen? ⟨b, x, none⟩ = false := fun x => fz_blk HZx8.out.1 x
             have HE : Hid (Only (fun _ => False) w6 ((x8.setCell ⟨b, 0, none⟩ (.slice aC q cC)).setCell ⟨b, 1, none⟩ (.slice aO (q + 1) cO))) := ((((HXx8.out.mono (S' := fun b => w6.heap.size ≤ b) (fun _ h => h.elim)).setCell (p := ⟨b, 0, none⟩) HZx8.out.2 _).setCell (p := ⟨b, 1, none⟩) HZx8.out.2 _).old (fun b hb => Or.inl hb))
             have HOZ : Hid (Only (fun x => x = b) x8 ((x8.setCell ⟨b, 0, none⟩ (.slice aC q cC)).setCell ⟨b, 1, none⟩ (.slice aO (q + 1) cO))) := ((Only.refl (fun x => x = b) x8).setCell (p := ⟨b, 0, none⟩) rfl _).setCell (p := ⟨b, 1, none⟩) rfl _
             refine wpAnyH_ready (rs := [11]) (by kernel_rfl) (by simp) ?_
             refine AllReadyH.cons rfl (fun K hK => ?_) AllReadyH.nil
             rw [if_pos (by rfl)]
             go_simp
             refine hK.out _ _ (HKS.out _ HE.out) (fun hHeld => ?_)
             clear hK
             (try simp only [Act.put, List.setIfInBounds_toArray, List.set_cons_zero, List.set_cons_succ])
             refine wpAnyH_done (by kernel_rfl) ?_ _
             clear hHeld z0 z1 zf zl
             go_wp2_with fail
             go_meet
             exact ⟨q, C, O, b, aC, aO, cC, cO, _, rfl, rfl, heap_setCell_at (k := 1) (heap_setCell_at (k := 0) HZx8.out.1 _) _, own_vw (own_stay HCx8.out.1 HOZ.out HNE.out.1), own_vw (own_stay HCx8.out.2 HOZ.out HNE.out.2), HE.out, HQ.out⟩
         · as_aux_lemma =>
           rw [if_pos (by rfl)]
           go_simp
           obtain ⟨y1, hy1⟩ : ∃ Y, Y = x6.alloc (.cells #[.slice none 0 0, .slice none 0 0] 62) := ⟨_, rfl⟩
           obtain ⟨b, hb⟩ : ∃ b, b = x6.heap.size := ⟨_, rfl⟩
           have HXy1 : Hid (Only (fun _ => False) w6 y1) := by rw [hy1]; exact HXx6.out.alloc _
           have HZy1 : Hid (y1.heap[b]? = some (.cells #[.slice none 0 0, .slice none 0 0] 62 (0, 0)) ∧ w6.heap.size ≤ b) := by rw [hy1, hb]; exact ⟨heap_alloc_new x6 _, HXx6.out.size⟩
           have HSy1 : Hid (Vw y1 aS (snC S)) := by rw [hy1]; exact HSx6.out.keep ((Only.refl _ _).alloc _)
           rw [← hy1, ← hb]
           clear hy1 hb
           refine hK.out _ _ (HKS.out _ HXy1.out) (fun hHeld => ?_)
           clear hK
           (try simp only [Act.put, List.setIfInBounds_toArray, List.set_cons_zero, List.set_cons_succ])
           refine wpAnyH_ready (rs := [4]) (by kernel_rfl) (by simp) ?_
           refine AllReadyH.cons rfl (fun K hK => ?_) AllReadyH.nil
           rw [if_pos (by rfl)]
           go_simp
           refine Calls.mono (HM.out _ (HOW.out.trans HXy1.out)) ?_
           rintro e x7 ⟨a7, c7, rfl, hown, ho⟩
           have HSx7 : Hid (Vw x7 aS (snC S)) := HSy1.out.keep ho
           have HMx7 : Hid (Vw x7 a7 (u8s LM)) := own_vw hown
           have HXx7 : Hid (Only (fun _ => False) w6 x7) := HXy1.out.trans ho
           have HZx7 : Hid (x7.heap[b]? = some (.cells #[.slice none 0 0, .slice none 0 0] 62 (0, 0)) ∧ w6.heap.size ≤ b) := ⟨blk_keep ho HZy1.out.1, HZy1.out.2⟩
           clear hown ho
           refine hK.out _ _ (HKS.out _ HXx7.out) (fun hHeld => ?_)
           clear hK
           (try simp only [Act.put, List.setIfInBounds_toArray, List.set_cons_zero, List.set_cons_succ])
           refine wpAnyH_ready (rs := [9]) (by kernel_rfl) (by simp) ?_
           refine AllReadyH.cons rfl (fun K hK => ?_) AllReadyH.nil
           rw [if_pos (by rfl)]
           go_simp
           refine Calls.mono (HMK.out _ a7 c7 aB cB aP0 cP0 T _ (HTB.out _ HXx7.out) HOK.out HSx7.out HMx7.out HP.out.2.2.1 (HVB.out _ HXx7.out) (HVP.out _ HXx7.out) HMX.out) ?_
           rintro e x8 ⟨aC, aO, cC, cO, rfl, hcl, hop, ho⟩
           obtain ⟨bc, hbc⟩ : ∃ n, n = x7.heap.size := ⟨_, rfl⟩
           rw [← hbc] at hcl hop
           have HCx8 : Hid (x8.ownsRow bc 48 4 (.slice aC q cC) q (ctC C) ∧ x8.ownsRow bc 54 1 (.slice aO (q + 1) cO) (q + 1) (u8s O)) := ⟨hcl, hop⟩
           have HNE : Hid ((∀ g, (Value.slice aC q cC).ownBlock = some g → ¬ g = b) ∧ (∀ g, (Value.slice aO (q + 1) cO).ownBlock = some g → ¬ g = b)) := ⟨fun g hg => Nat.ne_of_gt (Nat.lt_of_lt_of_le (Array.getElem?_eq_some_iff.1 HZx7.out.1).1 (by rw [← hbc]; exact (own_own hcl hg).1)), fun g hg => Nat.ne_of_gt (Nat.lt_of_lt_of_le (Array.getElem?_eq_some_iff.1 HZx7.out.1).1 (by rw [← hbc]; exact (own_own hop hg).1))⟩
           clear hcl hop hbc
           have HXx8 : Hid (Only (fun _ => False) w6 x8) := HXx7.out.trans ho
           have HZx8 : Hid (x8.heap[b]? = some (.cells #[.slice none 0 0, .slice none 0 0] 62 (0, 0)) ∧ w6.heap.size ≤ b) := ⟨blk_keep ho HZx7.out.1, HZx7.out.2⟩
           clear ho
           refine hK.out _ _ (HKS.out _ HXx8.out) (fun hHeld => ?_)
           clear hK
           (try simp only [Act.put, List.setIfInBounds_toArray, List.set_cons_zero, List.set_cons_succ])
           obtain ⟨z0, z1, zl⟩ := blk_two HZx8.out.1
           have zf : ∀ x, x8.frozen? ⟨b, x, none⟩ = false := fun x => fz_blk HZx8.out.1 x
           have HE : Hid (Only (fun _ => False) w6 ((x8.setCell ⟨b, 0, none⟩ (.slice aC q cC)).setCell ⟨b, 1, none⟩ (.slice aO (q + 1) cO))) := ((((HXx8.out.mono (S' := fun b => w6.heap.size ≤ b) (fun _ h => h.elim)).setCell (p := ⟨b, 0, none⟩) HZx8.out.2 _).setCell (p := ⟨b, 1, none⟩) HZx8.out.2 _).old (fun b hb => Or.inl hb))
           have HOZ : Hid (Only (fun x => x = b) x8 ((x8.setCell ⟨b, 0, none⟩ (.slice aC q cC)).setCell ⟨b, 1, none⟩ (.slice aO (q + 1) cO))) := ((Only.refl (fun x => x = b) x8).setCell (p := ⟨b, 0, none⟩) rfl _).setCell (p := ⟨b, 1, none⟩) rfl _
           refine wpAnyH_ready (rs := [11]) (by kernel_rfl) (by simp) ?_
           refine AllReadyH.cons rfl (fun K hK => ?_) AllReadyH.nil
           rw [if_pos (by rfl)]
           go_simp
           refine hK.out _ _ (HKS.out _ HE.out) (fun hHeld => ?_)
           clear hK
           (try simp only [Act.put, List.setIfInBounds_toArray, List.set_cons_zero, List.set_cons_succ])
           refine wpAnyH_done (by kernel_rfl) ?_ _
           clear hHeld z0 z1 zf zl
           go_wp2_with fail
           go_meet
           exact ⟨q, C, O, b, aC, aO, cC, cO, _, rfl, rfl, heap_setCell_at (k := 1) (heap_setCell_at (k := 0) HZx8.out.1 _) _, own_vw (own_stay HCx8.out.1 HOZ.out HNE.out.1), own_vw (own_stay HCx8.out.2 HOZ.out HNE.out.2), HE.out, HQ.out⟩
       · as_aux_lemma =>
         rw [if_pos (by rfl)]
         go_simp
         obtain ⟨y0, hy0⟩ : ∃ Y, Y = (w6.alloc (.cells #[.slice none 0 0, .slice none 0 0] 62)).drew := ⟨_, rfl⟩
         obtain ⟨b, hb⟩ : ∃ b, b = w6.heap.size := ⟨_, rfl⟩
         have HXy0 : Hid (Only (fun _ => False) w6 y0) := by rw [hy0]; exact ((Only.refl _ _).alloc _).drew
         have HZy0 : Hid (y0.heap[b]? = some (.cells #[.slice none 0 0, .slice none 0 0] 62 (0, 0)) ∧ w6.heap.size ≤ b) := by rw [hy0, hb]; exact ⟨heap_alloc_new w6 _, HXD.out.size⟩
         rw [← hy0, ← hb]
         clear hy0 hb
         refine hK.out _ _ (HKS.out _ HXy0.out) (fun hHeld => ?_)
         clear hK
         (try simp only [Act.put, List.setIfInBounds_toArray, List.set_cons_zero, List.set_cons_succ])
         refine wpAnyH_ready (rs := [1]) (by kernel_rfl) (by simp) ?_
         refine AllReadyH.cons rfl (fun K hK => ?_) AllReadyH.nil
         rw [if_pos (by rfl)]
         go_simp
         refine Calls.mono (HAL.out _ HXy0.out) ?_
         rintro e x6 ⟨S, aS, cS, rfl, hS, hF, hRw, hSl, ho⟩
         have HSx6 : Hid (Vw x6 aS (snC S)) := own_vw hS
         have hScm := own_cap hS
         have hSc := own_le hS
         obtain ⟨C, O, q, HMK, HQ⟩ := made (Lr := Lr) (LM := LM) (LB := LB3) (LP := LP) hF hRw hSl hND (HLB.out) hSc hScm
         rw [← HN.out.1, ← HLL.out, ← HN.out.2.2] at HMK
         obtain ⟨ns, hns⟩ : ∃ n, n = S.length := ⟨_, rfl⟩
         rw [← hns] at HMK ⊢
         clear hF hRw hSl hScm hSc hns
         have HXx6 : Hid (Only (fun _ => False) w6 x6) := HXy0.out.trans ho
         have HZx6 : Hid (x6.heap[b]? = some (.cells #[.slice none 0 0, .slice none 0 0] 62 (0, 0)) ∧ w6.heap.size ≤ b) := ⟨blk_keep ho HZy0.out.1, HZy0.out.2⟩
         clear hS ho
         refine hK.out _ _ (HKS.out _ HXx6.out) (fun hHeld => ?_)
         clear hK
         (try simp only [Act.put, List.setIfInBounds_toArray, List.set_cons_zero, List.set_cons_succ])
         refine wpAnyH_ready (rs := [4]) (by kernel_rfl) (by simp) ?_
         refine AllReadyH.cons rfl (fun K hK => ?_) AllReadyH.nil
         rw [if_pos (by rfl)]
         go_simp
         refine Calls.mono (HM.out _ (HOW.out.trans HXx6.out)) ?_
         rintro e x7 ⟨a7, c7, rfl, hown, ho⟩
         have HSx7 : Hid (Vw x7 aS (snC S)) := HSx6.out.keep ho
         have HMx7 : Hid (Vw x7 a7 (u8s LM)) := own_vw hown
         have HXx7 : Hid (Only (fun _ => False) w6 x7) := HXx6.out.trans ho
         have HZx7 : Hid (x7.heap[b]? = some (.cells #[.slice none 0 0, .slice none 0 0] 62 (0, 0)) ∧ w6.heap.size ≤ b) := ⟨blk_keep ho HZx6.out.1, HZx6.out.2⟩
         clear hown ho
         refine hK.out _ _ (HKS.out _ HXx7.out) (fun hHeld => ?_)
         clear hK
         (try simp only [Act.put, List.setIfInBounds_toArray, List.set_cons_zero, List.set_cons_succ])
         refine wpAnyH_ready (rs := [9]) (by kernel_rfl) (by simp) ?_
         refine AllReadyH.cons rfl (fun K hK => ?_) AllReadyH.nil
         rw [if_pos (by rfl)]
         go_simp
         refine Calls.mono (HMK.out _ a7 c7 aB cB aP0 cP0 T _ (HTB.out _ HXx7.out) HOK.out HSx7.out HMx7.out HP.out.2.2.1 (HVB.out _ HXx7.out) (HVP.out _ HXx7.out) HMX.out) ?_
         rintro e x8 ⟨aC, aO, cC, cO, rfl, hcl, hop, ho⟩
         obtain ⟨bc, hbc⟩ : ∃ n, n = x7.heap.size := ⟨_, rfl⟩
         rw [← hbc] at hcl hop
         have HCx8 : Hid (x8.ownsRow bc 48 4 (.slice aC q cC) q (ctC C) ∧ x8.ownsRow bc 54 1 (.slice aO (q + 1) cO) (q + 1) (u8s O)) := ⟨hcl, hop⟩
         have HNE : Hid ((∀ g, (Value.slice aC q cC).ownBlock = some g → ¬ g = b) ∧ (∀ g, (Value.slice aO (q + 1) cO).ownBlock = some g → ¬ g = b)) := ⟨fun g hg => Nat.ne_of_gt (Nat.lt_of_lt_of_le (Array.getElem?_eq_some_iff.1 HZx7.out.1).1 (by rw [← hbc]; exact (own_own hcl hg).1)), fun g hg => Nat.ne_of_gt (Nat.lt_of_lt_of_le (Array.getElem?_eq_some_iff.1 HZx7.out.1).1 (by rw [← hbc]; exact (own_own hop hg).1))⟩
         clear hcl hop hbc
         have HXx8 : Hid (Only (fun _ => False) w6 x8) := HXx7.out.trans ho
         have HZx8 : Hid (x8.heap[b]? = some (.cells #[.slice none 0 0, .slice none 0 0] 62 (0, 0)) ∧ w6.heap.size ≤ b) := ⟨blk_keep ho HZx7.out.1, HZx7.out.2⟩
         clear ho
         refine hK.out _ _ (HKS.out _ HXx8.out) (fun hHeld => ?_)
         clear hK
         (try simp only [Act.put, List.setIfInBounds_toArray, List.set_cons_zero, List.set_cons_succ])
         obtain ⟨z0, z1, zl⟩ := blk_two HZx8.out.1
         have zf : ∀ x, x8.frozen? ⟨b, x, none⟩ = false := fun x => fz_blk HZx8.out.1 x
         have HE : Hid (Only (fun _ => False) w6 ((x8.setCell ⟨b, 0, none⟩ (.slice aC q cC)).setCell ⟨b, 1, none⟩ (.slice aO (q + 1) cO))) := ((((HXx8.out.mono (S' := fun b => w6.heap.size ≤ b) (fun _ h => h.elim)).setCell (p := ⟨b, 0, none⟩) HZx8.out.2 _).setCell (p := ⟨b, 1, none⟩) HZx8.out.2 _).old (fun b hb => Or.inl hb))
         have HOZ : Hid (Only (fun x => x = b) x8 ((x8.setCell ⟨b, 0, none⟩ (.slice aC q cC)).setCell ⟨b, 1, none⟩ (.slice aO (q + 1) cO))) := ((Only.refl (fun x => x = b) x8).setCell (p := ⟨b, 0, none⟩) rfl _).setCell (p := ⟨b, 1, none⟩) rfl _
         refine wpAnyH_ready (rs := [11]) (by kernel_rfl) (by simp) ?_
         refine AllReadyH.cons rfl (fun K hK => ?_) AllReadyH.nil
         rw [if_pos (by rfl)]
         go_simp
         refine hK.out _ _ (HKS.out _ HE.out) (fun hHeld => ?_)
         clear hK
         (try simp only [Act.put, List.setIfInBounds_toArray, List.set_cons_zero, List.set_cons_succ])
         refine wpAnyH_done (by kernel_rfl) ?_ _
         clear hHeld z0 z1 zf zl
         go_wp2_with fail
         go_meet
         exact ⟨q, C, O, b, aC, aO, cC, cO, _, rfl, rfl, heap_setCell_at (k := 1) (heap_setCell_at (k := 0) HZx8.out.1 _) _, own_vw (own_stay HCx8.out.1 HOZ.out HNE.out.1), own_vw (own_stay HCx8.out.2 HOZ.out HNE.out.2), HE.out, HQ.out⟩
     case rest =>
       obtain ⟨q, C, O, B, aC, aO, cC, cO, V, hV, rfl, hbB, hvC, hvO, hoV, hMd⟩ := hcut
       subst hV
       obtain ⟨m1, m2, m3, m4, m5, m6, m7, m8⟩ := hMd
       have HR : Hid (V.heap[B]? = some (.cells #[.slice aC q cC, .slice aO (q + 1) cO] 62 (0, 0)) ∧ Vw V aC (ctC C) ∧ Vw V aO (u8s O) ∧ Only (fun _ => False) w6 V) := ⟨hbB, hvC, hvO, hoV⟩
       have HPT : Hid (∀ W', Only (fun _ => False) V W' → Calls Try.prog 29 #[.agg #[.slice aC q cC, .slice aO (q + 1) cO]] W' (ptP (It.parts O (q + 1)) W')) := fun W' ho => by
         have h := parts_any q aC cC O aO cO W' (HR.out.2.2.1.keep ho) m6 (by rw [m2]; omega)
         rw [m2] at h
         exact h
       have HCK : Hid (∀ W', Only (fun _ => False) V W' → Calls Try.prog 30 #[.agg #[.slice aC q cC, .slice aO (q + 1) cO]] W' fun e w' => e = .returned (.bool true) ∧ Only (fun _ => False) W' w') := fun W' ho => by
         have h := icheck_any (C.map Ct.g) O aC aO cC cO W' (by rw [← ctC_cgC]; exact HR.out.2.1.keep ho) m7 (HR.out.2.2.1.keep ho) m6 (by rw [List.length_map, m1]; omega) (by rw [m2]; omega)
         rw [List.length_map, m1, m2, m3] at h
         exact h
       have HBY : Hid (∀ W', Only (fun _ => False) V W' → Calls Try.prog 31 #[.agg #[.slice aC q cC, .slice aO (q + 1) cO]] W' fun e w' => e = .returned (.int .i64 (nD : Int)) ∧ Only (fun _ => False) W' w') := fun W' ho => by
         have h := bytes_any C aC cC (q + 1) aO cO W' (HR.out.2.1.keep ho) (by rw [m1]; omega) (by rw [m4]; omega)
         rw [m1, m4] at h
         exact h
       obtain ⟨PT, hPT⟩ : ∃ PT, PT = It.parts O (q + 1) := ⟨_, rfl⟩
       obtain ⟨p, hp⟩ : ∃ p, p = PT.length := ⟨_, rfl⟩
       have hlast := parts_last m5
       have hpq : p ≤ q + 1 := by rw [hp, hPT]; exact It.parts_len O (q + 1)
       have HPF : Hid ((∀ (i x : Nat), PT[i]? = some x → x < q + 1 ∧ O.getD x 0 = 2) ∧ (∀ (i j x y : Nat), PT[i]? = some x → PT[j]? = some y → i < j → x < y) ∧ p = PT.length) := ⟨fun i x h => parts_two (by rw [hPT] at h; exact h), fun i j x y h1 h2 hl => parts_rise (by rw [hPT] at h1; exact h1) (by rw [hPT] at h2; exact h2) hl, hp⟩
       rw [← hPT] at HPT hlast
       rw [← hp] at hlast
       unfold ptP at HPT
       rw [← hp] at HPT
       obtain ⟨hl1, hp0⟩ := hlast
       obtain ⟨pm, hpm⟩ : ∃ pm, p = pm + 1 := ⟨p - 1, by omega⟩
       have HPM : Hid (PT[pm]? = some q) := by
         have : p - 1 = pm := by omega
         rw [← this]
         exact hl1
       have HO2 : Hid (∀ x, x < q + 1 → O.getD x 0 = 2 → (u8s O)[x]? = some (.int .u8 2)) := fun x hx h2 => by
         have hx2 : x < O.length := by omega
         have e : O[x]? = some 2 := by
           rw [List.getD_eq_getElem?_getD, List.getElem?_eq_getElem hx2] at h2
           rw [List.getElem?_eq_getElem hx2]
           simpa using h2
         exact u8s_at e
       have HOL : Hid (O.length = q + 1) := m2
       have pz : ((p : Int) == 0) = false := by simp; omega
       have pw : IntKind.i64.wrap ((p : Int) - 1) = (pm : Int) := by
         have : (p : Int) - 1 = (pm : Int) := by omega
         rw [this]
         simp only [IntKind.wrap, IntKind.signed, IntKind.bits]
         simp
         omega
       have plt : pm < p := by omega
       clear hbB hvC hvO hoV m1 m2 m3 m4 m5 m6 m7 hPT hp hl1 hpm
       obtain ⟨r0, r1, lB⟩ := blk_two HR.out.1
       go_wp2_with fail
       refine Calls.mono (HPT.out _ (Only.refl _ _)) ?_
       rintro e V1 ⟨aX, cX, rfl, hX, hoX⟩
       obtain ⟨gX, cap, ev, lX, _, hcX⟩ := own_cells hX hp0
       have eX : aX = some ⟨gX, 0, none⟩ := by injection ev
       subst eX
       have HV1 : Hid (V1.heap[B]? = some (.cells #[.slice aC q cC, .slice aO (q + 1) cO] 62 (0, 0)) ∧ Only (fun _ => False) V V1 ∧ ∀ (j x : Nat), PT[j]? = some x → V1.cell? ⟨gX, j, none⟩ = some (.int .i64 (x : Int))) := ⟨blk_keep hoX HR.out.1, hoX, fun j x hj => hcX j _ (natI_get hj)⟩
       clear r0 r1 ev hX hoX hcX
       have HK1 : Hid (∀ W', Only (fun _ => False) V1 W' → W'.cell? ⟨B, 0, none⟩ = some (.slice aC q cC) ∧ W'.cell? ⟨B, 1, none⟩ = some (.slice aO (q + 1) cO) ∧ W'.cell? ⟨gX, pm, none⟩ = some (.int .i64 (q : Int))) := fun W' ho => ⟨(blk_two (blk_keep ho HV1.out.1)).1, (blk_two (blk_keep ho HV1.out.1)).2.1, keep0 ho (HV1.out.2.2 pm q HPM.out)⟩
       go_wp2_with fail
       refine wp_region_held_drew (S := (fun W' => W'.cell? ⟨B, 0, none⟩ = some (.slice aC q cC) ∧ W'.cell? ⟨B, 1, none⟩ = some (.slice aO (q + 1) cO) ∧ W'.cell? ⟨gX, pm, none⟩ = some (.int .i64 (q : Int)))) (by kernel_rfl) (HK1.out _ ((Only.refl (fun _ => False) V1).drew)) (fun hHeld => ?_)
       refine wpAnyH_take (i := 0) (oi := { dst := some 57, op := _, type := _, pos := _, after := _, guard := _ }) (v := .agg #[.slice aC q cC, .slice aO (q + 1) cO]) rfl (by kernel_rfl) (by kernel_rfl) (by kernel_rfl) (fun _ _ _ h => h) (Or.inl ⟨by rfl, fun w hSw => by obtain ⟨y0, y1, y2⟩ := hSw; first | (go_simp; done) | go_simp⟩) (by assumption) ?_
       (try simp only [Act.put, List.setIfInBounds_toArray, List.set_cons_zero, List.set_cons_succ])
       refine wpAnyH_ready (rs := [1]) (by kernel_rfl) (by simp) ?_
       refine AllReadyH.cons rfl (fun K hK => ?_) AllReadyH.nil
       rw [if_pos (by rfl)]
       go_simp
       refine Calls.mono (HCK.out _ (HV1.out.2.1.trans (Only.refl _ _).drew)) ?_
       rintro e V2 ⟨rfl, ho⟩
       have HV2 : Hid (Only (fun _ => False) V1 V2) := ((Only.refl _ _).drew).trans ho
       clear ho
       refine hK.out _ _ (HK1.out _ HV2.out) (fun hHeld => ?_)
       clear hK
       (try simp only [Act.put, List.setIfInBounds_toArray, List.set_cons_zero, List.set_cons_succ])
       refine wpAnyH_take (i := 2) (oi := { dst := some 59, op := _, type := _, pos := _, after := _, guard := _ }) (v := .bool false) rfl (by kernel_rfl) (by kernel_rfl) (by kernel_rfl) (fun _ _ _ h => h) (Or.inl ⟨by rfl, fun w hSw => by first | (go_simp; done) | go_simp⟩) (by assumption) ?_
       (try simp only [Act.put, List.setIfInBounds_toArray, List.set_cons_zero, List.set_cons_succ])
       refine wpAnyH_take (i := 3) (oi := { dst := some 60, op := _, type := _, pos := _, after := _, guard := _ }) (v := .bool false) rfl (by kernel_rfl) (by kernel_rfl) (by kernel_rfl) (fun _ _ _ h => h) (Or.inl ⟨by rfl, fun w hSw => by first | (go_simp; done) | go_simp⟩) (by assumption) ?_
       (try simp only [Act.put, List.setIfInBounds_toArray, List.set_cons_zero, List.set_cons_succ])
       refine wpAnyH_take (i := 4) (oi := { dst := some 61, op := _, type := _, pos := _, after := _, guard := _ }) (v := .agg #[.slice aC q cC, .slice aO (q + 1) cO]) rfl (by kernel_rfl) (by kernel_rfl) (by kernel_rfl) (fun _ _ _ h => h) (Or.inl ⟨by rfl, fun w hSw => by obtain ⟨y0, y1, y2⟩ := hSw; first | (go_simp; done) | go_simp⟩) (by assumption) ?_
       (try simp only [Act.put, List.setIfInBounds_toArray, List.set_cons_zero, List.set_cons_succ])
       refine wpAnyH_take (i := 6) (oi := { dst := some 63, op := _, type := _, pos := _, after := _, guard := _ }) (v := .slice aD nD cD) rfl (by kernel_rfl) (by kernel_rfl) (by kernel_rfl) (fun _ _ _ h => h) (Or.inl ⟨by rfl, fun w hSw => by first | (go_simp; done) | go_simp⟩) (by assumption) ?_
       (try simp only [Act.put, List.setIfInBounds_toArray, List.set_cons_zero, List.set_cons_succ])
       refine wpAnyH_take (i := 7) (oi := { dst := some 64, op := _, type := _, pos := _, after := _, guard := _ }) (v := .int .i64 (nD : Int)) rfl (by kernel_rfl) (by kernel_rfl) (by kernel_rfl) (fun _ _ _ h => h) (Or.inl ⟨by rfl, fun w hSw => by first | (go_simp; done) | go_simp⟩) (by assumption) ?_
       (try simp only [Act.put, List.setIfInBounds_toArray, List.set_cons_zero, List.set_cons_succ])
       refine wpAnyH_ready (rs := [5]) (by kernel_rfl) (by simp) ?_
       refine AllReadyH.cons rfl (fun K hK => ?_) AllReadyH.nil
       rw [if_pos (by rfl)]
       go_simp
       refine Calls.mono (HBY.out _ (HV1.out.2.1.trans HV2.out)) ?_
       rintro e V3 ⟨rfl, ho⟩
       have HV3 : Hid (Only (fun _ => False) V1 V3) := HV2.out.trans ho
       clear ho
       refine hK.out _ _ (HK1.out _ HV3.out) (fun hHeld => ?_)
       clear hK
       (try simp only [Act.put, List.setIfInBounds_toArray, List.set_cons_zero, List.set_cons_succ])
       refine wpAnyH_take (i := 8) (oi := { dst := some 65, op := _, type := _, pos := _, after := _, guard := _ }) (v := .bool false) rfl (by kernel_rfl) (by kernel_rfl) (by kernel_rfl) (fun _ _ _ h => h) (Or.inl ⟨by rfl, fun w hSw => by first | (go_simp; done) | go_simp⟩) (by assumption) ?_
       (try simp only [Act.put, List.setIfInBounds_toArray, List.set_cons_zero, List.set_cons_succ])
       refine wpAnyH_take (i := 9) (oi := { dst := some 66, op := _, type := _, pos := _, after := _, guard := _ }) (v := .bool false) rfl (by kernel_rfl) (by kernel_rfl) (by kernel_rfl) (fun _ _ _ h => h) (Or.inl ⟨by rfl, fun w hSw => by first | (go_simp; done) | go_simp⟩) (by assumption) ?_
       (try simp only [Act.put, List.setIfInBounds_toArray, List.set_cons_zero, List.set_cons_succ])
       refine wpAnyH_take (i := 10) (oi := { dst := some 67, op := _, type := _, pos := _, after := _, guard := _ }) (v := .bool false) rfl (by kernel_rfl) (by kernel_rfl) (by kernel_rfl) (fun _ _ _ h => h) (Or.inl ⟨by rfl, fun w hSw => by first | (go_simp; done) | go_simp⟩) (by assumption) ?_
       (try simp only [Act.put, List.setIfInBounds_toArray, List.set_cons_zero, List.set_cons_succ])
       refine wpAnyH_take (i := 11) (oi := { dst := some 68, op := _, type := _, pos := _, after := _, guard := _ }) (v := .slice (some ⟨gX, 0, none⟩) p cX) rfl (by kernel_rfl) (by kernel_rfl) (by kernel_rfl) (fun _ _ _ h => h) (Or.inl ⟨by rfl, fun w hSw => by first | (go_simp; done) | go_simp⟩) (by assumption) ?_
       (try simp only [Act.put, List.setIfInBounds_toArray, List.set_cons_zero, List.set_cons_succ])
       refine wpAnyH_take (i := 12) (oi := { dst := some 69, op := _, type := _, pos := _, after := _, guard := _ }) (v := .int .i64 (p : Int)) rfl (by kernel_rfl) (by kernel_rfl) (by kernel_rfl) (fun _ _ _ h => h) (Or.inl ⟨by rfl, fun w hSw => by first | (go_simp; done) | go_simp⟩) (by assumption) ?_
       (try simp only [Act.put, List.setIfInBounds_toArray, List.set_cons_zero, List.set_cons_succ])
       refine wpAnyH_take (i := 13) (oi := { dst := some 70, op := _, type := _, pos := _, after := _, guard := _ }) (v := .bool false) rfl (by kernel_rfl) (by kernel_rfl) (by kernel_rfl) (fun _ _ _ h => h) (Or.inl ⟨by rfl, fun w hSw => by first | (go_simp; done) | go_simp⟩) (by assumption) ?_
       (try simp only [Act.put, List.setIfInBounds_toArray, List.set_cons_zero, List.set_cons_succ])
       refine wpAnyH_take (i := 14) (oi := { dst := some 71, op := _, type := _, pos := _, after := _, guard := _ }) (v := .bool false) rfl (by kernel_rfl) (by kernel_rfl) (by kernel_rfl) (fun _ _ _ h => h) (Or.inl ⟨by rfl, fun w hSw => by first | (go_simp; done) | go_simp⟩) (by assumption) ?_
       (try simp only [Act.put, List.setIfInBounds_toArray, List.set_cons_zero, List.set_cons_succ])
       refine wpAnyH_take (i := 15) (oi := { dst := some 72, op := _, type := _, pos := _, after := _, guard := _ }) (v := .bool false) rfl (by kernel_rfl) (by kernel_rfl) (by kernel_rfl) (fun _ _ _ h => h) (Or.inl ⟨by rfl, fun w hSw => by first | (go_simp; done) | go_simp⟩) (by assumption) ?_
       (try simp only [Act.put, List.setIfInBounds_toArray, List.set_cons_zero, List.set_cons_succ])
       refine wpAnyH_take (i := 16) (oi := { dst := some 73, op := _, type := _, pos := _, after := _, guard := _ }) (v := .slice (some ⟨gX, 0, none⟩) p cX) rfl (by kernel_rfl) (by kernel_rfl) (by kernel_rfl) (fun _ _ _ h => h) (Or.inl ⟨by rfl, fun w hSw => by first | (go_simp; done) | go_simp⟩) (by assumption) ?_
       (try simp only [Act.put, List.setIfInBounds_toArray, List.set_cons_zero, List.set_cons_succ])
       refine wpAnyH_take (i := 17) (oi := { dst := some 74, op := _, type := _, pos := _, after := _, guard := _ }) (v := .slice (some ⟨gX, 0, none⟩) p cX) rfl (by kernel_rfl) (by kernel_rfl) (by kernel_rfl) (fun _ _ _ h => h) (Or.inl ⟨by rfl, fun w hSw => by first | (go_simp; done) | go_simp⟩) (by assumption) ?_
       (try simp only [Act.put, List.setIfInBounds_toArray, List.set_cons_zero, List.set_cons_succ])
       refine wpAnyH_take (i := 18) (oi := { dst := some 75, op := _, type := _, pos := _, after := _, guard := _ }) (v := .int .i64 (p : Int)) rfl (by kernel_rfl) (by kernel_rfl) (by kernel_rfl) (fun _ _ _ h => h) (Or.inl ⟨by rfl, fun w hSw => by first | (go_simp; done) | go_simp⟩) (by assumption) ?_
       (try simp only [Act.put, List.setIfInBounds_toArray, List.set_cons_zero, List.set_cons_succ])
       refine wpAnyH_take (i := 19) (oi := { dst := some 76, op := _, type := _, pos := _, after := _, guard := _ }) (v := .int .i64 (pm : Int)) rfl (by kernel_rfl) (by kernel_rfl) (by kernel_rfl) (fun _ _ _ h => h) (Or.inl ⟨by rfl, fun w hSw => by first | (go_simp; done) | go_simp⟩) (by assumption) ?_
       (try simp only [Act.put, List.setIfInBounds_toArray, List.set_cons_zero, List.set_cons_succ])
       refine wpAnyH_take (i := 20) (oi := { dst := some 77, op := _, type := _, pos := _, after := _, guard := _ }) (v := .pointer (some ⟨gX, pm, none⟩)) rfl (by kernel_rfl) (by kernel_rfl) (by kernel_rfl) (fun _ _ _ h => h) (Or.inl ⟨by rfl, fun w hSw => by first | (go_simp; done) | go_simp⟩) (by assumption) ?_
       (try simp only [Act.put, List.setIfInBounds_toArray, List.set_cons_zero, List.set_cons_succ])
       refine wpAnyH_take (i := 21) (oi := { dst := some 78, op := _, type := _, pos := _, after := _, guard := _ }) (v := .int .i64 (q : Int)) rfl (by kernel_rfl) (by kernel_rfl) (by kernel_rfl) (fun _ _ _ h => h) (Or.inl ⟨by rfl, fun w hSw => by obtain ⟨y0, y1, y2⟩ := hSw; first | (go_simp; done) | go_simp⟩) (by assumption) ?_
       (try simp only [Act.put, List.setIfInBounds_toArray, List.set_cons_zero, List.set_cons_succ])
       refine wpAnyH_take (i := 22) (oi := { dst := some 79, op := _, type := _, pos := _, after := _, guard := _ }) (v := .pointer (some ⟨B, 0, none⟩)) rfl (by kernel_rfl) (by kernel_rfl) (by kernel_rfl) (fun _ _ _ h => h) (Or.inl ⟨by rfl, fun w hSw => by first | (go_simp; done) | go_simp⟩) (by assumption) ?_
       (try simp only [Act.put, List.setIfInBounds_toArray, List.set_cons_zero, List.set_cons_succ])
       refine wpAnyH_take (i := 23) (oi := { dst := some 80, op := _, type := _, pos := _, after := _, guard := _ }) (v := .slice aC q cC) rfl (by kernel_rfl) (by kernel_rfl) (by kernel_rfl) (fun _ _ _ h => h) (Or.inl ⟨by rfl, fun w hSw => by obtain ⟨y0, y1, y2⟩ := hSw; first | (go_simp; done) | go_simp⟩) (by assumption) ?_
       (try simp only [Act.put, List.setIfInBounds_toArray, List.set_cons_zero, List.set_cons_succ])
       refine wpAnyH_take (i := 24) (oi := { dst := some 81, op := _, type := _, pos := _, after := _, guard := _ }) (v := .int .i64 (q : Int)) rfl (by kernel_rfl) (by kernel_rfl) (by kernel_rfl) (fun _ _ _ h => h) (Or.inl ⟨by rfl, fun w hSw => by first | (go_simp; done) | go_simp⟩) (by assumption) ?_
       (try simp only [Act.put, List.setIfInBounds_toArray, List.set_cons_zero, List.set_cons_succ])
       refine wpAnyH_take (i := 25) (oi := { dst := some 82, op := _, type := _, pos := _, after := _, guard := _ }) (v := .bool false) rfl (by kernel_rfl) (by kernel_rfl) (by kernel_rfl) (fun _ _ _ h => h) (Or.inl ⟨by rfl, fun w hSw => by first | (go_simp; done) | go_simp⟩) (by assumption) ?_
       (try simp only [Act.put, List.setIfInBounds_toArray, List.set_cons_zero, List.set_cons_succ])
       refine wpAnyH_take (i := 26) (oi := { dst := some 83, op := _, type := _, pos := _, after := _, guard := _ }) (v := .bool false) rfl (by kernel_rfl) (by kernel_rfl) (by kernel_rfl) (fun _ _ _ h => h) (Or.inl ⟨by rfl, fun w hSw => by first | (go_simp; done) | go_simp⟩) (by assumption) ?_
       (try simp only [Act.put, List.setIfInBounds_toArray, List.set_cons_zero, List.set_cons_succ])
       refine wpAnyH_done (by kernel_rfl) ?_ _
       clear hHeld
       go_wp2_with fail
       go_loopg [86] p (fun gh v wr => ∃ (i : Nat) (W' : World), W' = wr ∧ gh = p - i ∧ i ≤ p ∧ v = .int .i64 (i : Int) ∧ Only (fun _ => False) V1 W')
       case atStart => exact ⟨0, _, rfl, rfl, Nat.zero_le _, rfl, HV3.out⟩
       case round =>
         obtain ⟨i, U, hU, rfl, hi, rfl, hoU⟩ := hrel
         subst hU
         have HU : Hid (Only (fun _ => False) V1 U) := hoU
         clear hoU
         by_cases hip : i < p
         · have t3 : (i : Int) < (p : Int) := by omega
           obtain ⟨x, hx⟩ : ∃ x, PT[i]? = some x := ⟨PT[i]'(by rw [← HPF.out.2.2]; exact hip), List.getElem?_eq_getElem _⟩
           obtain ⟨x1, x2⟩ := HPF.out.1 i x hx
           have c1 : U.cell? ⟨gX, i, none⟩ = some (.int .i64 (x : Int)) := keep0 HU.out (HV1.out.2.2 i x hx)
           obtain ⟨r0, r1, lB2⟩ := blk_two (blk_keep HU.out HV1.out.1)
           obtain ⟨bo, oo, eO, lo, hcO⟩ := (HR.out.2.2.1.keep (HV1.out.2.1.trans HU.out)).cells (by rw [u8s_len, HOL.out]; omega)
           subst eO
           have c2 : U.cell? ⟨bo, oo + x, none⟩ = some (.int .u8 2) := hcO x _ (HO2.out x x1 x2)
           clear hcO x2
           by_cases hi0 : i = 0
           · subst hi0
             clear hx
             go_wp2_with fail
             go_roundg (p - (0 + 1))
             case measure => omega
             case rel => exact ⟨0 + 1, _, rfl, rfl, by omega, by go_num, HU.out⟩
           · obtain ⟨im, him⟩ : ∃ im, i = im + 1 := ⟨i - 1, by omega⟩
             obtain ⟨y, hy⟩ : ∃ y, PT[im]? = some y := ⟨PT[im]'(by have := HPF.out.2.2; omega), List.getElem?_eq_getElem _⟩
             have hyx := HPF.out.2.1 im i y x hy hx (by omega)
             have c3 : U.cell? ⟨gX, im, none⟩ = some (.int .i64 (y : Int)) := keep0 HU.out (HV1.out.2.2 im y hy)
             have u1 : decide ((x : Int) ≤ (y : Int)) = false := decide_eq_false (by omega)
             have u2 : (0 : Int) < (i : Int) := by omega
             have u3 : (i : Int) - 1 = (im : Int) := by omega
             have u4 : im < p := by omega
             clear hx hy him
             go_wp2_with fail
             go_roundg (p - (i + 1))
             case measure => omega
             case rel => exact ⟨i + 1, _, rfl, rfl, by omega, by go_num, HU.out⟩
         · have t4 : decide ((i : Int) < (p : Int)) = false := decide_eq_false (by omega)
           go_wp2_with fail
           go_ret
           exact ⟨rfl, HOW.out.trans (HR.out.2.2.2.trans (HV1.out.2.1.trans HU.out))⟩
end Go.Proofs.Ytlcpfheocenjfaa.itemsRight
namespace Go.Proofs.Ytlcpfheocenjfaa.itemsRight
open Go.RowKit Go.Maps
set_option linter.unusedVariables false
set_option maxRecDepth 100000 in
set_option maxHeartbeats 4000000 in
theorem walk (K : Kase) (w : World) (hK : K.Ok w) : Calls Try.prog 9 #[K.val] w fun e w' => e = .returned (.bool true) ∧ Only (fun _ => False) w w' := by
  by_cases h5 : K.S.length ≤ 500
  · exact walk1 K w hK h5
  · obtain ⟨LS, LM, LB, LP, LR, aS0, aM0, aB0, aP0, aR0, cS0, cM0, cB0, cP0, cR0, bR0, oR0⟩ := K
    obtain ⟨vS, bS, sS, vM, bM, sM, vB, bB, sB, vP, sP, vR, fR⟩ := hK
    simp only [Kase.val] at *
    obtain ⟨n0, hn0⟩ : ∃ n, n = LS.length := ⟨_, rfl⟩
    obtain ⟨nM, hnM⟩ : ∃ n, n = LM.length := ⟨_, rfl⟩
    obtain ⟨nB, hnB⟩ : ∃ n, n = LB.length := ⟨_, rfl⟩
    obtain ⟨nP, hnP⟩ : ∃ n, n = LP.length := ⟨_, rfl⟩
    obtain ⟨nR, hnR⟩ : ∃ n, n = LR.length := ⟨_, rfl⟩
    rw [← hn0] at h5 sS ⊢
    rw [← hnM, ← hnB, ← hnP, ← hnR]
    clear vS bS vM bM sM vB bB sB vP sP vR fR hn0 hnM hnB hnP hnR
    have s0 : (500 : Int) < (n0 : Int) := by omega
    go_enter Try.func9, Try.ntmps9
    go_wp2_with fail
    obtain ⟨R, hR⟩ : ∃ b, b = w.heap.size := ⟨_, rfl⟩
    obtain ⟨w0, hw0⟩ : ∃ Z, Z = w.alloc (.cells #[.slice aS0 n0 cS0, .slice aM0 nM cM0, .slice aB0 nB cB0, .slice aP0 nP cP0, .slice aR0 nR cR0] 60) := ⟨_, rfl⟩
    rw [← hw0, ← hR]
    have H0 : Hid (w0.heap[R]? = some (.cells #[.slice aS0 n0 cS0, .slice aM0 nM cM0, .slice aB0 nB cB0, .slice aP0 nP cP0, .slice aR0 nR cR0] 60 (0, 0)) ∧ Only (fun _ => False) w w0) := by
      rw [hw0, hR]
      exact ⟨heap_alloc_new w _, (Only.refl _ _).alloc _⟩
    clear hw0 hR
    refine (awake11_any _).mono ?_
    rintro e w1 ⟨rfl, ho1⟩
    have H1 : Hid (Only (fun _ => False) w w1) := H0.out.2.trans ho1
    obtain ⟨k0, k1, k2, k3, k4, l1⟩ := blk_five (blk_keep ho1 H0.out.1)
    clear ho1
    go_wp2_with fail
    go_ret
    exact ⟨rfl, H1.out⟩
end Go.Proofs.Ytlcpfheocenjfaa.itemsRight
