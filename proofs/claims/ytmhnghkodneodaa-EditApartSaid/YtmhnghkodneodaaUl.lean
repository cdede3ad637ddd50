/-
  EditApart's walk.
-/
import Derived.Test.YtmhnghkodneodaaUi
namespace Go.Proofs.Ytmhnghkodneodaa
open Go.RowKit Go.Maps
set_option linter.unusedVariables false
set_option linter.unusedSimpArgs false
namespace editApart
set_option maxRecDepth 100000 in
set_option maxHeartbeats 8000000 in
theorem walk1 (L M K : List Nat) (n m r c cI cJ : Nat) (A D B E : Int) (aB aI aJ : Option Addr) (w : World) (hn : n = L.length) (hm : m = M.length) (hr : r = K.length) (hVB : Vw w aB (u8s L)) (hVI : Vw w aI (u8s M)) (hVJ : Vw w aJ (u8s K)) (hc : n ≤ c) (hc2 : c ≤ maxLen) (hn4 : n ≤ 1000) (hm4 : m ≤ 1000) (hr4 : r ≤ 1000) (hA : -9223372036854775808 ≤ A ∧ A ≤ 9223372036854775807) (hD : -9223372036854775808 ≤ D ∧ D ≤ 9223372036854775807) (hB : -9223372036854775808 ≤ B ∧ B ≤ 9223372036854775807) (hE : -9223372036854775808 ≤ E ∧ E ≤ 9223372036854775807) :
    Calls Try.prog 7 #[.slice aB n c, .agg #[.int .i64 A, .int .i64 D, .slice aI m cI], .agg #[.int .i64 B, .int .i64 E, .slice aJ r cJ]] w fun e w' => e = .returned (.bool true) ∧ Only (fun _ => False) w w' := by
  have HF1 : Hid (∀ W, Calls Try.prog 14 #[.slice aB n c, .agg #[.int .i64 A, .int .i64 D, .slice aI m cI]] W fun e w' => ∃ a d : Nat, e = .returned (.agg #[.int .i64 (a : Int), .int .i64 (d : Int), .slice aI m cI]) ∧ a + d ≤ n ∧ Only (fun _ => False) W w') := fun W => fit_any n c m cI aB aI A D W hA hD (by omega)
  have HF2 : Hid (∀ W, Calls Try.prog 14 #[.slice aB n c, .agg #[.int .i64 B, .int .i64 E, .slice aJ r cJ]] W fun e w' => ∃ p q : Nat, e = .returned (.agg #[.int .i64 (p : Int), .int .i64 (q : Int), .slice aJ r cJ]) ∧ p + q ≤ n ∧ Only (fun _ => False) W w') := fun W => fit_any n c r cJ aB aJ B E W hB hE (by omega)
  have HN : Hid (n = L.length ∧ m = M.length ∧ r = K.length ∧ Vw w aB (u8s L) ∧ Vw w aI (u8s M) ∧ Vw w aJ (u8s K) ∧ n ≤ c ∧ c ≤ maxLen) := ⟨hn, hm, hr, hVB, hVI, hVJ, hc, hc2⟩
  have d1 : decide ((1000 : Int) < (n : Int)) = false := decide_eq_false (by omega)
  have d2 : decide ((1000 : Int) < (m : Int)) = false := decide_eq_false (by omega)
  have d3 : decide ((1000 : Int) < (r : Int)) = false := decide_eq_false (by omega)
  clear hn hm hr hVB hVI hVJ hc hc2
  go_enter Try.func7, Try.ntmps7
  go_upto_region 1 with fail
  obtain ⟨R, Q, w0, hw0, hQ, hR, H0, lRQ, lQ⟩ := box33 w (.int .i64 A) (.int .i64 D) (.slice aI m cI) (.int .i64 B) (.int .i64 E) (.slice aJ r cJ) 24 24
  rw [hw0, hQ, hR]
  clear hw0 hQ hR
  go_wp2_with fail
  refine Calls.mono (awake19_any _) ?_
  rintro e w1 ⟨rfl, ho1⟩
  have H1 : Hid (Only (fun _ => False) w w1 ∧ w1.heap[R]? = some (.cells #[.int .i64 A, .int .i64 D, .slice aI m cI] 24 (0, 0)) ∧ w1.heap[Q]? = some (.cells #[.int .i64 B, .int .i64 E, .slice aJ r cJ] 24 (0, 0)) ∧ w.heap.size ≤ R ∧ R < Q) := ⟨H0.out.2.2.1.trans ho1, blk_keep ho1 H0.out.1, blk_keep ho1 H0.out.2.1, Nat.le_of_eq H0.out.2.2.2.symm, lRQ⟩
  clear ho1 lQ
  obtain ⟨r0, r1, r2, lR⟩ := blk_three H1.out.2.1
  obtain ⟨q0, q1, q2, lQ⟩ := blk_three H1.out.2.2.1
  go_upto_region 5 with fail
  go_cut [] from 31 to 36 (fun wr => ∃ (a d p q : Nat) (X : World), X = wr ∧ X.heap[R]? = some (.cells #[.int .i64 (a : Int), .int .i64 (d : Int), .slice aI m cI] 24 (0, 0)) ∧ X.heap[Q]? = some (.cells #[.int .i64 (p : Int), .int .i64 (q : Int), .slice aJ r cJ] 24 (0, 0)) ∧ Only (fun _ => False) w X ∧ a + d ≤ n ∧ p + q ≤ n)
  case first =>
    refine wp_region_held_drew (S := fun _ => True) (by kernel_rfl) trivial (fun hHeld => ?_)
    refine wpAnyH_take (i := 0) (oi := { dst := some 31, op := _, type := _, pos := _, after := _, guard := _ }) (v := .slice aB n c) rfl (by kernel_rfl) (by kernel_rfl) (by kernel_rfl) (fun _ _ _ h => h) (Or.inl ⟨by rfl, fun w hSw => by first | (go_simp; done) | go_simp⟩) (by assumption) ?_
    (try simp only [Act.put, List.setIfInBounds_toArray, List.set_cons_zero, List.set_cons_succ])
    refine wpAnyH_take (i := 3) (oi := { dst := some 34, op := _, type := _, pos := _, after := _, guard := _ }) (v := .slice aB n c) rfl (by kernel_rfl) (by kernel_rfl) (by kernel_rfl) (fun _ _ _ h => h) (Or.inl ⟨by rfl, fun w hSw => by first | (go_simp; done) | go_simp⟩) (by assumption) ?_
    (try simp only [Act.put, List.setIfInBounds_toArray, List.set_cons_zero, List.set_cons_succ])
    refine wpAnyH_ready (rs := [1, 4]) (by kernel_rfl) (by simp) ?_
    refine AllReadyH.cons rfl (fun K hK => ?_) (AllReadyH.cons rfl (fun K hK => ?_) AllReadyH.nil)
    · rw [if_pos (by rfl)]
      go_simp
      refine hK.out _ _ trivial (fun hHeld => ?_)
      clear hK
      (try simp only [Act.put, List.setIfInBounds_toArray, List.set_cons_zero, List.set_cons_succ])
      refine wpAnyH_ready (rs := [2, 4]) (by kernel_rfl) (by simp) ?_
      refine AllReadyH.cons rfl (fun K hK => ?_) (AllReadyH.cons rfl (fun K hK => ?_) AllReadyH.nil)
      · rw [if_pos (by rfl)]
        go_simp
        refine Calls.mono (HF1.out _) ?_
        rintro e wx ⟨a, d, rfl, hle2, ho⟩
        have HOwx : Hid (Only (fun _ => False) w1 wx ∧ a + d ≤ n) := ⟨(Only.refl _ _).drew.trans ho, hle2⟩
        clear ho hle2
        obtain ⟨r0, r1, r2, lR⟩ := blk_three (blk_keep HOwx.out.1 H1.out.2.2.1)
        refine hK.out _ _ trivial (fun hHeld => ?_)
        clear hK
        (try simp only [Act.put, List.setIfInBounds_toArray, List.set_cons_zero, List.set_cons_succ])
        refine wpAnyH_ready (rs := [4]) (by kernel_rfl) (by simp) ?_
        refine AllReadyH.cons rfl (fun K hK => ?_) AllReadyH.nil
        rw [if_pos (by rfl)]
        go_simp
        refine hK.out _ _ trivial (fun hHeld => ?_)
        clear hK
        (try simp only [Act.put, List.setIfInBounds_toArray, List.set_cons_zero, List.set_cons_succ])
        refine wpAnyH_ready (rs := [5]) (by kernel_rfl) (by simp) ?_
        refine AllReadyH.cons rfl (fun K hK => ?_) AllReadyH.nil
        rw [if_pos (by rfl)]
        go_simp
        refine Calls.mono (HF2.out _) ?_
        rintro e wy ⟨p, q, rfl, hle5, ho⟩
        have HOwy : Hid (Only (fun _ => False) w1 wy ∧ p + q ≤ n) := ⟨HOwx.out.1.trans ho, hle5⟩
        clear ho hle5
        refine hK.out _ _ trivial (fun hHeld => ?_)
        clear hK
        (try simp only [Act.put, List.setIfInBounds_toArray, List.set_cons_zero, List.set_cons_succ])
        refine wpAnyH_ready (rs := [6]) (by kernel_rfl) (by simp) ?_
        refine AllReadyH.cons rfl (fun K hK => ?_) AllReadyH.nil
        rw [if_pos (by rfl)]
        have hbR := blk_keep HOwy.out.1 H1.out.2.1
        refine wp_store_row 24 _ _ rfl R #[.int .i64 (a : Int), .int .i64 (d : Int), .slice aI m cI] rfl rfl 24 _ hbR (by kernel_rfl) rfl (ed_one _ _ _ _ _) ?_
        have HZ : Hid (Only (fun _ => False) w (wy.setRow R #[.int .i64 (a : Int), .int .i64 (d : Int), .slice aI m cI]) ∧ (wy.setRow R #[.int .i64 (a : Int), .int .i64 (d : Int), .slice aI m cI]).heap[R]? = some (.cells #[.int .i64 (a : Int), .int .i64 (d : Int), .slice aI m cI] 24 (0, 0)) ∧ (wy.setRow R #[.int .i64 (a : Int), .int .i64 (d : Int), .slice aI m cI]).heap[Q]? = some (.cells #[.int .i64 B, .int .i64 E, .slice aJ r cJ] 24 (0, 0))) := ⟨(H1.out.1.trans HOwy.out.1).setRowNew H1.out.2.2.2.1 _, setRow_heap _ _ _ _ _ _ hbR, (Go.setRow_other wy R Q _ (by have := H1.out.2.2.2.2; omega)).trans (blk_keep HOwy.out.1 H1.out.2.2.1)⟩
        clear hbR
        obtain ⟨wz, hwz⟩ : ∃ Z, Z = wy.setRow R #[.int .i64 (a : Int), .int .i64 (d : Int), .slice aI m cI] := ⟨_, rfl⟩
        rw [← hwz] at HZ ⊢
        clear hwz
        refine hK.out _ _ trivial (fun hHeld => ?_)
        clear hK
        (try simp only [Act.put, List.setIfInBounds_toArray, List.set_cons_zero, List.set_cons_succ])
        refine wpAnyH_ready (rs := [7]) (by kernel_rfl) (by simp) ?_
        refine AllReadyH.cons rfl (fun K hK => ?_) AllReadyH.nil
        rw [if_pos (by rfl)]
        refine wp_store_row 24 _ _ rfl Q #[.int .i64 (p : Int), .int .i64 (q : Int), .slice aJ r cJ] rfl rfl 24 _ HZ.out.2.2 (by kernel_rfl) rfl (ed_one _ _ _ _ _) ?_
        have HT : Hid (Only (fun _ => False) w (wz.setRow Q #[.int .i64 (p : Int), .int .i64 (q : Int), .slice aJ r cJ]) ∧ (wz.setRow Q #[.int .i64 (p : Int), .int .i64 (q : Int), .slice aJ r cJ]).heap[R]? = some (.cells #[.int .i64 (a : Int), .int .i64 (d : Int), .slice aI m cI] 24 (0, 0)) ∧ (wz.setRow Q #[.int .i64 (p : Int), .int .i64 (q : Int), .slice aJ r cJ]).heap[Q]? = some (.cells #[.int .i64 (p : Int), .int .i64 (q : Int), .slice aJ r cJ] 24 (0, 0))) := ⟨HZ.out.1.setRowNew (by have h1 := H1.out.2.2.2.1; have h2 := H1.out.2.2.2.2; omega) _, (Go.setRow_other wz Q R _ (by have := H1.out.2.2.2.2; omega)).trans HZ.out.2.1, setRow_heap _ _ _ _ _ _ HZ.out.2.2⟩
        refine hK.out _ _ trivial (fun hHeld => ?_)
        clear hK
        (try simp only [Act.put, List.setIfInBounds_toArray, List.set_cons_zero, List.set_cons_succ])
        refine wpAnyH_done (by kernel_rfl) ?_ _
        clear hHeld
        go_wp2_with fail
        go_meet
        exact ⟨a, d, p, q, _, rfl, HT.out.2.1, HT.out.2.2, HT.out.1, HOwx.out.2, HOwy.out.2⟩
      · rw [if_pos (by rfl)]
        go_simp
        refine hK.out _ _ trivial (fun hHeld => ?_)
        clear hK
        (try simp only [Act.put, List.setIfInBounds_toArray, List.set_cons_zero, List.set_cons_succ])
        refine wpAnyH_ready (rs := [2]) (by kernel_rfl) (by simp) ?_
        refine AllReadyH.cons rfl (fun K hK => ?_) AllReadyH.nil
        rw [if_pos (by rfl)]
        go_simp
        refine Calls.mono (HF1.out _) ?_
        rintro e wx ⟨a, d, rfl, hle2, ho⟩
        have HOwx : Hid (Only (fun _ => False) w1 wx ∧ a + d ≤ n) := ⟨(Only.refl _ _).drew.trans ho, hle2⟩
        clear ho hle2
        obtain ⟨r0, r1, r2, lR⟩ := blk_three (blk_keep HOwx.out.1 H1.out.2.2.1)
        refine hK.out _ _ trivial (fun hHeld => ?_)
        clear hK
        (try simp only [Act.put, List.setIfInBounds_toArray, List.set_cons_zero, List.set_cons_succ])
        refine wpAnyH_ready (rs := [5]) (by kernel_rfl) (by simp) ?_
        refine AllReadyH.cons rfl (fun K hK => ?_) AllReadyH.nil
        rw [if_pos (by rfl)]
        go_simp
        refine Calls.mono (HF2.out _) ?_
        rintro e wy ⟨p, q, rfl, hle5, ho⟩
        have HOwy : Hid (Only (fun _ => False) w1 wy ∧ p + q ≤ n) := ⟨HOwx.out.1.trans ho, hle5⟩
        clear ho hle5
        refine hK.out _ _ trivial (fun hHeld => ?_)
        clear hK
        (try simp only [Act.put, List.setIfInBounds_toArray, List.set_cons_zero, List.set_cons_succ])
        refine wpAnyH_ready (rs := [6]) (by kernel_rfl) (by simp) ?_
        refine AllReadyH.cons rfl (fun K hK => ?_) AllReadyH.nil
        rw [if_pos (by rfl)]
        have hbR := blk_keep HOwy.out.1 H1.out.2.1
        refine wp_store_row 24 _ _ rfl R #[.int .i64 (a : Int), .int .i64 (d : Int), .slice aI m cI] rfl rfl 24 _ hbR (by kernel_rfl) rfl (ed_one _ _ _ _ _) ?_
        have HZ : Hid (Only (fun _ => False) w (wy.setRow R #[.int .i64 (a : Int), .int .i64 (d : Int), .slice aI m cI]) ∧ (wy.setRow R #[.int .i64 (a : Int), .int .i64 (d : Int), .slice aI m cI]).heap[R]? = some (.cells #[.int .i64 (a : Int), .int .i64 (d : Int), .slice aI m cI] 24 (0, 0)) ∧ (wy.setRow R #[.int .i64 (a : Int), .int .i64 (d : Int), .slice aI m cI]).heap[Q]? = some (.cells #[.int .i64 B, .int .i64 E, .slice aJ r cJ] 24 (0, 0))) := ⟨(H1.out.1.trans HOwy.out.1).setRowNew H1.out.2.2.2.1 _, setRow_heap _ _ _ _ _ _ hbR, (Go.setRow_other wy R Q _ (by have := H1.out.2.2.2.2; omega)).trans (blk_keep HOwy.out.1 H1.out.2.2.1)⟩
        clear hbR
        obtain ⟨wz, hwz⟩ : ∃ Z, Z = wy.setRow R #[.int .i64 (a : Int), .int .i64 (d : Int), .slice aI m cI] := ⟨_, rfl⟩
        rw [← hwz] at HZ ⊢
        clear hwz
        refine hK.out _ _ trivial (fun hHeld => ?_)
        clear hK
        (try simp only [Act.put, List.setIfInBounds_toArray, List.set_cons_zero, List.set_cons_succ])
        refine wpAnyH_ready (rs := [7]) (by kernel_rfl) (by simp) ?_
        refine AllReadyH.cons rfl (fun K hK => ?_) AllReadyH.nil
        rw [if_pos (by rfl)]
        refine wp_store_row 24 _ _ rfl Q #[.int .i64 (p : Int), .int .i64 (q : Int), .slice aJ r cJ] rfl rfl 24 _ HZ.out.2.2 (by kernel_rfl) rfl (ed_one _ _ _ _ _) ?_
        have HT : Hid (Only (fun _ => False) w (wz.setRow Q #[.int .i64 (p : Int), .int .i64 (q : Int), .slice aJ r cJ]) ∧ (wz.setRow Q #[.int .i64 (p : Int), .int .i64 (q : Int), .slice aJ r cJ]).heap[R]? = some (.cells #[.int .i64 (a : Int), .int .i64 (d : Int), .slice aI m cI] 24 (0, 0)) ∧ (wz.setRow Q #[.int .i64 (p : Int), .int .i64 (q : Int), .slice aJ r cJ]).heap[Q]? = some (.cells #[.int .i64 (p : Int), .int .i64 (q : Int), .slice aJ r cJ] 24 (0, 0))) := ⟨HZ.out.1.setRowNew (by have h1 := H1.out.2.2.2.1; have h2 := H1.out.2.2.2.2; omega) _, (Go.setRow_other wz Q R _ (by have := H1.out.2.2.2.2; omega)).trans HZ.out.2.1, setRow_heap _ _ _ _ _ _ HZ.out.2.2⟩
        refine hK.out _ _ trivial (fun hHeld => ?_)
        clear hK
        (try simp only [Act.put, List.setIfInBounds_toArray, List.set_cons_zero, List.set_cons_succ])
        refine wpAnyH_done (by kernel_rfl) ?_ _
        clear hHeld
        go_wp2_with fail
        go_meet
        exact ⟨a, d, p, q, _, rfl, HT.out.2.1, HT.out.2.2, HT.out.1, HOwx.out.2, HOwy.out.2⟩
    · rw [if_pos (by rfl)]
      go_simp
      refine hK.out _ _ trivial (fun hHeld => ?_)
      clear hK
      (try simp only [Act.put, List.setIfInBounds_toArray, List.set_cons_zero, List.set_cons_succ])
      refine wpAnyH_ready (rs := [1]) (by kernel_rfl) (by simp) ?_
      refine AllReadyH.cons rfl (fun K hK => ?_) AllReadyH.nil
      rw [if_pos (by rfl)]
      go_simp
      refine hK.out _ _ trivial (fun hHeld => ?_)
      clear hK
      (try simp only [Act.put, List.setIfInBounds_toArray, List.set_cons_zero, List.set_cons_succ])
      refine wpAnyH_ready (rs := [2]) (by kernel_rfl) (by simp) ?_
      refine AllReadyH.cons rfl (fun K hK => ?_) AllReadyH.nil
      rw [if_pos (by rfl)]
      go_simp
      refine Calls.mono (HF1.out _) ?_
      rintro e wx ⟨a, d, rfl, hle2, ho⟩
      have HOwx : Hid (Only (fun _ => False) w1 wx ∧ a + d ≤ n) := ⟨(Only.refl _ _).drew.trans ho, hle2⟩
      clear ho hle2
      obtain ⟨r0, r1, r2, lR⟩ := blk_three (blk_keep HOwx.out.1 H1.out.2.2.1)
      refine hK.out _ _ trivial (fun hHeld => ?_)
      clear hK
      (try simp only [Act.put, List.setIfInBounds_toArray, List.set_cons_zero, List.set_cons_succ])
      refine wpAnyH_ready (rs := [5]) (by kernel_rfl) (by simp) ?_
      refine AllReadyH.cons rfl (fun K hK => ?_) AllReadyH.nil
      rw [if_pos (by rfl)]
      go_simp
      refine Calls.mono (HF2.out _) ?_
      rintro e wy ⟨p, q, rfl, hle5, ho⟩
      have HOwy : Hid (Only (fun _ => False) w1 wy ∧ p + q ≤ n) := ⟨HOwx.out.1.trans ho, hle5⟩
      clear ho hle5
      refine hK.out _ _ trivial (fun hHeld => ?_)
      clear hK
      (try simp only [Act.put, List.setIfInBounds_toArray, List.set_cons_zero, List.set_cons_succ])
      refine wpAnyH_ready (rs := [6]) (by kernel_rfl) (by simp) ?_
      refine AllReadyH.cons rfl (fun K hK => ?_) AllReadyH.nil
      rw [if_pos (by rfl)]
      have hbR := blk_keep HOwy.out.1 H1.out.2.1
      refine wp_store_row 24 _ _ rfl R #[.int .i64 (a : Int), .int .i64 (d : Int), .slice aI m cI] rfl rfl 24 _ hbR (by kernel_rfl) rfl (ed_one _ _ _ _ _) ?_
      have HZ : Hid (Only (fun _ => False) w (wy.setRow R #[.int .i64 (a : Int), .int .i64 (d : Int), .slice aI m cI]) ∧ (wy.setRow R #[.int .i64 (a : Int), .int .i64 (d : Int), .slice aI m cI]).heap[R]? = some (.cells #[.int .i64 (a : Int), .int .i64 (d : Int), .slice aI m cI] 24 (0, 0)) ∧ (wy.setRow R #[.int .i64 (a : Int), .int .i64 (d : Int), .slice aI m cI]).heap[Q]? = some (.cells #[.int .i64 B, .int .i64 E, .slice aJ r cJ] 24 (0, 0))) := ⟨(H1.out.1.trans HOwy.out.1).setRowNew H1.out.2.2.2.1 _, setRow_heap _ _ _ _ _ _ hbR, (Go.setRow_other wy R Q _ (by have := H1.out.2.2.2.2; omega)).trans (blk_keep HOwy.out.1 H1.out.2.2.1)⟩
      clear hbR
      obtain ⟨wz, hwz⟩ : ∃ Z, Z = wy.setRow R #[.int .i64 (a : Int), .int .i64 (d : Int), .slice aI m cI] := ⟨_, rfl⟩
      rw [← hwz] at HZ ⊢
      clear hwz
      refine hK.out _ _ trivial (fun hHeld => ?_)
      clear hK
      (try simp only [Act.put, List.setIfInBounds_toArray, List.set_cons_zero, List.set_cons_succ])
      refine wpAnyH_ready (rs := [7]) (by kernel_rfl) (by simp) ?_
      refine AllReadyH.cons rfl (fun K hK => ?_) AllReadyH.nil
      rw [if_pos (by rfl)]
      refine wp_store_row 24 _ _ rfl Q #[.int .i64 (p : Int), .int .i64 (q : Int), .slice aJ r cJ] rfl rfl 24 _ HZ.out.2.2 (by kernel_rfl) rfl (ed_one _ _ _ _ _) ?_
      have HT : Hid (Only (fun _ => False) w (wz.setRow Q #[.int .i64 (p : Int), .int .i64 (q : Int), .slice aJ r cJ]) ∧ (wz.setRow Q #[.int .i64 (p : Int), .int .i64 (q : Int), .slice aJ r cJ]).heap[R]? = some (.cells #[.int .i64 (a : Int), .int .i64 (d : Int), .slice aI m cI] 24 (0, 0)) ∧ (wz.setRow Q #[.int .i64 (p : Int), .int .i64 (q : Int), .slice aJ r cJ]).heap[Q]? = some (.cells #[.int .i64 (p : Int), .int .i64 (q : Int), .slice aJ r cJ] 24 (0, 0))) := ⟨HZ.out.1.setRowNew (by have h1 := H1.out.2.2.2.1; have h2 := H1.out.2.2.2.2; omega) _, (Go.setRow_other wz Q R _ (by have := H1.out.2.2.2.2; omega)).trans HZ.out.2.1, setRow_heap _ _ _ _ _ _ HZ.out.2.2⟩
      refine hK.out _ _ trivial (fun hHeld => ?_)
      clear hK
      (try simp only [Act.put, List.setIfInBounds_toArray, List.set_cons_zero, List.set_cons_succ])
      refine wpAnyH_done (by kernel_rfl) ?_ _
      clear hHeld
      go_wp2_with fail
      go_meet
      exact ⟨a, d, p, q, _, rfl, HT.out.2.1, HT.out.2.2, HT.out.1, HOwx.out.2, HOwy.out.2⟩
  case rest =>
    obtain ⟨a, d, p, q, X, hX, hbR, hbQ, hoX, had, hpq⟩ := hcut
    subst hX
    have HC : Hid (X.heap[R]? = some (.cells #[.int .i64 (a : Int), .int .i64 (d : Int), .slice aI m cI] 24 (0, 0)) ∧ X.heap[Q]? = some (.cells #[.int .i64 (p : Int), .int .i64 (q : Int), .slice aJ r cJ] 24 (0, 0)) ∧ Only (fun _ => False) w X ∧ a + d ≤ n ∧ p + q ≤ n) := ⟨hbR, hbQ, hoX, had, hpq⟩
    clear hbR hbQ hoX r0 r1 r2 lR q0 q1 q2 lQ HF1 HF2
    obtain ⟨r0, r1, r2, lR⟩ := blk_three HC.out.1
    obtain ⟨q0, q1, q2, lQ⟩ := blk_three HC.out.2.1
    have hRQ : R ≠ Q := by have := H1.out.2.2.2.2; omega
    go_upto_if 41 with fail
    go_cut [] from 37 to 43 (fun wr => ∃ (a d m c1 p q r c2 : Nat) (aI aJ : Option Addr) (M K : List Nat) (X : World), X = wr ∧ X.heap[R]? = some (.cells #[.int .i64 (a : Int), .int .i64 (d : Int), .slice aI m c1] 24 (0, 0)) ∧ X.heap[Q]? = some (.cells #[.int .i64 (p : Int), .int .i64 (q : Int), .slice aJ r c2] 24 (0, 0)) ∧ Only (fun _ => False) w X ∧ a + d ≤ n ∧ p + q ≤ n ∧ a ≤ p ∧ m = M.length ∧ r = K.length ∧ m ≤ 1000 ∧ r ≤ 1000 ∧ Vw w aI (u8s M) ∧ Vw w aJ (u8s K))
    case first =>
      by_cases hap : p < a
      · have t1 : (p : Int) < (a : Int) := by omega
        have HZ : Hid ((X.setRow R #[.int .i64 (p : Int), .int .i64 (q : Int), .slice aJ r cJ]).heap[Q]? = some (.cells #[.int .i64 (p : Int), .int .i64 (q : Int), .slice aJ r cJ] 24 (0, 0)) ∧ (X.setRow R #[.int .i64 (p : Int), .int .i64 (q : Int), .slice aJ r cJ]).heap[R]? = some (.cells #[.int .i64 (p : Int), .int .i64 (q : Int), .slice aJ r cJ] 24 (0, 0)) ∧ Only (fun _ => False) w (X.setRow R #[.int .i64 (p : Int), .int .i64 (q : Int), .slice aJ r cJ])) := ⟨(Go.setRow_other X R Q _ (fun e => hRQ e.symm)).trans HC.out.2.1, setRow_heap _ _ _ _ _ _ HC.out.1, HC.out.2.2.1.setRowNew H1.out.2.2.2.1 _⟩
        obtain ⟨Y, hY⟩ : ∃ Y, X.setRow R #[.int .i64 (p : Int), .int .i64 (q : Int), .slice aJ r cJ] = Y := ⟨_, rfl⟩
        rw [hY] at HZ
        go_wp2_with (first
          | (refine wpList_store_row rfl 24 _ _ rfl R #[.int .i64 (p : Int), .int .i64 (q : Int), .slice aJ r cJ] rfl rfl 24 _ HC.out.1 (by kernel_rfl) rfl (ed_one _ _ _ _ _) ?_; rw [hY]; clear hY)
          | (refine wpList_store_row rfl 24 _ _ rfl Q #[.int .i64 (a : Int), .int .i64 (d : Int), .slice aI m cI] rfl rfl 24 _ HZ.out.1 (by kernel_rfl) rfl (ed_one _ _ _ _ _) ?_))
        go_meet
        have h1 := H1.out.2.2.2
        exact ⟨p, q, r, cJ, a, d, m, cI, aJ, aI, K, M, _, rfl, (Go.setRow_other Y Q R _ hRQ).trans HZ.out.2.1, setRow_heap _ _ _ _ _ _ HZ.out.1, HZ.out.2.2.setRowNew (by omega) _, hpq, had, by omega, HN.out.2.2.1, HN.out.2.1, hr4, hm4, HN.out.2.2.2.2.2.1, HN.out.2.2.2.2.1⟩
      · have t1 : decide ((p : Int) < (a : Int)) = false := decide_eq_false (by omega)
        go_wp2_with fail
        go_meet
        exact ⟨a, d, m, cI, p, q, r, cJ, aI, aJ, M, K, X, rfl, HC.out.1, HC.out.2.1, HC.out.2.2.1, had, hpq, by omega, HN.out.2.1, HN.out.2.2.1, hm4, hr4, HN.out.2.2.2.2.1, HN.out.2.2.2.2.2.1⟩
    case rest =>
      clear HC had hpq r0 r1 r2 q0 q1 q2 lR lQ d1 d2 d3 hm4 hr4
      obtain ⟨a, d, m, cI, p, q, r, cJ, aI, aJ, M, K, Z, hZ, hbR, hbQ, hoZ, had, hpq, hap, hm, hr, hm4, hr4, hVI, hVJ⟩ := hcut
      subst hZ
      have HC : Hid (Z.heap[R]? = some (.cells #[.int .i64 (a : Int), .int .i64 (d : Int), .slice aI m cI] 24 (0, 0)) ∧ Z.heap[Q]? = some (.cells #[.int .i64 (p : Int), .int .i64 (q : Int), .slice aJ r cJ] 24 (0, 0)) ∧ Only (fun _ => False) w Z) := ⟨hbR, hbQ, hoZ⟩
      clear hbR hbQ hoZ
      obtain ⟨r0, r1, r2, lR⟩ := blk_three HC.out.1
      obtain ⟨q0, q1, q2, lQ⟩ := blk_three HC.out.2.1
      obtain ⟨s, hs⟩ : ∃ s, s = a + d := ⟨_, rfl⟩
      have m1 : IntKind.i64.wrap ((a : Int) + (d : Int)) = (s : Int) := by rw [IntKind.wrap_i64]; omega
      by_cases c1 : p < s
      · have t1 : (p : Int) < (s : Int) := by omega
        clear hs
        go_wp2_with fail
        go_ret
        exact ⟨rfl, HC.out.2.2⟩
      · have t1 : decide ((p : Int) < (s : Int)) = false := decide_eq_false (by omega)
        have t0 : decide (p < s) = false := decide_eq_false c1
        by_cases c2 : a = p
        · have t2 : ((a : Int) == (p : Int)) = true := by rw [beq_iff_eq]; omega
          have t3 : (a == p) = true := by rw [beq_iff_eq]; exact c2
          clear hs c2
          go_wp2_with fail
          go_ret
          exact ⟨rfl, HC.out.2.2⟩
        · have t2 : ((a : Int) == (p : Int)) = false := by rw [beq_eq_false_iff_ne]; omega
          have t3 : (a == p) = false := by rw [beq_eq_false_iff_ne]; exact c2
          obtain ⟨X1, hX1⟩ : ∃ x, x = Ed.spl L p q K := ⟨_, rfl⟩
          obtain ⟨X2, hX2⟩ : ∃ x, x = Ed.spl X1 a d M := ⟨_, rfl⟩
          obtain ⟨Y1, hY1⟩ : ∃ x, x = Ed.spl L a d M := ⟨_, rfl⟩
          obtain ⟨N1, hN1⟩ : ∃ x, n - q + r = x := ⟨_, rfl⟩
          obtain ⟨N2, hN2⟩ : ∃ x, N1 - d + m = x := ⟨_, rfl⟩
          obtain ⟨N3, hN3⟩ : ∃ x, n - d + m = x := ⟨_, rfl⟩
          obtain ⟨p2, hp2⟩ : ∃ x, x = p + m - d := ⟨_, rfl⟩
          obtain ⟨y, hy⟩ : ∃ y : Int, y = (m : Int) - (d : Int) := ⟨_, rfl⟩
          have m2 : IntKind.i64.wrap ((m : Int) - (d : Int)) = y := by rw [IntKind.wrap_i64]; omega
          have m3 : IntKind.i64.wrap ((p : Int) + y) = (p2 : Int) := by rw [IntKind.wrap_i64]; omega
          have l1 : N1 = X1.length := by
            have h0 := HN.out.1
            rw [hX1, Ed.spl_len K (by omega), ← h0, ← hr]; exact hN1.symm
          have l3 : N3 = Y1.length := by
            have h0 := HN.out.1
            rw [hY1, Ed.spl_len M (by omega), ← h0, ← hm]; exact hN3.symm
          have l2 : N2 = X2.length := by rw [hX2, Ed.spl_len M (by omega), ← l1, ← hm]; exact hN2.symm
          have eX : Ed.spl Y1 p2 q K = X2 := by
            have h0 := HN.out.1
            rw [hX2, hX1, hY1, hp2, Ed.spl_apart M K (by omega) (by omega), ← hm]
          have K1 : Hid (∀ W, Only (fun _ => False) w W → Calls Try.prog 12 #[.slice aB n c, .agg #[.int .i64 (p : Int), .int .i64 (q : Int), .slice aJ r cJ]] W fun e w' => ∃ a' c', e = .returned (.tuple #[.slice a' N1 c', .int .i64 0]) ∧ w'.ownsRow W.heap.size 5 1 (.slice a' N1 c') N1 (u8s X1) ∧ Only (fun _ => False) W w') := fun W ho => by
            obtain ⟨g0, g1, g2, g3, g4, g5, g6, g7⟩ := HN.out
            rw [hX1]
            exact splice_ok L K n c r cJ p q N1 aB aJ W g0 hr (g3.keep ho) (hVJ.keep ho) g6 g7 hpq hN1 (by omega) (by omega)
          have K2 : Hid (∀ W a' c', Only (fun _ => False) w W → Vw W a' (u8s X1) → N1 ≤ c' → c' ≤ maxLen → Calls Try.prog 12 #[.slice a' N1 c', .agg #[.int .i64 (a : Int), .int .i64 (d : Int), .slice aI m cI]] W fun e w' => ∃ a' c', e = .returned (.tuple #[.slice a' N2 c', .int .i64 0]) ∧ w'.ownsRow W.heap.size 5 1 (.slice a' N2 c') N2 (u8s X2) ∧ Only (fun _ => False) W w') := fun W a' c' ho hV g1 g2 => by
            rw [hX2]
            exact splice_ok X1 M N1 c' m cI a d N2 a' aI W l1 hm hV (hVI.keep ho) g1 g2 (by omega) hN2 (by omega) (by omega)
          have K3 : Hid (∀ W, Only (fun _ => False) w W → Calls Try.prog 12 #[.slice aB n c, .agg #[.int .i64 (a : Int), .int .i64 (d : Int), .slice aI m cI]] W fun e w' => ∃ a' c', e = .returned (.tuple #[.slice a' N3 c', .int .i64 0]) ∧ w'.ownsRow W.heap.size 5 1 (.slice a' N3 c') N3 (u8s Y1) ∧ Only (fun _ => False) W w') := fun W ho => by
            obtain ⟨g0, g1, g2, g3, g4, g5, g6, g7⟩ := HN.out
            rw [hY1]
            exact splice_ok L M n c m cI a d N3 aB aI W g0 hm (g3.keep ho) (hVI.keep ho) g6 g7 had hN3 (by omega) (by omega)
          have K4 : Hid (∀ W a' c', Only (fun _ => False) w W → Vw W a' (u8s Y1) → N3 ≤ c' → c' ≤ maxLen → Calls Try.prog 12 #[.slice a' N3 c', .agg #[.int .i64 (p2 : Int), .int .i64 (q : Int), .slice aJ r cJ]] W fun e w' => ∃ a' c', e = .returned (.tuple #[.slice a' N2 c', .int .i64 0]) ∧ w'.ownsRow W.heap.size 5 1 (.slice a' N2 c') N2 (u8s X2) ∧ Only (fun _ => False) W w') := fun W a' c' ho hV g1 g2 => by
            have h := splice_ok Y1 K N3 c' r cJ p2 q N2 a' aJ W l3 hr hV (hVJ.keep ho) g1 g2 (by omega) (by omega) (by omega) (by omega)
            rw [eX] at h
            exact h
          have HL : Hid (N2 = X2.length ∧ w.heap.size ≤ R) := ⟨l2, H1.out.2.2.2.1⟩
          have HS : Hid (∀ W, Only (fun _ => False) Z W → (W.heap[R]? = some (.cells #[.int .i64 (a : Int), .int .i64 (d : Int), .slice aI m cI] 24 (0, 0)) ∧ W.cell? ⟨R, 0, none⟩ = some (.int .i64 (a : Int)) ∧ W.cell? ⟨R, 1, none⟩ = some (.int .i64 (d : Int)) ∧ W.cell? ⟨R, 2, none⟩ = some (.slice aI m cI) ∧ R < W.heap.size) ∧ (W.cell? ⟨Q, 0, none⟩ = some (.int .i64 (p : Int)) ∧ W.cell? ⟨Q, 1, none⟩ = some (.int .i64 (q : Int)) ∧ W.cell? ⟨Q, 2, none⟩ = some (.slice aJ r cJ) ∧ Q < W.heap.size)) := fun W ho => ⟨⟨blk_keep ho HC.out.1, blk_three (blk_keep ho HC.out.1)⟩, blk_three (blk_keep ho HC.out.2.1)⟩
          clear hs c1 c2 hX1 hX2 hY1 hN1 hN2 hN3 hp2 hy l1 l2 l3 eX hm hr hVI hVJ had hpq hap hm4 hr4 HN hn4
          go_wp2_with fail
          refine Calls.mono (K1.out _ HC.out.2.2) ?_
          rintro e w4 ⟨a4, c4, rfl, hown4, ho4⟩
          have H4 : Hid (Only (fun _ => False) Z w4 ∧ Vw w4 a4 (u8s X1) ∧ N1 ≤ c4 ∧ c4 ≤ maxLen) := ⟨ho4, own_vw hown4, own_le hown4, own_cap hown4⟩
          clear hown4 ho4 r0 r1 r2 lR q0 q1 q2 lQ
          obtain ⟨⟨-, r0, r1, r2, lR⟩, q0, q1, q2, lQ⟩ := HS.out w4 H4.out.1
          go_wp2_with fail
          refine Calls.mono (K2.out _ _ _ (HC.out.2.2.trans H4.out.1) H4.out.2.1 H4.out.2.2.1 H4.out.2.2.2) ?_
          rintro e w5 ⟨a5, c5, rfl, hown5, ho5⟩
          have H5 : Hid (Only (fun _ => False) Z w5 ∧ Vw w5 a5 (u8s X2)) := ⟨H4.out.1.trans ho5, own_vw hown5⟩
          clear hown5 ho5 r0 r1 r2 lR q0 q1 q2 lQ
          obtain ⟨⟨-, r0, r1, r2, lR⟩, q0, q1, q2, lQ⟩ := HS.out w5 H5.out.1
          go_wp2_with fail
          obtain ⟨U, wu, hwu, hU, HU, -, -, -, lU⟩ := box3 w5 (.int .i64 (p2 : Int)) (.int .i64 (q : Int)) (.slice aJ r cJ) 24
          rw [hwu, hU]
          clear hwu hU r0 r1 r2 lR q0 q1 q2 lQ
          have HOU : Hid (Only (fun _ => False) Z wu ∧ Only (fun _ => False) w wu) := ⟨H5.out.1.trans HU.out.2.1, HC.out.2.2.trans (H5.out.1.trans HU.out.2.1)⟩
          refine Calls.mono (K3.out _ HOU.out.2) ?_
          rintro e w6 ⟨a6, c6, rfl, hown6, ho6⟩
          have H6 : Hid (Only (fun _ => False) Z w6 ∧ Vw w6 a5 (u8s X2) ∧ Vw w6 a6 (u8s Y1) ∧ N3 ≤ c6 ∧ c6 ≤ maxLen ∧ w6.heap[U]? = some (.cells #[.int .i64 (p2 : Int), .int .i64 (q : Int), .slice aJ r cJ] 24 (0, 0))) := ⟨HOU.out.1.trans ho6, (H5.out.2.keep HU.out.2.1).keep ho6, own_vw hown6, own_le hown6, own_cap hown6, blk_keep ho6 HU.out.1⟩
          clear hown6 ho6 lU
          obtain ⟨u0, u1, u2, lU⟩ := blk_three H6.out.2.2.2.2.2
          go_wp2_with fail
          refine Calls.mono (K4.out _ _ _ (HC.out.2.2.trans H6.out.1) H6.out.2.2.1 H6.out.2.2.2.1 H6.out.2.2.2.2.1) ?_
          rintro e w7 ⟨a7, c7, rfl, hown7, ho7⟩
          have H7 : Hid (Only (fun _ => False) w w7) := (HC.out.2.2.trans H6.out.1).trans ho7
          have s1 := str_any X2 N2 c5 a5 w7 HL.out.1 (H6.out.2.1.keep ho7)
          have s2 := str_any X2 N2 c7 a7 w7 HL.out.1 (own_vw hown7)
          clear hown7 ho7 u0 u1 u2 lU
          go_wp2_with fail
          go_ret
          exact ⟨rfl, H7.out⟩
set_option maxRecDepth 100000 in
set_option maxHeartbeats 4000000 in
theorem walk0 (n m r c cI cJ : Nat) (A D B E : Int) (aB aI aJ : Option Addr) (w : World) (h : 1000 < n ∨ 1000 < m ∨ 1000 < r) :
    Calls Try.prog 7 #[.slice aB n c, .agg #[.int .i64 A, .int .i64 D, .slice aI m cI], .agg #[.int .i64 B, .int .i64 E, .slice aJ r cJ]] w fun e w' => e = .returned (.bool true) ∧ Only (fun _ => False) w w' := by
  by_cases c1 : (1000 : Int) < (n : Int)
  · skip
    go_enter Try.func7, Try.ntmps7
    go_upto_region 1 with fail
    obtain ⟨R, Q, w0, hw0, hQ, hR, H0, lRQ, lQ⟩ := box33 w (.int .i64 A) (.int .i64 D) (.slice aI m cI) (.int .i64 B) (.int .i64 E) (.slice aJ r cJ) 24 24
    rw [hw0, hQ, hR]
    clear hw0 hQ hR
    go_wp2_with fail
    refine Calls.mono (awake19_any _) ?_
    rintro e w1 ⟨rfl, ho1⟩
    have H1 : Hid (Only (fun _ => False) w w1) := H0.out.2.2.1.trans ho1
    obtain ⟨-, -, r2, lR2⟩ := blk_three (blk_keep ho1 H0.out.1)
    obtain ⟨-, -, q2, lQ2⟩ := blk_three (blk_keep ho1 H0.out.2.1)
    clear ho1 lQ
    go_wp2_with fail
    go_ret
    exact ⟨rfl, H1.out⟩
  · have d1 : decide ((1000 : Int) < (n : Int)) = false := decide_eq_false c1
    by_cases c2 : (1000 : Int) < (m : Int)
    · skip
      go_enter Try.func7, Try.ntmps7
      go_upto_region 1 with fail
      obtain ⟨R, Q, w0, hw0, hQ, hR, H0, lRQ, lQ⟩ := box33 w (.int .i64 A) (.int .i64 D) (.slice aI m cI) (.int .i64 B) (.int .i64 E) (.slice aJ r cJ) 24 24
      rw [hw0, hQ, hR]
      clear hw0 hQ hR
      go_wp2_with fail
      refine Calls.mono (awake19_any _) ?_
      rintro e w1 ⟨rfl, ho1⟩
      have H1 : Hid (Only (fun _ => False) w w1) := H0.out.2.2.1.trans ho1
      obtain ⟨-, -, r2, lR2⟩ := blk_three (blk_keep ho1 H0.out.1)
      obtain ⟨-, -, q2, lQ2⟩ := blk_three (blk_keep ho1 H0.out.2.1)
      clear ho1 lQ
      go_wp2_with fail
      go_ret
      exact ⟨rfl, H1.out⟩
    · have d2 : decide ((1000 : Int) < (m : Int)) = false := decide_eq_false c2
      have d3 : (1000 : Int) < (r : Int) := by omega
      go_enter Try.func7, Try.ntmps7
      go_upto_region 1 with fail
      obtain ⟨R, Q, w0, hw0, hQ, hR, H0, lRQ, lQ⟩ := box33 w (.int .i64 A) (.int .i64 D) (.slice aI m cI) (.int .i64 B) (.int .i64 E) (.slice aJ r cJ) 24 24
      rw [hw0, hQ, hR]
      clear hw0 hQ hR
      go_wp2_with fail
      refine Calls.mono (awake19_any _) ?_
      rintro e w1 ⟨rfl, ho1⟩
      have H1 : Hid (Only (fun _ => False) w w1) := H0.out.2.2.1.trans ho1
      obtain ⟨-, -, r2, lR2⟩ := blk_three (blk_keep ho1 H0.out.1)
      obtain ⟨-, -, q2, lQ2⟩ := blk_three (blk_keep ho1 H0.out.2.1)
      clear ho1 lQ
      go_wp2_with fail
      go_ret
      exact ⟨rfl, H1.out⟩
theorem walk (L : List Nat) (aB : Option Addr) (c : Nat) (F G : EdV) (w : World) (hVB : Vw w aB (u8s L)) (hc : L.length ≤ c) (hc2 : c ≤ maxLen) (hnB : aB = none → L.length = 0 ∧ c = 0) (hs : L.length ≤ 140737488351232) (hF : F.Ok w) (hG : G.Ok w) :
    Calls Try.prog 7 #[.slice aB L.length c, F.val, G.val] w fun e w' => e = .returned (.bool true) ∧ Only (fun _ => False) w w' := by
  by_cases h : 1000 < L.length ∨ 1000 < F.M.length ∨ 1000 < G.M.length
  · exact walk0 _ _ _ c F.c G.c F.A F.D G.A G.D aB F.a G.a w h
  · exact walk1 L F.M G.M _ _ _ c F.c G.c F.A F.D G.A G.D aB F.a G.a w rfl rfl rfl hVB hF.vM hG.vM hc hc2 (by omega) (by omega) (by omega) hF.rA hF.rD hG.rA hG.rD
end editApart
end Go.Proofs.Ytmhnghkodneodaa
