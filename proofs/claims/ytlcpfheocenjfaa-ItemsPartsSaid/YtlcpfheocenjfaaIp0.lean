/-
  stanzalaw11.ItemsParts: its walk.
-/
import Derived.Test.YtlcpfheocenjfaaAw1
import Derived.Test.YtlcpfheocenjfaaPa
import Derived.Test.YtlcpfheocenjfaaSm
namespace Go.Proofs.Ytlcpfheocenjfaa.itemsParts
open Go.RowKit Go.Maps
set_option linter.unusedVariables false
set_option linter.unusedSimpArgs false
theorem ops_lt (L : List Bt) (m : Nat) : ∀ x ∈ Pa.ops L m ++ [2], x < 256 := fun x hx => by
  rw [List.mem_append] at hx
  rcases hx with hx | hx
  · unfold Pa.ops at hx
    obtain ⟨i, _, rfl⟩ := List.mem_map.1 hx
    unfold Pa.op
    by_cases h : i = 0
    · rw [if_pos h]; omega
    · rw [if_neg h]; omega
  · simp at hx; omega
set_option maxRecDepth 100000 in
set_option maxHeartbeats 4000000 in
theorem walk1 (L : List Bt) (a0 : Option Addr) (c0 : Nat) (w : World) (hV : Vw w a0 (btC L)) (hB : ∀ b ∈ L, b.cells < 256 ∧ b.kind < 256 ∧ b.len < 256 ∧ b.opp < 256) (hs : L.length ≤ 1000) : Calls Try.prog 11 #[.slice a0 L.length c0] w fun e w' => e = .returned (.bool true) ∧ Only (fun _ => False) w w' := by
  have HP : Hid (∀ W, Only (fun _ => False) w W → Calls Try.prog 32 #[.slice a0 L.length c0] W fun e w' => ∃ m, m ≤ L.length ∧ It.sum (Pa.cts (L.take m) 0) ≤ 4003 ∧ paP (Pa.cts (L.take m) 0) (Pa.ops L m ++ [2]) W e w') := fun W ho => para_any L a0 c0 W (hV.keep ho) hB hs
  obtain ⟨n0, hn0⟩ : ∃ n, n = L.length := ⟨_, rfl⟩
  rw [← hn0] at hs HP ⊢
  have s0 : decide ((1000 : Int) < (n0 : Int)) = false := decide_eq_false (by omega)
  have HN : Hid (n0 = L.length) := hn0
  clear hV hB hn0
  go_enter Try.func11, Try.ntmps11
  go_wp2_with fail
  refine (awake11_any _).mono ?_
  rintro e w1 ⟨rfl, ho1⟩
  have HO1 : Hid (Only (fun _ => False) w w1) := ho1
  clear ho1
  go_wp2_with fail
  refine Calls.mono (HP.out _ HO1.out) ?_
  rintro e w2 ⟨m, hm, hsum, aC, aO, cC, cO, rfl, hC, hO, ho2⟩
  obtain ⟨C, hCe⟩ : ∃ C, C = Pa.cts (L.take m) 0 := ⟨_, rfl⟩
  obtain ⟨O, hOe⟩ : ∃ O, O = Pa.ops L m ++ [2] := ⟨_, rfl⟩
  rw [← hCe] at hC hsum ⊢
  rw [← hOe] at hO ⊢
  have hCl : C.length ≤ 1000 := by rw [hCe, Pa.cts_len, List.length_take]; omega
  have hOl : O.length ≤ 1001 := by rw [hOe, List.length_append, Pa.ops_len]; simp; omega
  have HOB : Hid (∀ x ∈ O, x < 256) := by rw [hOe]; exact ops_lt L m
  have H2 : Hid (Vw w2 aC (ctC C) ∧ Vw w2 aO (u8s O) ∧ Only (fun _ => False) w w2 ∧ It.sum C ≤ 4003) := ⟨own_vw hC, own_vw hO, HO1.out.trans ho2, hsum⟩
  obtain ⟨n, hn⟩ : ∃ n, n = C.length := ⟨_, rfl⟩
  obtain ⟨no, hno⟩ : ∃ n, n = O.length := ⟨_, rfl⟩
  have HNN : Hid (n = C.length ∧ no = O.length) := ⟨hn, hno⟩
  rw [← hn] at hCl ⊢
  rw [← hno] at hOl ⊢
  clear hC hO ho2 hsum hCe hOe hn hno
  go_wp2_with fail
  obtain ⟨R, hR⟩ : ∃ b, b = w2.heap.size := ⟨_, rfl⟩
  obtain ⟨w3, hw3⟩ : ∃ Z, Z = w2.alloc (.cells #[.slice aC n cC, .slice aO no cO] 62) := ⟨_, rfl⟩
  rw [← hw3, ← hR]
  have H3 : Hid (w3.heap[R]? = some (.cells #[.slice aC n cC, .slice aO no cO] 62 (0, 0)) ∧ Only (fun _ => False) w2 w3) := by
    rw [hw3, hR]
    exact ⟨heap_alloc_new w2 _, (Only.refl _ _).alloc _⟩
  clear hw3 hR
  go_loopg [4, 17] n (fun gh v4 v17 wr => ∃ (i z : Nat) (W : World), W = wr ∧ gh = n - i ∧ i ≤ n ∧ v4 = .int .i64 (z : Int) ∧ v17 = .int .i64 (i : Int) ∧ z = It.sum (C.take i) ∧ Only (fun _ => False) w3 W)
  case atStart => exact ⟨0, 0, _, rfl, rfl, Nat.zero_le _, rfl, rfl, rfl, Only.refl _ _⟩
  case round =>
    obtain ⟨i, z, W, hW, rfl, hi, rfl, rfl, hz, hoW⟩ := hrel
    subst hW
    have HG : Hid (z = It.sum (C.take i) ∧ Only (fun _ => False) w2 W ∧ W.heap[R]? = some (.cells #[.slice aC n cC, .slice aO no cO] 62 (0, 0)) ∧ Only (fun _ => False) w3 W) := ⟨hz, H3.out.2.trans hoW, blk_keep hoW H3.out.1, hoW⟩
    have hzl : z ≤ 4003 := by rw [hz]; exact Nat.le_trans (It.sum_le i) H2.out.2.2.2
    clear hz hoW
    by_cases hlt : i < n
    · have t1 : (i : Int) < (n : Int) := by omega
      obtain ⟨x, hx⟩ : ∃ x, C[i]? = some x := ⟨_, List.getElem?_eq_getElem (by rw [← HNN.out.1]; exact hlt)⟩
      obtain ⟨q0, q1, q2, q3⟩ := ctC_at C i x hx
      obtain ⟨b, off, rfl, hb, hc⟩ := (H2.out.1.keep HG.out.2.1).cells (by rw [ctC_len, ← HNN.out.1]; omega)
      have c0 : W.cell? ⟨b, off + i * 4, none⟩ = _ := hc _ _ q0
      have c1 : W.cell? ⟨b, off + i * 4 + 1, none⟩ = _ := hc _ _ q1
      have c2 : W.cell? ⟨b, off + i * 4 + 2, none⟩ = _ := hc _ _ q2
      have c3 : W.cell? ⟨b, off + i * 4 + 3, none⟩ = _ := hc _ _ q3
      have HX : Hid (It.sum (C.take (i + 1)) = z + x.len) := (by rw [take_snoc hx, It.sum_append, ← HG.out.1]; rfl : It.sum (C.take (i + 1)) = z + x.len)
      have hxl : z + x.len ≤ 4003 := by rw [← HX.out]; exact Nat.le_trans (It.sum_le _) H2.out.2.2.2
      obtain ⟨xp, xl, xc, xk⟩ := x
      simp only at c0 c1 c2 c3 HX hxl
      clear hx q0 q1 q2 q3 hc
      go_wp2_with fail
      go_roundg (n - (i + 1))
      case measure => omega
      case rel => exact ⟨i + 1, z + xl, _, rfl, rfl, by omega, by go_num, by go_num, HX.out.symm, HG.out.2.2.2.alloc _⟩
    · have t1 : decide ((i : Int) < (n : Int)) = false := decide_eq_false (by omega)
      have HE : Hid (It.sum C = z) := (by rw [HG.out.1, List.take_of_length_le (by rw [← HNN.out.1]; omega)] : It.sum C = z)
      have HY : Hid (∀ W', Only (fun _ => False) W W' → Calls Try.prog 31 #[.agg #[.slice aC n cC, .slice aO no cO]] W' fun e w' => e = .returned (.int .i64 (z : Int)) ∧ Only (fun _ => False) W' w') := fun W' ho => by
        rw [← HE.out, HNN.out.1]
        exact bytes_any C aC cC no aO cO W' (H2.out.1.keep (HG.out.2.1.trans ho)) (by rw [← HNN.out.1]; omega) (by have := H2.out.2.2.2; omega)
      have HP1 : Hid (∀ W', Only (fun _ => False) W W' → Calls Try.prog 29 #[.agg #[.slice aC n cC, .slice aO no cO]] W' (ptP (It.parts O O.length) W')) := fun W' ho => by
        rw [HNN.out.2]
        exact parts_any n aC cC O aO cO W' (H2.out.2.1.keep (HG.out.2.1.trans ho)) HOB.out (by rw [← HNN.out.2]; omega)
      have HP2 : Hid (∀ W', Only (fun _ => False) W W' → Calls Try.prog 34 #[.agg #[.slice aC n cC, .slice aO no cO]] W' (ptP (It.parts O O.length) W')) := fun W' ho => by
        rw [HNN.out.2]
        exact refParts_any n aC cC O aO cO W' (H2.out.2.1.keep (HG.out.2.1.trans ho)) HOB.out (by rw [← HNN.out.2]; omega)
      obtain ⟨PT, hPT⟩ : ∃ PT, PT = It.parts O O.length := ⟨_, rfl⟩
      have hPl : PT.length ≤ 1001 := by rw [hPT]; have := It.parts_len O O.length; have := HNN.out.2; omega
      rw [← hPT] at HP1 HP2
      clear hPT
      have HS : Hid (∀ W', Only (fun _ => False) W W' → W'.cell? ⟨R, 0, none⟩ = some (.slice aC n cC) ∧ W'.cell? ⟨R, 1, none⟩ = some (.slice aO no cO)) := fun W' ho => ⟨(blk_two (blk_keep ho HG.out.2.2.1)).1, (blk_two (blk_keep ho HG.out.2.2.1)).2.1⟩
      obtain ⟨r0, r1, lR⟩ := blk_two HG.out.2.2.1
      go_wp2_with fail
      go_region_held3 (fun W' => W'.cell? ⟨R, 0, none⟩ = some (.slice aC n cC) ∧ W'.cell? ⟨R, 1, none⟩ = some (.slice aO no cO)) ((first | exact HS.out _ (Only.refl _ _) | exact HS.out _ (Only.refl _ _).drew | exact HS.out _ H4.out.1 | exact HS.out _ H4.out.1.drew | exact HS.out _ H5.out.1 | exact HS.out _ H5.out.1.drew | exact HS.out _ H6.out | exact HS.out _ H6.out.drew | exact HS.out _ H7.out | exact HS.out _ H7.out.drew)) ((first | (go_at_call 29; refine Calls.mono (HP1.out _ (by first | exact Only.refl _ _ | exact (Only.refl _ _).drew | exact H4.out.1 | exact H4.out.1.drew | exact H5.out.1 | exact H5.out.1.drew | exact H6.out | exact H6.out.drew)) ?_; rintro e w4 ⟨aX, cX, rfl, hX, ho4⟩; have H4 : Hid (Only (fun _ => False) W w4 ∧ w4.ownsRow W.heap.size 3 1 (.slice aX PT.length cX) PT.length (natI PT)) := ⟨(by first | exact ((Only.refl _ _).drew).trans ho4 | exact ho4), hX⟩; clear hX ho4) | (go_at_call 34; refine Calls.mono (HP2.out _ (by first | exact Only.refl _ _ | exact (Only.refl _ _).drew | exact H4.out.1 | exact H4.out.1.drew | exact H5.out.1 | exact H5.out.1.drew | exact H6.out | exact H6.out.drew)) ?_; rintro e w5 ⟨aY, cY, rfl, hY, ho5⟩; have H5 : Hid (Only (fun _ => False) W w5 ∧ w5.ownsRow W.heap.size 3 1 (.slice aX PT.length cX) PT.length (natI PT) ∧ w5.ownsRow w4.heap.size 3 1 (.slice aY PT.length cY) PT.length (natI PT)) := ⟨(by first | exact (H4.out.1.drew).trans ho5 | exact H4.out.1.trans ho5), own_only H4.out.2 (by first | exact ((Only.refl _ _).drew).trans ho5 | exact ho5) (fun _ _ h => h), hY⟩; clear hY ho5) | (go_at_call 22; refine Calls.mono (sameNats_any PT W.heap.size w4.heap.size aX aY cX cY _ (own_only H5.out.2.1 (by first | exact Only.refl _ _ | exact (Only.refl _ _).drew) (fun _ _ h => h)) (own_only H5.out.2.2 (by first | exact Only.refl _ _ | exact (Only.refl _ _).drew) (fun _ _ h => h)) (by omega)) ?_; rintro e w6 ⟨rfl, nq, hnq⟩; have H6 : Hid (Only (fun _ => False) W w6) := (by rw [hnq]; first | exact (H5.out.1.drew).drewN _ | exact H5.out.1.drewN _); clear hnq) | (go_at_call 31; refine Calls.mono (HY.out _ (by first | exact Only.refl _ _ | exact (Only.refl _ _).drew | exact H4.out.1 | exact H4.out.1.drew | exact H5.out.1 | exact H5.out.1.drew | exact H6.out | exact H6.out.drew)) ?_; rintro e w7 ⟨rfl, ho7⟩; have H7 : Hid (Only (fun _ => False) W w7) := (by first | exact (H6.out.drew).trans ho7 | exact H6.out.trans ho7); clear ho7)))
      all_goals go_wp2_with fail
      all_goals go_ret
      all_goals exact ⟨rfl, H2.out.2.2.1.trans (HG.out.2.1.trans (by first | exact H7.out | exact H7.out.drew))⟩
end Go.Proofs.Ytlcpfheocenjfaa.itemsParts
namespace Go.Proofs.Ytlcpfheocenjfaa.itemsParts
open Go.RowKit Go.Maps
set_option linter.unusedVariables false
set_option maxRecDepth 100000 in
set_option maxHeartbeats 4000000 in
theorem walk (L : List Bt) (a0 : Option Addr) (c0 : Nat) (w : World) (hV : Vw w a0 (btC L)) (hB : ∀ b ∈ L, b.cells < 256 ∧ b.kind < 256 ∧ b.len < 256 ∧ b.opp < 256) (hc : L.length ≤ c0) (hm : c0 ≤ maxLen) : Calls Try.prog 11 #[.slice a0 L.length c0] w fun e w' => e = .returned (.bool true) ∧ Only (fun _ => False) w w' := by
  by_cases h5 : L.length ≤ 1000
  · exact walk1 L a0 c0 w hV hB h5
  · obtain ⟨n0, hn0⟩ : ∃ n, n = L.length := ⟨_, rfl⟩
    rw [← hn0] at hc h5 ⊢
    unfold maxLen at hm
    have s0 : (1000 : Int) < (n0 : Int) := by omega
    clear hV hB hn0
    go_enter Try.func11, Try.ntmps11
    go_wp2_with (first | (go_at_call 25; refine (awake11_any _).mono ?_; rintro e w1 ⟨rfl, ho1⟩; have HO1 : Hid (Only (fun _ => False) w w1) := ho1; clear ho1) | fail)
    go_ret
    exact ⟨rfl, HO1.out⟩
end Go.Proofs.Ytlcpfheocenjfaa.itemsParts
