/-
  stanzalaw13.SpanColumns: its walk.
-/
import Derived.Test.YtdefgoiankabeaaSw
import Derived.Test.YtdefgoiankabeaaCu
import Derived.Test.YtdefgoiankabeaaSm
namespace Go.Proofs.Ytdefgoiankabeaa.spanColumns
open Go.RowKit Go.Maps
set_option linter.unusedVariables false
set_option linter.unusedSimpArgs false
set_option maxRecDepth 100000 in
set_option maxHeartbeats 4000000 in
theorem walk0 (L : List Bt) (a0 : Option Addr) (c0 : Nat) (a b : Int) (tb cl : Nat) (w : World) (hV : Vw w a0 (btC L)) (hc : L.length ≤ c0) (hm : c0 ≤ maxLen) (h5 : ¬ L.length ≤ 1000) : Calls Try.prog 4 #[.slice a0 L.length c0, .int .i64 a, .int .i64 b, .int .u8 (tb : Int), .int .u16 (cl : Int)] w fun e w' => e = .returned (.bool true) ∧ Only (fun _ => False) w w' := by
  obtain ⟨n0, hn0⟩ : ∃ n, n = L.length := ⟨_, rfl⟩
  rw [← hn0] at hc h5 ⊢
  unfold maxLen at hm
  have s0 : (1000 : Int) < (n0 : Int) := by omega
  clear hV hn0
  go_enter Try.func4, Try.ntmps4
  go_wp2_with (first | (go_at_call 9; refine (awake_any _).mono ?_; rintro e w1 ⟨rfl, ho1⟩; have HO1 : Hid (Only (fun _ => False) w w1) := ho1; clear ho1) | fail)
  go_ret
  exact ⟨rfl, HO1.out⟩
set_option maxRecDepth 100000 in
set_option maxHeartbeats 4000000 in
theorem walk1 (L : List Bt) (a0 : Option Addr) (c0 : Nat) (a b : Int) (tb cl : Nat) (w : World) (hV : Vw w a0 (btC L)) (hB : ∀ b ∈ L, b.cells < 256 ∧ b.kind < 256 ∧ b.len < 256 ∧ b.opp < 256) (hs : L.length ≤ 1000) (htb : tb ≤ 255) (hcl : cl ≤ 65535) : Calls Try.prog 4 #[.slice a0 L.length c0, .int .i64 a, .int .i64 b, .int .u8 (tb : Int), .int .u16 (cl : Int)] w fun e w' => e = .returned (.bool true) ∧ Only (fun _ => False) w w' := by
  obtain ⟨tq, htq⟩ : ∃ q, q = tb % 64 := ⟨_, rfl⟩
  have p1 : (tb : Int).tmod 64 = (tq : Int) := by rw [Int.tmod_eq_emod_of_nonneg (by omega)]; omega
  have htq2 : tq < 64 := by omega
  obtain ⟨t, ht1⟩ : ∃ t, t = 1 + tq := ⟨_, rfl⟩
  have p2 : IntKind.i64.wrap (1 + (tq : Int)) = (t : Int) := by rw [IntKind.wrap_i64]; omega
  have h0 : 0 < t := by omega
  have ht : t ≤ 1000 := by omega
  clear htq ht1
  have HPA : Hid (∀ W, Only (fun _ => False) w W → Calls Try.prog 12 #[.slice a0 L.length c0] W fun e w' => ∃ k aC aO cC cO, e = .returned (.agg #[.slice aC k cC, .slice aO (k + 1) cO]) ∧ k ≤ L.length ∧ (k = L.length ∨ 4000 ≤ It.sum (Pa.cts (L.take k) 0)) ∧ Pv w' (Pa.cts (L.take k) 0) (Pa.ops L k ++ [2]) k (k + 1) aC aO cC cO ∧ Only (fun _ => False) W w') := fun W ho => para_pv L L.length a0 c0 W rfl (hV.keep ho) hB (by omega)
  obtain ⟨n0, hn0⟩ : ∃ n, n = L.length := ⟨_, rfl⟩
  rw [← hn0] at hs HPA ⊢
  have s0 : decide ((1000 : Int) < (n0 : Int)) = false := decide_eq_false (by omega)
  have HN : Hid (n0 = L.length) := hn0
  clear hV hB hn0
  go_enter Try.func4, Try.ntmps4
  go_wp2_with fail
  refine (awake_any _).mono ?_
  rintro e w1 ⟨rfl, ho1⟩
  have HO1 : Hid (Only (fun _ => False) w w1) := ho1
  clear ho1
  go_wp2_with fail
  refine Calls.mono (HPA.out _ HO1.out) ?_
  rintro e w2 ⟨k, aC, aO, cC, cO, rfl, hk, _, hPv, ho2⟩
  obtain ⟨C, hCe⟩ : ∃ C, C = Pa.cts (L.take k) 0 := ⟨_, rfl⟩
  obtain ⟨O, hOe⟩ : ∃ O, O = Pa.ops L k ++ [2] := ⟨_, rfl⟩
  rw [← hCe, ← hOe] at hPv
  obtain ⟨m, hm⟩ : ∃ m, m = k + 1 := ⟨_, rfl⟩
  rw [← hm] at hPv ⊢
  have HM : Hid (m = k + 1) := hm
  have hk1 : k ≤ 1000 := by omega
  have H2 : Hid (Pv w2 C O k m aC aO cC cO ∧ Only (fun _ => False) w w2) := ⟨hPv, HO1.out.trans ho2⟩
  clear hPv ho2 hCe hOe hm hk
  go_wp2_with fail
  obtain ⟨R, w3, hw3, hR, H3, r0, r1, lR⟩ := box2 w2 (.slice aC k cC) (.slice aO m cO) 33
  rw [hw3, hR]
  clear hw3 hR
  refine Calls.mono (cut_any k m aC aO cC cO a b w3 (by omega)) ?_
  rintro e w4 ⟨x, y, rfl, hxy, hyk, ho4⟩
  have HPv : Hid (∀ W, Only (fun _ => False) w4 W → Pv W C O k m aC aO cC cO) := fun W ho => H2.out.1.keep (H3.out.2.trans (ho4.trans ho))
  have HS : Hid (∀ W', Only (fun _ => False) w4 W' → W'.cell? ⟨R, 0, none⟩ = some (.slice aC k cC) ∧ W'.cell? ⟨R, 1, none⟩ = some (.slice aO m cO) ∧ R < W'.heap.size) := fun W' ho => blk_two (blk_keep (ho4.trans ho) H3.out.1)
  have H4 : Hid (Only (fun _ => False) w w4) := H2.out.2.trans (H3.out.2.trans ho4)
  clear ho4 H3 H2 r0 r1 lR
  have wcl : IntKind.i64.wrap (cl : Int) = (cl : Int) := wrap_small _ (by omega) (by omega)
  obtain ⟨r0, r1, lR⟩ := HS.out w4 (Only.refl _ _)
  have hkc : k ≤ cC := (HPv.out _ (Only.refl _ _)).cap
  have hcm : cC ≤ maxLen := (HPv.out _ (Only.refl _ _)).capm
  unfold maxLen at hcm
  have HC1 : Hid (∀ W, Only (fun _ => False) w4 W → Calls Try.prog 17 #[.agg #[.slice aC k cC, .slice aO m cO], .int .i64 (x : Int), .int .i64 (y : Int), .int .i64 (t : Int)] W (nlP (Sp.cols C t x (y - x)) W)) := fun W ho => columns_any C O k m aC aO cC cO x y t W (HPv.out W ho) hxy hyk h0 ht
  have HC2 : Hid (∀ W, Only (fun _ => False) w4 W → Calls Try.prog 18 #[.agg #[.slice aC k cC, .slice aO m cO], .int .i64 (x : Int), .int .i64 (y : Int), .int .i64 (t : Int)] W (nlP (Sp.cols C t x (y - x)) W)) := fun W ho => refColumns_any C O k m aC aO cC cO x y t W (HPv.out W ho) hxy hyk h0 ht
  obtain ⟨CL, hCL⟩ : ∃ CL, CL = Sp.cols C t x (y - x) := ⟨_, rfl⟩
  rw [← hCL] at HC1 HC2
  have hCl : CL.length ≤ 1001 := by rw [hCL, Sp.cols_len]; omega
  clear hCL
  by_cases hxy2 : x < y
  · obtain ⟨b0, off, rfl, hb0, _⟩ := (HPv.out _ (Only.refl _ _)).vC.cells (by rw [ctC_len, ← (HPv.out _ (Only.refl _ _)).hn]; omega)
    have ncx : ¬ cC = x := by omega
    by_cases h20 : y ≤ x + 20
    · have mn : (y : Int) ≤ (x : Int) + 20 := by omega
      have HVS : Hid (Vw w4 (some ⟨b0, off + x * 4, none⟩) (ctC (sgm C x (y - x)))) := (HPv.out _ (Only.refl _ _)).vC.sgm x _
      go_wp2_with fail
      go_loopg [44] (y - x) (fun gh v wr => ∃ (i : Nat) (W : World), W = wr ∧ gh = (y - x) - i ∧ i ≤ (y - x) ∧ v = .int .i64 (i : Int) ∧ Only (fun _ => False) w4 W)
      case atStart => exact ⟨0, _, rfl, rfl, Nat.zero_le _, rfl, Only.refl _ _⟩
      case round =>
        obtain ⟨i, W, hW, rfl, hi, rfl, hoW⟩ := hrel
        subst hW
        have HG : Hid (Only (fun _ => False) w4 W) := hoW
        clear hoW r0 r1 lR
        by_cases hlt : i < y - x
        · have t1 : (i : Int) < ((y - x : Nat) : Int) := by omega
          obtain ⟨z, hz⟩ : ∃ z, C[x + i]? = some z := ⟨_, List.getElem?_eq_getElem (by rw [← (HPv.out W HG.out).hn]; omega)⟩
          obtain ⟨xp, xl, xc, xk, rfl, hxc, hxk⟩ := (HPv.out W HG.out).ok.nat hz
          have hq : (sgm C x (y - x))[i]? = some ⟨xp, xl, (xc : Int), xk⟩ := by rw [sgm_at hlt]; exact hz
          obtain ⟨g, of2, e9, hg, c0, c1, c2, c3⟩ := (HVS.out.keep HG.out).cluster hq
          injection e9 with e9
          injection e9 with e91 e92
          subst e91 e92
          simp only at c0 c1 c2 c3
          clear hz hq
          go_wp2_with fail
          obtain ⟨B4, w5, hw5, hB4, H5, l4⟩ := box4 W (.int .i64 (xp : Int)) (.int .i64 (xl : Int)) (.int .i64 (xc : Int)) (.int .u8 (xk : Int)) 39
          rw [hw5, hB4]
          clear hw5 hB4 c0 c1 c2 c3
          have HS5 : Hid (∀ W', Only (fun _ => False) w5 W' → W'.cell? ⟨B4, 0, none⟩ = some (.int .i64 (xp : Int)) ∧ W'.cell? ⟨B4, 1, none⟩ = some (.int .i64 (xl : Int)) ∧ W'.cell? ⟨B4, 2, none⟩ = some (.int .i64 (xc : Int)) ∧ W'.cell? ⟨B4, 3, none⟩ = some (.int .u8 (xk : Int))) := fun W' ho => blk_four (blk_keep ho H5.out.1)
          obtain ⟨q, hq⟩ : ∃ q, q = Sp.nx ⟨xp, xl, (xc : Int), xk⟩ t cl := ⟨_, rfl⟩
          have HN1 : Hid (∀ W', Calls Try.prog 14 #[.agg #[.int .i64 (xp : Int), .int .i64 (xl : Int), .int .i64 (xc : Int), .int .u8 (xk : Int)], .int .i64 (cl : Int), .int .i64 (t : Int)] W' fun e w' => e = .returned (.int .i64 (q : Int)) ∧ Only (fun _ => False) W' w') := fun W' => by rw [hq]; exact next_any xp xl xc xk cl t W' hxc hxk (by omega) h0 ht
          have HN2 : Hid (∀ W', Calls Try.prog 15 #[.agg #[.int .i64 (xp : Int), .int .i64 (xl : Int), .int .i64 (xc : Int), .int .u8 (xk : Int)], .int .i64 (cl : Int), .int .i64 (t : Int)] W' fun e w' => e = .returned (.int .i64 (q : Int)) ∧ Only (fun _ => False) W' w') := fun W' => by rw [hq]; exact refNext_any xp xl xc xk cl t W' hxc hxk (by omega) h0 ht
          have qq : ((q : Int) != (q : Int)) = false := by simp
          clear hq
          go_region_held3 (fun W' => W'.cell? ⟨B4, 0, none⟩ = some (.int .i64 (xp : Int)) ∧ W'.cell? ⟨B4, 1, none⟩ = some (.int .i64 (xl : Int)) ∧ W'.cell? ⟨B4, 2, none⟩ = some (.int .i64 (xc : Int)) ∧ W'.cell? ⟨B4, 3, none⟩ = some (.int .u8 (xk : Int))) ((first | exact HS5.out _ (Only.refl _ _).drew | exact HS5.out _ H6.out | exact HS5.out _ H7.out)) ((first | (go_at_call 14; refine Calls.mono (HN1.out _) ?_; rintro e w6 ⟨rfl, ho6⟩; have H6 : Hid (Only (fun _ => False) w5 w6) := ((Only.refl _ _).drew).trans ho6; clear ho6) | (go_at_call 15; refine Calls.mono (HN2.out _) ?_; rintro e w7 ⟨rfl, ho7⟩; have H7 : Hid (Only (fun _ => False) w5 w7) := H6.out.trans ho7; clear ho7)))
          all_goals go_wp2_with fail
          go_roundg ((y - x) - (i + 1))
          case measure => omega
          case rel => exact ⟨i + 1, _, rfl, rfl, by omega, by go_num, HG.out.trans (H5.out.2.1.trans H7.out)⟩
        · have t1 : decide ((i : Int) < ((y - x : Nat) : Int)) = false := decide_eq_false (by omega)
          have t2 : decide (i < y - x) = false := decide_eq_false hlt
          obtain ⟨r0, r1, lR⟩ := HS.out W HG.out
          go_wp2_with fail
          go_region_held3 (fun W' => W'.cell? ⟨R, 0, none⟩ = some (.slice (some ⟨b0, off, none⟩) k cC) ∧ W'.cell? ⟨R, 1, none⟩ = some (.slice aO m cO)) ((first | exact ⟨(HS.out _ HG.out).1, (HS.out _ HG.out).2.1⟩ | exact ⟨(HS.out _ HG.out.drew).1, (HS.out _ HG.out.drew).2.1⟩ | exact ⟨(HS.out _ H5.out.1).1, (HS.out _ H5.out.1).2.1⟩ | exact ⟨(HS.out _ H6.out.1).1, (HS.out _ H6.out.1).2.1⟩ | exact ⟨(HS.out _ H7.out).1, (HS.out _ H7.out).2.1⟩)) ((first | (go_at_call 17; refine Calls.mono (HC1.out _ HG.out.drew) ?_; rintro e w5 ⟨aX, cX, rfl, hX, ho5⟩; have H5 : Hid (Only (fun _ => False) w4 w5 ∧ w5.ownsRow W.heap.size 3 1 (.slice aX CL.length cX) CL.length (natI CL)) := ⟨HG.out.trans (((Only.refl _ _).drew).trans ho5), hX⟩; clear hX ho5) | (go_at_call 18; refine Calls.mono (HC2.out _ H5.out.1) ?_; rintro e w6 ⟨aY, cY, rfl, hY, ho6⟩; have H6 : Hid (Only (fun _ => False) w4 w6 ∧ w6.ownsRow W.heap.size 3 1 (.slice aX CL.length cX) CL.length (natI CL) ∧ w6.ownsRow w5.heap.size 3 1 (.slice aY CL.length cY) CL.length (natI CL)) := ⟨H5.out.1.trans ho6, own_only H5.out.2 ho6 (fun _ _ h => h), hY⟩; clear hY ho6) | (go_at_call 16; refine Calls.mono (sameNats_any CL W.heap.size w5.heap.size aX aY cX cY _ H6.out.2.1 H6.out.2.2 (by omega)) ?_; rintro e w7 ⟨rfl, nq, hnq⟩; have H7 : Hid (Only (fun _ => False) w4 w7) := (by rw [hnq]; exact H6.out.1.drewN _); clear hnq)))
          all_goals go_wp2_with fail
          all_goals go_ret
          all_goals exact ⟨rfl, H4.out.trans H7.out⟩

    · have mn : (x : Int) + 20 < (y : Int) := by omega
      have mn2 : decide ((y : Int) ≤ (x : Int) + 20) = false := decide_eq_false (by omega)
      have HVS : Hid (Vw w4 (some ⟨b0, off + x * 4, none⟩) (ctC (sgm C x 20))) := (HPv.out _ (Only.refl _ _)).vC.sgm x _
      go_wp2_with fail
      rw [show x + 20 - x = 20 by omega]
      go_loopg [44] (20) (fun gh v wr => ∃ (i : Nat) (W : World), W = wr ∧ gh = (20) - i ∧ i ≤ (20) ∧ v = .int .i64 (i : Int) ∧ Only (fun _ => False) w4 W)
      case atStart => exact ⟨0, _, rfl, rfl, Nat.zero_le _, rfl, Only.refl _ _⟩
      case round =>
        obtain ⟨i, W, hW, rfl, hi, rfl, hoW⟩ := hrel
        subst hW
        have HG : Hid (Only (fun _ => False) w4 W) := hoW
        clear hoW r0 r1 lR
        by_cases hlt : i < 20
        · have t1 : (i : Int) < ((20 : Nat) : Int) := by omega
          obtain ⟨z, hz⟩ : ∃ z, C[x + i]? = some z := ⟨_, List.getElem?_eq_getElem (by rw [← (HPv.out W HG.out).hn]; omega)⟩
          obtain ⟨xp, xl, xc, xk, rfl, hxc, hxk⟩ := (HPv.out W HG.out).ok.nat hz
          have hq : (sgm C x (20))[i]? = some ⟨xp, xl, (xc : Int), xk⟩ := by rw [sgm_at hlt]; exact hz
          obtain ⟨g, of2, e9, hg, c0, c1, c2, c3⟩ := (HVS.out.keep HG.out).cluster hq
          injection e9 with e9
          injection e9 with e91 e92
          subst e91 e92
          simp only at c0 c1 c2 c3
          clear hz hq
          go_wp2_with fail
          obtain ⟨B4, w5, hw5, hB4, H5, l4⟩ := box4 W (.int .i64 (xp : Int)) (.int .i64 (xl : Int)) (.int .i64 (xc : Int)) (.int .u8 (xk : Int)) 39
          rw [hw5, hB4]
          clear hw5 hB4 c0 c1 c2 c3
          have HS5 : Hid (∀ W', Only (fun _ => False) w5 W' → W'.cell? ⟨B4, 0, none⟩ = some (.int .i64 (xp : Int)) ∧ W'.cell? ⟨B4, 1, none⟩ = some (.int .i64 (xl : Int)) ∧ W'.cell? ⟨B4, 2, none⟩ = some (.int .i64 (xc : Int)) ∧ W'.cell? ⟨B4, 3, none⟩ = some (.int .u8 (xk : Int))) := fun W' ho => blk_four (blk_keep ho H5.out.1)
          obtain ⟨q, hq⟩ : ∃ q, q = Sp.nx ⟨xp, xl, (xc : Int), xk⟩ t cl := ⟨_, rfl⟩
          have HN1 : Hid (∀ W', Calls Try.prog 14 #[.agg #[.int .i64 (xp : Int), .int .i64 (xl : Int), .int .i64 (xc : Int), .int .u8 (xk : Int)], .int .i64 (cl : Int), .int .i64 (t : Int)] W' fun e w' => e = .returned (.int .i64 (q : Int)) ∧ Only (fun _ => False) W' w') := fun W' => by rw [hq]; exact next_any xp xl xc xk cl t W' hxc hxk (by omega) h0 ht
          have HN2 : Hid (∀ W', Calls Try.prog 15 #[.agg #[.int .i64 (xp : Int), .int .i64 (xl : Int), .int .i64 (xc : Int), .int .u8 (xk : Int)], .int .i64 (cl : Int), .int .i64 (t : Int)] W' fun e w' => e = .returned (.int .i64 (q : Int)) ∧ Only (fun _ => False) W' w') := fun W' => by rw [hq]; exact refNext_any xp xl xc xk cl t W' hxc hxk (by omega) h0 ht
          have qq : ((q : Int) != (q : Int)) = false := by simp
          clear hq
          go_region_held3 (fun W' => W'.cell? ⟨B4, 0, none⟩ = some (.int .i64 (xp : Int)) ∧ W'.cell? ⟨B4, 1, none⟩ = some (.int .i64 (xl : Int)) ∧ W'.cell? ⟨B4, 2, none⟩ = some (.int .i64 (xc : Int)) ∧ W'.cell? ⟨B4, 3, none⟩ = some (.int .u8 (xk : Int))) ((first | exact HS5.out _ (Only.refl _ _).drew | exact HS5.out _ H6.out | exact HS5.out _ H7.out)) ((first | (go_at_call 14; refine Calls.mono (HN1.out _) ?_; rintro e w6 ⟨rfl, ho6⟩; have H6 : Hid (Only (fun _ => False) w5 w6) := ((Only.refl _ _).drew).trans ho6; clear ho6) | (go_at_call 15; refine Calls.mono (HN2.out _) ?_; rintro e w7 ⟨rfl, ho7⟩; have H7 : Hid (Only (fun _ => False) w5 w7) := H6.out.trans ho7; clear ho7)))
          all_goals go_wp2_with fail
          go_roundg ((20) - (i + 1))
          case measure => omega
          case rel => exact ⟨i + 1, _, rfl, rfl, by omega, by go_num, HG.out.trans (H5.out.2.1.trans H7.out)⟩
        · have t1 : decide ((i : Int) < ((20 : Nat) : Int)) = false := decide_eq_false (by omega)
          have t2 : decide (i < 20) = false := decide_eq_false hlt
          obtain ⟨r0, r1, lR⟩ := HS.out W HG.out
          go_wp2_with fail
          go_region_held3 (fun W' => W'.cell? ⟨R, 0, none⟩ = some (.slice (some ⟨b0, off, none⟩) k cC) ∧ W'.cell? ⟨R, 1, none⟩ = some (.slice aO m cO)) ((first | exact ⟨(HS.out _ HG.out).1, (HS.out _ HG.out).2.1⟩ | exact ⟨(HS.out _ HG.out.drew).1, (HS.out _ HG.out.drew).2.1⟩ | exact ⟨(HS.out _ H5.out.1).1, (HS.out _ H5.out.1).2.1⟩ | exact ⟨(HS.out _ H6.out.1).1, (HS.out _ H6.out.1).2.1⟩ | exact ⟨(HS.out _ H7.out).1, (HS.out _ H7.out).2.1⟩)) ((first | (go_at_call 17; refine Calls.mono (HC1.out _ HG.out.drew) ?_; rintro e w5 ⟨aX, cX, rfl, hX, ho5⟩; have H5 : Hid (Only (fun _ => False) w4 w5 ∧ w5.ownsRow W.heap.size 3 1 (.slice aX CL.length cX) CL.length (natI CL)) := ⟨HG.out.trans (((Only.refl _ _).drew).trans ho5), hX⟩; clear hX ho5) | (go_at_call 18; refine Calls.mono (HC2.out _ H5.out.1) ?_; rintro e w6 ⟨aY, cY, rfl, hY, ho6⟩; have H6 : Hid (Only (fun _ => False) w4 w6 ∧ w6.ownsRow W.heap.size 3 1 (.slice aX CL.length cX) CL.length (natI CL) ∧ w6.ownsRow w5.heap.size 3 1 (.slice aY CL.length cY) CL.length (natI CL)) := ⟨H5.out.1.trans ho6, own_only H5.out.2 ho6 (fun _ _ h => h), hY⟩; clear hY ho6) | (go_at_call 16; refine Calls.mono (sameNats_any CL W.heap.size w5.heap.size aX aY cX cY _ H6.out.2.1 H6.out.2.2 (by omega)) ?_; rintro e w7 ⟨rfl, nq, hnq⟩; have H7 : Hid (Only (fun _ => False) w4 w7) := (by rw [hnq]; exact H6.out.1.drewN _); clear hnq)))
          all_goals go_wp2_with fail
          all_goals go_ret
          all_goals exact ⟨rfl, H4.out.trans H7.out⟩

  · obtain rfl : x = y := by omega
    by_cases hcx : cC = x
    · subst hcx
      go_wp2_with fail
      go_loopg [44] (0) (fun gh v wr => ∃ (i : Nat) (W : World), W = wr ∧ gh = (0) - i ∧ i ≤ (0) ∧ v = .int .i64 (i : Int) ∧ Only (fun _ => False) w4 W)
      case atStart => exact ⟨0, _, rfl, rfl, Nat.zero_le _, rfl, Only.refl _ _⟩
      case round =>
        obtain ⟨i, W, hW, rfl, hi, rfl, hoW⟩ := hrel
        subst hW
        have HG : Hid (Only (fun _ => False) w4 W) := hoW
        clear hoW r0 r1 lR
        by_cases hlt : i < 0
        · exact absurd hlt (Nat.not_lt_zero _)
        · have t1 : decide ((i : Int) < ((0 : Nat) : Int)) = false := decide_eq_false (by omega)
          have t2 : decide (i < 0) = false := decide_eq_false hlt
          obtain ⟨r0, r1, lR⟩ := HS.out W HG.out
          go_wp2_with fail
          go_region_held3 (fun W' => W'.cell? ⟨R, 0, none⟩ = some (.slice aC k cC) ∧ W'.cell? ⟨R, 1, none⟩ = some (.slice aO m cO)) ((first | exact ⟨(HS.out _ HG.out).1, (HS.out _ HG.out).2.1⟩ | exact ⟨(HS.out _ HG.out.drew).1, (HS.out _ HG.out.drew).2.1⟩ | exact ⟨(HS.out _ H5.out.1).1, (HS.out _ H5.out.1).2.1⟩ | exact ⟨(HS.out _ H6.out.1).1, (HS.out _ H6.out.1).2.1⟩ | exact ⟨(HS.out _ H7.out).1, (HS.out _ H7.out).2.1⟩)) ((first | (go_at_call 17; refine Calls.mono (HC1.out _ HG.out.drew) ?_; rintro e w5 ⟨aX, cX, rfl, hX, ho5⟩; have H5 : Hid (Only (fun _ => False) w4 w5 ∧ w5.ownsRow W.heap.size 3 1 (.slice aX CL.length cX) CL.length (natI CL)) := ⟨HG.out.trans (((Only.refl _ _).drew).trans ho5), hX⟩; clear hX ho5) | (go_at_call 18; refine Calls.mono (HC2.out _ H5.out.1) ?_; rintro e w6 ⟨aY, cY, rfl, hY, ho6⟩; have H6 : Hid (Only (fun _ => False) w4 w6 ∧ w6.ownsRow W.heap.size 3 1 (.slice aX CL.length cX) CL.length (natI CL) ∧ w6.ownsRow w5.heap.size 3 1 (.slice aY CL.length cY) CL.length (natI CL)) := ⟨H5.out.1.trans ho6, own_only H5.out.2 ho6 (fun _ _ h => h), hY⟩; clear hY ho6) | (go_at_call 16; refine Calls.mono (sameNats_any CL W.heap.size w5.heap.size aX aY cX cY _ H6.out.2.1 H6.out.2.2 (by omega)) ?_; rintro e w7 ⟨rfl, nq, hnq⟩; have H7 : Hid (Only (fun _ => False) w4 w7) := (by rw [hnq]; exact H6.out.1.drewN _); clear hnq)))
          all_goals go_wp2_with fail
          all_goals go_ret
          all_goals exact ⟨rfl, H4.out.trans H7.out⟩

    · have ncx : ¬ cC = x := hcx
      go_wp2_with fail
      go_loopg [44] (0) (fun gh v wr => ∃ (i : Nat) (W : World), W = wr ∧ gh = (0) - i ∧ i ≤ (0) ∧ v = .int .i64 (i : Int) ∧ Only (fun _ => False) w4 W)
      case atStart => exact ⟨0, _, rfl, rfl, Nat.zero_le _, rfl, Only.refl _ _⟩
      case round =>
        obtain ⟨i, W, hW, rfl, hi, rfl, hoW⟩ := hrel
        subst hW
        have HG : Hid (Only (fun _ => False) w4 W) := hoW
        clear hoW r0 r1 lR
        by_cases hlt : i < 0
        · exact absurd hlt (Nat.not_lt_zero _)
        · have t1 : decide ((i : Int) < ((0 : Nat) : Int)) = false := decide_eq_false (by omega)
          have t2 : decide (i < 0) = false := decide_eq_false hlt
          obtain ⟨r0, r1, lR⟩ := HS.out W HG.out
          go_wp2_with fail
          go_region_held3 (fun W' => W'.cell? ⟨R, 0, none⟩ = some (.slice aC k cC) ∧ W'.cell? ⟨R, 1, none⟩ = some (.slice aO m cO)) ((first | exact ⟨(HS.out _ HG.out).1, (HS.out _ HG.out).2.1⟩ | exact ⟨(HS.out _ HG.out.drew).1, (HS.out _ HG.out.drew).2.1⟩ | exact ⟨(HS.out _ H5.out.1).1, (HS.out _ H5.out.1).2.1⟩ | exact ⟨(HS.out _ H6.out.1).1, (HS.out _ H6.out.1).2.1⟩ | exact ⟨(HS.out _ H7.out).1, (HS.out _ H7.out).2.1⟩)) ((first | (go_at_call 17; refine Calls.mono (HC1.out _ HG.out.drew) ?_; rintro e w5 ⟨aX, cX, rfl, hX, ho5⟩; have H5 : Hid (Only (fun _ => False) w4 w5 ∧ w5.ownsRow W.heap.size 3 1 (.slice aX CL.length cX) CL.length (natI CL)) := ⟨HG.out.trans (((Only.refl _ _).drew).trans ho5), hX⟩; clear hX ho5) | (go_at_call 18; refine Calls.mono (HC2.out _ H5.out.1) ?_; rintro e w6 ⟨aY, cY, rfl, hY, ho6⟩; have H6 : Hid (Only (fun _ => False) w4 w6 ∧ w6.ownsRow W.heap.size 3 1 (.slice aX CL.length cX) CL.length (natI CL) ∧ w6.ownsRow w5.heap.size 3 1 (.slice aY CL.length cY) CL.length (natI CL)) := ⟨H5.out.1.trans ho6, own_only H5.out.2 ho6 (fun _ _ h => h), hY⟩; clear hY ho6) | (go_at_call 16; refine Calls.mono (sameNats_any CL W.heap.size w5.heap.size aX aY cX cY _ H6.out.2.1 H6.out.2.2 (by omega)) ?_; rintro e w7 ⟨rfl, nq, hnq⟩; have H7 : Hid (Only (fun _ => False) w4 w7) := (by rw [hnq]; exact H6.out.1.drewN _); clear hnq)))
          all_goals go_wp2_with fail
          all_goals go_ret
          all_goals exact ⟨rfl, H4.out.trans H7.out⟩

theorem walk (L : List Bt) (a0 : Option Addr) (c0 : Nat) (a b tbI clI : Int) (w : World) (hV : Vw w a0 (btC L)) (hB : ∀ b ∈ L, b.cells < 256 ∧ b.kind < 256 ∧ b.len < 256 ∧ b.opp < 256) (hc : L.length ≤ c0) (hm : c0 ≤ maxLen) (ha : -9223372036854775808 ≤ a ∧ a ≤ 9223372036854775807) (hb : -9223372036854775808 ≤ b ∧ b ≤ 9223372036854775807) (ht : 0 ≤ tbI ∧ tbI ≤ 255) (hcl : 0 ≤ clI ∧ clI ≤ 65535) : Calls Try.prog 4 #[.slice a0 L.length c0, .int .i64 a, .int .i64 b, .int .u8 tbI, .int .u16 clI] w fun e w' => e = .returned (.bool true) ∧ Only (fun _ => False) w w' := by
  obtain ⟨tb, rfl⟩ : ∃ n : Nat, tbI = (n : Int) := ⟨tbI.toNat, by omega⟩
  obtain ⟨cl, rfl⟩ : ∃ n : Nat, clI = (n : Int) := ⟨clI.toNat, by omega⟩
  by_cases h5 : L.length ≤ 1000
  · exact walk1 L a0 c0 a b tb cl w hV hB h5 (by omega) (by omega)
  · exact walk0 L a0 c0 a b tb cl w hV hc hm h5
end Go.Proofs.Ytdefgoiankabeaa.spanColumns
