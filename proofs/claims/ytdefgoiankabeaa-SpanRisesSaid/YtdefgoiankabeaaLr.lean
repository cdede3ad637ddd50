/-
  stanzalaw13.SpanRises: its walk.
-/
import Derived.Test.YtdefgoiankabeaaSw
import Derived.Test.YtdefgoiankabeaaCu
import Derived.Test.YtdefgoiankabeaaSm
namespace Go.Proofs.Ytdefgoiankabeaa.spanRises
open Go.RowKit Go.Maps
set_option linter.unusedVariables false
set_option linter.unusedSimpArgs false
set_option maxRecDepth 100000 in
set_option maxHeartbeats 4000000 in
theorem walk0 (L : List Bt) (a0 : Option Addr) (c0 : Nat) (a : Int) (tb : Nat) (w : World) (hV : Vw w a0 (btC L)) (hc : L.length ≤ c0) (hm : c0 ≤ maxLen) (h5 : ¬ L.length ≤ 300) : Calls Try.prog 6 #[.slice a0 L.length c0, .int .i64 a, .int .u8 (tb : Int)] w fun e w' => e = .returned (.bool true) ∧ Only (fun _ => False) w w' := by
  obtain ⟨n0, hn0⟩ : ∃ n, n = L.length := ⟨_, rfl⟩
  rw [← hn0] at hc h5 ⊢
  unfold maxLen at hm
  have s0 : (300 : Int) < (n0 : Int) := by omega
  clear hV hn0
  go_enter Try.func6, Try.ntmps6
  go_wp2_with (first | (go_at_call 9; refine (awake_any _).mono ?_; rintro e w1 ⟨rfl, ho1⟩; have HO1 : Hid (Only (fun _ => False) w w1) := ho1; clear ho1) | fail)
  go_ret
  exact ⟨rfl, HO1.out⟩
set_option maxRecDepth 100000 in
set_option maxHeartbeats 8000000 in
theorem walk1 (L : List Bt) (a0 : Option Addr) (c0 : Nat) (a : Int) (tb : Nat) (w : World) (hV : Vw w a0 (btC L)) (hB : ∀ b ∈ L, b.cells < 256 ∧ b.kind < 256 ∧ b.len < 256 ∧ b.opp < 256) (hs : L.length ≤ 300) (htb : tb ≤ 255) : Calls Try.prog 6 #[.slice a0 L.length c0, .int .i64 a, .int .u8 (tb : Int)] w fun e w' => e = .returned (.bool true) ∧ Only (fun _ => False) w w' := by
  obtain ⟨tq, htq⟩ : ∃ q, q = tb % 64 := ⟨_, rfl⟩
  have p1 : (tb : Int).tmod 64 = (tq : Int) := by rw [Int.tmod_eq_emod_of_nonneg (by omega)]; omega
  have htq2 : tq < 64 := by omega
  obtain ⟨t, ht1⟩ : ∃ t, t = 1 + tq := ⟨_, rfl⟩
  have p2 : IntKind.i64.wrap (1 + (tq : Int)) = (t : Int) := by rw [IntKind.wrap_i64]; omega
  have h0 : 0 < t := by omega
  have ht : t ≤ 1000 := by omega
  clear htq ht1
  have HPA : Hid (∀ W, Only (fun _ => False) w W → Calls Try.prog 12 #[.slice a0 L.length c0] W fun e w' => ∃ k aC aO cC cO, e = .returned (.agg #[.slice aC k cC, .slice aO (k + 1) cO]) ∧ k ≤ L.length ∧ (k = L.length ∨ 4000 ≤ It.sum (Pa.cts (L.take k) 0)) ∧ Pv w' (Pa.cts (L.take k) 0) (Pa.ops L k ++ [2]) k (k + 1) aC aO cC cO ∧ Only (fun _ => False) W w') := fun W ho => para_pv L L.length a0 c0 W rfl (hV.keep ho) hB (by omega)
  obtain ⟨n0, hn0⟩ : ∃ n, n = L.length := ⟨_, rfl⟩
  rw [← hn0] at hs HPA ⊢
  have s0 : decide ((300 : Int) < (n0 : Int)) = false := decide_eq_false (by omega)
  have HN : Hid (n0 = L.length) := hn0
  clear hV hB hn0
  go_enter Try.func6, Try.ntmps6
  go_wp2_with fail
  refine (awake_any _).mono ?_
  rintro e w1 ⟨rfl, ho1⟩
  have HO1 : Hid (Only (fun _ => False) w w1) := ho1
  clear ho1
  go_wp2_with fail
  refine Calls.mono (HPA.out _ HO1.out) ?_
  rintro e w2 ⟨k, aC, aO, cC, cO, rfl, hk, _, hPv, ho2⟩
  obtain ⟨C, hCe⟩ : ∃ C, C = Pa.cts (L.take k) 0 := ⟨_, rfl⟩
  obtain ⟨O, hOe⟩ : ∃ O, O = Pa.ops L k ++ [2] := ⟨_, rfl⟩
  rw [← hCe, ← hOe] at hPv
  obtain ⟨m, hm⟩ : ∃ m, m = k + 1 := ⟨_, rfl⟩
  rw [← hm] at hPv ⊢
  have HM : Hid (m = k + 1) := hm
  have hk1 : k ≤ 300 := by omega
  have H2 : Hid (Pv w2 C O k m aC aO cC cO ∧ Only (fun _ => False) w w2) := ⟨hPv, HO1.out.trans ho2⟩
  clear hPv ho2 hCe hOe hm hk
  go_wp2_with fail
  obtain ⟨R, w3, hw3, hR, H3, r0, r1, lR⟩ := box2 w2 (.slice aC k cC) (.slice aO m cO) 33
  rw [hw3, hR]
  clear hw3 hR
  refine Calls.mono (cut_any k m aC aO cC cO a a w3 (by omega)) ?_
  rintro e w4 ⟨x, y, rfl, hxy, hyk, ho4⟩
  have HPv : Hid (∀ W, Only (fun _ => False) w4 W → Pv W C O k m aC aO cC cO) := fun W ho => H2.out.1.keep (H3.out.2.trans (ho4.trans ho))
  have HS : Hid (∀ W', Only (fun _ => False) w4 W' → W'.cell? ⟨R, 0, none⟩ = some (.slice aC k cC) ∧ W'.cell? ⟨R, 1, none⟩ = some (.slice aO m cO) ∧ R < W'.heap.size) := fun W' ho => blk_two (blk_keep (ho4.trans ho) H3.out.1)
  have HSP : Hid (∀ W', Only (fun _ => False) w4 W' → W'.cell? ⟨R, 0, none⟩ = some (.slice aC k cC) ∧ W'.cell? ⟨R, 1, none⟩ = some (.slice aO m cO)) := fun W' ho => ⟨(HS.out W' ho).1, (HS.out W' ho).2.1⟩
  have H4 : Hid (Only (fun _ => False) w w4) := H2.out.2.trans (H3.out.2.trans ho4)
  clear ho4 H3 H2 r0 r1 lR
  have HCO : Hid (∀ i, i ≤ k → Sp.col C t x i ≤ 100200000) := fun i hi => col_small (HPv.out _ (Only.refl _ _)).ok h0 ht (by omega)
  have hxk : x ≤ k := by omega
  clear hxy hyk
  go_wp2_with fail
  go_loopg [11, 12] (k + 1 - x) (fun gh v11 v12 wr => ∃ (i z : Nat) (W : World), W = wr ∧ gh = k + 1 - i ∧ x ≤ i ∧ i ≤ k + 1 ∧ v11 = .int .i64 (z : Int) ∧ v12 = .int .i64 (i : Int) ∧ z ≤ Sp.wd C t x (i - x) ∧ Only (fun _ => False) w4 W)
  case atStart => exact ⟨x, 0, _, rfl, rfl, Nat.le_refl _, by omega, rfl, rfl, Nat.zero_le _, Only.refl _ _⟩
  case round =>
    obtain ⟨i, z, W, hW, rfl, hi, hi2, rfl, rfl, hz, hoW⟩ := hrel
    subst hW
    have HG : Hid (z ≤ Sp.wd C t x (i - x) ∧ Only (fun _ => False) w4 W) := ⟨hz, hoW⟩
    obtain ⟨r0, r1, lR⟩ := HS.out W hoW
    clear hz hoW
    by_cases hlt : i ≤ k
    · have t1 : (i : Int) ≤ (k : Int) := by omega
      have htr := Sp.tr_ge C x (i - x)
      obtain ⟨rt, hrt⟩ : ∃ r, r = Sp.tr C x (i - x) := ⟨_, rfl⟩
      obtain ⟨rc, hrc⟩ : ∃ r, r = Sp.wd C t x (i - x) := ⟨_, rfl⟩
      obtain ⟨rg, hrg⟩ : ∃ r, r = Sp.gp C x (i - x) := ⟨_, rfl⟩
      rw [← hrt] at htr
      have hrcl : rc ≤ 100200000 := by rw [hrc]; exact HCO.out _ (by have := Sp.tr_ge C x (i - x); omega)
      have HE : Hid (rt = Sp.tr C x (i - x) ∧ rc = Sp.cel C t x (i - x) 2 ∧ rg = Sp.gp C x (i - x) ∧ rc = Sp.cel C t x (rt - x) 2 ∧ rg = Sp.gp C x (rt - x)) := ⟨hrt, by rw [Sp.cel_no (by decide)]; exact hrc, hrg, by rw [Sp.cel_no (by decide), hrt, Sp.wd_tr]; exact hrc, by rw [hrt, Sp.gp_tr]; exact hrg⟩
      have hx1 : x ≤ rt := htr.1
      have hx2 : rt ≤ i := by omega
      have zc : z ≤ rc := by rw [hrc]; exact HG.out.1
      have HW : Hid (rc ≤ Sp.wd C t x (i + 1 - x)) := by rw [hrc]; exact Sp.wd_mono C h0 x (by omega)
      have u1 : decide ((rc : Int) < (z : Int)) = false := decide_eq_false (by omega)
      have u1n : decide (rc < z) = false := decide_eq_false (by omega)
      have u3n : decide (i < rt) = false := decide_eq_false (by omega)
      have u2 : ((rc : Int) != (rc : Int)) = false := by simp
      have u3 : decide ((i : Int) < (rt : Int)) = false := decide_eq_false (by omega)
      have u4 : ((rg : Int) != (rg : Int)) = false := by simp
      clear hrt hrc hrg htr zc
      have K1 : Hid (∀ W', Only (fun _ => False) w4 W' → Calls Try.prog 22 #[.agg #[.slice aC k cC, .slice aO m cO], .int .i64 (x : Int), .int .i64 (i : Int), .int .u8 2, .int .i64 (t : Int)] W' fun e w' => e = .returned (.int .i64 (rc : Int)) ∧ Only (fun _ => False) W' w') := fun W' ho => by rw [HE.out.2.1]; exact cells_any C O k m aC aO cC cO x i t 2 W' (HPv.out W' ho) (by omega) (by omega) h0 ht (by decide)
      have K2 : Hid (∀ W', Only (fun _ => False) w4 W' → Calls Try.prog 20 #[.agg #[.slice aC k cC, .slice aO m cO], .int .i64 (x : Int), .int .i64 (i : Int)] W' fun e w' => e = .returned (.int .i64 (rt : Int)) ∧ Only (fun _ => False) W' w') := fun W' ho => by rw [HE.out.1]; exact trim_any C O k m aC aO cC cO x i W' (HPv.out W' ho) (by omega) (by omega)
      have K3 : Hid (∀ W', Only (fun _ => False) w4 W' → Calls Try.prog 22 #[.agg #[.slice aC k cC, .slice aO m cO], .int .i64 (x : Int), .int .i64 (rt : Int), .int .u8 2, .int .i64 (t : Int)] W' fun e w' => e = .returned (.int .i64 (rc : Int)) ∧ Only (fun _ => False) W' w') := fun W' ho => by rw [HE.out.2.2.2.1]; exact cells_any C O k m aC aO cC cO x rt t 2 W' (HPv.out W' ho) (by omega) (by omega) h0 ht (by decide)
      have K4 : Hid (∀ W', Only (fun _ => False) w4 W' → Calls Try.prog 24 #[.agg #[.slice aC k cC, .slice aO m cO], .int .i64 (x : Int), .int .i64 (rt : Int)] W' fun e w' => e = .returned (.int .i64 (rg : Int)) ∧ Only (fun _ => False) W' w') := fun W' ho => by rw [HE.out.2.2.2.2]; exact gaps_any C O k m aC aO cC cO x rt W' (HPv.out W' ho) (by omega) (by omega)
      have K5 : Hid (∀ W', Only (fun _ => False) w4 W' → Calls Try.prog 24 #[.agg #[.slice aC k cC, .slice aO m cO], .int .i64 (x : Int), .int .i64 (i : Int)] W' fun e w' => e = .returned (.int .i64 (rg : Int)) ∧ Only (fun _ => False) W' w') := fun W' ho => by rw [HE.out.2.2.1]; exact gaps_any C O k m aC aO cC cO x i W' (HPv.out W' ho) (by omega) (by omega)
      go_wp2_with fail
      refine Calls.mono (K1.out _ HG.out.2) ?_
      rintro e w5 ⟨rfl, ho5⟩
      have H5 : Hid (Only (fun _ => False) w4 w5) := HG.out.2.trans ho5
      obtain ⟨s0, s1, lS⟩ := HS.out w5 H5.out
      clear ho5 r0 r1 lR
      go_wp2_with fail
      refine Calls.mono (K2.out _ H5.out) ?_
      rintro e w6 ⟨rfl, ho6⟩
      have H6 : Hid (Only (fun _ => False) w4 w6) := H5.out.trans ho6
      clear ho6 s0 s1 lS
      go_wp2_with fail
      go_region_held3 (fun W' => W'.cell? ⟨R, 0, none⟩ = some (.slice aC k cC) ∧ W'.cell? ⟨R, 1, none⟩ = some (.slice aO m cO)) ((first | exact HSP.out _ (H6.out.drew) | exact HSP.out _ (H7.out) | exact HSP.out _ (H8.out) | exact HSP.out _ (H9.out))) ((first | (go_at_call 22; refine Calls.mono (K3.out _ H6.out.drew) ?_; rintro e w7 ⟨rfl, ho7⟩; have H7 : Hid (Only (fun _ => False) w4 w7) := H6.out.drew.trans ho7; clear ho7) | (go_at_call 24; have hgd := H8.out; clear hgd; refine Calls.mono (K5.out _ H8.out) ?_; rintro e w9 ⟨rfl, ho9⟩; have H9 : Hid (Only (fun _ => False) w4 w9) := H8.out.trans ho9; clear ho9) | (go_at_call 24; refine Calls.mono (K4.out _ H7.out) ?_; rintro e w8 ⟨rfl, ho8⟩; have H8 : Hid (Only (fun _ => False) w4 w8) := H7.out.trans ho8; clear ho8)))
      all_goals go_wp2_with fail
      go_roundg (k + 1 - (i + 1))
      case measure => omega
      case rel => exact ⟨i + 1, rc, _, rfl, rfl, by omega, by omega, rfl, by go_num, HW.out, H9.out⟩
    · have t1 : decide ((i : Int) ≤ (k : Int)) = false := decide_eq_false (by omega)
      go_wp2_with fail
      go_ret
      exact ⟨rfl, H4.out.trans HG.out.2⟩
theorem walk (L : List Bt) (a0 : Option Addr) (c0 : Nat) (a tbI : Int) (w : World) (hV : Vw w a0 (btC L)) (hB : ∀ b ∈ L, b.cells < 256 ∧ b.kind < 256 ∧ b.len < 256 ∧ b.opp < 256) (hc : L.length ≤ c0) (hm : c0 ≤ maxLen) (ha : -9223372036854775808 ≤ a ∧ a ≤ 9223372036854775807) (ht : 0 ≤ tbI ∧ tbI ≤ 255) : Calls Try.prog 6 #[.slice a0 L.length c0, .int .i64 a, .int .u8 tbI] w fun e w' => e = .returned (.bool true) ∧ Only (fun _ => False) w w' := by
  obtain ⟨tb, rfl⟩ : ∃ n : Nat, tbI = (n : Int) := ⟨tbI.toNat, by omega⟩
  by_cases h5 : L.length ≤ 300
  · exact walk1 L a0 c0 a tb w hV hB h5 (by omega)
  · exact walk0 L a0 c0 a tb w hV hc hm h5
end Go.Proofs.Ytdefgoiankabeaa.spanRises
