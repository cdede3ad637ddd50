/-
  stanzalaw13.SpanCells: its walk.
-/
import Derived.Test.YtdefgoiankabeaaSw
import Derived.Test.YtdefgoiankabeaaCu
import Derived.Test.YtdefgoiankabeaaSm
namespace Go.Proofs.Ytdefgoiankabeaa.spanCells
open Go.RowKit Go.Maps
set_option linter.unusedVariables false
set_option linter.unusedSimpArgs false
set_option maxRecDepth 100000 in
set_option maxHeartbeats 4000000 in
theorem walk0 (L : List Bt) (a0 : Option Addr) (c0 : Nat) (a b : Int) (tb en : Nat) (w : World) (hV : Vw w a0 (btC L)) (hc : L.length ≤ c0) (hm : c0 ≤ maxLen) (h5 : ¬ L.length ≤ 1000) : Calls Try.prog 5 #[.slice a0 L.length c0, .int .i64 a, .int .i64 b, .int .u8 (tb : Int), .int .u8 (en : Int)] w fun e w' => e = .returned (.bool true) ∧ Only (fun _ => False) w w' := by
  obtain ⟨n0, hn0⟩ : ∃ n, n = L.length := ⟨_, rfl⟩
  rw [← hn0] at hc h5 ⊢
  unfold maxLen at hm
  have s0 : (1000 : Int) < (n0 : Int) := by omega
  clear hV hn0
  go_enter Try.func5, Try.ntmps5
  go_wp2_with (first | (go_at_call 9; refine (awake_any _).mono ?_; rintro e w1 ⟨rfl, ho1⟩; have HO1 : Hid (Only (fun _ => False) w w1) := ho1; clear ho1) | fail)
  go_ret
  exact ⟨rfl, HO1.out⟩
set_option maxRecDepth 100000 in
set_option maxHeartbeats 8000000 in
theorem walk1 (L : List Bt) (a0 : Option Addr) (c0 : Nat) (a b : Int) (tb en : Nat) (w : World) (hV : Vw w a0 (btC L)) (hB : ∀ b ∈ L, b.cells < 256 ∧ b.kind < 256 ∧ b.len < 256 ∧ b.opp < 256) (hs : L.length ≤ 1000) (htb : tb ≤ 255) (hen : en < 256) : Calls Try.prog 5 #[.slice a0 L.length c0, .int .i64 a, .int .i64 b, .int .u8 (tb : Int), .int .u8 (en : Int)] w fun e w' => e = .returned (.bool true) ∧ Only (fun _ => False) w w' := by
  obtain ⟨tq, htq⟩ : ∃ q, q = tb % 64 := ⟨_, rfl⟩
  have p1 : (tb : Int).tmod 64 = (tq : Int) := by rw [Int.tmod_eq_emod_of_nonneg (by omega)]; omega
  have htq2 : tq < 64 := by omega
  obtain ⟨t, ht1⟩ : ∃ t, t = 1 + tq := ⟨_, rfl⟩
  have p2 : IntKind.i64.wrap (1 + (tq : Int)) = (t : Int) := by rw [IntKind.wrap_i64]; omega
  have h0 : 0 < t := by omega
  have ht : t ≤ 1000 := by omega
  clear htq ht1
  have HPA : Hid (∀ W, Only (fun _ => False) w W → Calls Try.prog 12 #[.slice a0 L.length c0] W fun e w' => ∃ k aC aO cC cO, e = .returned (.agg #[.slice aC k cC, .slice aO (k + 1) cO]) ∧ k ≤ L.length ∧ (k = L.length ∨ 4000 ≤ It.sum (Pa.cts (L.take k) 0)) ∧ Pv w' (Pa.cts (L.take k) 0) (Pa.ops L k ++ [2]) k (k + 1) aC aO cC cO ∧ Only (fun _ => False) W w') := fun W ho => para_pv L L.length a0 c0 W rfl (hV.keep ho) hB (by omega)
  obtain ⟨n0, hn0⟩ : ∃ n, n = L.length := ⟨_, rfl⟩
  rw [← hn0] at hs HPA ⊢
  have s0 : decide ((1000 : Int) < (n0 : Int)) = false := decide_eq_false (by omega)
  have HN : Hid (n0 = L.length) := hn0
  clear hV hB hn0
  go_enter Try.func5, Try.ntmps5
  go_wp2_with fail
  refine (awake_any _).mono ?_
  rintro e w1 ⟨rfl, ho1⟩
  have HO1 : Hid (Only (fun _ => False) w w1) := ho1
  clear ho1
  go_wp2_with fail
  refine Calls.mono (HPA.out _ HO1.out) ?_
  rintro e w2 ⟨k, aC, aO, cC, cO, rfl, hk, _, hPv, ho2⟩
  obtain ⟨C, hCe⟩ : ∃ C, C = Pa.cts (L.take k) 0 := ⟨_, rfl⟩
  obtain ⟨O, hOe⟩ : ∃ O, O = Pa.ops L k ++ [2] := ⟨_, rfl⟩
  rw [← hCe, ← hOe] at hPv
  obtain ⟨m, hm⟩ : ∃ m, m = k + 1 := ⟨_, rfl⟩
  rw [← hm] at hPv ⊢
  have HM : Hid (m = k + 1) := hm
  have hk1 : k ≤ 1000 := by omega
  have H2 : Hid (Pv w2 C O k m aC aO cC cO ∧ Only (fun _ => False) w w2) := ⟨hPv, HO1.out.trans ho2⟩
  clear hPv ho2 hCe hOe hm hk
  go_wp2_with fail
  obtain ⟨R, w3, hw3, hR, H3, r0, r1, lR⟩ := box2 w2 (.slice aC k cC) (.slice aO m cO) 33
  rw [hw3, hR]
  clear hw3 hR
  refine Calls.mono (cut_any k m aC aO cC cO a b w3 (by omega)) ?_
  rintro e w4 ⟨x, y, rfl, hxy, hyk, ho4⟩
  have HPv : Hid (∀ W, Only (fun _ => False) w4 W → Pv W C O k m aC aO cC cO) := fun W ho => H2.out.1.keep (H3.out.2.trans (ho4.trans ho))
  have HS : Hid (∀ W', Only (fun _ => False) w4 W' → W'.cell? ⟨R, 0, none⟩ = some (.slice aC k cC) ∧ W'.cell? ⟨R, 1, none⟩ = some (.slice aO m cO) ∧ R < W'.heap.size) := fun W' ho => blk_two (blk_keep (ho4.trans ho) H3.out.1)
  have H4 : Hid (Only (fun _ => False) w w4) := H2.out.2.trans (H3.out.2.trans ho4)
  clear ho4 H3 H2 r0 r1 lR
  obtain ⟨r0, r1, lR⟩ := HS.out w4 (Only.refl _ _)
  obtain ⟨eo, heo⟩ : ∃ eo, O[y]? = some eo := ⟨_, List.getElem?_eq_getElem (by rw [← (HPv.out _ (Only.refl _ _)).hm]; have := HM.out; omega)⟩
  have heo8 : eo < 256 := (HPv.out _ (Only.refl _ _)).oO eo (List.mem_of_getElem? heo)
  have hym : (y : Int) < (m : Int) := by have := HM.out; omega
  have HY : Hid (y < m ∧ O[y]? = some eo) := ⟨by omega, heo⟩
  clear heo
  go_wp2_with fail
  refine Calls.mono (ends_any C O k m aC aO cC cO y eo w4 (HPv.out _ (Only.refl _ _)) HY.out.1 HY.out.2) ?_
  rintro e w5 ⟨rfl, ho5⟩
  obtain ⟨bo, oo, hao, hbo, hco⟩ := ((HPv.out _ ho5).vO).cells (by rw [u8s_len, ← (HPv.out _ ho5).hm]; have := HY.out.1; omega)
  subst hao
  have c9 := hco y _ (u8s_at HY.out.2)
  have H5 : Hid (Only (fun _ => False) w4 w5) := ho5
  have HS5 : Hid (∀ W', Only (fun _ => False) w5 W' → (W'.cell? ⟨R, 0, none⟩ = some (.slice aC k cC) ∧ W'.cell? ⟨R, 1, none⟩ = some (.slice (some ⟨bo, oo, none⟩) m cO)) ∧ W'.cell? ⟨bo, oo + y, none⟩ = some (.int .u8 (eo : Int))) := fun W' ho => ⟨⟨(HS.out W' (ho5.trans ho)).1, (HS.out W' (ho5.trans ho)).2.1⟩, keep0 ho c9⟩
  obtain ⟨dd, hdd⟩ : ∃ d, d = decide (eo ≠ 0) := ⟨_, rfl⟩
  rw [← hdd]
  have q1 : ((eo : Int) != 0) = dd := by rw [hdd]; by_cases h : eo = 0 <;> simp [h]
  have q2 : (dd == dd) = true := by cases dd <;> rfl
  clear hdd ho5 hco c9 r0 r1 lR
  obtain ⟨rt, hrt⟩ : ∃ r, r = Sp.tr C x (y - x) := ⟨_, rfl⟩
  obtain ⟨rc, hrc⟩ : ∃ r, r = Sp.cel C t x (y - x) en := ⟨_, rfl⟩
  obtain ⟨rg, hrg⟩ : ∃ r, r = Sp.gp C x (y - x) := ⟨_, rfl⟩
  have HE : Hid (rt = Sp.tr C x (y - x) ∧ rc = Sp.cel C t x (y - x) en ∧ rg = Sp.gp C x (y - x)) := ⟨hrt, hrc, hrg⟩
  clear hrt hrc hrg
  have K0 : Hid (∀ W, Only (fun _ => False) w5 W → Calls Try.prog 20 #[.agg #[.slice aC k cC, .slice (some ⟨bo, oo, none⟩) m cO], .int .i64 (x : Int), .int .i64 (y : Int)] W fun e w' => e = .returned (.int .i64 (rt : Int)) ∧ Only (fun _ => False) W w') := fun W ho => by rw [HE.out.1]; exact trim_any C O k m aC (some ⟨bo, oo, none⟩) cC cO x y W (HPv.out W (H5.out.trans ho)) hxy hyk
  have K1 : Hid (∀ W, Only (fun _ => False) w5 W → Calls Try.prog 21 #[.agg #[.slice aC k cC, .slice (some ⟨bo, oo, none⟩) m cO], .int .i64 (x : Int), .int .i64 (y : Int)] W fun e w' => e = .returned (.int .i64 (rt : Int)) ∧ Only (fun _ => False) W w') := fun W ho => by rw [HE.out.1]; exact refTrim_any C O k m aC (some ⟨bo, oo, none⟩) cC cO x y W (HPv.out W (H5.out.trans ho)) hxy hyk
  have K2 : Hid (∀ W, Only (fun _ => False) w5 W → Calls Try.prog 22 #[.agg #[.slice aC k cC, .slice (some ⟨bo, oo, none⟩) m cO], .int .i64 (x : Int), .int .i64 (y : Int), .int .u8 (en : Int), .int .i64 (t : Int)] W fun e w' => e = .returned (.int .i64 (rc : Int)) ∧ Only (fun _ => False) W w') := fun W ho => by rw [HE.out.2.1]; exact cells_any C O k m aC (some ⟨bo, oo, none⟩) cC cO x y t en W (HPv.out W (H5.out.trans ho)) hxy hyk h0 ht hen
  have K3 : Hid (∀ W, Only (fun _ => False) w5 W → Calls Try.prog 23 #[.agg #[.slice aC k cC, .slice (some ⟨bo, oo, none⟩) m cO], .int .i64 (x : Int), .int .i64 (y : Int), .int .u8 (en : Int), .int .i64 (t : Int)] W fun e w' => e = .returned (.int .i64 (rc : Int)) ∧ Only (fun _ => False) W w') := fun W ho => by rw [HE.out.2.1]; exact refCells_any C O k m aC (some ⟨bo, oo, none⟩) cC cO x y t en W (HPv.out W (H5.out.trans ho)) hxy hyk h0 ht hen
  have K4 : Hid (∀ W, Only (fun _ => False) w5 W → Calls Try.prog 24 #[.agg #[.slice aC k cC, .slice (some ⟨bo, oo, none⟩) m cO], .int .i64 (x : Int), .int .i64 (y : Int)] W fun e w' => e = .returned (.int .i64 (rg : Int)) ∧ Only (fun _ => False) W w') := fun W ho => by rw [HE.out.2.2]; exact gaps_any C O k m aC (some ⟨bo, oo, none⟩) cC cO x y W (HPv.out W (H5.out.trans ho)) hxy hyk
  have K5 : Hid (∀ W, Only (fun _ => False) w5 W → Calls Try.prog 25 #[.agg #[.slice aC k cC, .slice (some ⟨bo, oo, none⟩) m cO], .int .i64 (x : Int), .int .i64 (y : Int)] W fun e w' => e = .returned (.int .i64 (rg : Int)) ∧ Only (fun _ => False) W w') := fun W ho => by rw [HE.out.2.2]; exact refGaps_any C O k m aC (some ⟨bo, oo, none⟩) cC cO x y W (HPv.out W (H5.out.trans ho)) hxy hyk
  have K6 : Hid (∀ W, Only (fun _ => False) w5 W → Calls Try.prog 26 #[.agg #[.slice aC k cC, .slice (some ⟨bo, oo, none⟩) m cO], .int .i64 (x : Int), .int .i64 (y : Int), .int .u8 (en : Int), .int .i64 (t : Int)] W fun e w' => e = .returned (.agg #[.int .i64 (x : Int), .int .i64 (y : Int), .int .i64 (rc : Int), .int .u8 (en : Int)]) ∧ Only (fun _ => False) W w') := fun W ho => by rw [HE.out.2.1]; exact make_any C O k m aC (some ⟨bo, oo, none⟩) cC cO x y t en W (HPv.out W (H5.out.trans ho)) hxy hyk h0 ht hen
  have K7 : Hid (∀ W, Only (fun _ => False) w5 W → Calls Try.prog 27 #[.agg #[.slice aC k cC, .slice (some ⟨bo, oo, none⟩) m cO], .int .i64 (x : Int), .int .i64 (y : Int), .int .u8 (en : Int), .int .i64 (t : Int)] W fun e w' => e = .returned (.agg #[.int .i64 (x : Int), .int .i64 (y : Int), .int .i64 (rc : Int), .int .u8 (en : Int)]) ∧ Only (fun _ => False) W w') := fun W ho => by rw [HE.out.2.1]; exact refLine_any C O k m aC (some ⟨bo, oo, none⟩) cC cO x y t en W (HPv.out W (H5.out.trans ho)) hxy hyk h0 ht hen
  go_wp2_with fail
  simp only [List.append_eq, List.cons_append, List.nil_append]
  go_region_held3 (fun W' => (W'.cell? ⟨R, 0, none⟩ = some (.slice aC k cC) ∧ W'.cell? ⟨R, 1, none⟩ = some (.slice (some ⟨bo, oo, none⟩) m cO)) ∧ W'.cell? ⟨bo, oo + y, none⟩ = some (.int .u8 (eo : Int))) ((first | exact HS5.out _ (Only.refl _ _).drew | exact HS5.out _ H10.out | exact HS5.out _ H11.out | exact HS5.out _ H12.out | exact HS5.out _ H13.out | exact HS5.out _ H14.out | exact HS5.out _ H15.out | exact HS5.out _ H16.out | exact HS5.out _ H17.out)) ((first | (go_at_call 20; refine Calls.mono (K0.out _ ((Only.refl _ _).drew)) ?_; rintro e w10 ⟨rfl, ho10⟩; have H10 : Hid (Only (fun _ => False) w5 w10) := ((Only.refl _ _).drew).trans ho10; clear ho10) | (go_at_call 21; refine Calls.mono (K1.out _ (H10.out)) ?_; rintro e w11 ⟨rfl, ho11⟩; have H11 : Hid (Only (fun _ => False) w5 w11) := H10.out.trans ho11; clear ho11) | (go_at_call 22; refine Calls.mono (K2.out _ (H11.out)) ?_; rintro e w12 ⟨rfl, ho12⟩; have H12 : Hid (Only (fun _ => False) w5 w12) := H11.out.trans ho12; clear ho12) | (go_at_call 23; refine Calls.mono (K3.out _ (H12.out)) ?_; rintro e w13 ⟨rfl, ho13⟩; have H13 : Hid (Only (fun _ => False) w5 w13) := H12.out.trans ho13; clear ho13) | (go_at_call 24; refine Calls.mono (K4.out _ (H13.out)) ?_; rintro e w14 ⟨rfl, ho14⟩; have H14 : Hid (Only (fun _ => False) w5 w14) := H13.out.trans ho14; clear ho14) | (go_at_call 25; refine Calls.mono (K5.out _ (H14.out)) ?_; rintro e w15 ⟨rfl, ho15⟩; have H15 : Hid (Only (fun _ => False) w5 w15) := H14.out.trans ho15; clear ho15) | (go_at_call 26; refine Calls.mono (K6.out _ (H15.out)) ?_; rintro e w16 ⟨rfl, ho16⟩; have H16 : Hid (Only (fun _ => False) w5 w16) := H15.out.trans ho16; clear ho16) | (go_at_call 27; refine Calls.mono (K7.out _ (H16.out)) ?_; rintro e w17 ⟨rfl, ho17⟩; have H17 : Hid (Only (fun _ => False) w5 w17) := H16.out.trans ho17; clear ho17)))
  all_goals go_wp2_with fail
  all_goals go_ret
  all_goals exact ⟨rfl, H4.out.trans (H5.out.trans H17.out)⟩
theorem walk (L : List Bt) (a0 : Option Addr) (c0 : Nat) (a b tbI enI : Int) (w : World) (hV : Vw w a0 (btC L)) (hB : ∀ b ∈ L, b.cells < 256 ∧ b.kind < 256 ∧ b.len < 256 ∧ b.opp < 256) (hc : L.length ≤ c0) (hm : c0 ≤ maxLen) (ha : -9223372036854775808 ≤ a ∧ a ≤ 9223372036854775807) (hb : -9223372036854775808 ≤ b ∧ b ≤ 9223372036854775807) (ht : 0 ≤ tbI ∧ tbI ≤ 255) (hcl : 0 ≤ enI ∧ enI ≤ 255) : Calls Try.prog 5 #[.slice a0 L.length c0, .int .i64 a, .int .i64 b, .int .u8 tbI, .int .u8 enI] w fun e w' => e = .returned (.bool true) ∧ Only (fun _ => False) w w' := by
  obtain ⟨tb, rfl⟩ : ∃ n : Nat, tbI = (n : Int) := ⟨tbI.toNat, by omega⟩
  obtain ⟨en, rfl⟩ : ∃ n : Nat, enI = (n : Int) := ⟨enI.toNat, by omega⟩
  by_cases h5 : L.length ≤ 1000
  · exact walk1 L a0 c0 a b tb en w hV hB h5 (by omega) (by omega)
  · exact walk0 L a0 c0 a b tb en w hV hc hm h5
end Go.Proofs.Ytdefgoiankabeaa.spanCells
