/-
  stanzalaw13.SpanJoins: its walk.
-/
import Derived.Test.YtdefgoiankabeaaSw
import Derived.Test.YtdefgoiankabeaaCu
import Derived.Test.YtdefgoiankabeaaSm
namespace Go.Proofs.Ytdefgoiankabeaa.spanJoins
open Go.RowKit Go.Maps
set_option linter.unusedVariables false
set_option linter.unusedSimpArgs false
set_option maxRecDepth 100000 in
set_option maxHeartbeats 4000000 in
theorem walk0 (L : List Bt) (a0 : Option Addr) (c0 : Nat) (a b c : Int) (w : World) (hV : Vw w a0 (btC L)) (hc : L.length ≤ c0) (hm : c0 ≤ maxLen) (h5 : ¬ L.length ≤ 500) : Calls Try.prog 7 #[.slice a0 L.length c0, .int .i64 a, .int .i64 b, .int .i64 c] w fun e w' => e = .returned (.bool true) ∧ Only (fun _ => False) w w' := by
  obtain ⟨n0, hn0⟩ : ∃ n, n = L.length := ⟨_, rfl⟩
  rw [← hn0] at hc h5 ⊢
  unfold maxLen at hm
  have s0 : (500 : Int) < (n0 : Int) := by omega
  clear hV hn0
  go_enter Try.func7, Try.ntmps7
  go_wp2_with (first | (go_at_call 9; refine (awake_any _).mono ?_; rintro e w1 ⟨rfl, ho1⟩; have HO1 : Hid (Only (fun _ => False) w w1) := ho1; clear ho1) | fail)
  go_ret
  exact ⟨rfl, HO1.out⟩
theorem cts_kind : ∀ (L : List Bt) (p : Nat), (∀ b ∈ L, b.kind % 3 ≠ 2) → ∀ c ∈ Pa.cts L p, c.kind ≠ 2
  | [], p, h => fun c hc => absurd hc List.not_mem_nil
  | b :: L, p, h => fun c hc => by
    rcases List.mem_cons.1 hc with rfl | hc
    · exact h b List.mem_cons_self
    · exact cts_kind L _ (fun x hx => h x (List.mem_cons_of_mem _ hx)) c hc
theorem at_kind {C : List Ct} (h : ∀ c ∈ C, c.kind ≠ 2) (i : Nat) : (Sp.at' C i).kind ≠ 2 := by
  unfold Sp.at'
  rw [List.getD_eq_getElem?_getD]
  cases hx : C[i]? with
  | none => decide
  | some c => exact h c (List.mem_of_getElem? hx)
set_option maxRecDepth 100000 in
set_option maxHeartbeats 8000000 in
theorem walk1 (L : List Bt) (a0 : Option Addr) (c0 : Nat) (a b c : Int) (w : World) (hV : Vw w a0 (btC L)) (hB : ∀ b ∈ L, b.cells < 256 ∧ b.kind < 256 ∧ b.len < 256 ∧ b.opp < 256) (hs : L.length ≤ 500) : Calls Try.prog 7 #[.slice a0 L.length c0, .int .i64 a, .int .i64 b, .int .i64 c] w fun e w' => e = .returned (.bool true) ∧ Only (fun _ => False) w w' := by
  have HPA : Hid (∀ W, Only (fun _ => False) w W → Calls Try.prog 12 #[.slice a0 L.length c0] W fun e w' => ∃ k aC aO cC cO, e = .returned (.agg #[.slice aC k cC, .slice aO (k + 1) cO]) ∧ k ≤ L.length ∧ (k = L.length ∨ 4000 ≤ It.sum (Pa.cts (L.take k) 0)) ∧ Pv w' (Pa.cts (L.take k) 0) (Pa.ops L k ++ [2]) k (k + 1) aC aO cC cO ∧ Only (fun _ => False) W w') := fun W ho => para_pv L L.length a0 c0 W rfl (hV.keep ho) hB (by omega)
  obtain ⟨n0, hn0⟩ : ∃ n, n = L.length := ⟨_, rfl⟩
  rw [← hn0] at hs HPA ⊢
  have s0 : decide ((500 : Int) < (n0 : Int)) = false := decide_eq_false (by omega)
  have HN : Hid (n0 = L.length) := hn0
  have HVB : Hid (Vw w a0 (btC L) ∧ ∀ b ∈ L, b.cells < 256 ∧ b.kind < 256 ∧ b.len < 256 ∧ b.opp < 256) := ⟨hV, hB⟩
  clear hV hB hn0
  go_enter Try.func7, Try.ntmps7
  go_wp2_with fail
  refine (awake_any _).mono ?_
  rintro e w1 ⟨rfl, ho1⟩
  have HO1 : Hid (Only (fun _ => False) w w1) := ho1
  clear ho1
  go_wp2_with fail
  go_loopg [24] n0 (fun gh v wr => ∃ (i : Nat) (W : World), W = wr ∧ gh = n0 - i ∧ i ≤ n0 ∧ v = .int .i64 (i : Int) ∧ (∀ j b, j < i → L[j]? = some b → b.kind % 3 ≠ 2) ∧ Only (fun _ => False) w1 W)
  case atStart => exact ⟨0, _, rfl, rfl, Nat.zero_le _, rfl, fun j b hj => absurd hj (Nat.not_lt_zero _), Only.refl _ _⟩
  case round =>
    obtain ⟨i, W, hW, rfl, hi, rfl, hnk, hoW⟩ := hrel
    subst hW
    have HW1 : Hid (Only (fun _ => False) w W) := HO1.out.trans hoW
    have HG : Hid ((∀ j b, j < i → L[j]? = some b → b.kind % 3 ≠ 2) ∧ Only (fun _ => False) w1 W) := ⟨hnk, hoW⟩
    clear hnk hoW
    by_cases hlt : i < n0
    · have t1 : (i : Int) < (n0 : Int) := by omega
      obtain ⟨z, hz⟩ : ∃ z, L[i]? = some z := ⟨_, List.getElem?_eq_getElem (by rw [← HN.out]; exact hlt)⟩
      have hz8 := HVB.out.2 z (List.mem_of_getElem? hz)
      obtain ⟨g, off, rfl, hg, c0', c1, c2, c3⟩ := (HVB.out.1.keep HW1.out).bt hz
      have HZ : Hid (L[i]? = some z) := hz
      obtain ⟨zc, zk, zl, zo⟩ := z
      simp only at c0' c1 c2 c3 hz8
      clear hz
      obtain ⟨y3, hy3⟩ : ∃ y, y = zk % 3 := ⟨_, rfl⟩
      have p3 : (zk : Int).tmod 3 = (y3 : Int) := by rw [Int.tmod_eq_emod_of_nonneg (by omega)]; omega
      by_cases h2 : y3 = 2
      · have t2 : ((y3 : Int) == 2) = true := by rw [beq_iff_eq]; omega
        clear hy3 h2
        go_wp2_with fail
        go_ret
        exact ⟨rfl, HW1.out⟩
      · have t2 : ((y3 : Int) == 2) = false := by rw [beq_eq_false_iff_ne]; omega
        have HX : Hid (∀ j b, j < i + 1 → L[j]? = some b → b.kind % 3 ≠ 2) := fun j b hj hb => by
          by_cases hji : j < i
          · exact HG.out.1 j b hji hb
          · obtain rfl : j = i := by omega
            rw [HZ.out] at hb
            injection hb with hb
            subst hb
            show zk % 3 ≠ 2
            omega
        clear hy3 h2
        go_wp2_with fail
        go_roundg (n0 - (i + 1))
        case measure => omega
        case rel => exact ⟨i + 1, _, rfl, rfl, by omega, by go_num, HX.out, HG.out.2⟩
    · have t1 : decide ((i : Int) < (n0 : Int)) = false := decide_eq_false (by omega)
      have HNK : Hid (∀ b ∈ L, b.kind % 3 ≠ 2) := fun b hb => by
        obtain ⟨j, hj, e⟩ := List.getElem_of_mem hb
        exact HG.out.1 j b (by rw [← HN.out] at hj; omega) (by rw [← e]; exact List.getElem?_eq_getElem hj)
      go_wp2_with fail
      refine Calls.mono (HPA.out _ HW1.out) ?_
      rintro e w2 ⟨k, aC, aO, cC, cO, rfl, hk, _, hPv, ho2⟩
      have hkd : ∀ i, (Sp.at' (Pa.cts (L.take k) 0) i).kind ≠ 2 := at_kind (cts_kind _ _ (fun x hx => HNK.out x (List.mem_of_mem_take hx)))
      obtain ⟨C, hCe⟩ : ∃ C, C = Pa.cts (L.take k) 0 := ⟨_, rfl⟩
      obtain ⟨O, hOe⟩ : ∃ O, O = Pa.ops L k ++ [2] := ⟨_, rfl⟩
      rw [← hCe, ← hOe] at hPv
      rw [← hCe] at hkd
      have HKD : Hid (∀ i, (Sp.at' C i).kind ≠ 2) := hkd
      clear hkd
      obtain ⟨m, hm⟩ : ∃ m, m = k + 1 := ⟨_, rfl⟩
      rw [← hm] at hPv ⊢
      have HM : Hid (m = k + 1) := hm
      have hk1 : k ≤ 500 := by omega
      have H2 : Hid (Pv w2 C O k m aC aO cC cO ∧ Only (fun _ => False) w w2) := ⟨hPv, HW1.out.trans ho2⟩
      clear hPv ho2 hCe hOe hm hk
      go_wp2_with fail
      obtain ⟨R, w3, hw3, hR, H3, r0, r1, lR⟩ := box2 w2 (.slice aC k cC) (.slice aO m cO) 33
      rw [hw3, hR]
      clear hw3 hR
      refine Calls.mono (cut_any k m aC aO cC cO a b w3 (by omega)) ?_
      rintro e w4 ⟨x, y, rfl, hxy, hyk, ho4⟩
      have HPv : Hid (∀ W, Only (fun _ => False) w4 W → Pv W C O k m aC aO cC cO) := fun W ho => H2.out.1.keep (H3.out.2.trans (ho4.trans ho))
      have HS : Hid (∀ W', Only (fun _ => False) w4 W' → W'.cell? ⟨R, 0, none⟩ = some (.slice aC k cC) ∧ W'.cell? ⟨R, 1, none⟩ = some (.slice aO m cO) ∧ R < W'.heap.size) := fun W' ho => blk_two (blk_keep (ho4.trans ho) H3.out.1)
      have HSP : Hid (∀ W', Only (fun _ => False) w4 W' → W'.cell? ⟨R, 0, none⟩ = some (.slice aC k cC) ∧ W'.cell? ⟨R, 1, none⟩ = some (.slice aO m cO)) := fun W' ho => ⟨(HS.out W' ho).1, (HS.out W' ho).2.1⟩
      have H4 : Hid (Only (fun _ => False) w w4) := H2.out.2.trans (H3.out.2.trans ho4)
      clear ho4 H3 H2 r0 r1 lR
      obtain ⟨d0, hd0⟩ : ∃ d, d = y - x := ⟨_, rfl⟩
      obtain ⟨d, hd⟩ : ∃ d', d' = d0 + 1 := ⟨_, rfl⟩
      have e0 : IntKind.i64.wrap ((y : Int) - (x : Int)) = (d0 : Int) := by rw [IntKind.wrap_i64]; omega
      have e1 : IntKind.i64.wrap ((d0 : Int) + 1) = (d : Int) := by rw [IntKind.wrap_i64]; omega
      have e2 : IntKind.u64.wrap (d : Int) = (d : Int) := wrap_smallu _ (by omega) (by omega)
      have e3 : ¬ (d : Int) = 0 := by omega
      have e4 : ((d : Int) == 0) = false := by simpa using e3
      obtain ⟨uc, mo, f1, f2, f3⟩ := drawn c d (by omega)
      have f4 : IntKind.u64.wrap (mo : Int) = (mo : Int) := wrap_smallu _ (by omega) (by omega)
      have f5 : IntKind.i64.wrap (mo : Int) = (mo : Int) := wrap_small _ (by omega) (by omega)
      obtain ⟨md, hmd⟩ : ∃ q, q = x + mo := ⟨_, rfl⟩
      have f6 : IntKind.i64.wrap ((x : Int) + (mo : Int)) = (md : Int) := by rw [IntKind.wrap_i64]; omega
      obtain ⟨h1, hh1⟩ : ∃ q, q = y - md := ⟨_, rfl⟩
      obtain ⟨h2, hh2⟩ : ∃ q, q = h1 + 1 := ⟨_, rfl⟩
      have g1 : IntKind.i64.wrap ((y : Int) - (md : Int)) = (h1 : Int) := by rw [IntKind.wrap_i64]; omega
      have g2 : IntKind.i64.wrap ((h1 : Int) + 1) = (h2 : Int) := by rw [IntKind.wrap_i64]; omega
      have g3 : IntKind.i64.wrap ((md : Int) - (x : Int)) = (mo : Int) := by rw [IntKind.wrap_i64]; omega
      have HL : Hid (d0 = y - x ∧ d = d0 + 1 ∧ md = x + mo ∧ h1 = y - md ∧ h2 = h1 + 1 ∧ mo ≤ d0 ∧ md ≤ y ∧ x ≤ md) := ⟨hd0, hd, hmd, hh1, hh2, by omega, by omega, by omega⟩
      have hdl : d ≤ 501 := by omega
      have mol : mo < d := f3
      have h2l : h2 + mo = d := by omega
      have HQ1 : Hid (∀ i, i ≤ d0 → Sp.col C 8 x i ≤ 100200000) := fun i hi => col_small (HPv.out _ (Only.refl _ _)).ok (by decide) (by decide) (by omega)
      have K1 : Hid (∀ W, Only (fun _ => False) w4 W → Calls Try.prog 17 #[.agg #[.slice aC k cC, .slice aO m cO], .int .i64 (x : Int), .int .i64 (y : Int), .int .i64 8] W fun e w' => ∃ (aX : Option Addr) (cX : Nat), e = .returned (.slice aX d cX) ∧ w'.ownsRow W.heap.size 3 1 (.slice aX d cX) d (natI (Sp.cols C 8 x d0)) ∧ Only (fun _ => False) W w') := fun W ho => (columns_any C O k m aC aO cC cO x y 8 W (HPv.out W ho) hxy hyk (by decide) (by decide)).mono (fun e w' h => by
        obtain ⟨aX, cX, h1', h2', h3'⟩ := h
        rw [Sp.cols_len, ← hd0, ← hd] at h1' h2'
        exact ⟨aX, cX, h1', h2', h3'⟩)
      have K2 : Hid (∀ W, Only (fun _ => False) w4 W → Calls Try.prog 17 #[.agg #[.slice aC k cC, .slice aO m cO], .int .i64 (md : Int), .int .i64 (y : Int), .int .i64 8] W fun e w' => ∃ (aX : Option Addr) (cX : Nat), e = .returned (.slice aX h2 cX) ∧ w'.ownsRow W.heap.size 3 1 (.slice aX h2 cX) h2 (natI (Sp.cols C 8 md h1)) ∧ Only (fun _ => False) W w') := fun W ho => (columns_any C O k m aC aO cC cO md y 8 W (HPv.out W ho) HL.out.2.2.2.2.2.2.1 hyk (by decide) (by decide)).mono (fun e w' h => by
        obtain ⟨aX, cX, h1', h2', h3'⟩ := h
        rw [Sp.cols_len, ← hh1, ← hh2] at h1' h2'
        exact ⟨aX, cX, h1', h2', h3'⟩)
      have nn1 : ((d : Int) != (d : Int)) = false := by simp
      have nn2 : ((h2 : Int) != (h2 : Int)) = false := by simp
      clear hd0 hd hmd hh1 hh2 f3
      have HF : Hid (((d : Int) != (d : Int)) = false ∧ ((h2 : Int) != (h2 : Int)) = false ∧ IntKind.i64.wrap ((y : Int) - (md : Int)) = (h1 : Int) ∧ IntKind.i64.wrap ((h1 : Int) + 1) = (h2 : Int) ∧ IntKind.i64.wrap ((md : Int) - (x : Int)) = (mo : Int) ∧ h2 + mo = d ∧ IntKind.i64.wrap ((y : Int) - (x : Int)) = (d0 : Int) ∧ IntKind.i64.wrap ((d0 : Int) + 1) = (d : Int)) := ⟨nn1, nn2, g1, g2, g3, h2l, e0, e1⟩
      clear nn1 nn2 g1 g2 g3 h2l
      go_wp2_with fail
      clear e0 e1 e2 e3 e4 f1 f2 f4 f5 f6
      go_region_held3 (fun W' => W'.cell? ⟨R, 0, none⟩ = some (.slice aC k cC) ∧ W'.cell? ⟨R, 1, none⟩ = some (.slice aO m cO)) ((first | exact HSP.out _ ((Only.refl _ _).drew) | exact HSP.out _ (H5.out.2) | exact HSP.out _ (H6.out.2.2))) ((first | (go_at_call 17; have hgd := H5.out; clear hgd; refine Calls.mono (K2.out _ H5.out.2) ?_; rintro e w6 ⟨aY, cY, rfl, hY, ho6⟩; have H6 : Hid (Vw w6 aX (natI (Sp.cols C 8 x d0)) ∧ Vw w6 aY (natI (Sp.cols C 8 md h1)) ∧ Only (fun _ => False) w4 w6) := ⟨H5.out.1.keep ho6, own_vw hY, H5.out.2.trans ho6⟩; clear hY ho6) | (go_at_call 17; refine Calls.mono (K1.out _ (Only.refl _ _).drew) ?_; rintro e w5 ⟨aX, cX, rfl, hX, ho5⟩; have H5 : Hid (Vw w5 aX (natI (Sp.cols C 8 x d0)) ∧ Only (fun _ => False) w4 w5) := ⟨own_vw hX, ((Only.refl _ _).drew).trans ho5⟩; clear hX ho5)))
      obtain ⟨nn1, nn2, g1, g2, g3, h2l, e0, e1⟩ := HF.out
      go_wp2_with fail
      go_loopg [81] h2 (fun gh v wr => ∃ (i : Nat) (W : World), W = wr ∧ gh = h2 - i ∧ i ≤ h2 ∧ v = .int .i64 (i : Int) ∧ Only (fun _ => False) w6 W)
      case atStart => exact ⟨0, _, rfl, rfl, Nat.zero_le _, rfl, Only.refl _ _⟩
      case round =>
        obtain ⟨i, W, hW, rfl, hi, rfl, hoW⟩ := hrel
        subst hW
        have HG : Hid (Only (fun _ => False) w6 W) := hoW
        clear hoW
        by_cases hlt : i < h2
        · have t1 : (i : Int) < (h2 : Int) := by omega
          obtain ⟨bx, ox, hax, _, hcx⟩ := (H6.out.1.keep HG.out).cells (by rw [natI_len, Sp.cols_len]; omega)
          obtain ⟨by_, oy, hay, _, hcy⟩ := (H6.out.2.1.keep HG.out).cells (by rw [natI_len, Sp.cols_len]; omega)
          subst hax hay
          obtain ⟨mi, hmi⟩ : ∃ q, q = mo + i := ⟨_, rfl⟩
          have j0 : IntKind.i64.wrap ((mo : Int) + (i : Int)) = (mi : Int) := by rw [IntKind.wrap_i64]; omega
          have j1 : (mi : Int) < (d : Int) := by omega
          have j2 : (mo : Int) < (d : Int) := by omega
          obtain ⟨q1, hq1⟩ : ∃ q, q = Sp.col C 8 md i := ⟨_, rfl⟩
          obtain ⟨q2, hq2⟩ : ∃ q, q = Sp.col C 8 x mi := ⟨_, rfl⟩
          obtain ⟨q3, hq3⟩ : ∃ q, q = Sp.col C 8 x mo := ⟨_, rfl⟩
          have c1 : W.cell? ⟨by_, oy + i, none⟩ = some (.int .i64 (q1 : Int)) := by rw [hq1]; exact hcy i _ (natI_get (Sp.cols_at (by have := HL.out; omega)))
          have c2 : W.cell? ⟨bx, ox + mi, none⟩ = some (.int .i64 (q2 : Int)) := by rw [hq2]; exact hcx mi _ (natI_get (Sp.cols_at (by have := HL.out; omega)))
          have c3 : W.cell? ⟨bx, ox + mo, none⟩ = some (.int .i64 (q3 : Int)) := by rw [hq3]; exact hcx mo _ (natI_get (Sp.cols_at (by have := HL.out; omega)))
          have hadd : q2 = q3 + q1 := by
            rw [hq2, hq3, hq1, hmi, Sp.col_add C 8 x mo HKD.out i, ← HL.out.2.2.1]
          have hq2l : q2 ≤ 100200000 := by rw [hq2]; exact HQ1.out _ (by have := HL.out; omega)
          have j3 : IntKind.i64.wrap ((q2 : Int) - (q3 : Int)) = (q1 : Int) := by rw [IntKind.wrap_i64]; omega
          have j4 : ((q1 : Int) != (q1 : Int)) = false := by simp
          clear hcx hcy hmi hq1 hq2 hq3 hadd
          go_wp2_with fail
          go_quiet (fail)
          go_wp2_with fail
          go_roundg (h2 - (i + 1))
          case measure => omega
          case rel => exact ⟨i + 1, _, rfl, rfl, by omega, by go_num, HG.out.drewN _⟩
        · have t1 : decide ((i : Int) < (h2 : Int)) = false := decide_eq_false (by omega)
          go_wp2_with fail
          go_ret
          exact ⟨rfl, H4.out.trans (H6.out.2.2.trans HG.out)⟩

theorem walk (L : List Bt) (a0 : Option Addr) (c0 : Nat) (a b c : Int) (w : World) (hV : Vw w a0 (btC L)) (hB : ∀ b ∈ L, b.cells < 256 ∧ b.kind < 256 ∧ b.len < 256 ∧ b.opp < 256) (hc : L.length ≤ c0) (hm : c0 ≤ maxLen) (ha : -9223372036854775808 ≤ a ∧ a ≤ 9223372036854775807) (hb : -9223372036854775808 ≤ b ∧ b ≤ 9223372036854775807) (hc2 : -9223372036854775808 ≤ c ∧ c ≤ 9223372036854775807) : Calls Try.prog 7 #[.slice a0 L.length c0, .int .i64 a, .int .i64 b, .int .i64 c] w fun e w' => e = .returned (.bool true) ∧ Only (fun _ => False) w w' := by
  by_cases h5 : L.length ≤ 500
  · exact walk1 L a0 c0 a b c w hV hB h5
  · exact walk0 L a0 c0 a b c w hV hc hm h5
end Go.Proofs.Ytdefgoiankabeaa.spanJoins
