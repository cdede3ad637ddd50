/-
  stanzalaw15.BestLeast: its walk.
-/
import Derived.Test.YthckdomljfdmpaaAx
import Derived.Test.YthckdomljfdmpaaPc
import Derived.Test.YthckdomljfdmpaaBp
import Derived.Test.YthckdomljfdmpaaAp
import Derived.Test.YthckdomljfdmpaaLz2
import Derived.Test.YthckdomljfdmpaaAn
namespace Go.Proofs.Ythckdomljfdmpaa.bestLeast
open Go.RowKit Go.Maps
set_option linter.unusedVariables false
set_option linter.unusedSimpArgs false
theorem mkL_to {C : List Ct} {O : List Nat} {t : Nat} : ∀ {a : Nat} {E : List Nat} {i x : Nat}, E[i]? = some x → ∃ l : Ln, (mkL C O t a E)[i]? = some l ∧ l.b = x
  | a, [], i, x, h => by simp at h
  | a, y :: E, 0, x, h => by
    simp at h
    subst h
    exact ⟨_, rfl, rfl⟩
  | a, y :: E, i + 1, x, h => by
    obtain ⟨l, h1, h2⟩ := mkL_to (a := y) (show E[i]? = some x by simpa using h)
    exact ⟨l, h1, h2⟩
set_option maxRecDepth 100000 in
set_option maxHeartbeats 8000000 in
theorem walk1 (L : List Bt) (a0 : Option Addr) (c0 : Nat) (K : Wy) (w : World) (hV : Vw w a0 (btC L)) (hB : ∀ b ∈ L, b.cells < 256 ∧ b.kind < 256 ∧ b.len < 256 ∧ b.opp < 256) (hcap : L.length ≤ c0) (hcm : c0 ≤ maxLen) (hK : K.Ok) :
    Calls Try.prog 5 #[.slice a0 L.length c0, K.val] w fun e w' => e = .returned (.bool true) ∧ Only (fun _ => False) w w' := by
  obtain ⟨wi, tb, mo, hy, pr, lo⟩ := K
  obtain ⟨W1, hW1⟩ : ∃ x, x = 1 + wi := ⟨_, rfl⟩
  obtain ⟨T1, hT1⟩ : ∃ x, x = 1 + tb % 64 := ⟨_, rfl⟩
  obtain ⟨M1, hM1⟩ : ∃ x, x = mo % 2 := ⟨_, rfl⟩
  have HCF : Hid (∀ W, Calls Try.prog 12 #[.agg #[.int .u8 (wi : Int), .int .u8 (tb : Int), .int .u8 (mo : Int), .int .u16 (hy : Int), .int .u16 (pr : Int), .float .f64 lo]] W fun e w' => e = .returned (.agg #[.int .i64 (W1 : Int), .int .i64 (T1 : Int), .int .u8 (M1 : Int), .int .i64 (hy : Int), .int .i64 (pr : Int), .float .f64 lo]) ∧ Only (fun _ => False) W w') := fun W => by
    rw [hW1, hT1, hM1]
    exact config_any ⟨wi, tb, mo, hy, pr, lo⟩ W hK
  obtain ⟨b0, b1, b2, b3, b4, b5⟩ := hK
  simp only at b0 b1 b2 b3 b4 b5
  have hw1 : W1 ≤ 256 := by omega
  have hw0 : 1 ≤ W1 := by omega
  have ht0 : 0 < T1 := by omega
  have ht1 : T1 ≤ 64 := by omega
  have hm1 : M1 ≤ 1 := by omega
  obtain ⟨n0, hn0⟩ : ∃ n, n = L.length := ⟨_, rfl⟩
  have HN : Hid (n0 = L.length) := hn0
  obtain ⟨nm, hnm⟩ : ∃ x, x = min n0 10 := ⟨_, rfl⟩
  have mn : min (n0 : Int) 10 = (nm : Int) := by omega
  have hnm1 : nm ≤ n0 := by omega
  have hnm2 : nm ≤ 10 := by omega
  obtain ⟨M, hM⟩ : ∃ x, x = L.take nm := ⟨_, rfl⟩
  have hMl : nm = M.length := by rw [hM, List.length_take, ← hn0]; omega
  have HMB : Hid (∀ b ∈ M, b.cells < 256 ∧ b.kind < 256 ∧ b.len < 256 ∧ b.opp < 256) := fun b hb => hB b (by rw [hM] at hb; exact List.mem_of_mem_take hb)
  have HVM : Hid (Vw w a0 (btC M)) := by rw [hM]; exact hV.btTake nm
  have HML : Hid (nm = M.length) := hMl
  unfold Wy.val
  simp only
  rw [← hn0] at hcap ⊢
  clear hn0 hW1 hT1 hM1 hV hB hnm hM hMl
  unfold maxLen at hcm
  go_enter Try.func5, Try.ntmps5
  go_wp2_with fail
  obtain ⟨R, w0, hw0', hR, H0, lR⟩ := box6 w (.int .u8 (wi : Int)) (.int .u8 (tb : Int)) (.int .u8 (mo : Int)) (.int .u16 (hy : Int)) (.int .u16 (pr : Int)) (.float .f64 lo) 26
  rw [hw0', hR]
  clear hw0' hR
  refine Calls.mono (awake15_any _) ?_
  rintro e w2 ⟨rfl, ho2⟩
  have HW2 : Hid (Only (fun _ => False) w w2) := H0.out.2.1.trans ho2
  have HKS : Hid (∀ W', Only (fun _ => False) w2 W' → (W'.cell? ⟨R, 0, none⟩ = some (.int .u8 (wi : Int)) ∧ W'.cell? ⟨R, 1, none⟩ = some (.int .u8 (tb : Int)) ∧ W'.cell? ⟨R, 2, none⟩ = some (.int .u8 (mo : Int)) ∧ W'.cell? ⟨R, 3, none⟩ = some (.int .u16 (hy : Int)) ∧ W'.cell? ⟨R, 4, none⟩ = some (.int .u16 (pr : Int)) ∧ W'.cell? ⟨R, 5, none⟩ = some (.float .f64 lo))) := fun W' ho => blk_six (blk_keep (ho2.trans ho) H0.out.1)
  clear ho2 lR
  have HVA : Hid (∀ W', Only (fun _ => False) w W' → Vw W' a0 (btC M)) := fun W' ho => HVM.out.keep ho
  go_upto_region 3 with fail
  go_cut [0] from 25 to 29 (fun v0 wr => ∃ (Y : World), Y = wr ∧ v0 = .slice a0 nm c0 ∧ Only (fun _ => False) w2 Y)
  case first =>
    by_cases hn2 : n0 ≤ 10
    · have t1 : (n0 : Int) ≤ 10 := by omega
      have f1 : n0 ≤ c0 := hcap
      have f1' : ¬ c0 < n0 := by omega
      have hnn : n0 = nm := by omega
      subst hnn
      clear mn
      rcases a0 with _ | ad
      all_goals
        go_wp2_with fail
        go_meet
        exact ⟨_, rfl, rfl, Only.refl _ _⟩
    · have t1 : ¬ (n0 : Int) ≤ 10 := by omega
      have t2 : 10 < n0 := by omega
      have f1 : 10 ≤ c0 := by omega
      have f1' : ¬ c0 < 10 := by omega
      have hnn : 10 = nm := by omega
      subst hnn
      clear mn
      rcases a0 with _ | ad
      all_goals
        go_wp2_with fail
        go_meet
        exact ⟨_, rfl, rfl, Only.refl _ _⟩
  case rest =>
    obtain ⟨Y, hY, rfl, hoY⟩ := hcut
    subst hY
    have HY : Hid (Only (fun _ => False) w2 Y) := hoY
    clear hoY mn
    go_wp2_with fail
    go_loopg [32] nm (fun gh v wr => ∃ (i : Nat) (Z : World), Z = wr ∧ gh = nm - i ∧ i ≤ nm ∧ v = .int .i64 (i : Int) ∧ Only (fun _ => False) w2 Z)
    case atStart => exact ⟨0, _, rfl, rfl, Nat.zero_le _, rfl, HY.out⟩
    case round =>
      obtain ⟨i, w3, hZ, rfl, hi, rfl, hoZ⟩ := hrel
      subst hZ
      have HZ : Hid (Only (fun _ => False) w2 w3 ∧ Only (fun _ => False) w w3) := ⟨hoZ, HW2.out.trans hoZ⟩
      clear hoZ
      by_cases hlt : i < nm
      · have t1 : (i : Int) < (nm : Int) := by omega
        obtain ⟨x, hx⟩ : ∃ x, M[i]? = some x := ⟨_, List.getElem?_eq_getElem (by rw [← HML.out]; exact hlt)⟩
        have hx8 := HMB.out x (List.mem_of_getElem? hx)
        obtain ⟨gb, off, rfl, gl, -, -, -, c3⟩ := (HVA.out w3 HZ.out.2).bt hx
        obtain ⟨xc, xk, xl, xo⟩ := x
        simp only at c3 hx8
        obtain ⟨y, hy1⟩ : ∃ y, y = xo % 4 := ⟨_, rfl⟩
        have q1 : (xo : Int).tmod 4 = (y : Int) := by rw [Int.tmod_eq_emod_of_nonneg (by omega)]; omega
        have hy4 : y < 4 := by omega
        clear hy1 hx
        by_cases hy2 : y = 2
        · have t2 : ((y : Int) == 2) = true := by rw [beq_iff_eq]; omega
          clear hy2
          go_wp2_with fail
          go_ret
          exact ⟨rfl, HZ.out.2⟩
        · have t2 : ((y : Int) == 2) = false := by rw [beq_eq_false_iff_ne]; omega
          clear hy2
          go_wp2_with fail
          go_roundg (nm - (i + 1))
          case measure => omega
          case rel => exact ⟨i + 1, _, rfl, rfl, by omega, by go_num, HZ.out.1⟩
      · have t1 : decide ((i : Int) < (nm : Int)) = false := decide_eq_false (by omega)
        have HW3 : Hid (Only (fun _ => False) w w3) := HZ.out.2
        have HPA : Hid (∀ W, Only (fun _ => False) w W → Calls Try.prog 11 #[.slice a0 nm c0] W fun e w' => ∃ k aC aO cC cO, e = .returned (.agg #[.slice aC k cC, .slice aO (k + 1) cO]) ∧ Made w' M nm k aC aO cC cO ∧ Only (fun _ => False) W w') := fun W ho => para_made M nm a0 c0 W HML.out (HVA.out W ho) HMB.out (by omega)
        replace HKS : Hid (∀ W', Only (fun _ => False) w3 W' → (W'.cell? ⟨R, 0, none⟩ = some (.int .u8 (wi : Int)) ∧ W'.cell? ⟨R, 1, none⟩ = some (.int .u8 (tb : Int)) ∧ W'.cell? ⟨R, 2, none⟩ = some (.int .u8 (mo : Int)) ∧ W'.cell? ⟨R, 3, none⟩ = some (.int .u16 (hy : Int)) ∧ W'.cell? ⟨R, 4, none⟩ = some (.int .u16 (pr : Int)) ∧ W'.cell? ⟨R, 5, none⟩ = some (.float .f64 lo))) := fun W' ho => HKS.out W' (HZ.out.1.trans ho)
        go_wp2_with fail
        go_cut [6, 7] from 43 to 46 (fun v5 v6 wr => ∃ (k B5 B6 : Nat) (aC aO : Option Addr) (cC cO : Nat) (X : World), X = wr ∧ v5 = .pointer (some ⟨B5, 0, none⟩) ∧ v6 = .pointer (some ⟨B6, 0, none⟩) ∧ Made X M nm k aC aO cC cO ∧ Blk w3 X B5 31 #[.slice aC k cC, .slice aO (k + 1) cO] ∧ Blk w3 X B6 35 #[.int .i64 (W1 : Int), .int .i64 (T1 : Int), .int .u8 (M1 : Int), .int .i64 (hy : Int), .int .i64 (pr : Int), .float .f64 lo] ∧ Only (fun _ => False) w3 X)
        case first =>
          have HXD : Hid (Only (fun _ => False) w3 w3.drew) := (Only.refl _ _).drew
          refine wp_region_held_drew (S := (fun W' => W'.cell? ⟨R, 0, none⟩ = some (.int .u8 (wi : Int)) ∧ W'.cell? ⟨R, 1, none⟩ = some (.int .u8 (tb : Int)) ∧ W'.cell? ⟨R, 2, none⟩ = some (.int .u8 (mo : Int)) ∧ W'.cell? ⟨R, 3, none⟩ = some (.int .u16 (hy : Int)) ∧ W'.cell? ⟨R, 4, none⟩ = some (.int .u16 (pr : Int)) ∧ W'.cell? ⟨R, 5, none⟩ = some (.float .f64 lo))) (by kernel_rfl) (HKS.out _ HXD.out) (fun hHeld => ?_)
          refine wpAnyH_take (i := 0) (oi := { dst := some 43, op := _, type := _, pos := _, after := _, guard := _ }) (v := .slice a0 nm c0) rfl (by kernel_rfl) (by kernel_rfl) (by kernel_rfl) (fun _ _ _ h => h) (Or.inl ⟨by rfl, fun w hSw => by obtain ⟨y0, y1, y2, y3, y4, y5⟩ := hSw; first | (go_simp; done) | go_simp⟩) (by assumption) ?_
          (try simp only [Act.put, List.setIfInBounds_toArray, List.set_cons_zero, List.set_cons_succ])
          refine wpAnyH_take (i := 2) (oi := { dst := some 45, op := _, type := _, pos := _, after := _, guard := _ }) (v := .agg #[.int .u8 (wi : Int), .int .u8 (tb : Int), .int .u8 (mo : Int), .int .u16 (hy : Int), .int .u16 (pr : Int), .float .f64 lo]) rfl (by kernel_rfl) (by kernel_rfl) (by kernel_rfl) (fun _ _ _ h => h) (Or.inl ⟨by rfl, fun w hSw => by obtain ⟨y0, y1, y2, y3, y4, y5⟩ := hSw; first | (go_simp; done) | go_simp⟩) (by assumption) ?_
          (try simp only [Act.put, List.setIfInBounds_toArray, List.set_cons_zero, List.set_cons_succ])
          refine wpAnyH_ready (rs := [1, 4, 5]) (by kernel_rfl) (by simp) ?_
          refine AllReadyH.cons rfl (fun K hK => ?_) (AllReadyH.cons rfl (fun K hK => ?_) (AllReadyH.cons rfl (fun K hK => ?_) AllReadyH.nil))
          · rw [if_pos (by rfl)]
            go_simp
            refine Calls.mono (HPA.out _ (HW3.out.trans HXD.out)) ?_
            rintro e y1 ⟨k, aC, aO, cC, cO, rfl, hmd, ho⟩
            have HMy1 : Hid (Made y1 M nm k aC aO cC cO) := hmd
            clear hmd
            have HXy1 : Hid (Only (fun _ => False) w3 y1) := HXD.out.trans ho
            clear ho
            refine hK.out _ _ (HKS.out _ HXy1.out) (fun hHeld => ?_)
            clear hK
            (try simp only [Act.put, List.setIfInBounds_toArray, List.set_cons_zero, List.set_cons_succ])
            refine wpAnyH_ready (rs := [3, 4, 5]) (by kernel_rfl) (by simp) ?_
            refine AllReadyH.cons rfl (fun K hK => ?_) (AllReadyH.cons rfl (fun K hK => ?_) (AllReadyH.cons rfl (fun K hK => ?_) AllReadyH.nil))
            · rw [if_pos (by rfl)]
              go_simp
              refine Calls.mono (HCF.out _) ?_
              rintro e y2 ⟨rfl, ho⟩
              have HMy2 : Hid (Made y2 M nm k aC aO cC cO) := HMy1.out.keep ho
              have HXy2 : Hid (Only (fun _ => False) w3 y2) := HXy1.out.trans ho
              clear ho
              refine hK.out _ _ (HKS.out _ HXy2.out) (fun hHeld => ?_)
              clear hK
              (try simp only [Act.put, List.setIfInBounds_toArray, List.set_cons_zero, List.set_cons_succ])
              refine wpAnyH_ready (rs := [4, 5]) (by kernel_rfl) (by simp) ?_
              refine AllReadyH.cons rfl (fun K hK => ?_) (AllReadyH.cons rfl (fun K hK => ?_) AllReadyH.nil)
              · rw [if_pos (by rfl)]
                go_simp
                obtain ⟨y3, hy3⟩ : ∃ Y, Y = y2.alloc (.cells #[.slice none 0 0, .slice none 0 0] 31) := ⟨_, rfl⟩
                obtain ⟨B5, hB5⟩ : ∃ b, b = y2.heap.size := ⟨_, rfl⟩
                have ho : Only (fun _ => False) y2 y3 := by rw [hy3]; exact (Only.refl _ _).alloc _
                have HXy3 : Hid (Only (fun _ => False) w3 y3) := HXy2.out.trans ho
                have HB5y3 : Hid (Blk w3 y3 B5 31 #[.slice none 0 0, .slice none 0 0]) := by rw [hy3, hB5]; exact Blk.made HXy2.out _ _
                have HMy3 : Hid (Made y3 M nm k aC aO cC cO) := HMy2.out.keep ho
                rw [← hy3, ← hB5]
                clear hy3 hB5 ho
                refine hK.out _ _ (HKS.out _ HXy3.out) (fun hHeld => ?_)
                clear hK
                (try simp only [Act.put, List.setIfInBounds_toArray, List.set_cons_zero, List.set_cons_succ])
                refine wpAnyH_ready (rs := [5]) (by kernel_rfl) (by simp) ?_
                refine AllReadyH.cons rfl (fun K hK => ?_) AllReadyH.nil
                rw [if_pos (by rfl)]
                go_simp
                obtain ⟨y4, hy4⟩ : ∃ Y, Y = y3.alloc (.cells #[.int .i64 0, .int .i64 0, .int .u8 0, .int .i64 0, .int .i64 0, .float .f64 0] 35) := ⟨_, rfl⟩
                obtain ⟨B6, hB6⟩ : ∃ b, b = y3.heap.size := ⟨_, rfl⟩
                have ho : Only (fun _ => False) y3 y4 := by rw [hy4]; exact (Only.refl _ _).alloc _
                have HXy4 : Hid (Only (fun _ => False) w3 y4) := HXy3.out.trans ho
                have HB6y4 : Hid (Blk w3 y4 B6 35 #[.int .i64 0, .int .i64 0, .int .u8 0, .int .i64 0, .int .i64 0, .float .f64 0]) := by rw [hy4, hB6]; exact Blk.made HXy3.out _ _
                have HB5y4 : Hid (Blk w3 y4 B5 31 #[.slice none 0 0, .slice none 0 0]) := HB5y3.out.keep ho
                have HMy4 : Hid (Made y4 M nm k aC aO cC cO) := HMy3.out.keep ho
                rw [← hy4, ← hB6]
                clear hy4 hB6 ho
                refine hK.out _ _ (HKS.out _ HXy4.out) (fun hHeld => ?_)
                clear hK
                (try simp only [Act.put, List.setIfInBounds_toArray, List.set_cons_zero, List.set_cons_succ])
                refine wpAnyH_ready (rs := [6]) (by kernel_rfl) (by simp) ?_
                refine AllReadyH.cons rfl (fun K hK => ?_) AllReadyH.nil
                rw [if_pos (by rfl)]
                have HXa : Hid (Only (fun _ => False) w3 (y4.setRow B5 #[.slice aC k cC, .slice aO (k + 1) cO])) := HXy4.out.setRowNew HB5y4.out.2 _
                refine wp_store_row 31 _ _ rfl B5 #[.slice aC k cC, .slice aO (k + 1) cO] rfl rfl 31 _ HB5y4.out.1 (by kernel_rfl) rfl (two_one _ _ _ _ _ _) ?_
                have HMa : Hid (Made (y4.setRow B5 #[.slice aC k cC, .slice aO (k + 1) cO]) M nm k aC aO cC cO ∧ Blk w3 (y4.setRow B5 #[.slice aC k cC, .slice aO (k + 1) cO]) B5 31 #[.slice aC k cC, .slice aO (k + 1) cO] ∧ Blk w3 (y4.setRow B5 #[.slice aC k cC, .slice aO (k + 1) cO]) B6 35 #[.int .i64 0, .int .i64 0, .int .u8 0, .int .i64 0, .int .i64 0, .float .f64 0]) := ⟨HMy4.out.store HB5y4.out.1 (by decide) (by decide) _, HB5y4.out.put _, HB6y4.out.far HB5y4.out (by decide) _⟩
                obtain ⟨za, hza⟩ : ∃ Y, Y = y4.setRow B5 #[.slice aC k cC, .slice aO (k + 1) cO] := ⟨_, rfl⟩
                rw [← hza] at HXa HMa ⊢
                clear hza
                refine hK.out _ _ (HKS.out _ HXa.out) (fun hHeld => ?_)
                clear hK
                (try simp only [Act.put, List.setIfInBounds_toArray, List.set_cons_zero, List.set_cons_succ])
                refine wpAnyH_ready (rs := [7]) (by kernel_rfl) (by simp) ?_
                refine AllReadyH.cons rfl (fun K hK => ?_) AllReadyH.nil
                rw [if_pos (by rfl)]
                have HXb : Hid (Only (fun _ => False) w3 (za.setRow B6 #[.int .i64 (W1 : Int), .int .i64 (T1 : Int), .int .u8 (M1 : Int), .int .i64 (hy : Int), .int .i64 (pr : Int), .float .f64 lo])) := HXa.out.setRowNew HMa.out.2.2.2 _
                refine wp_store_row 35 _ _ rfl B6 #[.int .i64 (W1 : Int), .int .i64 (T1 : Int), .int .u8 (M1 : Int), .int .i64 (hy : Int), .int .i64 (pr : Int), .float .f64 lo] rfl rfl 35 _ HMa.out.2.2.1 (by kernel_rfl) rfl (cfg_one _ _ _ _ _ _) ?_
                have HMb : Hid (Made (za.setRow B6 #[.int .i64 (W1 : Int), .int .i64 (T1 : Int), .int .u8 (M1 : Int), .int .i64 (hy : Int), .int .i64 (pr : Int), .float .f64 lo]) M nm k aC aO cC cO ∧ Blk w3 (za.setRow B6 #[.int .i64 (W1 : Int), .int .i64 (T1 : Int), .int .u8 (M1 : Int), .int .i64 (hy : Int), .int .i64 (pr : Int), .float .f64 lo]) B5 31 #[.slice aC k cC, .slice aO (k + 1) cO] ∧ Blk w3 (za.setRow B6 #[.int .i64 (W1 : Int), .int .i64 (T1 : Int), .int .u8 (M1 : Int), .int .i64 (hy : Int), .int .i64 (pr : Int), .float .f64 lo]) B6 35 #[.int .i64 (W1 : Int), .int .i64 (T1 : Int), .int .u8 (M1 : Int), .int .i64 (hy : Int), .int .i64 (pr : Int), .float .f64 lo]) := ⟨HMa.out.1.store HMa.out.2.2.1 (by decide) (by decide) _, HMa.out.2.1.far HMa.out.2.2 (by decide) _, HMa.out.2.2.put _⟩
                obtain ⟨zb, hzb⟩ : ∃ Y, Y = za.setRow B6 #[.int .i64 (W1 : Int), .int .i64 (T1 : Int), .int .u8 (M1 : Int), .int .i64 (hy : Int), .int .i64 (pr : Int), .float .f64 lo] := ⟨_, rfl⟩
                rw [← hzb] at HXb HMb ⊢
                clear hzb
                refine hK.out _ _ (HKS.out _ HXb.out) (fun hHeld => ?_)
                clear hK
                (try simp only [Act.put, List.setIfInBounds_toArray, List.set_cons_zero, List.set_cons_succ])
                refine wpAnyH_done (by kernel_rfl) ?_ _
                clear hHeld
                go_wp2_with fail
                go_meet
                exact ⟨k, B5, B6, aC, aO, cC, cO, _, rfl, rfl, rfl, HMb.out.1, HMb.out.2.1, HMb.out.2.2, HXb.out⟩
              · rw [if_pos (by rfl)]
                go_simp
                obtain ⟨y3, hy3⟩ : ∃ Y, Y = y2.alloc (.cells #[.int .i64 0, .int .i64 0, .int .u8 0, .int .i64 0, .int .i64 0, .float .f64 0] 35) := ⟨_, rfl⟩
                obtain ⟨B6, hB6⟩ : ∃ b, b = y2.heap.size := ⟨_, rfl⟩
                have ho : Only (fun _ => False) y2 y3 := by rw [hy3]; exact (Only.refl _ _).alloc _
                have HXy3 : Hid (Only (fun _ => False) w3 y3) := HXy2.out.trans ho
                have HB6y3 : Hid (Blk w3 y3 B6 35 #[.int .i64 0, .int .i64 0, .int .u8 0, .int .i64 0, .int .i64 0, .float .f64 0]) := by rw [hy3, hB6]; exact Blk.made HXy2.out _ _
                have HMy3 : Hid (Made y3 M nm k aC aO cC cO) := HMy2.out.keep ho
                rw [← hy3, ← hB6]
                clear hy3 hB6 ho
                refine hK.out _ _ (HKS.out _ HXy3.out) (fun hHeld => ?_)
                clear hK
                (try simp only [Act.put, List.setIfInBounds_toArray, List.set_cons_zero, List.set_cons_succ])
                refine wpAnyH_ready (rs := [4]) (by kernel_rfl) (by simp) ?_
                refine AllReadyH.cons rfl (fun K hK => ?_) AllReadyH.nil
                rw [if_pos (by rfl)]
                go_simp
                obtain ⟨y4, hy4⟩ : ∃ Y, Y = y3.alloc (.cells #[.slice none 0 0, .slice none 0 0] 31) := ⟨_, rfl⟩
                obtain ⟨B5, hB5⟩ : ∃ b, b = y3.heap.size := ⟨_, rfl⟩
                have ho : Only (fun _ => False) y3 y4 := by rw [hy4]; exact (Only.refl _ _).alloc _
                have HXy4 : Hid (Only (fun _ => False) w3 y4) := HXy3.out.trans ho
                have HB5y4 : Hid (Blk w3 y4 B5 31 #[.slice none 0 0, .slice none 0 0]) := by rw [hy4, hB5]; exact Blk.made HXy3.out _ _
                have HB6y4 : Hid (Blk w3 y4 B6 35 #[.int .i64 0, .int .i64 0, .int .u8 0, .int .i64 0, .int .i64 0, .float .f64 0]) := HB6y3.out.keep ho
                have HMy4 : Hid (Made y4 M nm k aC aO cC cO) := HMy3.out.keep ho
                rw [← hy4, ← hB5]
                clear hy4 hB5 ho
                refine hK.out _ _ (HKS.out _ HXy4.out) (fun hHeld => ?_)
                clear hK
                (try simp only [Act.put, List.setIfInBounds_toArray, List.set_cons_zero, List.set_cons_succ])
                refine wpAnyH_ready (rs := [6]) (by kernel_rfl) (by simp) ?_
                refine AllReadyH.cons rfl (fun K hK => ?_) AllReadyH.nil
                rw [if_pos (by rfl)]
                have HXa : Hid (Only (fun _ => False) w3 (y4.setRow B5 #[.slice aC k cC, .slice aO (k + 1) cO])) := HXy4.out.setRowNew HB5y4.out.2 _
                refine wp_store_row 31 _ _ rfl B5 #[.slice aC k cC, .slice aO (k + 1) cO] rfl rfl 31 _ HB5y4.out.1 (by kernel_rfl) rfl (two_one _ _ _ _ _ _) ?_
                have HMa : Hid (Made (y4.setRow B5 #[.slice aC k cC, .slice aO (k + 1) cO]) M nm k aC aO cC cO ∧ Blk w3 (y4.setRow B5 #[.slice aC k cC, .slice aO (k + 1) cO]) B5 31 #[.slice aC k cC, .slice aO (k + 1) cO] ∧ Blk w3 (y4.setRow B5 #[.slice aC k cC, .slice aO (k + 1) cO]) B6 35 #[.int .i64 0, .int .i64 0, .int .u8 0, .int .i64 0, .int .i64 0, .float .f64 0]) := ⟨HMy4.out.store HB5y4.out.1 (by decide) (by decide) _, HB5y4.out.put _, HB6y4.out.far HB5y4.out (by decide) _⟩
                obtain ⟨za, hza⟩ : ∃ Y, Y = y4.setRow B5 #[.slice aC k cC, .slice aO (k + 1) cO] := ⟨_, rfl⟩
                rw [← hza] at HXa HMa ⊢
                clear hza
                refine hK.out _ _ (HKS.out _ HXa.out) (fun hHeld => ?_)
                clear hK
                (try simp only [Act.put, List.setIfInBounds_toArray, List.set_cons_zero, List.set_cons_succ])
                refine wpAnyH_ready (rs := [7]) (by kernel_rfl) (by simp) ?_
                refine AllReadyH.cons rfl (fun K hK => ?_) AllReadyH.nil
                rw [if_pos (by rfl)]
                have HXb : Hid (Only (fun _ => False) w3 (za.setRow B6 #[.int .i64 (W1 : Int), .int .i64 (T1 : Int), .int .u8 (M1 : Int), .int .i64 (hy : Int), .int .i64 (pr : Int), .float .f64 lo])) := HXa.out.setRowNew HMa.out.2.2.2 _
                refine wp_store_row 35 _ _ rfl B6 #[.int .i64 (W1 : Int), .int .i64 (T1 : Int), .int .u8 (M1 : Int), .int .i64 (hy : Int), .int .i64 (pr : Int), .float .f64 lo] rfl rfl 35 _ HMa.out.2.2.1 (by kernel_rfl) rfl (cfg_one _ _ _ _ _ _) ?_
                have HMb : Hid (Made (za.setRow B6 #[.int .i64 (W1 : Int), .int .i64 (T1 : Int), .int .u8 (M1 : Int), .int .i64 (hy : Int), .int .i64 (pr : Int), .float .f64 lo]) M nm k aC aO cC cO ∧ Blk w3 (za.setRow B6 #[.int .i64 (W1 : Int), .int .i64 (T1 : Int), .int .u8 (M1 : Int), .int .i64 (hy : Int), .int .i64 (pr : Int), .float .f64 lo]) B5 31 #[.slice aC k cC, .slice aO (k + 1) cO] ∧ Blk w3 (za.setRow B6 #[.int .i64 (W1 : Int), .int .i64 (T1 : Int), .int .u8 (M1 : Int), .int .i64 (hy : Int), .int .i64 (pr : Int), .float .f64 lo]) B6 35 #[.int .i64 (W1 : Int), .int .i64 (T1 : Int), .int .u8 (M1 : Int), .int .i64 (hy : Int), .int .i64 (pr : Int), .float .f64 lo]) := ⟨HMa.out.1.store HMa.out.2.2.1 (by decide) (by decide) _, HMa.out.2.1.far HMa.out.2.2 (by decide) _, HMa.out.2.2.put _⟩
                obtain ⟨zb, hzb⟩ : ∃ Y, Y = za.setRow B6 #[.int .i64 (W1 : Int), .int .i64 (T1 : Int), .int .u8 (M1 : Int), .int .i64 (hy : Int), .int .i64 (pr : Int), .float .f64 lo] := ⟨_, rfl⟩
                rw [← hzb] at HXb HMb ⊢
                clear hzb
                refine hK.out _ _ (HKS.out _ HXb.out) (fun hHeld => ?_)
                clear hK
                (try simp only [Act.put, List.setIfInBounds_toArray, List.set_cons_zero, List.set_cons_succ])
                refine wpAnyH_done (by kernel_rfl) ?_ _
                clear hHeld
                go_wp2_with fail
                go_meet
                exact ⟨k, B5, B6, aC, aO, cC, cO, _, rfl, rfl, rfl, HMb.out.1, HMb.out.2.1, HMb.out.2.2, HXb.out⟩
            · rw [if_pos (by rfl)]
              go_simp
              obtain ⟨y2, hy2⟩ : ∃ Y, Y = y1.alloc (.cells #[.slice none 0 0, .slice none 0 0] 31) := ⟨_, rfl⟩
              obtain ⟨B5, hB5⟩ : ∃ b, b = y1.heap.size := ⟨_, rfl⟩
              have ho : Only (fun _ => False) y1 y2 := by rw [hy2]; exact (Only.refl _ _).alloc _
              have HXy2 : Hid (Only (fun _ => False) w3 y2) := HXy1.out.trans ho
              have HB5y2 : Hid (Blk w3 y2 B5 31 #[.slice none 0 0, .slice none 0 0]) := by rw [hy2, hB5]; exact Blk.made HXy1.out _ _
              have HMy2 : Hid (Made y2 M nm k aC aO cC cO) := HMy1.out.keep ho
              rw [← hy2, ← hB5]
              clear hy2 hB5 ho
              refine hK.out _ _ (HKS.out _ HXy2.out) (fun hHeld => ?_)
              clear hK
              (try simp only [Act.put, List.setIfInBounds_toArray, List.set_cons_zero, List.set_cons_succ])
              refine wpAnyH_ready (rs := [3, 5]) (by kernel_rfl) (by simp) ?_
              refine AllReadyH.cons rfl (fun K hK => ?_) (AllReadyH.cons rfl (fun K hK => ?_) AllReadyH.nil)
              · rw [if_pos (by rfl)]
                go_simp
                refine Calls.mono (HCF.out _) ?_
                rintro e y3 ⟨rfl, ho⟩
                have HMy3 : Hid (Made y3 M nm k aC aO cC cO) := HMy2.out.keep ho
                have HXy3 : Hid (Only (fun _ => False) w3 y3) := HXy2.out.trans ho
                have HB5y3 : Hid (Blk w3 y3 B5 31 #[.slice none 0 0, .slice none 0 0]) := HB5y2.out.keep ho
                clear ho
                refine hK.out _ _ (HKS.out _ HXy3.out) (fun hHeld => ?_)
                clear hK
                (try simp only [Act.put, List.setIfInBounds_toArray, List.set_cons_zero, List.set_cons_succ])
                refine wpAnyH_ready (rs := [5]) (by kernel_rfl) (by simp) ?_
                refine AllReadyH.cons rfl (fun K hK => ?_) AllReadyH.nil
                rw [if_pos (by rfl)]
                go_simp
                obtain ⟨y4, hy4⟩ : ∃ Y, Y = y3.alloc (.cells #[.int .i64 0, .int .i64 0, .int .u8 0, .int .i64 0, .int .i64 0, .float .f64 0] 35) := ⟨_, rfl⟩
                obtain ⟨B6, hB6⟩ : ∃ b, b = y3.heap.size := ⟨_, rfl⟩
                have ho : Only (fun _ => False) y3 y4 := by rw [hy4]; exact (Only.refl _ _).alloc _
                have HXy4 : Hid (Only (fun _ => False) w3 y4) := HXy3.out.trans ho
                have HB6y4 : Hid (Blk w3 y4 B6 35 #[.int .i64 0, .int .i64 0, .int .u8 0, .int .i64 0, .int .i64 0, .float .f64 0]) := by rw [hy4, hB6]; exact Blk.made HXy3.out _ _
                have HB5y4 : Hid (Blk w3 y4 B5 31 #[.slice none 0 0, .slice none 0 0]) := HB5y3.out.keep ho
                have HMy4 : Hid (Made y4 M nm k aC aO cC cO) := HMy3.out.keep ho
                rw [← hy4, ← hB6]
                clear hy4 hB6 ho
                refine hK.out _ _ (HKS.out _ HXy4.out) (fun hHeld => ?_)
                clear hK
                (try simp only [Act.put, List.setIfInBounds_toArray, List.set_cons_zero, List.set_cons_succ])
                refine wpAnyH_ready (rs := [6]) (by kernel_rfl) (by simp) ?_
                refine AllReadyH.cons rfl (fun K hK => ?_) AllReadyH.nil
                rw [if_pos (by rfl)]
                have HXa : Hid (Only (fun _ => False) w3 (y4.setRow B5 #[.slice aC k cC, .slice aO (k + 1) cO])) := HXy4.out.setRowNew HB5y4.out.2 _
                refine wp_store_row 31 _ _ rfl B5 #[.slice aC k cC, .slice aO (k + 1) cO] rfl rfl 31 _ HB5y4.out.1 (by kernel_rfl) rfl (two_one _ _ _ _ _ _) ?_
                have HMa : Hid (Made (y4.setRow B5 #[.slice aC k cC, .slice aO (k + 1) cO]) M nm k aC aO cC cO ∧ Blk w3 (y4.setRow B5 #[.slice aC k cC, .slice aO (k + 1) cO]) B5 31 #[.slice aC k cC, .slice aO (k + 1) cO] ∧ Blk w3 (y4.setRow B5 #[.slice aC k cC, .slice aO (k + 1) cO]) B6 35 #[.int .i64 0, .int .i64 0, .int .u8 0, .int .i64 0, .int .i64 0, .float .f64 0]) := ⟨HMy4.out.store HB5y4.out.1 (by decide) (by decide) _, HB5y4.out.put _, HB6y4.out.far HB5y4.out (by decide) _⟩
                obtain ⟨za, hza⟩ : ∃ Y, Y = y4.setRow B5 #[.slice aC k cC, .slice aO (k + 1) cO] := ⟨_, rfl⟩
                rw [← hza] at HXa HMa ⊢
                clear hza
                refine hK.out _ _ (HKS.out _ HXa.out) (fun hHeld => ?_)
                clear hK
                (try simp only [Act.put, List.setIfInBounds_toArray, List.set_cons_zero, List.set_cons_succ])
                refine wpAnyH_ready (rs := [7]) (by kernel_rfl) (by simp) ?_
                refine AllReadyH.cons rfl (fun K hK => ?_) AllReadyH.nil
                rw [if_pos (by rfl)]
                have HXb : Hid (Only (fun _ => False) w3 (za.setRow B6 #[.int .i64 (W1 : Int), .int .i64 (T1 : Int), .int .u8 (M1 : Int), .int .i64 (hy : Int), .int .i64 (pr : Int), .float .f64 lo])) := HXa.out.setRowNew HMa.out.2.2.2 _
                refine wp_store_row 35 _ _ rfl B6 #[.int .i64 (W1 : Int), .int .i64 (T1 : Int), .int .u8 (M1 : Int), .int .i64 (hy : Int), .int .i64 (pr : Int), .float .f64 lo] rfl rfl 35 _ HMa.out.2.2.1 (by kernel_rfl) rfl (cfg_one _ _ _ _ _ _) ?_
                have HMb : Hid (Made (za.setRow B6 #[.int .i64 (W1 : Int), .int .i64 (T1 : Int), .int .u8 (M1 : Int), .int .i64 (hy : Int), .int .i64 (pr : Int), .float .f64 lo]) M nm k aC aO cC cO ∧ Blk w3 (za.setRow B6 #[.int .i64 (W1 : Int), .int .i64 (T1 : Int), .int .u8 (M1 : Int), .int .i64 (hy : Int), .int .i64 (pr : Int), .float .f64 lo]) B5 31 #[.slice aC k cC, .slice aO (k + 1) cO] ∧ Blk w3 (za.setRow B6 #[.int .i64 (W1 : Int), .int .i64 (T1 : Int), .int .u8 (M1 : Int), .int .i64 (hy : Int), .int .i64 (pr : Int), .float .f64 lo]) B6 35 #[.int .i64 (W1 : Int), .int .i64 (T1 : Int), .int .u8 (M1 : Int), .int .i64 (hy : Int), .int .i64 (pr : Int), .float .f64 lo]) := ⟨HMa.out.1.store HMa.out.2.2.1 (by decide) (by decide) _, HMa.out.2.1.far HMa.out.2.2 (by decide) _, HMa.out.2.2.put _⟩
                obtain ⟨zb, hzb⟩ : ∃ Y, Y = za.setRow B6 #[.int .i64 (W1 : Int), .int .i64 (T1 : Int), .int .u8 (M1 : Int), .int .i64 (hy : Int), .int .i64 (pr : Int), .float .f64 lo] := ⟨_, rfl⟩
                rw [← hzb] at HXb HMb ⊢
                clear hzb
                refine hK.out _ _ (HKS.out _ HXb.out) (fun hHeld => ?_)
                clear hK
                (try simp only [Act.put, List.setIfInBounds_toArray, List.set_cons_zero, List.set_cons_succ])
                refine wpAnyH_done (by kernel_rfl) ?_ _
                clear hHeld
                go_wp2_with fail
                go_meet
                exact ⟨k, B5, B6, aC, aO, cC, cO, _, rfl, rfl, rfl, HMb.out.1, HMb.out.2.1, HMb.out.2.2, HXb.out⟩
              · rw [if_pos (by rfl)]
                go_simp
                obtain ⟨y3, hy3⟩ : ∃ Y, Y = y2.alloc (.cells #[.int .i64 0, .int .i64 0, .int .u8 0, .int .i64 0, .int .i64 0, .float .f64 0] 35) := ⟨_, rfl⟩
                obtain ⟨B6, hB6⟩ : ∃ b, b = y2.heap.size := ⟨_, rfl⟩
                have ho : Only (fun _ => False) y2 y3 := by rw [hy3]; exact (Only.refl _ _).alloc _
                have HXy3 : Hid (Only (fun _ => False) w3 y3) := HXy2.out.trans ho
                have HB6y3 : Hid (Blk w3 y3 B6 35 #[.int .i64 0, .int .i64 0, .int .u8 0, .int .i64 0, .int .i64 0, .float .f64 0]) := by rw [hy3, hB6]; exact Blk.made HXy2.out _ _
                have HB5y3 : Hid (Blk w3 y3 B5 31 #[.slice none 0 0, .slice none 0 0]) := HB5y2.out.keep ho
                have HMy3 : Hid (Made y3 M nm k aC aO cC cO) := HMy2.out.keep ho
                rw [← hy3, ← hB6]
                clear hy3 hB6 ho
                refine hK.out _ _ (HKS.out _ HXy3.out) (fun hHeld => ?_)
                clear hK
                (try simp only [Act.put, List.setIfInBounds_toArray, List.set_cons_zero, List.set_cons_succ])
                refine wpAnyH_ready (rs := [3]) (by kernel_rfl) (by simp) ?_
                refine AllReadyH.cons rfl (fun K hK => ?_) AllReadyH.nil
                rw [if_pos (by rfl)]
                go_simp
                refine Calls.mono (HCF.out _) ?_
                rintro e y4 ⟨rfl, ho⟩
                have HMy4 : Hid (Made y4 M nm k aC aO cC cO) := HMy3.out.keep ho
                have HXy4 : Hid (Only (fun _ => False) w3 y4) := HXy3.out.trans ho
                have HB5y4 : Hid (Blk w3 y4 B5 31 #[.slice none 0 0, .slice none 0 0]) := HB5y3.out.keep ho
                have HB6y4 : Hid (Blk w3 y4 B6 35 #[.int .i64 0, .int .i64 0, .int .u8 0, .int .i64 0, .int .i64 0, .float .f64 0]) := HB6y3.out.keep ho
                clear ho
                refine hK.out _ _ (HKS.out _ HXy4.out) (fun hHeld => ?_)
                clear hK
                (try simp only [Act.put, List.setIfInBounds_toArray, List.set_cons_zero, List.set_cons_succ])
                refine wpAnyH_ready (rs := [6]) (by kernel_rfl) (by simp) ?_
                refine AllReadyH.cons rfl (fun K hK => ?_) AllReadyH.nil
                rw [if_pos (by rfl)]
                have HXa : Hid (Only (fun _ => False) w3 (y4.setRow B5 #[.slice aC k cC, .slice aO (k + 1) cO])) := HXy4.out.setRowNew HB5y4.out.2 _
                refine wp_store_row 31 _ _ rfl B5 #[.slice aC k cC, .slice aO (k + 1) cO] rfl rfl 31 _ HB5y4.out.1 (by kernel_rfl) rfl (two_one _ _ _ _ _ _) ?_
                have HMa : Hid (Made (y4.setRow B5 #[.slice aC k cC, .slice aO (k + 1) cO]) M nm k aC aO cC cO ∧ Blk w3 (y4.setRow B5 #[.slice aC k cC, .slice aO (k + 1) cO]) B5 31 #[.slice aC k cC, .slice aO (k + 1) cO] ∧ Blk w3 (y4.setRow B5 #[.slice aC k cC, .slice aO (k + 1) cO]) B6 35 #[.int .i64 0, .int .i64 0, .int .u8 0, .int .i64 0, .int .i64 0, .float .f64 0]) := ⟨HMy4.out.store HB5y4.out.1 (by decide) (by decide) _, HB5y4.out.put _, HB6y4.out.far HB5y4.out (by decide) _⟩
                obtain ⟨za, hza⟩ : ∃ Y, Y = y4.setRow B5 #[.slice aC k cC, .slice aO (k + 1) cO] := ⟨_, rfl⟩
                rw [← hza] at HXa HMa ⊢
                clear hza
                refine hK.out _ _ (HKS.out _ HXa.out) (fun hHeld => ?_)
                clear hK
                (try simp only [Act.put, List.setIfInBounds_toArray, List.set_cons_zero, List.set_cons_succ])
                refine wpAnyH_ready (rs := [7]) (by kernel_rfl) (by simp) ?_
                refine AllReadyH.cons rfl (fun K hK => ?_) AllReadyH.nil
                rw [if_pos (by rfl)]
                have HXb : Hid (Only (fun _ => False) w3 (za.setRow B6 #[.int .i64 (W1 : Int), .int .i64 (T1 : Int), .int .u8 (M1 : Int), .int .i64 (hy : Int), .int .i64 (pr : Int), .float .f64 lo])) := HXa.out.setRowNew HMa.out.2.2.2 _
                refine wp_store_row 35 _ _ rfl B6 #[.int .i64 (W1 : Int), .int .i64 (T1 : Int), .int .u8 (M1 : Int), .int .i64 (hy : Int), .int .i64 (pr : Int), .float .f64 lo] rfl rfl 35 _ HMa.out.2.2.1 (by kernel_rfl) rfl (cfg_one _ _ _ _ _ _) ?_
                have HMb : Hid (Made (za.setRow B6 #[.int .i64 (W1 : Int), .int .i64 (T1 : Int), .int .u8 (M1 : Int), .int .i64 (hy : Int), .int .i64 (pr : Int), .float .f64 lo]) M nm k aC aO cC cO ∧ Blk w3 (za.setRow B6 #[.int .i64 (W1 : Int), .int .i64 (T1 : Int), .int .u8 (M1 : Int), .int .i64 (hy : Int), .int .i64 (pr : Int), .float .f64 lo]) B5 31 #[.slice aC k cC, .slice aO (k + 1) cO] ∧ Blk w3 (za.setRow B6 #[.int .i64 (W1 : Int), .int .i64 (T1 : Int), .int .u8 (M1 : Int), .int .i64 (hy : Int), .int .i64 (pr : Int), .float .f64 lo]) B6 35 #[.int .i64 (W1 : Int), .int .i64 (T1 : Int), .int .u8 (M1 : Int), .int .i64 (hy : Int), .int .i64 (pr : Int), .float .f64 lo]) := ⟨HMa.out.1.store HMa.out.2.2.1 (by decide) (by decide) _, HMa.out.2.1.far HMa.out.2.2 (by decide) _, HMa.out.2.2.put _⟩
                obtain ⟨zb, hzb⟩ : ∃ Y, Y = za.setRow B6 #[.int .i64 (W1 : Int), .int .i64 (T1 : Int), .int .u8 (M1 : Int), .int .i64 (hy : Int), .int .i64 (pr : Int), .float .f64 lo] := ⟨_, rfl⟩
                rw [← hzb] at HXb HMb ⊢
                clear hzb
                refine hK.out _ _ (HKS.out _ HXb.out) (fun hHeld => ?_)
                clear hK
                (try simp only [Act.put, List.setIfInBounds_toArray, List.set_cons_zero, List.set_cons_succ])
                refine wpAnyH_done (by kernel_rfl) ?_ _
                clear hHeld
                go_wp2_with fail
                go_meet
                exact ⟨k, B5, B6, aC, aO, cC, cO, _, rfl, rfl, rfl, HMb.out.1, HMb.out.2.1, HMb.out.2.2, HXb.out⟩
            · rw [if_pos (by rfl)]
              go_simp
              obtain ⟨y2, hy2⟩ : ∃ Y, Y = y1.alloc (.cells #[.int .i64 0, .int .i64 0, .int .u8 0, .int .i64 0, .int .i64 0, .float .f64 0] 35) := ⟨_, rfl⟩
              obtain ⟨B6, hB6⟩ : ∃ b, b = y1.heap.size := ⟨_, rfl⟩
              have ho : Only (fun _ => False) y1 y2 := by rw [hy2]; exact (Only.refl _ _).alloc _
              have HXy2 : Hid (Only (fun _ => False) w3 y2) := HXy1.out.trans ho
              have HB6y2 : Hid (Blk w3 y2 B6 35 #[.int .i64 0, .int .i64 0, .int .u8 0, .int .i64 0, .int .i64 0, .float .f64 0]) := by rw [hy2, hB6]; exact Blk.made HXy1.out _ _
              have HMy2 : Hid (Made y2 M nm k aC aO cC cO) := HMy1.out.keep ho
              rw [← hy2, ← hB6]
              clear hy2 hB6 ho
              refine hK.out _ _ (HKS.out _ HXy2.out) (fun hHeld => ?_)
              clear hK
              (try simp only [Act.put, List.setIfInBounds_toArray, List.set_cons_zero, List.set_cons_succ])
              refine wpAnyH_ready (rs := [3, 4]) (by kernel_rfl) (by simp) ?_
              refine AllReadyH.cons rfl (fun K hK => ?_) (AllReadyH.cons rfl (fun K hK => ?_) AllReadyH.nil)
              · rw [if_pos (by rfl)]
                go_simp
                refine Calls.mono (HCF.out _) ?_
                rintro e y3 ⟨rfl, ho⟩
                have HMy3 : Hid (Made y3 M nm k aC aO cC cO) := HMy2.out.keep ho
                have HXy3 : Hid (Only (fun _ => False) w3 y3) := HXy2.out.trans ho
                have HB6y3 : Hid (Blk w3 y3 B6 35 #[.int .i64 0, .int .i64 0, .int .u8 0, .int .i64 0, .int .i64 0, .float .f64 0]) := HB6y2.out.keep ho
                clear ho
                refine hK.out _ _ (HKS.out _ HXy3.out) (fun hHeld => ?_)
                clear hK
                (try simp only [Act.put, List.setIfInBounds_toArray, List.set_cons_zero, List.set_cons_succ])
                refine wpAnyH_ready (rs := [4]) (by kernel_rfl) (by simp) ?_
                refine AllReadyH.cons rfl (fun K hK => ?_) AllReadyH.nil
                rw [if_pos (by rfl)]
                go_simp
                obtain ⟨y4, hy4⟩ : ∃ Y, Y = y3.alloc (.cells #[.slice none 0 0, .slice none 0 0] 31) := ⟨_, rfl⟩
                obtain ⟨B5, hB5⟩ : ∃ b, b = y3.heap.size := ⟨_, rfl⟩
                have ho : Only (fun _ => False) y3 y4 := by rw [hy4]; exact (Only.refl _ _).alloc _
                have HXy4 : Hid (Only (fun _ => False) w3 y4) := HXy3.out.trans ho
                have HB5y4 : Hid (Blk w3 y4 B5 31 #[.slice none 0 0, .slice none 0 0]) := by rw [hy4, hB5]; exact Blk.made HXy3.out _ _
                have HB6y4 : Hid (Blk w3 y4 B6 35 #[.int .i64 0, .int .i64 0, .int .u8 0, .int .i64 0, .int .i64 0, .float .f64 0]) := HB6y3.out.keep ho
                have HMy4 : Hid (Made y4 M nm k aC aO cC cO) := HMy3.out.keep ho
                rw [← hy4, ← hB5]
                clear hy4 hB5 ho
                refine hK.out _ _ (HKS.out _ HXy4.out) (fun hHeld => ?_)
                clear hK
                (try simp only [Act.put, List.setIfInBounds_toArray, List.set_cons_zero, List.set_cons_succ])
                refine wpAnyH_ready (rs := [6]) (by kernel_rfl) (by simp) ?_
                refine AllReadyH.cons rfl (fun K hK => ?_) AllReadyH.nil
                rw [if_pos (by rfl)]
                have HXa : Hid (Only (fun _ => False) w3 (y4.setRow B5 #[.slice aC k cC, .slice aO (k + 1) cO])) := HXy4.out.setRowNew HB5y4.out.2 _
                refine wp_store_row 31 _ _ rfl B5 #[.slice aC k cC, .slice aO (k + 1) cO] rfl rfl 31 _ HB5y4.out.1 (by kernel_rfl) rfl (two_one _ _ _ _ _ _) ?_
                have HMa : Hid (Made (y4.setRow B5 #[.slice aC k cC, .slice aO (k + 1) cO]) M nm k aC aO cC cO ∧ Blk w3 (y4.setRow B5 #[.slice aC k cC, .slice aO (k + 1) cO]) B5 31 #[.slice aC k cC, .slice aO (k + 1) cO] ∧ Blk w3 (y4.setRow B5 #[.slice aC k cC, .slice aO (k + 1) cO]) B6 35 #[.int .i64 0, .int .i64 0, .int .u8 0, .int .i64 0, .int .i64 0, .float .f64 0]) := ⟨HMy4.out.store HB5y4.out.1 (by decide) (by decide) _, HB5y4.out.put _, HB6y4.out.far HB5y4.out (by decide) _⟩
                obtain ⟨za, hza⟩ : ∃ Y, Y = y4.setRow B5 #[.slice aC k cC, .slice aO (k + 1) cO] := ⟨_, rfl⟩
                rw [← hza] at HXa HMa ⊢
                clear hza
                refine hK.out _ _ (HKS.out _ HXa.out) (fun hHeld => ?_)
                clear hK
                (try simp only [Act.put, List.setIfInBounds_toArray, List.set_cons_zero, List.set_cons_succ])
                refine wpAnyH_ready (rs := [7]) (by kernel_rfl) (by simp) ?_
                refine AllReadyH.cons rfl (fun K hK => ?_) AllReadyH.nil
                rw [if_pos (by rfl)]
                have HXb : Hid (Only (fun _ => False) w3 (za.setRow B6 #[.int .i64 (W1 : Int), .int .i64 (T1 : Int), .int .u8 (M1 : Int), .int .i64 (hy : Int), .int .i64 (pr : Int), .float .f64 lo])) := HXa.out.setRowNew HMa.out.2.2.2 _
                refine wp_store_row 35 _ _ rfl B6 #[.int .i64 (W1 : Int), .int .i64 (T1 : Int), .int .u8 (M1 : Int), .int .i64 (hy : Int), .int .i64 (pr : Int), .float .f64 lo] rfl rfl 35 _ HMa.out.2.2.1 (by kernel_rfl) rfl (cfg_one _ _ _ _ _ _) ?_
                have HMb : Hid (Made (za.setRow B6 #[.int .i64 (W1 : Int), .int .i64 (T1 : Int), .int .u8 (M1 : Int), .int .i64 (hy : Int), .int .i64 (pr : Int), .float .f64 lo]) M nm k aC aO cC cO ∧ Blk w3 (za.setRow B6 #[.int .i64 (W1 : Int), .int .i64 (T1 : Int), .int .u8 (M1 : Int), .int .i64 (hy : Int), .int .i64 (pr : Int), .float .f64 lo]) B5 31 #[.slice aC k cC, .slice aO (k + 1) cO] ∧ Blk w3 (za.setRow B6 #[.int .i64 (W1 : Int), .int .i64 (T1 : Int), .int .u8 (M1 : Int), .int .i64 (hy : Int), .int .i64 (pr : Int), .float .f64 lo]) B6 35 #[.int .i64 (W1 : Int), .int .i64 (T1 : Int), .int .u8 (M1 : Int), .int .i64 (hy : Int), .int .i64 (pr : Int), .float .f64 lo]) := ⟨HMa.out.1.store HMa.out.2.2.1 (by decide) (by decide) _, HMa.out.2.1.far HMa.out.2.2 (by decide) _, HMa.out.2.2.put _⟩
                obtain ⟨zb, hzb⟩ : ∃ Y, Y = za.setRow B6 #[.int .i64 (W1 : Int), .int .i64 (T1 : Int), .int .u8 (M1 : Int), .int .i64 (hy : Int), .int .i64 (pr : Int), .float .f64 lo] := ⟨_, rfl⟩
                rw [← hzb] at HXb HMb ⊢
                clear hzb
                refine hK.out _ _ (HKS.out _ HXb.out) (fun hHeld => ?_)
                clear hK
                (try simp only [Act.put, List.setIfInBounds_toArray, List.set_cons_zero, List.set_cons_succ])
                refine wpAnyH_done (by kernel_rfl) ?_ _
                clear hHeld
                go_wp2_with fail
                go_meet
                exact ⟨k, B5, B6, aC, aO, cC, cO, _, rfl, rfl, rfl, HMb.out.1, HMb.out.2.1, HMb.out.2.2, HXb.out⟩
              · rw [if_pos (by rfl)]
                go_simp
                obtain ⟨y3, hy3⟩ : ∃ Y, Y = y2.alloc (.cells #[.slice none 0 0, .slice none 0 0] 31) := ⟨_, rfl⟩
                obtain ⟨B5, hB5⟩ : ∃ b, b = y2.heap.size := ⟨_, rfl⟩
                have ho : Only (fun _ => False) y2 y3 := by rw [hy3]; exact (Only.refl _ _).alloc _
                have HXy3 : Hid (Only (fun _ => False) w3 y3) := HXy2.out.trans ho
                have HB5y3 : Hid (Blk w3 y3 B5 31 #[.slice none 0 0, .slice none 0 0]) := by rw [hy3, hB5]; exact Blk.made HXy2.out _ _
                have HB6y3 : Hid (Blk w3 y3 B6 35 #[.int .i64 0, .int .i64 0, .int .u8 0, .int .i64 0, .int .i64 0, .float .f64 0]) := HB6y2.out.keep ho
                have HMy3 : Hid (Made y3 M nm k aC aO cC cO) := HMy2.out.keep ho
                rw [← hy3, ← hB5]
                clear hy3 hB5 ho
                refine hK.out _ _ (HKS.out _ HXy3.out) (fun hHeld => ?_)
                clear hK
                (try simp only [Act.put, List.setIfInBounds_toArray, List.set_cons_zero, List.set_cons_succ])
                refine wpAnyH_ready (rs := [3]) (by kernel_rfl) (by simp) ?_
                refine AllReadyH.cons rfl (fun K hK => ?_) AllReadyH.nil
                rw [if_pos (by rfl)]
                go_simp
                refine Calls.mono (HCF.out _) ?_
                rintro e y4 ⟨rfl, ho⟩
                have HMy4 : Hid (Made y4 M nm k aC aO cC cO) := HMy3.out.keep ho
                have HXy4 : Hid (Only (fun _ => False) w3 y4) := HXy3.out.trans ho
                have HB5y4 : Hid (Blk w3 y4 B5 31 #[.slice none 0 0, .slice none 0 0]) := HB5y3.out.keep ho
                have HB6y4 : Hid (Blk w3 y4 B6 35 #[.int .i64 0, .int .i64 0, .int .u8 0, .int .i64 0, .int .i64 0, .float .f64 0]) := HB6y3.out.keep ho
                clear ho
                refine hK.out _ _ (HKS.out _ HXy4.out) (fun hHeld => ?_)
                clear hK
                (try simp only [Act.put, List.setIfInBounds_toArray, List.set_cons_zero, List.set_cons_succ])
                refine wpAnyH_ready (rs := [6]) (by kernel_rfl) (by simp) ?_
                refine AllReadyH.cons rfl (fun K hK => ?_) AllReadyH.nil
                rw [if_pos (by rfl)]
                have HXa : Hid (Only (fun _ => False) w3 (y4.setRow B5 #[.slice aC k cC, .slice aO (k + 1) cO])) := HXy4.out.setRowNew HB5y4.out.2 _
                refine wp_store_row 31 _ _ rfl B5 #[.slice aC k cC, .slice aO (k + 1) cO] rfl rfl 31 _ HB5y4.out.1 (by kernel_rfl) rfl (two_one _ _ _ _ _ _) ?_
                have HMa : Hid (Made (y4.setRow B5 #[.slice aC k cC, .slice aO (k + 1) cO]) M nm k aC aO cC cO ∧ Blk w3 (y4.setRow B5 #[.slice aC k cC, .slice aO (k + 1) cO]) B5 31 #[.slice aC k cC, .slice aO (k + 1) cO] ∧ Blk w3 (y4.setRow B5 #[.slice aC k cC, .slice aO (k + 1) cO]) B6 35 #[.int .i64 0, .int .i64 0, .int .u8 0, .int .i64 0, .int .i64 0, .float .f64 0]) := ⟨HMy4.out.store HB5y4.out.1 (by decide) (by decide) _, HB5y4.out.put _, HB6y4.out.far HB5y4.out (by decide) _⟩
                obtain ⟨za, hza⟩ : ∃ Y, Y = y4.setRow B5 #[.slice aC k cC, .slice aO (k + 1) cO] := ⟨_, rfl⟩
                rw [← hza] at HXa HMa ⊢
                clear hza
                refine hK.out _ _ (HKS.out _ HXa.out) (fun hHeld => ?_)
                clear hK
                (try simp only [Act.put, List.setIfInBounds_toArray, List.set_cons_zero, List.set_cons_succ])
                refine wpAnyH_ready (rs := [7]) (by kernel_rfl) (by simp) ?_
                refine AllReadyH.cons rfl (fun K hK => ?_) AllReadyH.nil
                rw [if_pos (by rfl)]
                have HXb : Hid (Only (fun _ => False) w3 (za.setRow B6 #[.int .i64 (W1 : Int), .int .i64 (T1 : Int), .int .u8 (M1 : Int), .int .i64 (hy : Int), .int .i64 (pr : Int), .float .f64 lo])) := HXa.out.setRowNew HMa.out.2.2.2 _
                refine wp_store_row 35 _ _ rfl B6 #[.int .i64 (W1 : Int), .int .i64 (T1 : Int), .int .u8 (M1 : Int), .int .i64 (hy : Int), .int .i64 (pr : Int), .float .f64 lo] rfl rfl 35 _ HMa.out.2.2.1 (by kernel_rfl) rfl (cfg_one _ _ _ _ _ _) ?_
                have HMb : Hid (Made (za.setRow B6 #[.int .i64 (W1 : Int), .int .i64 (T1 : Int), .int .u8 (M1 : Int), .int .i64 (hy : Int), .int .i64 (pr : Int), .float .f64 lo]) M nm k aC aO cC cO ∧ Blk w3 (za.setRow B6 #[.int .i64 (W1 : Int), .int .i64 (T1 : Int), .int .u8 (M1 : Int), .int .i64 (hy : Int), .int .i64 (pr : Int), .float .f64 lo]) B5 31 #[.slice aC k cC, .slice aO (k + 1) cO] ∧ Blk w3 (za.setRow B6 #[.int .i64 (W1 : Int), .int .i64 (T1 : Int), .int .u8 (M1 : Int), .int .i64 (hy : Int), .int .i64 (pr : Int), .float .f64 lo]) B6 35 #[.int .i64 (W1 : Int), .int .i64 (T1 : Int), .int .u8 (M1 : Int), .int .i64 (hy : Int), .int .i64 (pr : Int), .float .f64 lo]) := ⟨HMa.out.1.store HMa.out.2.2.1 (by decide) (by decide) _, HMa.out.2.1.far HMa.out.2.2 (by decide) _, HMa.out.2.2.put _⟩
                obtain ⟨zb, hzb⟩ : ∃ Y, Y = za.setRow B6 #[.int .i64 (W1 : Int), .int .i64 (T1 : Int), .int .u8 (M1 : Int), .int .i64 (hy : Int), .int .i64 (pr : Int), .float .f64 lo] := ⟨_, rfl⟩
                rw [← hzb] at HXb HMb ⊢
                clear hzb
                refine hK.out _ _ (HKS.out _ HXb.out) (fun hHeld => ?_)
                clear hK
                (try simp only [Act.put, List.setIfInBounds_toArray, List.set_cons_zero, List.set_cons_succ])
                refine wpAnyH_done (by kernel_rfl) ?_ _
                clear hHeld
                go_wp2_with fail
                go_meet
                exact ⟨k, B5, B6, aC, aO, cC, cO, _, rfl, rfl, rfl, HMb.out.1, HMb.out.2.1, HMb.out.2.2, HXb.out⟩
          · rw [if_pos (by rfl)]
            go_simp
            obtain ⟨y1, hy1⟩ : ∃ Y, Y = (w3.alloc (.cells #[.slice none 0 0, .slice none 0 0] 31)).drew := ⟨_, rfl⟩
            obtain ⟨B5, hB5⟩ : ∃ b, b = w3.heap.size := ⟨_, rfl⟩
            have ho : Only (fun _ => False) w3 y1 := by rw [hy1]; exact ((Only.refl _ _).alloc _).drew
            have HXy1 : Hid (Only (fun _ => False) w3 y1) := ho
            have HB5y1 : Hid (Blk w3 y1 B5 31 #[.slice none 0 0, .slice none 0 0]) := by rw [hy1, hB5]; exact (Blk.made (Only.refl _ _) _ _).drew
            rw [← hy1, ← hB5]
            clear hy1 hB5 ho
            refine hK.out _ _ (HKS.out _ HXy1.out) (fun hHeld => ?_)
            clear hK
            (try simp only [Act.put, List.setIfInBounds_toArray, List.set_cons_zero, List.set_cons_succ])
            refine wpAnyH_ready (rs := [1, 5]) (by kernel_rfl) (by simp) ?_
            refine AllReadyH.cons rfl (fun K hK => ?_) (AllReadyH.cons rfl (fun K hK => ?_) AllReadyH.nil)
            · rw [if_pos (by rfl)]
              go_simp
              refine Calls.mono (HPA.out _ (HW3.out.trans HXy1.out)) ?_
              rintro e y2 ⟨k, aC, aO, cC, cO, rfl, hmd, ho⟩
              have HMy2 : Hid (Made y2 M nm k aC aO cC cO) := hmd
              clear hmd
              have HXy2 : Hid (Only (fun _ => False) w3 y2) := HXy1.out.trans ho
              have HB5y2 : Hid (Blk w3 y2 B5 31 #[.slice none 0 0, .slice none 0 0]) := HB5y1.out.keep ho
              clear ho
              refine hK.out _ _ (HKS.out _ HXy2.out) (fun hHeld => ?_)
              clear hK
              (try simp only [Act.put, List.setIfInBounds_toArray, List.set_cons_zero, List.set_cons_succ])
              refine wpAnyH_ready (rs := [3, 5]) (by kernel_rfl) (by simp) ?_
              refine AllReadyH.cons rfl (fun K hK => ?_) (AllReadyH.cons rfl (fun K hK => ?_) AllReadyH.nil)
              · rw [if_pos (by rfl)]
                go_simp
                refine Calls.mono (HCF.out _) ?_
                rintro e y3 ⟨rfl, ho⟩
                have HMy3 : Hid (Made y3 M nm k aC aO cC cO) := HMy2.out.keep ho
                have HXy3 : Hid (Only (fun _ => False) w3 y3) := HXy2.out.trans ho
                have HB5y3 : Hid (Blk w3 y3 B5 31 #[.slice none 0 0, .slice none 0 0]) := HB5y2.out.keep ho
                clear ho
                refine hK.out _ _ (HKS.out _ HXy3.out) (fun hHeld => ?_)
                clear hK
                (try simp only [Act.put, List.setIfInBounds_toArray, List.set_cons_zero, List.set_cons_succ])
                refine wpAnyH_ready (rs := [5]) (by kernel_rfl) (by simp) ?_
                refine AllReadyH.cons rfl (fun K hK => ?_) AllReadyH.nil
                rw [if_pos (by rfl)]
                go_simp
                obtain ⟨y4, hy4⟩ : ∃ Y, Y = y3.alloc (.cells #[.int .i64 0, .int .i64 0, .int .u8 0, .int .i64 0, .int .i64 0, .float .f64 0] 35) := ⟨_, rfl⟩
                obtain ⟨B6, hB6⟩ : ∃ b, b = y3.heap.size := ⟨_, rfl⟩
                have ho : Only (fun _ => False) y3 y4 := by rw [hy4]; exact (Only.refl _ _).alloc _
                have HXy4 : Hid (Only (fun _ => False) w3 y4) := HXy3.out.trans ho
                have HB6y4 : Hid (Blk w3 y4 B6 35 #[.int .i64 0, .int .i64 0, .int .u8 0, .int .i64 0, .int .i64 0, .float .f64 0]) := by rw [hy4, hB6]; exact Blk.made HXy3.out _ _
                have HB5y4 : Hid (Blk w3 y4 B5 31 #[.slice none 0 0, .slice none 0 0]) := HB5y3.out.keep ho
                have HMy4 : Hid (Made y4 M nm k aC aO cC cO) := HMy3.out.keep ho
                rw [← hy4, ← hB6]
                clear hy4 hB6 ho
                refine hK.out _ _ (HKS.out _ HXy4.out) (fun hHeld => ?_)
                clear hK
                (try simp only [Act.put, List.setIfInBounds_toArray, List.set_cons_zero, List.set_cons_succ])
                refine wpAnyH_ready (rs := [6]) (by kernel_rfl) (by simp) ?_
                refine AllReadyH.cons rfl (fun K hK => ?_) AllReadyH.nil
                rw [if_pos (by rfl)]
                have HXa : Hid (Only (fun _ => False) w3 (y4.setRow B5 #[.slice aC k cC, .slice aO (k + 1) cO])) := HXy4.out.setRowNew HB5y4.out.2 _
                refine wp_store_row 31 _ _ rfl B5 #[.slice aC k cC, .slice aO (k + 1) cO] rfl rfl 31 _ HB5y4.out.1 (by kernel_rfl) rfl (two_one _ _ _ _ _ _) ?_
                have HMa : Hid (Made (y4.setRow B5 #[.slice aC k cC, .slice aO (k + 1) cO]) M nm k aC aO cC cO ∧ Blk w3 (y4.setRow B5 #[.slice aC k cC, .slice aO (k + 1) cO]) B5 31 #[.slice aC k cC, .slice aO (k + 1) cO] ∧ Blk w3 (y4.setRow B5 #[.slice aC k cC, .slice aO (k + 1) cO]) B6 35 #[.int .i64 0, .int .i64 0, .int .u8 0, .int .i64 0, .int .i64 0, .float .f64 0]) := ⟨HMy4.out.store HB5y4.out.1 (by decide) (by decide) _, HB5y4.out.put _, HB6y4.out.far HB5y4.out (by decide) _⟩
                obtain ⟨za, hza⟩ : ∃ Y, Y = y4.setRow B5 #[.slice aC k cC, .slice aO (k + 1) cO] := ⟨_, rfl⟩
                rw [← hza] at HXa HMa ⊢
                clear hza
                refine hK.out _ _ (HKS.out _ HXa.out) (fun hHeld => ?_)
                clear hK
                (try simp only [Act.put, List.setIfInBounds_toArray, List.set_cons_zero, List.set_cons_succ])
                refine wpAnyH_ready (rs := [7]) (by kernel_rfl) (by simp) ?_
                refine AllReadyH.cons rfl (fun K hK => ?_) AllReadyH.nil
                rw [if_pos (by rfl)]
                have HXb : Hid (Only (fun _ => False) w3 (za.setRow B6 #[.int .i64 (W1 : Int), .int .i64 (T1 : Int), .int .u8 (M1 : Int), .int .i64 (hy : Int), .int .i64 (pr : Int), .float .f64 lo])) := HXa.out.setRowNew HMa.out.2.2.2 _
                refine wp_store_row 35 _ _ rfl B6 #[.int .i64 (W1 : Int), .int .i64 (T1 : Int), .int .u8 (M1 : Int), .int .i64 (hy : Int), .int .i64 (pr : Int), .float .f64 lo] rfl rfl 35 _ HMa.out.2.2.1 (by kernel_rfl) rfl (cfg_one _ _ _ _ _ _) ?_
                have HMb : Hid (Made (za.setRow B6 #[.int .i64 (W1 : Int), .int .i64 (T1 : Int), .int .u8 (M1 : Int), .int .i64 (hy : Int), .int .i64 (pr : Int), .float .f64 lo]) M nm k aC aO cC cO ∧ Blk w3 (za.setRow B6 #[.int .i64 (W1 : Int), .int .i64 (T1 : Int), .int .u8 (M1 : Int), .int .i64 (hy : Int), .int .i64 (pr : Int), .float .f64 lo]) B5 31 #[.slice aC k cC, .slice aO (k + 1) cO] ∧ Blk w3 (za.setRow B6 #[.int .i64 (W1 : Int), .int .i64 (T1 : Int), .int .u8 (M1 : Int), .int .i64 (hy : Int), .int .i64 (pr : Int), .float .f64 lo]) B6 35 #[.int .i64 (W1 : Int), .int .i64 (T1 : Int), .int .u8 (M1 : Int), .int .i64 (hy : Int), .int .i64 (pr : Int), .float .f64 lo]) := ⟨HMa.out.1.store HMa.out.2.2.1 (by decide) (by decide) _, HMa.out.2.1.far HMa.out.2.2 (by decide) _, HMa.out.2.2.put _⟩
                obtain ⟨zb, hzb⟩ : ∃ Y, Y = za.setRow B6 #[.int .i64 (W1 : Int), .int .i64 (T1 : Int), .int .u8 (M1 : Int), .int .i64 (hy : Int), .int .i64 (pr : Int), .float .f64 lo] := ⟨_, rfl⟩
                rw [← hzb] at HXb HMb ⊢
                clear hzb
                refine hK.out _ _ (HKS.out _ HXb.out) (fun hHeld => ?_)
                clear hK
                (try simp only [Act.put, List.setIfInBounds_toArray, List.set_cons_zero, List.set_cons_succ])
                refine wpAnyH_done (by kernel_rfl) ?_ _
                clear hHeld
                go_wp2_with fail
                go_meet
                exact ⟨k, B5, B6, aC, aO, cC, cO, _, rfl, rfl, rfl, HMb.out.1, HMb.out.2.1, HMb.out.2.2, HXb.out⟩
              · rw [if_pos (by rfl)]
                go_simp
                obtain ⟨y3, hy3⟩ : ∃ Y, Y = y2.alloc (.cells #[.int .i64 0, .int .i64 0, .int .u8 0, .int .i64 0, .int .i64 0, .float .f64 0] 35) := ⟨_, rfl⟩
                obtain ⟨B6, hB6⟩ : ∃ b, b = y2.heap.size := ⟨_, rfl⟩
                have ho : Only (fun _ => False) y2 y3 := by rw [hy3]; exact (Only.refl _ _).alloc _
                have HXy3 : Hid (Only (fun _ => False) w3 y3) := HXy2.out.trans ho
                have HB6y3 : Hid (Blk w3 y3 B6 35 #[.int .i64 0, .int .i64 0, .int .u8 0, .int .i64 0, .int .i64 0, .float .f64 0]) := by rw [hy3, hB6]; exact Blk.made HXy2.out _ _
                have HB5y3 : Hid (Blk w3 y3 B5 31 #[.slice none 0 0, .slice none 0 0]) := HB5y2.out.keep ho
                have HMy3 : Hid (Made y3 M nm k aC aO cC cO) := HMy2.out.keep ho
                rw [← hy3, ← hB6]
                clear hy3 hB6 ho
                refine hK.out _ _ (HKS.out _ HXy3.out) (fun hHeld => ?_)
                clear hK
                (try simp only [Act.put, List.setIfInBounds_toArray, List.set_cons_zero, List.set_cons_succ])
                refine wpAnyH_ready (rs := [3]) (by kernel_rfl) (by simp) ?_
                refine AllReadyH.cons rfl (fun K hK => ?_) AllReadyH.nil
                rw [if_pos (by rfl)]
                go_simp
                refine Calls.mono (HCF.out _) ?_
                rintro e y4 ⟨rfl, ho⟩
                have HMy4 : Hid (Made y4 M nm k aC aO cC cO) := HMy3.out.keep ho
                have HXy4 : Hid (Only (fun _ => False) w3 y4) := HXy3.out.trans ho
                have HB5y4 : Hid (Blk w3 y4 B5 31 #[.slice none 0 0, .slice none 0 0]) := HB5y3.out.keep ho
                have HB6y4 : Hid (Blk w3 y4 B6 35 #[.int .i64 0, .int .i64 0, .int .u8 0, .int .i64 0, .int .i64 0, .float .f64 0]) := HB6y3.out.keep ho
                clear ho
                refine hK.out _ _ (HKS.out _ HXy4.out) (fun hHeld => ?_)
                clear hK
                (try simp only [Act.put, List.setIfInBounds_toArray, List.set_cons_zero, List.set_cons_succ])
                refine wpAnyH_ready (rs := [6]) (by kernel_rfl) (by simp) ?_
                refine AllReadyH.cons rfl (fun K hK => ?_) AllReadyH.nil
                rw [if_pos (by rfl)]
                have HXa : Hid (Only (fun _ => False) w3 (y4.setRow B5 #[.slice aC k cC, .slice aO (k + 1) cO])) := HXy4.out.setRowNew HB5y4.out.2 _
                refine wp_store_row 31 _ _ rfl B5 #[.slice aC k cC, .slice aO (k + 1) cO] rfl rfl 31 _ HB5y4.out.1 (by kernel_rfl) rfl (two_one _ _ _ _ _ _) ?_
                have HMa : Hid (Made (y4.setRow B5 #[.slice aC k cC, .slice aO (k + 1) cO]) M nm k aC aO cC cO ∧ Blk w3 (y4.setRow B5 #[.slice aC k cC, .slice aO (k + 1) cO]) B5 31 #[.slice aC k cC, .slice aO (k + 1) cO] ∧ Blk w3 (y4.setRow B5 #[.slice aC k cC, .slice aO (k + 1) cO]) B6 35 #[.int .i64 0, .int .i64 0, .int .u8 0, .int .i64 0, .int .i64 0, .float .f64 0]) := ⟨HMy4.out.store HB5y4.out.1 (by decide) (by decide) _, HB5y4.out.put _, HB6y4.out.far HB5y4.out (by decide) _⟩
                obtain ⟨za, hza⟩ : ∃ Y, Y = y4.setRow B5 #[.slice aC k cC, .slice aO (k + 1) cO] := ⟨_, rfl⟩
                rw [← hza] at HXa HMa ⊢
                clear hza
                refine hK.out _ _ (HKS.out _ HXa.out) (fun hHeld => ?_)
                clear hK
                (try simp only [Act.put, List.setIfInBounds_toArray, List.set_cons_zero, List.set_cons_succ])
                refine wpAnyH_ready (rs := [7]) (by kernel_rfl) (by simp) ?_
                refine AllReadyH.cons rfl (fun K hK => ?_) AllReadyH.nil
                rw [if_pos (by rfl)]
                have HXb : Hid (Only (fun _ => False) w3 (za.setRow B6 #[.int .i64 (W1 : Int), .int .i64 (T1 : Int), .int .u8 (M1 : Int), .int .i64 (hy : Int), .int .i64 (pr : Int), .float .f64 lo])) := HXa.out.setRowNew HMa.out.2.2.2 _
                refine wp_store_row 35 _ _ rfl B6 #[.int .i64 (W1 : Int), .int .i64 (T1 : Int), .int .u8 (M1 : Int), .int .i64 (hy : Int), .int .i64 (pr : Int), .float .f64 lo] rfl rfl 35 _ HMa.out.2.2.1 (by kernel_rfl) rfl (cfg_one _ _ _ _ _ _) ?_
                have HMb : Hid (Made (za.setRow B6 #[.int .i64 (W1 : Int), .int .i64 (T1 : Int), .int .u8 (M1 : Int), .int .i64 (hy : Int), .int .i64 (pr : Int), .float .f64 lo]) M nm k aC aO cC cO ∧ Blk w3 (za.setRow B6 #[.int .i64 (W1 : Int), .int .i64 (T1 : Int), .int .u8 (M1 : Int), .int .i64 (hy : Int), .int .i64 (pr : Int), .float .f64 lo]) B5 31 #[.slice aC k cC, .slice aO (k + 1) cO] ∧ Blk w3 (za.setRow B6 #[.int .i64 (W1 : Int), .int .i64 (T1 : Int), .int .u8 (M1 : Int), .int .i64 (hy : Int), .int .i64 (pr : Int), .float .f64 lo]) B6 35 #[.int .i64 (W1 : Int), .int .i64 (T1 : Int), .int .u8 (M1 : Int), .int .i64 (hy : Int), .int .i64 (pr : Int), .float .f64 lo]) := ⟨HMa.out.1.store HMa.out.2.2.1 (by decide) (by decide) _, HMa.out.2.1.far HMa.out.2.2 (by decide) _, HMa.out.2.2.put _⟩
                obtain ⟨zb, hzb⟩ : ∃ Y, Y = za.setRow B6 #[.int .i64 (W1 : Int), .int .i64 (T1 : Int), .int .u8 (M1 : Int), .int .i64 (hy : Int), .int .i64 (pr : Int), .float .f64 lo] := ⟨_, rfl⟩
                rw [← hzb] at HXb HMb ⊢
                clear hzb
                refine hK.out _ _ (HKS.out _ HXb.out) (fun hHeld => ?_)
                clear hK
                (try simp only [Act.put, List.setIfInBounds_toArray, List.set_cons_zero, List.set_cons_succ])
                refine wpAnyH_done (by kernel_rfl) ?_ _
                clear hHeld
                go_wp2_with fail
                go_meet
                exact ⟨k, B5, B6, aC, aO, cC, cO, _, rfl, rfl, rfl, HMb.out.1, HMb.out.2.1, HMb.out.2.2, HXb.out⟩
            · rw [if_pos (by rfl)]
              go_simp
              obtain ⟨y2, hy2⟩ : ∃ Y, Y = y1.alloc (.cells #[.int .i64 0, .int .i64 0, .int .u8 0, .int .i64 0, .int .i64 0, .float .f64 0] 35) := ⟨_, rfl⟩
              obtain ⟨B6, hB6⟩ : ∃ b, b = y1.heap.size := ⟨_, rfl⟩
              have ho : Only (fun _ => False) y1 y2 := by rw [hy2]; exact (Only.refl _ _).alloc _
              have HXy2 : Hid (Only (fun _ => False) w3 y2) := HXy1.out.trans ho
              have HB6y2 : Hid (Blk w3 y2 B6 35 #[.int .i64 0, .int .i64 0, .int .u8 0, .int .i64 0, .int .i64 0, .float .f64 0]) := by rw [hy2, hB6]; exact Blk.made HXy1.out _ _
              have HB5y2 : Hid (Blk w3 y2 B5 31 #[.slice none 0 0, .slice none 0 0]) := HB5y1.out.keep ho
              rw [← hy2, ← hB6]
              clear hy2 hB6 ho
              refine hK.out _ _ (HKS.out _ HXy2.out) (fun hHeld => ?_)
              clear hK
              (try simp only [Act.put, List.setIfInBounds_toArray, List.set_cons_zero, List.set_cons_succ])
              refine wpAnyH_ready (rs := [1]) (by kernel_rfl) (by simp) ?_
              refine AllReadyH.cons rfl (fun K hK => ?_) AllReadyH.nil
              rw [if_pos (by rfl)]
              go_simp
              refine Calls.mono (HPA.out _ (HW3.out.trans HXy2.out)) ?_
              rintro e y3 ⟨k, aC, aO, cC, cO, rfl, hmd, ho⟩
              have HMy3 : Hid (Made y3 M nm k aC aO cC cO) := hmd
              clear hmd
              have HXy3 : Hid (Only (fun _ => False) w3 y3) := HXy2.out.trans ho
              have HB5y3 : Hid (Blk w3 y3 B5 31 #[.slice none 0 0, .slice none 0 0]) := HB5y2.out.keep ho
              have HB6y3 : Hid (Blk w3 y3 B6 35 #[.int .i64 0, .int .i64 0, .int .u8 0, .int .i64 0, .int .i64 0, .float .f64 0]) := HB6y2.out.keep ho
              clear ho
              refine hK.out _ _ (HKS.out _ HXy3.out) (fun hHeld => ?_)
              clear hK
              (try simp only [Act.put, List.setIfInBounds_toArray, List.set_cons_zero, List.set_cons_succ])
              refine wpAnyH_ready (rs := [3]) (by kernel_rfl) (by simp) ?_
              refine AllReadyH.cons rfl (fun K hK => ?_) AllReadyH.nil
              rw [if_pos (by rfl)]
              go_simp
              refine Calls.mono (HCF.out _) ?_
              rintro e y4 ⟨rfl, ho⟩
              have HMy4 : Hid (Made y4 M nm k aC aO cC cO) := HMy3.out.keep ho
              have HXy4 : Hid (Only (fun _ => False) w3 y4) := HXy3.out.trans ho
              have HB5y4 : Hid (Blk w3 y4 B5 31 #[.slice none 0 0, .slice none 0 0]) := HB5y3.out.keep ho
              have HB6y4 : Hid (Blk w3 y4 B6 35 #[.int .i64 0, .int .i64 0, .int .u8 0, .int .i64 0, .int .i64 0, .float .f64 0]) := HB6y3.out.keep ho
              clear ho
              refine hK.out _ _ (HKS.out _ HXy4.out) (fun hHeld => ?_)
              clear hK
              (try simp only [Act.put, List.setIfInBounds_toArray, List.set_cons_zero, List.set_cons_succ])
              refine wpAnyH_ready (rs := [6]) (by kernel_rfl) (by simp) ?_
              refine AllReadyH.cons rfl (fun K hK => ?_) AllReadyH.nil
              rw [if_pos (by rfl)]
              have HXa : Hid (Only (fun _ => False) w3 (y4.setRow B5 #[.slice aC k cC, .slice aO (k + 1) cO])) := HXy4.out.setRowNew HB5y4.out.2 _
              refine wp_store_row 31 _ _ rfl B5 #[.slice aC k cC, .slice aO (k + 1) cO] rfl rfl 31 _ HB5y4.out.1 (by kernel_rfl) rfl (two_one _ _ _ _ _ _) ?_
              have HMa : Hid (Made (y4.setRow B5 #[.slice aC k cC, .slice aO (k + 1) cO]) M nm k aC aO cC cO ∧ Blk w3 (y4.setRow B5 #[.slice aC k cC, .slice aO (k + 1) cO]) B5 31 #[.slice aC k cC, .slice aO (k + 1) cO] ∧ Blk w3 (y4.setRow B5 #[.slice aC k cC, .slice aO (k + 1) cO]) B6 35 #[.int .i64 0, .int .i64 0, .int .u8 0, .int .i64 0, .int .i64 0, .float .f64 0]) := ⟨HMy4.out.store HB5y4.out.1 (by decide) (by decide) _, HB5y4.out.put _, HB6y4.out.far HB5y4.out (by decide) _⟩
              obtain ⟨za, hza⟩ : ∃ Y, Y = y4.setRow B5 #[.slice aC k cC, .slice aO (k + 1) cO] := ⟨_, rfl⟩
              rw [← hza] at HXa HMa ⊢
              clear hza
              refine hK.out _ _ (HKS.out _ HXa.out) (fun hHeld => ?_)
              clear hK
              (try simp only [Act.put, List.setIfInBounds_toArray, List.set_cons_zero, List.set_cons_succ])
              refine wpAnyH_ready (rs := [7]) (by kernel_rfl) (by simp) ?_
              refine AllReadyH.cons rfl (fun K hK => ?_) AllReadyH.nil
              rw [if_pos (by rfl)]
              have HXb : Hid (Only (fun _ => False) w3 (za.setRow B6 #[.int .i64 (W1 : Int), .int .i64 (T1 : Int), .int .u8 (M1 : Int), .int .i64 (hy : Int), .int .i64 (pr : Int), .float .f64 lo])) := HXa.out.setRowNew HMa.out.2.2.2 _
              refine wp_store_row 35 _ _ rfl B6 #[.int .i64 (W1 : Int), .int .i64 (T1 : Int), .int .u8 (M1 : Int), .int .i64 (hy : Int), .int .i64 (pr : Int), .float .f64 lo] rfl rfl 35 _ HMa.out.2.2.1 (by kernel_rfl) rfl (cfg_one _ _ _ _ _ _) ?_
              have HMb : Hid (Made (za.setRow B6 #[.int .i64 (W1 : Int), .int .i64 (T1 : Int), .int .u8 (M1 : Int), .int .i64 (hy : Int), .int .i64 (pr : Int), .float .f64 lo]) M nm k aC aO cC cO ∧ Blk w3 (za.setRow B6 #[.int .i64 (W1 : Int), .int .i64 (T1 : Int), .int .u8 (M1 : Int), .int .i64 (hy : Int), .int .i64 (pr : Int), .float .f64 lo]) B5 31 #[.slice aC k cC, .slice aO (k + 1) cO] ∧ Blk w3 (za.setRow B6 #[.int .i64 (W1 : Int), .int .i64 (T1 : Int), .int .u8 (M1 : Int), .int .i64 (hy : Int), .int .i64 (pr : Int), .float .f64 lo]) B6 35 #[.int .i64 (W1 : Int), .int .i64 (T1 : Int), .int .u8 (M1 : Int), .int .i64 (hy : Int), .int .i64 (pr : Int), .float .f64 lo]) := ⟨HMa.out.1.store HMa.out.2.2.1 (by decide) (by decide) _, HMa.out.2.1.far HMa.out.2.2 (by decide) _, HMa.out.2.2.put _⟩
              obtain ⟨zb, hzb⟩ : ∃ Y, Y = za.setRow B6 #[.int .i64 (W1 : Int), .int .i64 (T1 : Int), .int .u8 (M1 : Int), .int .i64 (hy : Int), .int .i64 (pr : Int), .float .f64 lo] := ⟨_, rfl⟩
              rw [← hzb] at HXb HMb ⊢
              clear hzb
              refine hK.out _ _ (HKS.out _ HXb.out) (fun hHeld => ?_)
              clear hK
              (try simp only [Act.put, List.setIfInBounds_toArray, List.set_cons_zero, List.set_cons_succ])
              refine wpAnyH_done (by kernel_rfl) ?_ _
              clear hHeld
              go_wp2_with fail
              go_meet
              exact ⟨k, B5, B6, aC, aO, cC, cO, _, rfl, rfl, rfl, HMb.out.1, HMb.out.2.1, HMb.out.2.2, HXb.out⟩
          · rw [if_pos (by rfl)]
            go_simp
            obtain ⟨y1, hy1⟩ : ∃ Y, Y = (w3.alloc (.cells #[.int .i64 0, .int .i64 0, .int .u8 0, .int .i64 0, .int .i64 0, .float .f64 0] 35)).drew := ⟨_, rfl⟩
            obtain ⟨B6, hB6⟩ : ∃ b, b = w3.heap.size := ⟨_, rfl⟩
            have ho : Only (fun _ => False) w3 y1 := by rw [hy1]; exact ((Only.refl _ _).alloc _).drew
            have HXy1 : Hid (Only (fun _ => False) w3 y1) := ho
            have HB6y1 : Hid (Blk w3 y1 B6 35 #[.int .i64 0, .int .i64 0, .int .u8 0, .int .i64 0, .int .i64 0, .float .f64 0]) := by rw [hy1, hB6]; exact (Blk.made (Only.refl _ _) _ _).drew
            rw [← hy1, ← hB6]
            clear hy1 hB6 ho
            refine hK.out _ _ (HKS.out _ HXy1.out) (fun hHeld => ?_)
            clear hK
            (try simp only [Act.put, List.setIfInBounds_toArray, List.set_cons_zero, List.set_cons_succ])
            refine wpAnyH_ready (rs := [1, 4]) (by kernel_rfl) (by simp) ?_
            refine AllReadyH.cons rfl (fun K hK => ?_) (AllReadyH.cons rfl (fun K hK => ?_) AllReadyH.nil)
            · rw [if_pos (by rfl)]
              go_simp
              refine Calls.mono (HPA.out _ (HW3.out.trans HXy1.out)) ?_
              rintro e y2 ⟨k, aC, aO, cC, cO, rfl, hmd, ho⟩
              have HMy2 : Hid (Made y2 M nm k aC aO cC cO) := hmd
              clear hmd
              have HXy2 : Hid (Only (fun _ => False) w3 y2) := HXy1.out.trans ho
              have HB6y2 : Hid (Blk w3 y2 B6 35 #[.int .i64 0, .int .i64 0, .int .u8 0, .int .i64 0, .int .i64 0, .float .f64 0]) := HB6y1.out.keep ho
              clear ho
              refine hK.out _ _ (HKS.out _ HXy2.out) (fun hHeld => ?_)
              clear hK
              (try simp only [Act.put, List.setIfInBounds_toArray, List.set_cons_zero, List.set_cons_succ])
              refine wpAnyH_ready (rs := [3, 4]) (by kernel_rfl) (by simp) ?_
              refine AllReadyH.cons rfl (fun K hK => ?_) (AllReadyH.cons rfl (fun K hK => ?_) AllReadyH.nil)
              · rw [if_pos (by rfl)]
                go_simp
                refine Calls.mono (HCF.out _) ?_
                rintro e y3 ⟨rfl, ho⟩
                have HMy3 : Hid (Made y3 M nm k aC aO cC cO) := HMy2.out.keep ho
                have HXy3 : Hid (Only (fun _ => False) w3 y3) := HXy2.out.trans ho
                have HB6y3 : Hid (Blk w3 y3 B6 35 #[.int .i64 0, .int .i64 0, .int .u8 0, .int .i64 0, .int .i64 0, .float .f64 0]) := HB6y2.out.keep ho
                clear ho
                refine hK.out _ _ (HKS.out _ HXy3.out) (fun hHeld => ?_)
                clear hK
                (try simp only [Act.put, List.setIfInBounds_toArray, List.set_cons_zero, List.set_cons_succ])
                refine wpAnyH_ready (rs := [4]) (by kernel_rfl) (by simp) ?_
                refine AllReadyH.cons rfl (fun K hK => ?_) AllReadyH.nil
                rw [if_pos (by rfl)]
                go_simp
                obtain ⟨y4, hy4⟩ : ∃ Y, Y = y3.alloc (.cells #[.slice none 0 0, .slice none 0 0] 31) := ⟨_, rfl⟩
                obtain ⟨B5, hB5⟩ : ∃ b, b = y3.heap.size := ⟨_, rfl⟩
                have ho : Only (fun _ => False) y3 y4 := by rw [hy4]; exact (Only.refl _ _).alloc _
                have HXy4 : Hid (Only (fun _ => False) w3 y4) := HXy3.out.trans ho
                have HB5y4 : Hid (Blk w3 y4 B5 31 #[.slice none 0 0, .slice none 0 0]) := by rw [hy4, hB5]; exact Blk.made HXy3.out _ _
                have HB6y4 : Hid (Blk w3 y4 B6 35 #[.int .i64 0, .int .i64 0, .int .u8 0, .int .i64 0, .int .i64 0, .float .f64 0]) := HB6y3.out.keep ho
                have HMy4 : Hid (Made y4 M nm k aC aO cC cO) := HMy3.out.keep ho
                rw [← hy4, ← hB5]
                clear hy4 hB5 ho
                refine hK.out _ _ (HKS.out _ HXy4.out) (fun hHeld => ?_)
                clear hK
                (try simp only [Act.put, List.setIfInBounds_toArray, List.set_cons_zero, List.set_cons_succ])
                refine wpAnyH_ready (rs := [6]) (by kernel_rfl) (by simp) ?_
                refine AllReadyH.cons rfl (fun K hK => ?_) AllReadyH.nil
                rw [if_pos (by rfl)]
                have HXa : Hid (Only (fun _ => False) w3 (y4.setRow B5 #[.slice aC k cC, .slice aO (k + 1) cO])) := HXy4.out.setRowNew HB5y4.out.2 _
                refine wp_store_row 31 _ _ rfl B5 #[.slice aC k cC, .slice aO (k + 1) cO] rfl rfl 31 _ HB5y4.out.1 (by kernel_rfl) rfl (two_one _ _ _ _ _ _) ?_
                have HMa : Hid (Made (y4.setRow B5 #[.slice aC k cC, .slice aO (k + 1) cO]) M nm k aC aO cC cO ∧ Blk w3 (y4.setRow B5 #[.slice aC k cC, .slice aO (k + 1) cO]) B5 31 #[.slice aC k cC, .slice aO (k + 1) cO] ∧ Blk w3 (y4.setRow B5 #[.slice aC k cC, .slice aO (k + 1) cO]) B6 35 #[.int .i64 0, .int .i64 0, .int .u8 0, .int .i64 0, .int .i64 0, .float .f64 0]) := ⟨HMy4.out.store HB5y4.out.1 (by decide) (by decide) _, HB5y4.out.put _, HB6y4.out.far HB5y4.out (by decide) _⟩
                obtain ⟨za, hza⟩ : ∃ Y, Y = y4.setRow B5 #[.slice aC k cC, .slice aO (k + 1) cO] := ⟨_, rfl⟩
                rw [← hza] at HXa HMa ⊢
                clear hza
                refine hK.out _ _ (HKS.out _ HXa.out) (fun hHeld => ?_)
                clear hK
                (try simp only [Act.put, List.setIfInBounds_toArray, List.set_cons_zero, List.set_cons_succ])
                refine wpAnyH_ready (rs := [7]) (by kernel_rfl) (by simp) ?_
                refine AllReadyH.cons rfl (fun K hK => ?_) AllReadyH.nil
                rw [if_pos (by rfl)]
                have HXb : Hid (Only (fun _ => False) w3 (za.setRow B6 #[.int .i64 (W1 : Int), .int .i64 (T1 : Int), .int .u8 (M1 : Int), .int .i64 (hy : Int), .int .i64 (pr : Int), .float .f64 lo])) := HXa.out.setRowNew HMa.out.2.2.2 _
                refine wp_store_row 35 _ _ rfl B6 #[.int .i64 (W1 : Int), .int .i64 (T1 : Int), .int .u8 (M1 : Int), .int .i64 (hy : Int), .int .i64 (pr : Int), .float .f64 lo] rfl rfl 35 _ HMa.out.2.2.1 (by kernel_rfl) rfl (cfg_one _ _ _ _ _ _) ?_
                have HMb : Hid (Made (za.setRow B6 #[.int .i64 (W1 : Int), .int .i64 (T1 : Int), .int .u8 (M1 : Int), .int .i64 (hy : Int), .int .i64 (pr : Int), .float .f64 lo]) M nm k aC aO cC cO ∧ Blk w3 (za.setRow B6 #[.int .i64 (W1 : Int), .int .i64 (T1 : Int), .int .u8 (M1 : Int), .int .i64 (hy : Int), .int .i64 (pr : Int), .float .f64 lo]) B5 31 #[.slice aC k cC, .slice aO (k + 1) cO] ∧ Blk w3 (za.setRow B6 #[.int .i64 (W1 : Int), .int .i64 (T1 : Int), .int .u8 (M1 : Int), .int .i64 (hy : Int), .int .i64 (pr : Int), .float .f64 lo]) B6 35 #[.int .i64 (W1 : Int), .int .i64 (T1 : Int), .int .u8 (M1 : Int), .int .i64 (hy : Int), .int .i64 (pr : Int), .float .f64 lo]) := ⟨HMa.out.1.store HMa.out.2.2.1 (by decide) (by decide) _, HMa.out.2.1.far HMa.out.2.2 (by decide) _, HMa.out.2.2.put _⟩
                obtain ⟨zb, hzb⟩ : ∃ Y, Y = za.setRow B6 #[.int .i64 (W1 : Int), .int .i64 (T1 : Int), .int .u8 (M1 : Int), .int .i64 (hy : Int), .int .i64 (pr : Int), .float .f64 lo] := ⟨_, rfl⟩
                rw [← hzb] at HXb HMb ⊢
                clear hzb
                refine hK.out _ _ (HKS.out _ HXb.out) (fun hHeld => ?_)
                clear hK
                (try simp only [Act.put, List.setIfInBounds_toArray, List.set_cons_zero, List.set_cons_succ])
                refine wpAnyH_done (by kernel_rfl) ?_ _
                clear hHeld
                go_wp2_with fail
                go_meet
                exact ⟨k, B5, B6, aC, aO, cC, cO, _, rfl, rfl, rfl, HMb.out.1, HMb.out.2.1, HMb.out.2.2, HXb.out⟩
              · rw [if_pos (by rfl)]
                go_simp
                obtain ⟨y3, hy3⟩ : ∃ Y, Y = y2.alloc (.cells #[.slice none 0 0, .slice none 0 0] 31) := ⟨_, rfl⟩
                obtain ⟨B5, hB5⟩ : ∃ b, b = y2.heap.size := ⟨_, rfl⟩
                have ho : Only (fun _ => False) y2 y3 := by rw [hy3]; exact (Only.refl _ _).alloc _
                have HXy3 : Hid (Only (fun _ => False) w3 y3) := HXy2.out.trans ho
                have HB5y3 : Hid (Blk w3 y3 B5 31 #[.slice none 0 0, .slice none 0 0]) := by rw [hy3, hB5]; exact Blk.made HXy2.out _ _
                have HB6y3 : Hid (Blk w3 y3 B6 35 #[.int .i64 0, .int .i64 0, .int .u8 0, .int .i64 0, .int .i64 0, .float .f64 0]) := HB6y2.out.keep ho
                have HMy3 : Hid (Made y3 M nm k aC aO cC cO) := HMy2.out.keep ho
                rw [← hy3, ← hB5]
                clear hy3 hB5 ho
                refine hK.out _ _ (HKS.out _ HXy3.out) (fun hHeld => ?_)
                clear hK
                (try simp only [Act.put, List.setIfInBounds_toArray, List.set_cons_zero, List.set_cons_succ])
                refine wpAnyH_ready (rs := [3]) (by kernel_rfl) (by simp) ?_
                refine AllReadyH.cons rfl (fun K hK => ?_) AllReadyH.nil
                rw [if_pos (by rfl)]
                go_simp
                refine Calls.mono (HCF.out _) ?_
                rintro e y4 ⟨rfl, ho⟩
                have HMy4 : Hid (Made y4 M nm k aC aO cC cO) := HMy3.out.keep ho
                have HXy4 : Hid (Only (fun _ => False) w3 y4) := HXy3.out.trans ho
                have HB5y4 : Hid (Blk w3 y4 B5 31 #[.slice none 0 0, .slice none 0 0]) := HB5y3.out.keep ho
                have HB6y4 : Hid (Blk w3 y4 B6 35 #[.int .i64 0, .int .i64 0, .int .u8 0, .int .i64 0, .int .i64 0, .float .f64 0]) := HB6y3.out.keep ho
                clear ho
                refine hK.out _ _ (HKS.out _ HXy4.out) (fun hHeld => ?_)
                clear hK
                (try simp only [Act.put, List.setIfInBounds_toArray, List.set_cons_zero, List.set_cons_succ])
                refine wpAnyH_ready (rs := [6]) (by kernel_rfl) (by simp) ?_
                refine AllReadyH.cons rfl (fun K hK => ?_) AllReadyH.nil
                rw [if_pos (by rfl)]
                have HXa : Hid (Only (fun _ => False) w3 (y4.setRow B5 #[.slice aC k cC, .slice aO (k + 1) cO])) := HXy4.out.setRowNew HB5y4.out.2 _
                refine wp_store_row 31 _ _ rfl B5 #[.slice aC k cC, .slice aO (k + 1) cO] rfl rfl 31 _ HB5y4.out.1 (by kernel_rfl) rfl (two_one _ _ _ _ _ _) ?_
                have HMa : Hid (Made (y4.setRow B5 #[.slice aC k cC, .slice aO (k + 1) cO]) M nm k aC aO cC cO ∧ Blk w3 (y4.setRow B5 #[.slice aC k cC, .slice aO (k + 1) cO]) B5 31 #[.slice aC k cC, .slice aO (k + 1) cO] ∧ Blk w3 (y4.setRow B5 #[.slice aC k cC, .slice aO (k + 1) cO]) B6 35 #[.int .i64 0, .int .i64 0, .int .u8 0, .int .i64 0, .int .i64 0, .float .f64 0]) := ⟨HMy4.out.store HB5y4.out.1 (by decide) (by decide) _, HB5y4.out.put _, HB6y4.out.far HB5y4.out (by decide) _⟩
                obtain ⟨za, hza⟩ : ∃ Y, Y = y4.setRow B5 #[.slice aC k cC, .slice aO (k + 1) cO] := ⟨_, rfl⟩
                rw [← hza] at HXa HMa ⊢
                clear hza
                refine hK.out _ _ (HKS.out _ HXa.out) (fun hHeld => ?_)
                clear hK
                (try simp only [Act.put, List.setIfInBounds_toArray, List.set_cons_zero, List.set_cons_succ])
                refine wpAnyH_ready (rs := [7]) (by kernel_rfl) (by simp) ?_
                refine AllReadyH.cons rfl (fun K hK => ?_) AllReadyH.nil
                rw [if_pos (by rfl)]
                have HXb : Hid (Only (fun _ => False) w3 (za.setRow B6 #[.int .i64 (W1 : Int), .int .i64 (T1 : Int), .int .u8 (M1 : Int), .int .i64 (hy : Int), .int .i64 (pr : Int), .float .f64 lo])) := HXa.out.setRowNew HMa.out.2.2.2 _
                refine wp_store_row 35 _ _ rfl B6 #[.int .i64 (W1 : Int), .int .i64 (T1 : Int), .int .u8 (M1 : Int), .int .i64 (hy : Int), .int .i64 (pr : Int), .float .f64 lo] rfl rfl 35 _ HMa.out.2.2.1 (by kernel_rfl) rfl (cfg_one _ _ _ _ _ _) ?_
                have HMb : Hid (Made (za.setRow B6 #[.int .i64 (W1 : Int), .int .i64 (T1 : Int), .int .u8 (M1 : Int), .int .i64 (hy : Int), .int .i64 (pr : Int), .float .f64 lo]) M nm k aC aO cC cO ∧ Blk w3 (za.setRow B6 #[.int .i64 (W1 : Int), .int .i64 (T1 : Int), .int .u8 (M1 : Int), .int .i64 (hy : Int), .int .i64 (pr : Int), .float .f64 lo]) B5 31 #[.slice aC k cC, .slice aO (k + 1) cO] ∧ Blk w3 (za.setRow B6 #[.int .i64 (W1 : Int), .int .i64 (T1 : Int), .int .u8 (M1 : Int), .int .i64 (hy : Int), .int .i64 (pr : Int), .float .f64 lo]) B6 35 #[.int .i64 (W1 : Int), .int .i64 (T1 : Int), .int .u8 (M1 : Int), .int .i64 (hy : Int), .int .i64 (pr : Int), .float .f64 lo]) := ⟨HMa.out.1.store HMa.out.2.2.1 (by decide) (by decide) _, HMa.out.2.1.far HMa.out.2.2 (by decide) _, HMa.out.2.2.put _⟩
                obtain ⟨zb, hzb⟩ : ∃ Y, Y = za.setRow B6 #[.int .i64 (W1 : Int), .int .i64 (T1 : Int), .int .u8 (M1 : Int), .int .i64 (hy : Int), .int .i64 (pr : Int), .float .f64 lo] := ⟨_, rfl⟩
                rw [← hzb] at HXb HMb ⊢
                clear hzb
                refine hK.out _ _ (HKS.out _ HXb.out) (fun hHeld => ?_)
                clear hK
                (try simp only [Act.put, List.setIfInBounds_toArray, List.set_cons_zero, List.set_cons_succ])
                refine wpAnyH_done (by kernel_rfl) ?_ _
                clear hHeld
                go_wp2_with fail
                go_meet
                exact ⟨k, B5, B6, aC, aO, cC, cO, _, rfl, rfl, rfl, HMb.out.1, HMb.out.2.1, HMb.out.2.2, HXb.out⟩
            · rw [if_pos (by rfl)]
              go_simp
              obtain ⟨y2, hy2⟩ : ∃ Y, Y = y1.alloc (.cells #[.slice none 0 0, .slice none 0 0] 31) := ⟨_, rfl⟩
              obtain ⟨B5, hB5⟩ : ∃ b, b = y1.heap.size := ⟨_, rfl⟩
              have ho : Only (fun _ => False) y1 y2 := by rw [hy2]; exact (Only.refl _ _).alloc _
              have HXy2 : Hid (Only (fun _ => False) w3 y2) := HXy1.out.trans ho
              have HB5y2 : Hid (Blk w3 y2 B5 31 #[.slice none 0 0, .slice none 0 0]) := by rw [hy2, hB5]; exact Blk.made HXy1.out _ _
              have HB6y2 : Hid (Blk w3 y2 B6 35 #[.int .i64 0, .int .i64 0, .int .u8 0, .int .i64 0, .int .i64 0, .float .f64 0]) := HB6y1.out.keep ho
              rw [← hy2, ← hB5]
              clear hy2 hB5 ho
              refine hK.out _ _ (HKS.out _ HXy2.out) (fun hHeld => ?_)
              clear hK
              (try simp only [Act.put, List.setIfInBounds_toArray, List.set_cons_zero, List.set_cons_succ])
              refine wpAnyH_ready (rs := [1]) (by kernel_rfl) (by simp) ?_
              refine AllReadyH.cons rfl (fun K hK => ?_) AllReadyH.nil
              rw [if_pos (by rfl)]
              go_simp
              refine Calls.mono (HPA.out _ (HW3.out.trans HXy2.out)) ?_
              rintro e y3 ⟨k, aC, aO, cC, cO, rfl, hmd, ho⟩
              have HMy3 : Hid (Made y3 M nm k aC aO cC cO) := hmd
              clear hmd
              have HXy3 : Hid (Only (fun _ => False) w3 y3) := HXy2.out.trans ho
              have HB5y3 : Hid (Blk w3 y3 B5 31 #[.slice none 0 0, .slice none 0 0]) := HB5y2.out.keep ho
              have HB6y3 : Hid (Blk w3 y3 B6 35 #[.int .i64 0, .int .i64 0, .int .u8 0, .int .i64 0, .int .i64 0, .float .f64 0]) := HB6y2.out.keep ho
              clear ho
              refine hK.out _ _ (HKS.out _ HXy3.out) (fun hHeld => ?_)
              clear hK
              (try simp only [Act.put, List.setIfInBounds_toArray, List.set_cons_zero, List.set_cons_succ])
              refine wpAnyH_ready (rs := [3]) (by kernel_rfl) (by simp) ?_
              refine AllReadyH.cons rfl (fun K hK => ?_) AllReadyH.nil
              rw [if_pos (by rfl)]
              go_simp
              refine Calls.mono (HCF.out _) ?_
              rintro e y4 ⟨rfl, ho⟩
              have HMy4 : Hid (Made y4 M nm k aC aO cC cO) := HMy3.out.keep ho
              have HXy4 : Hid (Only (fun _ => False) w3 y4) := HXy3.out.trans ho
              have HB5y4 : Hid (Blk w3 y4 B5 31 #[.slice none 0 0, .slice none 0 0]) := HB5y3.out.keep ho
              have HB6y4 : Hid (Blk w3 y4 B6 35 #[.int .i64 0, .int .i64 0, .int .u8 0, .int .i64 0, .int .i64 0, .float .f64 0]) := HB6y3.out.keep ho
              clear ho
              refine hK.out _ _ (HKS.out _ HXy4.out) (fun hHeld => ?_)
              clear hK
              (try simp only [Act.put, List.setIfInBounds_toArray, List.set_cons_zero, List.set_cons_succ])
              refine wpAnyH_ready (rs := [6]) (by kernel_rfl) (by simp) ?_
              refine AllReadyH.cons rfl (fun K hK => ?_) AllReadyH.nil
              rw [if_pos (by rfl)]
              have HXa : Hid (Only (fun _ => False) w3 (y4.setRow B5 #[.slice aC k cC, .slice aO (k + 1) cO])) := HXy4.out.setRowNew HB5y4.out.2 _
              refine wp_store_row 31 _ _ rfl B5 #[.slice aC k cC, .slice aO (k + 1) cO] rfl rfl 31 _ HB5y4.out.1 (by kernel_rfl) rfl (two_one _ _ _ _ _ _) ?_
              have HMa : Hid (Made (y4.setRow B5 #[.slice aC k cC, .slice aO (k + 1) cO]) M nm k aC aO cC cO ∧ Blk w3 (y4.setRow B5 #[.slice aC k cC, .slice aO (k + 1) cO]) B5 31 #[.slice aC k cC, .slice aO (k + 1) cO] ∧ Blk w3 (y4.setRow B5 #[.slice aC k cC, .slice aO (k + 1) cO]) B6 35 #[.int .i64 0, .int .i64 0, .int .u8 0, .int .i64 0, .int .i64 0, .float .f64 0]) := ⟨HMy4.out.store HB5y4.out.1 (by decide) (by decide) _, HB5y4.out.put _, HB6y4.out.far HB5y4.out (by decide) _⟩
              obtain ⟨za, hza⟩ : ∃ Y, Y = y4.setRow B5 #[.slice aC k cC, .slice aO (k + 1) cO] := ⟨_, rfl⟩
              rw [← hza] at HXa HMa ⊢
              clear hza
              refine hK.out _ _ (HKS.out _ HXa.out) (fun hHeld => ?_)
              clear hK
              (try simp only [Act.put, List.setIfInBounds_toArray, List.set_cons_zero, List.set_cons_succ])
              refine wpAnyH_ready (rs := [7]) (by kernel_rfl) (by simp) ?_
              refine AllReadyH.cons rfl (fun K hK => ?_) AllReadyH.nil
              rw [if_pos (by rfl)]
              have HXb : Hid (Only (fun _ => False) w3 (za.setRow B6 #[.int .i64 (W1 : Int), .int .i64 (T1 : Int), .int .u8 (M1 : Int), .int .i64 (hy : Int), .int .i64 (pr : Int), .float .f64 lo])) := HXa.out.setRowNew HMa.out.2.2.2 _
              refine wp_store_row 35 _ _ rfl B6 #[.int .i64 (W1 : Int), .int .i64 (T1 : Int), .int .u8 (M1 : Int), .int .i64 (hy : Int), .int .i64 (pr : Int), .float .f64 lo] rfl rfl 35 _ HMa.out.2.2.1 (by kernel_rfl) rfl (cfg_one _ _ _ _ _ _) ?_
              have HMb : Hid (Made (za.setRow B6 #[.int .i64 (W1 : Int), .int .i64 (T1 : Int), .int .u8 (M1 : Int), .int .i64 (hy : Int), .int .i64 (pr : Int), .float .f64 lo]) M nm k aC aO cC cO ∧ Blk w3 (za.setRow B6 #[.int .i64 (W1 : Int), .int .i64 (T1 : Int), .int .u8 (M1 : Int), .int .i64 (hy : Int), .int .i64 (pr : Int), .float .f64 lo]) B5 31 #[.slice aC k cC, .slice aO (k + 1) cO] ∧ Blk w3 (za.setRow B6 #[.int .i64 (W1 : Int), .int .i64 (T1 : Int), .int .u8 (M1 : Int), .int .i64 (hy : Int), .int .i64 (pr : Int), .float .f64 lo]) B6 35 #[.int .i64 (W1 : Int), .int .i64 (T1 : Int), .int .u8 (M1 : Int), .int .i64 (hy : Int), .int .i64 (pr : Int), .float .f64 lo]) := ⟨HMa.out.1.store HMa.out.2.2.1 (by decide) (by decide) _, HMa.out.2.1.far HMa.out.2.2 (by decide) _, HMa.out.2.2.put _⟩
              obtain ⟨zb, hzb⟩ : ∃ Y, Y = za.setRow B6 #[.int .i64 (W1 : Int), .int .i64 (T1 : Int), .int .u8 (M1 : Int), .int .i64 (hy : Int), .int .i64 (pr : Int), .float .f64 lo] := ⟨_, rfl⟩
              rw [← hzb] at HXb HMb ⊢
              clear hzb
              refine hK.out _ _ (HKS.out _ HXb.out) (fun hHeld => ?_)
              clear hK
              (try simp only [Act.put, List.setIfInBounds_toArray, List.set_cons_zero, List.set_cons_succ])
              refine wpAnyH_done (by kernel_rfl) ?_ _
              clear hHeld
              go_wp2_with fail
              go_meet
              exact ⟨k, B5, B6, aC, aO, cC, cO, _, rfl, rfl, rfl, HMb.out.1, HMb.out.2.1, HMb.out.2.2, HXb.out⟩
        case rest =>
          obtain ⟨k, B5, B6, aC, aO, cC, cO, X, hX, rfl, rfl, hmd, hb5, hb6, hoX⟩ := hcut
          subst hX
          obtain ⟨C, hC⟩ : ∃ x, x = Pa.cts (M.take k) 0 := ⟨_, rfl⟩
          obtain ⟨O, hO⟩ : ∃ x, x = Pa.ops M k ++ [2] := ⟨_, rfl⟩
          have HMD : Hid (Made X M nm k aC aO cC cO ∧ C = Pa.cts (M.take k) 0 ∧ O = Pa.ops M k ++ [2]) := ⟨hmd, hC, hO⟩
          have HPv : Hid (∀ W', Only (fun _ => False) X W' → Pv W' C O k (k + 1) aC aO cC cO) := fun W' ho => by rw [hC, hO]; exact (hmd.pv (by omega) HML.out).keep ho
          have HO4 : Hid (∀ x ∈ O, x < 4) := by rw [hO]; exact ops_lt M k
          have HOL : Hid (O.length = k + 1 ∧ O.getD k 0 = 2) := by rw [hO]; exact ⟨by rw [List.length_append, Pa.ops_len]; rfl, ops_end M k⟩
          have hk0 : k ≤ nm := hmd.le
          have HPC : Hid (∀ W', Only (fun _ => False) X W' → (W'.cell? ⟨B5, 0, none⟩ = some (.slice aC k cC) ∧ W'.cell? ⟨B5, 1, none⟩ = some (.slice aO (k + 1) cO)) ∧ (W'.cell? ⟨B6, 0, none⟩ = some (.int .i64 (W1 : Int)) ∧ W'.cell? ⟨B6, 1, none⟩ = some (.int .i64 (T1 : Int)) ∧ W'.cell? ⟨B6, 2, none⟩ = some (.int .u8 (M1 : Int)) ∧ W'.cell? ⟨B6, 3, none⟩ = some (.int .i64 (hy : Int)) ∧ W'.cell? ⟨B6, 4, none⟩ = some (.int .i64 (pr : Int)) ∧ W'.cell? ⟨B6, 5, none⟩ = some (.float .f64 lo))) := fun W' ho => ⟨⟨(blk_two (blk_keep ho hb5.1)).1, (blk_two (blk_keep ho hb5.1)).2.1⟩, blk_six (blk_keep ho hb6.1)⟩
          have HLT : Hid (∀ W', Only (fun _ => False) X W' → B5 < W'.heap.size ∧ B6 < W'.heap.size) := fun W' ho => ⟨(Array.getElem?_eq_some_iff.1 (blk_keep ho hb5.1)).1, (Array.getElem?_eq_some_iff.1 (blk_keep ho hb6.1)).1⟩
          have HWX : Hid (Only (fun _ => False) w X ∧ Blk w3 X B6 35 #[.int .i64 (W1 : Int), .int .i64 (T1 : Int), .int .u8 (M1 : Int), .int .i64 (hy : Int), .int .i64 (pr : Int), .float .f64 lo]) := ⟨HW3.out.trans hoX, hb6⟩
          clear hmd hC hO hb5 hb6 hoX
          have HBK : Hid (∀ W', Only (fun _ => False) X W' → Calls Try.prog 14 #[.agg #[.slice aC k cC, .slice aO (k + 1) cO], .int .i64 0, .int .i64 (k : Int), .agg #[.int .i64 (W1 : Int), .int .i64 (T1 : Int), .int .u8 (M1 : Int), .int .i64 (hy : Int), .int .i64 (pr : Int), .float .f64 lo]] W' fun e w' => ∃ (E : List Nat) (al : Option Addr) (nl cl : Nat) (okb : Bool), e = .returned (.tuple #[.slice al nl cl, .bool okb]) ∧ nl = E.length ∧ nl ≤ k ∧ Vw w' al (lnC (mkL C O T1 0 E)) ∧ ((okb = true ∧ ∃ s, Ds.Best (bsF C O T1 W1 hy pr lo k) k 0 E s) ∨ (okb = false ∧ E = [] ∧ Ds.No (bsF C O T1 W1 hy pr lo k) k 0)) ∧ Only (fun _ => False) W' w') := fun W' ho => (bbreak_any C O k (k + 1) aC aO cC cO 0 k W1 T1 M1 hy pr lo W' (HPv.out W' ho) (by omega) (by omega) (by omega) (by omega) ht0 (by omega) (by omega) (by omega)).mono (by
            rintro e w' (⟨E, s, al, n, c, hB, hn, he, hown, ho⟩ | ⟨hN, he, ho⟩)
            · exact ⟨E, al, n, c, true, he, hn, by have := hB.row.length; omega, own_vw hown, Or.inl ⟨rfl, s, hB⟩, ho⟩
            · exact ⟨[], none, 0, 0, false, he, rfl, Nat.zero_le _, Vw.nil _ _, Or.inr ⟨rfl, rfl, hN⟩, ho⟩)
          have HAL : Hid (∀ W' (E : List Nat) (ne : Nat) (aE : Option Addr) (cE : Nat), Only (fun _ => False) X W' → ne = E.length → Ds.Row k 0 E → Vw W' aE (natI E) → Calls Try.prog 19 #[.agg #[.slice aC k cC, .slice aO (k + 1) cO], .slice aE ne cE, .agg #[.int .i64 (W1 : Int), .int .i64 (T1 : Int), .int .u8 (M1 : Int), .int .i64 (hy : Int), .int .i64 (pr : Int), .float .f64 lo]] W' fun e w' => e = .returned (Sp.cosV (Ds.cst (bsF C O T1 W1 hy pr lo k) 0 E)) ∧ Only (fun _ => False) W' w') := fun W' E ne aE cE ho hne hE hV => all_any C O k (k + 1) aC aO cC cO k W1 T1 M1 hy pr lo ne cE aE E W' (HPv.out W' ho) (by omega) (by omega) (by omega) ht0 (by omega) (by omega) (by omega) hne hE hV
          obtain ⟨f, hf⟩ : ∃ f, f = bsF C O T1 W1 hy pr lo k := ⟨_, rfl⟩
          rw [← hf] at HBK HAL
          have HFM : Hid (∀ i j y, f i j = some y → y ≤ 200000000) := fun i j y h => by rw [hf] at h; exact (cos_le (by omega) (by omega) h).1
          clear hf
          have hk10 : k ≤ 10 := by omega
          obtain ⟨⟨r0, r1⟩, k0, k1, k2, k3, k4, k5⟩ := HPC.out X (Only.refl _ _)
          obtain ⟨l5, l6⟩ := HLT.out X (Only.refl _ _)
          by_cases hk1 : k = 0
          · have z1 : ((k : Int) == 0) = true := by rw [beq_iff_eq]; omega
            go_wp2_with fail
            go_ret
            exact ⟨rfl, HWX.out.1⟩
          · have z1 : ((k : Int) == 0) = false := by rw [beq_eq_false_iff_ne]; omega
            have hkp : 0 < k := by omega
            clear hk1
            go_wp2_with fail
            refine Calls.mono (HBK.out _ (Only.refl _ _)) ?_
            rintro e w5 ⟨E, al, nl, cl, okb, rfl, hnl, hnk, hVl, hBE, ho5⟩
            have H5 : Hid (nl = E.length ∧ Vw w5 al (lnC (mkL C O T1 0 E)) ∧ ((okb = true ∧ ∃ s, Ds.Best f k 0 E s) ∨ (okb = false ∧ E = [] ∧ Ds.No f k 0)) ∧ Only (fun _ => False) X w5) := ⟨hnl, hVl, hBE, ho5⟩
            clear hnl hVl hBE ho5 r0 r1 k0 k1 k2 k3 k4 k5 l5 l6
            go_wp2_with fail
            have hX5 := H5.out.2.2.2.size
            go_loopg [11, 61] nl (fun gh v11 v61 wr => ∃ (i : Nat) (ao : Option Addr) (co : Nat) (W : World), W = wr ∧ gh = nl - i ∧ i ≤ nl ∧ v11 = .slice ao i co ∧ v61 = .int .i64 (i : Int) ∧ W.ownsRow w5.heap.size 3 1 (.slice ao i co) i (natI (E.take i)) ∧ Only (fun g => w5.heap.size ≤ g) w5 W)
            case atStart => exact ⟨0, none, 0, _, rfl, rfl, Nat.zero_le _, rfl, rfl, ⟨rfl, Or.inl ⟨rfl, rfl⟩⟩, Only.refl _ _⟩
            case round =>
              obtain ⟨i, ao, co, W, hW, rfl, hi, rfl, rfl, hown, hoW⟩ := hrel
              subst hW
              have HG : Hid (W.ownsRow w5.heap.size 3 1 (.slice ao i co) i (natI (E.take i)) ∧ Only (fun g => w5.heap.size ≤ g) w5 W ∧ Only (fun _ => False) w5 W) := ⟨hown, hoW, hoW.old (fun b hb => Or.inl hb)⟩
              clear hown hoW
              by_cases hlt : i < nl
              · have t1 : (i : Int) < (nl : Int) := by omega
                have hid : i < E.length := by rw [← H5.out.1]; exact hlt
                obtain ⟨x, hx⟩ : ∃ x, E[i]? = some x := ⟨_, List.getElem?_eq_getElem hid⟩
                obtain ⟨l, hl, hlx⟩ : ∃ l : Ln, (mkL C O T1 0 E)[i]? = some l ∧ l.b = x := mkL_to hx
                obtain ⟨g, off, rfl, hg, d0, d1, d2, d3⟩ := (H5.out.2.1.keep HG.out.2.2).line hl
                obtain ⟨la, lb, lw, le⟩ := l
                simp only at d0 d1 d2 d3 hlx
                subst hlx
                have hxl : lb ≤ 10 := by
                  rcases H5.out.2.2.1 with ⟨_, s, hB⟩ | ⟨_, hB, _⟩
                  · have := (Ds.Row.at hB.row hx).2.1; omega
                  · rw [hB] at hx; simp at hx
                have HT : Hid (E.take (i + 1) = E.take i ++ [lb]) := by
                  rw [List.take_add_one, hx]; exact rfl
                clear hx hl hid
                go_upto_region 19 with fail
                obtain ⟨Y1, hY1⟩ : ∃ Y, Y = W.alloc (.cells #[.int .i64 (la : Int), .int .i64 (lb : Int), .int .i64 (lw : Int), .int .u8 (le : Int)] 52) := ⟨_, rfl⟩
                obtain ⟨Lb, hLb⟩ : ∃ x, x = W.heap.size := ⟨_, rfl⟩
                have HY1 : Hid (Y1.ownsRow w5.heap.size 3 1 (.slice ao i co) i (natI (E.take i)) ∧ Only (fun g => w5.heap.size ≤ g) w5 Y1 ∧ Y1.heap[Lb]? = some (.cells #[.int .i64 (la : Int), .int .i64 (lb : Int), .int .i64 (lw : Int), .int .u8 (le : Int)] 52 (0, 0))) := by rw [hY1, hLb]; exact ⟨HG.out.1.alloc _, HG.out.2.1.alloc _, heap_alloc_new _ _⟩
                rw [← hY1, ← hLb]
                clear hY1 hLb d0 d1 d2 d3 hg
                obtain ⟨-, d1, -, -⟩ := blk_four HY1.out.2.2
                have lL : Lb < Y1.heap.size := (Array.getElem?_eq_some_iff.1 HY1.out.2.2).1
                have hsz : w5.heap.size ≤ Y1.heap.size := HY1.out.2.1.size
                go_wp2_with (first | (refine wpList_app1 rfl (.tmp 65) (.tmp 68) rfl w5.heap.size ao i co (E.take i) rfl (HY1.out.1.alloc _) Y1.heap.size 1 lb rfl (heap_alloc_new Y1 _) (by omega) (by rw [size_alloc1]; omega) ?_; intro g1 cap1 y3 hown1 ho3; have H3 : Hid (y3.ownsRow w5.heap.size 3 1 (.slice (some ⟨g1, 0, none⟩) (i + 1) cap1) (i + 1) (natI (E.take (i + 1))) ∧ Only (fun g => w5.heap.size ≤ g) w5 y3) := ⟨by rw [HT.out]; exact hown1, app1_only (HY1.out.1.alloc _) ho3 (HY1.out.2.1.alloc _)⟩; clear hown1 ho3) | fail)
                go_roundg (nl - (i + 1))
                case measure => omega
                case rel => exact ⟨i + 1, _, _, _, rfl, rfl, by omega, rfl, by go_num, H3.out.1, H3.out.2⟩
              · have t1 : decide ((i : Int) < (nl : Int)) = false := decide_eq_false (by omega)
                have hie : i = nl := by omega
                subst hie
                have HO : Hid (Vw W ao (natI E) ∧ Only (fun _ => False) X W) := ⟨by
                  have h := own_vw HG.out.1
                  rw [List.take_of_length_le (by rw [← H5.out.1]; exact Nat.le_refl _)] at h
                  exact h, H5.out.2.2.2.trans HG.out.2.2⟩
                obtain ⟨kd, hkd⟩ : ∃ x, x = k - 1 := ⟨_, rfl⟩
                have e1 : (k : Int) - 1 = (kd : Int) := by omega
                obtain ⟨P2, hP2⟩ : ∃ x, x = 2 ^ (k - 1) := ⟨_, rfl⟩
                have HP2 : Hid (P2 = 2 ^ (k - 1) ∧ P2 = 2 ^ kd) := ⟨hP2, by rw [hP2, hkd]⟩
                have hP2l : P2 ≤ 512 := by rw [hP2]; exact Nat.pow_le_pow_right (by decide) (show k - 1 ≤ 9 by omega)
                have hkd9 : kd ≤ 9 := by omega
                have hkd1 : kd + 1 ≤ k := by omega
                have hkd2 : k ≤ kd + 1 := by omega
                have e3 : ∀ x : Nat, x = kd → wrap64 (2 ^ x) = (P2 : Int) := fun x hx => by rw [hx, HP2.out.2]; exact pow_wrap kd hkd9
                clear hkd hP2
                go_wp2_with fail
                go_loopg [14, 15, 16, 17] P2 (fun gh v14 v15 v16 v17 wr => ∃ (q s nf : Nat) (is : Bool) (F : List Nat) (af : Option Addr) (cf : Nat) (V : World), V = wr ∧ gh = P2 - q ∧ q ≤ P2 ∧ v14 = .int .i64 (s : Int) ∧ v15 = .bool is ∧ v16 = .slice af nf cf ∧ v17 = .int .i64 (q : Int) ∧ nf = F.length ∧ Ds.Mi f k q is s F ∧ Vw V af (natI F) ∧ Only (fun _ => False) W V)
                case atStart => exact ⟨0, 0, 0, false, [], none, 0, _, rfl, rfl, Nat.zero_le _, rfl, rfl, rfl, rfl, rfl, Ds.Mi.start f k, Vw.nil _ _, Only.refl _ _⟩
                case round =>
                  obtain ⟨q, s, nf, is, F, af, cf, V, hV, rfl, hq, rfl, rfl, rfl, rfl, hnf, hmi, hVF, hoV⟩ := hrel
                  subst hV
                  have HM : Hid (nf = F.length ∧ Ds.Mi f k q is s F ∧ Vw V af (natI F) ∧ Only (fun _ => False) W V ∧ Only (fun _ => False) X V) := ⟨hnf, hmi, hVF, hoV, HO.out.2.trans hoV⟩
                  have hnfl : nf ≤ 10 := by rw [hnf]; have := hmi.len hkp; omega
                  clear hnf hmi hVF hoV
                  by_cases hqp : q < P2
                  · have t2 : (q : Int) < (P2 : Int) := by omega
                    go_wp2_with fail
                    have hVs := HM.out.2.2.2.1.size
                    go_loopg [18, 19] (k - 1) (fun gh v18 v19 wr => ∃ (j ne : Nat) (ae : Option Addr) (ce : Nat) (U : World), U = wr ∧ gh = k - 1 - j ∧ j + 1 ≤ k ∧ v18 = .slice ae ne ce ∧ v19 = .int .i64 ((j + 1 : Nat) : Int) ∧ ne = (Ds.up q j).length ∧ U.ownsRow V.heap.size 3 1 (.slice ae ne ce) ne (natI (Ds.up q j)) ∧ Only (fun g => V.heap.size ≤ g) V U)
                    case atStart => exact ⟨0, 0, none, 0, _, rfl, rfl, by omega, rfl, rfl, rfl, ⟨rfl, Or.inl ⟨rfl, rfl⟩⟩, Only.refl _ _⟩
                    case round =>
                      obtain ⟨j, ne, ae, ce, U, hU, rfl, hj, rfl, rfl, hne, hown, hoU⟩ := hrel
                      subst hU
                      have HU : Hid (ne = (Ds.up q j).length ∧ U.ownsRow V.heap.size 3 1 (.slice ae ne ce) ne (natI (Ds.up q j)) ∧ Only (fun g => V.heap.size ≤ g) V U ∧ Only (fun _ => False) V U) := ⟨hne, hown, hoU, hoU.old (fun b hb => Or.inl hb)⟩
                      have hnel : ne ≤ 10 := by rw [hne]; have := Ds.up_len q j; omega
                      have hszU : V.heap.size ≤ U.heap.size := hoU.size
                      clear hne hown hoU
                      obtain ⟨i2, hi2⟩ : ∃ x, x = j + 1 := ⟨_, rfl⟩
                      rw [← hi2]
                      have e4 : (i2 : Int) - 1 = (j : Int) := by omega
                      have HI2 : Hid (i2 = j + 1) := hi2
                      have hi2a : j + 1 ≤ i2 := by omega
                      have hi2b : i2 ≤ j + 1 := by omega
                      clear hi2
                      by_cases hjk : i2 < k
                      · have t3 : (i2 : Int) < (k : Int) := by omega
                        by_cases hbit : q / 2 ^ j % 2 = 1
                        · have e5 : ∀ x : Nat, x = j → (bits .and .i64 ((q : Int) / 2 ^ x) 1 == 1) = true := fun x hx => by rw [hx, and64 q j (by omega), decide_eq_true hbit]
                          have HUP : Hid (Ds.up q i2 = Ds.up q j ++ [i2]) := by rw [HI2.out]; exact Ds.up_yes hbit
                          clear hbit
                          go_wp2_with (first | (refine wpList_app1 rfl (.tmp 89) (.tmp 91) rfl V.heap.size ae ne ce (Ds.up q j) rfl (HU.out.2.1.alloc _) U.heap.size 1 i2 rfl (heap_alloc_new U _) (by omega) (by rw [size_alloc1]; omega) ?_; intro g1 cap1 y3 hown1 ho3; have H3 : Hid (y3.ownsRow V.heap.size 3 1 (.slice (some ⟨g1, 0, none⟩) (ne + 1) cap1) (ne + 1) (natI (Ds.up q i2)) ∧ Only (fun g => V.heap.size ≤ g) V y3) := ⟨by rw [HUP.out]; exact hown1, app1_only (HU.out.2.1.alloc _) ho3 (HU.out.2.2.1.alloc _)⟩; clear hown1 ho3) | fail)
                          go_roundg (k - 1 - i2)
                          case measure => omega
                          case rel => exact ⟨i2, ne + 1, _, _, _, rfl, rfl, by omega, rfl, by go_num, by rw [HUP.out, List.length_append, ← HU.out.1]; rfl, H3.out.1, H3.out.2⟩
                        · have e5 : ∀ x : Nat, x = j → (bits .and .i64 ((q : Int) / 2 ^ x) 1 == 1) = false := fun x hx => by rw [hx, and64 q j (by omega), decide_eq_false hbit]
                          have HUP : Hid (Ds.up q i2 = Ds.up q j) := by rw [HI2.out]; exact Ds.up_no hbit
                          clear hbit
                          go_wp2_with fail
                          go_roundg (k - 1 - i2)
                          case measure => omega
                          case rel => exact ⟨i2, ne, _, _, _, rfl, rfl, by omega, rfl, by go_num, by rw [HUP.out]; exact HU.out.1, by rw [HUP.out]; exact HU.out.2.1, HU.out.2.2.1⟩
                      · have t3 : decide ((i2 : Int) < (k : Int)) = false := decide_eq_false (by omega)
                        have HEN : Hid (Ds.ens k q = Ds.up q j ++ [k]) := by unfold Ds.ens; rw [show k - 1 = j by omega]; exact rfl
                        go_upto_region 33 with (first | (refine wpList_app1 rfl (.tmp 93) (.tmp 95) rfl V.heap.size ae ne ce (Ds.up q j) rfl (HU.out.2.1.alloc _) U.heap.size 1 k rfl (heap_alloc_new U _) (by omega) (by rw [size_alloc1]; omega) ?_; intro g1 cap1 y3 hown1 ho3; have H3 : Hid (y3.ownsRow V.heap.size 3 1 (.slice (some ⟨g1, 0, none⟩) (ne + 1) cap1) (ne + 1) (natI (Ds.ens k q)) ∧ Only (fun g => V.heap.size ≤ g) V y3) := ⟨by rw [HEN.out]; exact hown1, app1_only (HU.out.2.1.alloc _) ho3 (HU.out.2.2.1.alloc _)⟩; clear hown1 ho3) | fail)
                        have HL3 : Hid (ne + 1 = (Ds.ens k q).length ∧ Only (fun _ => False) V y3 ∧ Vw y3 (some ⟨g1, 0, none⟩) (natI (Ds.ens k q))) := ⟨by rw [HEN.out, List.length_append, ← HU.out.1]; exact rfl, H3.out.2.old (fun b hb => Or.inl hb), own_vw H3.out.1⟩
                        obtain ⟨⟨r0, r1⟩, k0, k1, k2, k3, k4, k5⟩ := HPC.out y3 (HM.out.2.2.2.2.trans HL3.out.2.1)
                        obtain ⟨l5, l6⟩ := HLT.out y3 (HM.out.2.2.2.2.trans HL3.out.2.1)
                        obtain ⟨v, hv⟩ : ∃ v, v = Ds.cst f 0 (Ds.ens k q) := ⟨_, rfl⟩
                        go_wp2_with fail
                        refine Calls.mono (HAL.out _ (Ds.ens k q) (ne + 1) _ _ (HM.out.2.2.2.2.trans HL3.out.2.1) HL3.out.1 (Ds.ens_row hkp q) HL3.out.2.2) ?_
                        rw [← hv]
                        rintro e y4 ⟨rfl, ho4⟩
                        have H4 : Hid (Only (fun _ => False) V y4 ∧ Only (fun _ => False) W y4 ∧ Vw y4 (some ⟨g1, 0, none⟩) (natI (Ds.ens k q)) ∧ Vw y4 af (natI F) ∧ v = Ds.cst f 0 (Ds.ens k q)) := ⟨HL3.out.2.1.trans ho4, HM.out.2.2.2.1.trans (HL3.out.2.1.trans ho4), HL3.out.2.2.keep ho4, HM.out.2.2.1.keep (HL3.out.2.1.trans ho4), hv⟩
                        clear ho4 r0 r1 k0 k1 k2 k3 k4 k5 l5 l6 hv
                        unfold Sp.cosV
                        cases v with
                        | none =>
                          have HN : Hid (Ds.Mi f k (q + 1) is s F) := HM.out.2.1.skip H4.out.2.2.2.2.symm
                          simp only [Option.getD_none, Option.isSome_none]
                          go_wp2_with fail
                          go_roundg (P2 - (q + 1))
                          case measure => omega
                          case rel => exact ⟨q + 1, s, nf, is, F, af, cf, _, rfl, rfl, by omega, rfl, rfl, rfl, by go_num, HM.out.1, HN.out, H4.out.2.2.2.1, H4.out.2.1⟩
                        | some z =>
                          simp only [Option.getD_some, Option.isSome_some]
                          have HCZ : Hid (Ds.cst f 0 (Ds.ens k q) = some z) := H4.out.2.2.2.2.symm
                          cases is with
                          | false =>
                            have HN : Hid (Ds.Mi f k (q + 1) true z (Ds.ens k q)) := HM.out.2.1.put HCZ.out (Or.inl rfl)
                            go_wp2_with fail
                            go_roundg (P2 - (q + 1))
                            case measure => omega
                            case rel => exact ⟨q + 1, z, ne + 1, true, Ds.ens k q, _, _, _, rfl, rfl, by omega, rfl, rfl, rfl, by go_num, HL3.out.1, HN.out, H4.out.2.2.1, H4.out.2.1⟩
                          | true =>
                            rcases Nat.lt_trichotomy z s with hzs | hzs | hzs
                            · have t4 : (z : Int) < (s : Int) := by omega
                              have HN : Hid (Ds.Mi f k (q + 1) true z (Ds.ens k q)) := HM.out.2.1.put HCZ.out (Or.inr (Or.inl hzs))
                              go_wp2_with fail
                              go_roundg (P2 - (q + 1))
                              case measure => omega
                              case rel => exact ⟨q + 1, z, ne + 1, true, Ds.ens k q, _, _, _, rfl, rfl, by omega, rfl, rfl, rfl, by go_num, HL3.out.1, HN.out, H4.out.2.2.1, H4.out.2.1⟩
                            · have t4 : decide ((z : Int) < (s : Int)) = false := decide_eq_false (by omega)
                              have t4n : decide (z < s) = false := decide_eq_false (by omega)
                              have t5 : ((z : Int) == (s : Int)) = true := by rw [beq_iff_eq]; omega
                              obtain ⟨bb, hbb⟩ : ∃ x, x = Ds.bef (Ds.ens k q) F := ⟨_, rfl⟩
                              have HSO : Hid (Calls Try.prog 20 #[.slice (some ⟨g1, 0, none⟩) (ne + 1) cap1, .slice af nf cf] y4 fun e w' => e = .returned (.bool bb) ∧ Only (fun _ => False) y4 w') := by
                                rw [hbb]
                                exact sooner_any (Ds.ens k q) F (ne + 1) nf _ _ cap1 cf y4 HL3.out.1 HM.out.1 H4.out.2.2.1 H4.out.2.2.2.1 (by omega) (by omega)
                              have HZS : Hid (z = s ∧ bb = Ds.bef (Ds.ens k q) F) := ⟨hzs, hbb⟩
                              clear hzs hbb
                              go_wp2_with fail
                              refine Calls.mono HSO.out ?_
                              rintro e y5 ⟨rfl, ho5⟩
                              have H5' : Hid (Only (fun _ => False) y4 y5) := ho5
                              clear ho5
                              cases bb with
                              | true =>
                                have HN : Hid (Ds.Mi f k (q + 1) true z (Ds.ens k q)) := HM.out.2.1.put HCZ.out (Or.inr (Or.inr ⟨HZS.out.1, HZS.out.2.symm⟩))
                                go_wp2_with fail
                                go_roundg (P2 - (q + 1))
                                case measure => omega
                                case rel => exact ⟨q + 1, z, ne + 1, true, Ds.ens k q, _, _, _, rfl, rfl, by omega, rfl, rfl, rfl, by go_num, HL3.out.1, HN.out, H4.out.2.2.1.keep H5'.out, H4.out.2.1.trans H5'.out⟩
                              | false =>
                                have HN : Hid (Ds.Mi f k (q + 1) true s F) := HM.out.2.1.keep HCZ.out (Or.inr ⟨HZS.out.1, HZS.out.2.symm⟩)
                                go_wp2_with fail
                                go_roundg (P2 - (q + 1))
                                case measure => omega
                                case rel => exact ⟨q + 1, s, nf, true, F, af, cf, _, rfl, rfl, by omega, rfl, rfl, rfl, by go_num, HM.out.1, HN.out, H4.out.2.2.2.1.keep H5'.out, H4.out.2.1.trans H5'.out⟩
                            · have t4 : decide ((z : Int) < (s : Int)) = false := decide_eq_false (by omega)
                              have t4n : decide (z < s) = false := decide_eq_false (by omega)
                              have t5 : ((z : Int) == (s : Int)) = false := by rw [beq_eq_false_iff_ne]; omega
                              have HN : Hid (Ds.Mi f k (q + 1) true s F) := HM.out.2.1.keep HCZ.out (Or.inl hzs)
                              go_wp2_with fail
                              go_roundg (P2 - (q + 1))
                              case measure => omega
                              case rel => exact ⟨q + 1, s, nf, true, F, af, cf, _, rfl, rfl, by omega, rfl, rfl, rfl, by go_num, HM.out.1, HN.out, H4.out.2.2.2.1, H4.out.2.1⟩
                  · have t2 : decide ((q : Int) < (P2 : Int)) = false := decide_eq_false (by omega)
                    have hqe : q = P2 := by omega
                    have HFIN : Hid (okb = is ∧ E = F) := by
                      have hmi := HM.out.2.1
                      rw [hqe, HP2.out.1] at hmi
                      cases is with
                      | true =>
                        have hB := hmi.best hkp
                        rcases H5.out.2.2.1 with ⟨h1, s', h2⟩ | ⟨_, _, h2⟩
                        · exact ⟨h1, (h2.one hB).1⟩
                        · exact (hB.no h2).elim
                      | false =>
                        obtain ⟨hN, hF⟩ := hmi.no hkp
                        rcases H5.out.2.2.1 with ⟨_, s', h2⟩ | ⟨h1, h2, _⟩
                        · exact (h2.no hN).elim
                        · exact ⟨h1, h2.trans hF.symm⟩
                    have hnn : nf = i := by rw [HM.out.1, ← HFIN.out.2, ← H5.out.1]
                    have HVO : Hid (Vw V ao (natI E) ∧ Vw V af (natI E) ∧ i = E.length ∧ Only (fun _ => False) X V) := ⟨HO.out.1.keep HM.out.2.2.2.1, by rw [HFIN.out.2]; exact HM.out.2.2.1, H5.out.1, HM.out.2.2.2.2⟩
                    obtain ⟨hoi, -⟩ := HFIN.out
                    subst hoi
                    subst hnn
                    clear hqe HM
                    cases okb
                    all_goals
                      go_wp2_with fail
                      go_loopg [138] nf (fun gh v138 wr => ∃ (j : Nat) (U : World), U = wr ∧ gh = nf - j ∧ j ≤ nf ∧ v138 = .int .i64 (j : Int) ∧ Only (fun _ => False) V U)
                      case atStart => exact ⟨0, _, rfl, rfl, Nat.zero_le _, rfl, Only.refl _ _⟩
                      case round =>
                        obtain ⟨j, U, hU, rfl, hj, rfl, hoU⟩ := hrel
                        subst hU
                        have HU : Hid (Only (fun _ => False) V U ∧ Only (fun _ => False) X U) := ⟨hoU, HVO.out.2.2.2.trans hoU⟩
                        clear hoU
                        by_cases hjl : j < nf
                        · have t3 : (j : Int) < (nf : Int) := by omega
                          obtain ⟨x, hx⟩ : ∃ x, E[j]? = some x := ⟨_, List.getElem?_eq_getElem (by rw [← HVO.out.2.2.1]; exact hjl)⟩
                          obtain ⟨ga, oa, rfl, hga, hca⟩ := (HVO.out.1.keep HU.out.1).cells (by rw [natI_len, ← HVO.out.2.2.1]; omega)
                          obtain ⟨gf, og, rfl, hgf, hcf⟩ := (HVO.out.2.1.keep HU.out.1).cells (by rw [natI_len, ← HVO.out.2.2.1]; omega)
                          have d0 := hca j _ (natI_get hx)
                          have d1 := hcf j _ (natI_get hx)
                          have t4 : ((x : Int) != (x : Int)) = false := by simp
                          clear hca hcf hx
                          go_wp2_with fail
                          go_quiet (fail)
                          go_wp2_with fail
                          go_roundg (nf - (j + 1))
                          case measure => omega
                          case rel => exact ⟨j + 1, _, rfl, rfl, by omega, by go_num, HU.out.1.drewN _⟩
                        · have t3 : decide ((j : Int) < (nf : Int)) = false := decide_eq_false (by omega)
                          go_wp2_with fail
                          go_ret
                          exact ⟨rfl, HWX.out.1.trans HU.out.2⟩
theorem walk (L : List Bt) (a0 : Option Addr) (c0 : Nat) (K : Wy) (w : World) (hV : Vw w a0 (btC L)) (hB : ∀ b ∈ L, b.cells < 256 ∧ b.kind < 256 ∧ b.len < 256 ∧ b.opp < 256) (hc : L.length ≤ c0) (hm : c0 ≤ maxLen) (hK : K.Ok) : Calls Try.prog 5 #[.slice a0 L.length c0, K.val] w fun e w' => e = .returned (.bool true) ∧ Only (fun _ => False) w w' := walk1 L a0 c0 K w hV hB hc hm hK
end Go.Proofs.Ythckdomljfdmpaa.bestLeast

