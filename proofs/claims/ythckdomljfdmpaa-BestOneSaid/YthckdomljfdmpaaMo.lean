/-
  stanzalaw15.BestOne: its walk.
-/
import Derived.Test.YthckdomljfdmpaaAx
import Derived.Test.YthckdomljfdmpaaPc
import Derived.Test.YthckdomljfdmpaaBp
import Derived.Test.YthckdomljfdmpaaFx
import Derived.Test.YthckdomljfdmpaaDt
namespace Go.Proofs.Ythckdomljfdmpaa.bestOne
open Go.RowKit Go.Maps
set_option linter.unusedVariables false
set_option linter.unusedSimpArgs false
theorem f_one {C : List Ct} {O : List Nat} {t W hy pr lo k : Nat} (hk : 0 < k) (h2 : O.getD k 0 = 2) (h : Sp.wde C t 0 k 2 ≤ W) : bsF C O t W hy pr lo k 0 k = some 100 := by
  unfold bsF
  rw [decide_eq_true rfl, Sp.cos_last (Sp.can_yes hk (by rw [h2]; decide) (by rw [h2]; exact h))]
  unfold Sp.ext
  rw [if_neg (by rw [h2]; decide)]
theorem f_no {C : List Ct} {O : List Nat} {t W hy pr lo k : Nat} (h2 : O.getD k 0 = 2) (h : ¬ Sp.wde C t 0 k 2 ≤ W) : bsF C O t W hy pr lo k 0 k = none := by
  unfold bsF
  exact Sp.cos_no (Sp.can_no (Or.inr (Or.inr (by rw [h2]; exact h))))
set_option maxRecDepth 100000 in
set_option maxHeartbeats 8000000 in
theorem walk1 (L : List Bt) (a0 : Option Addr) (c0 : Nat) (K : Wy) (w : World) (hV : Vw w a0 (btC L)) (hB : ∀ b ∈ L, b.cells < 256 ∧ b.kind < 256 ∧ b.len < 256 ∧ b.opp < 256) (hcap : L.length ≤ c0) (hcm : c0 ≤ maxLen) (hK : K.Ok) :
    Calls Try.prog 9 #[.slice a0 L.length c0, K.val] w fun e w' => e = .returned (.bool true) ∧ Only (fun _ => False) w w' := by
  obtain ⟨wi, tb, mo, hy, pr, lo⟩ := K
  obtain ⟨W1, hW1⟩ : ∃ x, x = 1 + wi := ⟨_, rfl⟩
  obtain ⟨T1, hT1⟩ : ∃ x, x = 1 + tb % 64 := ⟨_, rfl⟩
  obtain ⟨M1, hM1⟩ : ∃ x, x = mo % 2 := ⟨_, rfl⟩
  have HCF : Hid (∀ W, Calls Try.prog 12 #[.agg #[.int .u8 (wi : Int), .int .u8 (tb : Int), .int .u8 (mo : Int), .int .u16 (hy : Int), .int .u16 (pr : Int), .float .f64 lo]] W fun e w' => e = .returned (.agg #[.int .i64 (W1 : Int), .int .i64 (T1 : Int), .int .u8 (M1 : Int), .int .i64 (hy : Int), .int .i64 (pr : Int), .float .f64 lo]) ∧ Only (fun _ => False) W w') := fun W => by
    rw [hW1, hT1, hM1]
    exact config_any ⟨wi, tb, mo, hy, pr, lo⟩ W hK
  obtain ⟨b0, b1, b2, b3, b4, b5⟩ := hK
  simp only at b0 b1 b2 b3 b4 b5
  have hw1 : W1 ≤ 256 := by omega
  have hw0 : 1 ≤ W1 := by omega
  have ht0 : 0 < T1 := by omega
  have ht1 : T1 ≤ 64 := by omega
  have hm1 : M1 ≤ 1 := by omega
  obtain ⟨n0, hn0⟩ : ∃ n, n = L.length := ⟨_, rfl⟩
  have HN : Hid (n0 = L.length) := hn0
  obtain ⟨nm, hnm⟩ : ∃ x, x = min n0 200 := ⟨_, rfl⟩
  have mn : min (n0 : Int) 200 = (nm : Int) := by omega
  have hnm1 : nm ≤ n0 := by omega
  have hnm2 : nm ≤ 200 := by omega
  obtain ⟨M, hM⟩ : ∃ x, x = L.take nm := ⟨_, rfl⟩
  have hMl : nm = M.length := by rw [hM, List.length_take, ← hn0]; omega
  have HMB : Hid (∀ b ∈ M, b.cells < 256 ∧ b.kind < 256 ∧ b.len < 256 ∧ b.opp < 256) := fun b hb => hB b (by rw [hM] at hb; exact List.mem_of_mem_take hb)
  have HVM : Hid (Vw w a0 (btC M)) := by rw [hM]; exact hV.btTake nm
  have HML : Hid (nm = M.length) := hMl
  obtain ⟨LF, hLF⟩ : ∃ x, x = M.map (fx1 0) := ⟨_, rfl⟩
  have HLF : Hid (LF = M.map (fx1 0) ∧ nm = LF.length) := ⟨hLF, by rw [hLF, List.length_map]; exact hMl⟩
  unfold Wy.val
  simp only
  rw [← hn0] at hcap ⊢
  clear hn0 hW1 hT1 hM1 hV hB hnm hM hMl hLF
  unfold maxLen at hcm
  go_enter Try.func9, Try.ntmps9
  go_wp2_with fail
  obtain ⟨R, w0, hw0', hR, H0, lR⟩ := box6 w (.int .u8 (wi : Int)) (.int .u8 (tb : Int)) (.int .u8 (mo : Int)) (.int .u16 (hy : Int)) (.int .u16 (pr : Int)) (.float .f64 lo) 26
  rw [hw0', hR]
  clear hw0' hR
  refine Calls.mono (awake15_any _) ?_
  rintro e w2 ⟨rfl, ho2⟩
  have HW2 : Hid (Only (fun _ => False) w w2) := H0.out.2.1.trans ho2
  have HKS : Hid (∀ W', Only (fun _ => False) w2 W' → (W'.cell? ⟨R, 0, none⟩ = some (.int .u8 (wi : Int)) ∧ W'.cell? ⟨R, 1, none⟩ = some (.int .u8 (tb : Int)) ∧ W'.cell? ⟨R, 2, none⟩ = some (.int .u8 (mo : Int)) ∧ W'.cell? ⟨R, 3, none⟩ = some (.int .u16 (hy : Int)) ∧ W'.cell? ⟨R, 4, none⟩ = some (.int .u16 (pr : Int)) ∧ W'.cell? ⟨R, 5, none⟩ = some (.float .f64 lo))) := fun W' ho => blk_six (blk_keep (ho2.trans ho) H0.out.1)
  clear ho2 lR
  have HVA : Hid (∀ W', Only (fun _ => False) w W' → Vw W' a0 (btC M)) := fun W' ho => HVM.out.keep ho
  go_upto_region 3 with fail
  go_cut [0] from 13 to 19 (fun v0 wr => ∃ (g1 cap1 : Nat) (Y : World), Y = wr ∧ v0 = .slice (some ⟨g1, 0, none⟩) nm cap1 ∧ Only (fun _ => False) w2 Y ∧ Y.ownsRow w2.heap.size 49 4 (.slice (some ⟨g1, 0, none⟩) nm cap1) nm (btC M))
  case first =>
    by_cases hn2 : n0 ≤ 200
    · have t1 : (n0 : Int) ≤ 200 := by omega
      have f1 : n0 ≤ c0 := hcap
      have f1' : ¬ c0 < n0 := by omega
      have hnn : n0 = nm := by omega
      subst hnn
      clear mn
      rcases a0 with _ | ad
      all_goals
        go_wp2_with (first | (refine wpList_appB rfl (.tmp 13) (.tmp 18) rfl w2 ((Only.refl _ _).alloc _) w2.heap.size 0 0 [] rfl (own_e0B (heap_alloc_new w2 _) (Nat.le_refl _)) _ _ _ M rfl HML.out (HVA.out _ (HW2.out.alloc _)) n0 (by omega) (by omega) ?_; intro g1 cap1 y3 hown1 ho3; have H3 : Hid (Only (fun _ => False) w2 y3 ∧ y3.ownsRow w2.heap.size 49 4 (.slice (some ⟨g1, 0, none⟩) n0 cap1) n0 (btC ([] ++ M))) := ⟨ho3, hown1⟩; clear ho3 hown1) | fail)
        go_meet
        exact ⟨g1, cap1, _, rfl, rfl, H3.out.1, H3.out.2⟩
    · have t1 : ¬ (n0 : Int) ≤ 200 := by omega
      have t2 : 200 < n0 := by omega
      have f1 : 200 ≤ c0 := by omega
      have f1' : ¬ c0 < 200 := by omega
      have hnn : 200 = nm := by omega
      subst hnn
      clear mn
      rcases a0 with _ | ad
      all_goals
        go_wp2_with (first | (refine wpList_appB rfl (.tmp 13) (.tmp 18) rfl w2 ((Only.refl _ _).alloc _) w2.heap.size 0 0 [] rfl (own_e0B (heap_alloc_new w2 _) (Nat.le_refl _)) _ _ _ M rfl HML.out (HVA.out _ (HW2.out.alloc _)) 200 (by omega) (by omega) ?_; intro g1 cap1 y3 hown1 ho3; have H3 : Hid (Only (fun _ => False) w2 y3 ∧ y3.ownsRow w2.heap.size 49 4 (.slice (some ⟨g1, 0, none⟩) 200 cap1) 200 (btC ([] ++ M))) := ⟨ho3, hown1⟩; clear ho3 hown1) | fail)
        go_meet
        exact ⟨g1, cap1, _, rfl, rfl, H3.out.1, H3.out.2⟩
  case rest =>
    obtain ⟨g1, cap1, Y, hY, rfl, hoY, hownY⟩ := hcut
    subst hY
    have HY : Hid (Only (fun _ => False) w2 Y ∧ Y.ownsRow w2.heap.size 49 4 (.slice (some ⟨g1, 0, none⟩) nm cap1) nm (btC M)) := ⟨hoY, hownY⟩
    clear hoY hownY mn
    go_wp2_with fail
    go_loopg [22] nm (fun gh v wr => ∃ (i : Nat) (Z : World), Z = wr ∧ gh = nm - i ∧ i ≤ nm ∧ v = .int .i64 (i : Int) ∧ Z.ownsRow w2.heap.size 49 4 (.slice (some ⟨g1, 0, none⟩) nm cap1) nm (btC (fx 0 M i)) ∧ Only (fun g => w2.heap.size ≤ g) w2 Z)
    case atStart => exact ⟨0, _, rfl, rfl, Nat.zero_le _, rfl, by rw [fx_zero]; exact HY.out.2, HY.out.1.mono (fun _ h => h.elim)⟩
    case round =>
      obtain ⟨i, w3, hZ, rfl, hi, rfl, hownZ, hoZ⟩ := hrel
      subst hZ
      have HZ : Hid (w3.ownsRow w2.heap.size 49 4 (.slice (some ⟨g1, 0, none⟩) nm cap1) nm (btC (fx 0 M i)) ∧ Only (fun g => w2.heap.size ≤ g) w2 w3 ∧ Only (fun _ => False) w2 w3) := ⟨hownZ, hoZ, hoZ.old (fun b hb => Or.inl hb)⟩
      clear hownZ hoZ
      by_cases hlt : i < nm
      · have t1 : (i : Int) < (nm : Int) := by omega
        obtain ⟨x, hx⟩ : ∃ x, M[i]? = some x := ⟨_, List.getElem?_eq_getElem (by rw [← HML.out]; exact hlt)⟩
        have hx8 := HMB.out x (List.mem_of_getElem? hx)
        have hq := (btC_at _ i x (fx_at (v := 0) hx)).2.2.2
        obtain ⟨c3, z3, gb, gl⟩ := own_cell HZ.out.1 hq
        have HX : Hid (fx 0 M (i + 1) = (fx 0 M i).set i (fx1 0 x) ∧ (fx 0 M i)[i]? = some x) := ⟨fx_next hx, fx_at hx⟩
        obtain ⟨xc, xk, xl, xo⟩ := x
        simp only at c3 hx8
        obtain ⟨y, hy1⟩ : ∃ y, y = xo % 4 := ⟨_, rfl⟩
        have q1 : (xo : Int).tmod 4 = (y : Int) := by rw [Int.tmod_eq_emod_of_nonneg (by omega)]; omega
        have hy4 : y < 4 := by omega
        have HYY : Hid (y = xo % 4) := hy1
        clear hy1 hx hq
        by_cases hy2 : y = 2
        · have t2 : ((y : Int) == 2) = true := by rw [beq_iff_eq]; omega
          have HN3 : Hid ((w3.setCell ⟨g1, i * 4 + 3, none⟩ (.int .u8 (0 : Nat))).ownsRow w2.heap.size 49 4 (.slice (some ⟨g1, 0, none⟩) nm cap1) nm (btC (fx 0 M (i + 1)))) := by
            have h := own_set HZ.out.1 (i * 4 + 3) (by omega) (.int .u8 ((0 : Nat) : Int))
            rw [btC_set _ i _ 0 HX.out.2] at h
            rw [HX.out.1]
            unfold fx1
            rw [if_pos (show xo % 4 = 2 by rw [← HYY.out]; exact hy2)]
            exact h
          clear hy2
          go_wp2_with fail
          go_roundg (nm - (i + 1))
          case measure => omega
          case rel => exact ⟨i + 1, _, rfl, rfl, by omega, by go_num, HN3.out, HZ.out.2.1.setCell (p := ⟨g1, i * 4 + 3, none⟩) gb _⟩
        · have t2 : ((y : Int) == 2) = false := by rw [beq_eq_false_iff_ne]; omega
          have HN3 : Hid (fx 0 M (i + 1) = fx 0 M i) := by
            rw [HX.out.1]
            unfold fx1
            rw [if_neg (show ¬ xo % 4 = 2 by rw [← HYY.out]; exact hy2)]
            exact List.ext_getElem? (fun j => by
              by_cases e : j = i
              · rw [e, List.getElem?_set_self (List.getElem?_eq_some_iff.1 HX.out.2).1, HX.out.2]
              · rw [List.getElem?_set_ne (fun h => e h.symm)])
          clear hy2
          go_wp2_with fail
          go_roundg (nm - (i + 1))
          case measure => omega
          case rel => exact ⟨i + 1, _, rfl, rfl, by omega, by go_num, by rw [HN3.out]; exact HZ.out.1, HZ.out.2.1⟩
      · have t1 : decide ((i : Int) < (nm : Int)) = false := decide_eq_false (by omega)
        have HW3 : Hid (Only (fun _ => False) w w3) := HW2.out.trans HZ.out.2.2
        have HPA : Hid (∀ W, Only (fun _ => False) w W → Only (fun _ => False) w3 W → Calls Try.prog 11 #[.slice (some ⟨g1, 0, none⟩) nm cap1] W fun e w' => ∃ k aC aO cC cO, e = .returned (.agg #[.slice aC k cC, .slice aO (k + 1) cO]) ∧ Made w' LF nm k aC aO cC cO ∧ Only (fun _ => False) W w') := fun W _ ho => para_made LF nm _ cap1 W HLF.out.2 (by
          have h := own_vw HZ.out.1
          rw [show i = M.length by have := HML.out; omega, fx_all, ← HLF.out.1] at h
          exact h.keep ho) (by rw [HLF.out.1]; exact fx_ok (by decide) HMB.out) (by omega)
        replace HKS : Hid (∀ W', Only (fun _ => False) w3 W' → (W'.cell? ⟨R, 0, none⟩ = some (.int .u8 (wi : Int)) ∧ W'.cell? ⟨R, 1, none⟩ = some (.int .u8 (tb : Int)) ∧ W'.cell? ⟨R, 2, none⟩ = some (.int .u8 (mo : Int)) ∧ W'.cell? ⟨R, 3, none⟩ = some (.int .u16 (hy : Int)) ∧ W'.cell? ⟨R, 4, none⟩ = some (.int .u16 (pr : Int)) ∧ W'.cell? ⟨R, 5, none⟩ = some (.float .f64 lo))) := fun W' ho => HKS.out W' (HZ.out.2.2.trans ho)
        go_wp2_with fail
        go_cut [6, 7] from 37 to 40 (fun v5 v6 wr => ∃ (k B5 B6 : Nat) (aC aO : Option Addr) (cC cO : Nat) (X : World), X = wr ∧ v5 = .pointer (some ⟨B5, 0, none⟩) ∧ v6 = .pointer (some ⟨B6, 0, none⟩) ∧ Made X LF nm k aC aO cC cO ∧ Blk w3 X B5 31 #[.slice aC k cC, .slice aO (k + 1) cO] ∧ Blk w3 X B6 35 #[.int .i64 (W1 : Int), .int .i64 (T1 : Int), .int .u8 (M1 : Int), .int .i64 (hy : Int), .int .i64 (pr : Int), .float .f64 lo] ∧ Only (fun _ => False) w3 X)
        case first =>
          have HXD : Hid (Only (fun _ => False) w3 w3.drew) := (Only.refl _ _).drew
          refine wp_region_held_drew (S := (fun W' => W'.cell? ⟨R, 0, none⟩ = some (.int .u8 (wi : Int)) ∧ W'.cell? ⟨R, 1, none⟩ = some (.int .u8 (tb : Int)) ∧ W'.cell? ⟨R, 2, none⟩ = some (.int .u8 (mo : Int)) ∧ W'.cell? ⟨R, 3, none⟩ = some (.int .u16 (hy : Int)) ∧ W'.cell? ⟨R, 4, none⟩ = some (.int .u16 (pr : Int)) ∧ W'.cell? ⟨R, 5, none⟩ = some (.float .f64 lo))) (by kernel_rfl) (HKS.out _ HXD.out) (fun hHeld => ?_)
          refine wpAnyH_take (i := 0) (oi := { dst := some 37, op := _, type := _, pos := _, after := _, guard := _ }) (v := .slice (some ⟨g1, 0, none⟩) nm cap1) rfl (by kernel_rfl) (by kernel_rfl) (by kernel_rfl) (fun _ _ _ h => h) (Or.inl ⟨by rfl, fun w hSw => by obtain ⟨y0, y1, y2, y3, y4, y5⟩ := hSw; first | (go_simp; done) | go_simp⟩) (by assumption) ?_
          (try simp only [Act.put, List.setIfInBounds_toArray, List.set_cons_zero, List.set_cons_succ])
          refine wpAnyH_take (i := 2) (oi := { dst := some 39, op := _, type := _, pos := _, after := _, guard := _ }) (v := .agg #[.int .u8 (wi : Int), .int .u8 (tb : Int), .int .u8 (mo : Int), .int .u16 (hy : Int), .int .u16 (pr : Int), .float .f64 lo]) rfl (by kernel_rfl) (by kernel_rfl) (by kernel_rfl) (fun _ _ _ h => h) (Or.inl ⟨by rfl, fun w hSw => by obtain ⟨y0, y1, y2, y3, y4, y5⟩ := hSw; first | (go_simp; done) | go_simp⟩) (by assumption) ?_
          (try simp only [Act.put, List.setIfInBounds_toArray, List.set_cons_zero, List.set_cons_succ])
          refine wpAnyH_ready (rs := [1, 4, 5]) (by kernel_rfl) (by simp) ?_
          refine AllReadyH.cons rfl (fun K hK => ?_) (AllReadyH.cons rfl (fun K hK => ?_) (AllReadyH.cons rfl (fun K hK => ?_) AllReadyH.nil))
          · rw [if_pos (by rfl)]
            go_simp
            refine Calls.mono (HPA.out _ (HW3.out.trans HXD.out) HXD.out) ?_
            rintro e y1 ⟨k, aC, aO, cC, cO, rfl, hmd, ho⟩
            have HMy1 : Hid (Made y1 LF nm k aC aO cC cO) := hmd
            clear hmd
            have HXy1 : Hid (Only (fun _ => False) w3 y1) := HXD.out.trans ho
            clear ho
            refine hK.out _ _ (HKS.out _ HXy1.out) (fun hHeld => ?_)
            clear hK
            (try simp only [Act.put, List.setIfInBounds_toArray, List.set_cons_zero, List.set_cons_succ])
            refine wpAnyH_ready (rs := [3, 4, 5]) (by kernel_rfl) (by simp) ?_
            refine AllReadyH.cons rfl (fun K hK => ?_) (AllReadyH.cons rfl (fun K hK => ?_) (AllReadyH.cons rfl (fun K hK => ?_) AllReadyH.nil))
            · rw [if_pos (by rfl)]
              go_simp
              refine Calls.mono (HCF.out _) ?_
              rintro e y2 ⟨rfl, ho⟩
              have HMy2 : Hid (Made y2 LF nm k aC aO cC cO) := HMy1.out.keep ho
              have HXy2 : Hid (Only (fun _ => False) w3 y2) := HXy1.out.trans ho
              clear ho
              refine hK.out _ _ (HKS.out _ HXy2.out) (fun hHeld => ?_)
              clear hK
              (try simp only [Act.put, List.setIfInBounds_toArray, List.set_cons_zero, List.set_cons_succ])
              refine wpAnyH_ready (rs := [4, 5]) (by kernel_rfl) (by simp) ?_
              refine AllReadyH.cons rfl (fun K hK => ?_) (AllReadyH.cons rfl (fun K hK => ?_) AllReadyH.nil)
              · rw [if_pos (by rfl)]
                go_simp
                obtain ⟨y3, hy3⟩ : ∃ Y, Y = y2.alloc (.cells #[.slice none 0 0, .slice none 0 0] 31) := ⟨_, rfl⟩
                obtain ⟨B5, hB5⟩ : ∃ b, b = y2.heap.size := ⟨_, rfl⟩
                have ho : Only (fun _ => False) y2 y3 := by rw [hy3]; exact (Only.refl _ _).alloc _
                have HXy3 : Hid (Only (fun _ => False) w3 y3) := HXy2.out.trans ho
                have HB5y3 : Hid (Blk w3 y3 B5 31 #[.slice none 0 0, .slice none 0 0]) := by rw [hy3, hB5]; exact Blk.made HXy2.out _ _
                have HMy3 : Hid (Made y3 LF nm k aC aO cC cO) := HMy2.out.keep ho
                rw [← hy3, ← hB5]
                clear hy3 hB5 ho
                refine hK.out _ _ (HKS.out _ HXy3.out) (fun hHeld => ?_)
                clear hK
                (try simp only [Act.put, List.setIfInBounds_toArray, List.set_cons_zero, List.set_cons_succ])
                refine wpAnyH_ready (rs := [5]) (by kernel_rfl) (by simp) ?_
                refine AllReadyH.cons rfl (fun K hK => ?_) AllReadyH.nil
                rw [if_pos (by rfl)]
                go_simp
                obtain ⟨y4, hy4⟩ : ∃ Y, Y = y3.alloc (.cells #[.int .i64 0, .int .i64 0, .int .u8 0, .int .i64 0, .int .i64 0, .float .f64 0] 35) := ⟨_, rfl⟩
                obtain ⟨B6, hB6⟩ : ∃ b, b = y3.heap.size := ⟨_, rfl⟩
                have ho : Only (fun _ => False) y3 y4 := by rw [hy4]; exact (Only.refl _ _).alloc _
                have HXy4 : Hid (Only (fun _ => False) w3 y4) := HXy3.out.trans ho
                have HB6y4 : Hid (Blk w3 y4 B6 35 #[.int .i64 0, .int .i64 0, .int .u8 0, .int .i64 0, .int .i64 0, .float .f64 0]) := by rw [hy4, hB6]; exact Blk.made HXy3.out _ _
                have HB5y4 : Hid (Blk w3 y4 B5 31 #[.slice none 0 0, .slice none 0 0]) := HB5y3.out.keep ho
                have HMy4 : Hid (Made y4 LF nm k aC aO cC cO) := HMy3.out.keep ho
                rw [← hy4, ← hB6]
                clear hy4 hB6 ho
                refine hK.out _ _ (HKS.out _ HXy4.out) (fun hHeld => ?_)
                clear hK
                (try simp only [Act.put, List.setIfInBounds_toArray, List.set_cons_zero, List.set_cons_succ])
                refine wpAnyH_ready (rs := [6]) (by kernel_rfl) (by simp) ?_
                refine AllReadyH.cons rfl (fun K hK => ?_) AllReadyH.nil
                rw [if_pos (by rfl)]
                have HXa : Hid (Only (fun _ => False) w3 (y4.setRow B5 #[.slice aC k cC, .slice aO (k + 1) cO])) := HXy4.out.setRowNew HB5y4.out.2 _
                refine wp_store_row 31 _ _ rfl B5 #[.slice aC k cC, .slice aO (k + 1) cO] rfl rfl 31 _ HB5y4.out.1 (by kernel_rfl) rfl (two_one _ _ _ _ _ _) ?_
                have HMa : Hid (Made (y4.setRow B5 #[.slice aC k cC, .slice aO (k + 1) cO]) LF nm k aC aO cC cO ∧ Blk w3 (y4.setRow B5 #[.slice aC k cC, .slice aO (k + 1) cO]) B5 31 #[.slice aC k cC, .slice aO (k + 1) cO] ∧ Blk w3 (y4.setRow B5 #[.slice aC k cC, .slice aO (k + 1) cO]) B6 35 #[.int .i64 0, .int .i64 0, .int .u8 0, .int .i64 0, .int .i64 0, .float .f64 0]) := ⟨HMy4.out.store HB5y4.out.1 (by decide) (by decide) _, HB5y4.out.put _, HB6y4.out.far HB5y4.out (by decide) _⟩
                obtain ⟨za, hza⟩ : ∃ Y, Y = y4.setRow B5 #[.slice aC k cC, .slice aO (k + 1) cO] := ⟨_, rfl⟩
                rw [← hza] at HXa HMa ⊢
                clear hza
                refine hK.out _ _ (HKS.out _ HXa.out) (fun hHeld => ?_)
                clear hK
                (try simp only [Act.put, List.setIfInBounds_toArray, List.set_cons_zero, List.set_cons_succ])
                refine wpAnyH_ready (rs := [7]) (by kernel_rfl) (by simp) ?_
                refine AllReadyH.cons rfl (fun K hK => ?_) AllReadyH.nil
                rw [if_pos (by rfl)]
                have HXb : Hid (Only (fun _ => False) w3 (za.setRow B6 #[.int .i64 (W1 : Int), .int .i64 (T1 : Int), .int .u8 (M1 : Int), .int .i64 (hy : Int), .int .i64 (pr : Int), .float .f64 lo])) := HXa.out.setRowNew HMa.out.2.2.2 _
                refine wp_store_row 35 _ _ rfl B6 #[.int .i64 (W1 : Int), .int .i64 (T1 : Int), .int .u8 (M1 : Int), .int .i64 (hy : Int), .int .i64 (pr : Int), .float .f64 lo] rfl rfl 35 _ HMa.out.2.2.1 (by kernel_rfl) rfl (cfg_one _ _ _ _ _ _) ?_
                have HMb : Hid (Made (za.setRow B6 #[.int .i64 (W1 : Int), .int .i64 (T1 : Int), .int .u8 (M1 : Int), .int .i64 (hy : Int), .int .i64 (pr : Int), .float .f64 lo]) LF nm k aC aO cC cO ∧ Blk w3 (za.setRow B6 #[.int .i64 (W1 : Int), .int .i64 (T1 : Int), .int .u8 (M1 : Int), .int .i64 (hy : Int), .int .i64 (pr : Int), .float .f64 lo]) B5 31 #[.slice aC k cC, .slice aO (k + 1) cO] ∧ Blk w3 (za.setRow B6 #[.int .i64 (W1 : Int), .int .i64 (T1 : Int), .int .u8 (M1 : Int), .int .i64 (hy : Int), .int .i64 (pr : Int), .float .f64 lo]) B6 35 #[.int .i64 (W1 : Int), .int .i64 (T1 : Int), .int .u8 (M1 : Int), .int .i64 (hy : Int), .int .i64 (pr : Int), .float .f64 lo]) := ⟨HMa.out.1.store HMa.out.2.2.1 (by decide) (by decide) _, HMa.out.2.1.far HMa.out.2.2 (by decide) _, HMa.out.2.2.put _⟩
                obtain ⟨zb, hzb⟩ : ∃ Y, Y = za.setRow B6 #[.int .i64 (W1 : Int), .int .i64 (T1 : Int), .int .u8 (M1 : Int), .int .i64 (hy : Int), .int .i64 (pr : Int), .float .f64 lo] := ⟨_, rfl⟩
                rw [← hzb] at HXb HMb ⊢
                clear hzb
                refine hK.out _ _ (HKS.out _ HXb.out) (fun hHeld => ?_)
                clear hK
                (try simp only [Act.put, List.setIfInBounds_toArray, List.set_cons_zero, List.set_cons_succ])
                refine wpAnyH_done (by kernel_rfl) ?_ _
                clear hHeld
                go_wp2_with fail
                go_meet
                exact ⟨k, B5, B6, aC, aO, cC, cO, _, rfl, rfl, rfl, HMb.out.1, HMb.out.2.1, HMb.out.2.2, HXb.out⟩
              · rw [if_pos (by rfl)]
                go_simp
                obtain ⟨y3, hy3⟩ : ∃ Y, Y = y2.alloc (.cells #[.int .i64 0, .int .i64 0, .int .u8 0, .int .i64 0, .int .i64 0, .float .f64 0] 35) := ⟨_, rfl⟩
                obtain ⟨B6, hB6⟩ : ∃ b, b = y2.heap.size := ⟨_, rfl⟩
                have ho : Only (fun _ => False) y2 y3 := by rw [hy3]; exact (Only.refl _ _).alloc _
                have HXy3 : Hid (Only (fun _ => False) w3 y3) := HXy2.out.trans ho
                have HB6y3 : Hid (Blk w3 y3 B6 35 #[.int .i64 0, .int .i64 0, .int .u8 0, .int .i64 0, .int .i64 0, .float .f64 0]) := by rw [hy3, hB6]; exact Blk.made HXy2.out _ _
                have HMy3 : Hid (Made y3 LF nm k aC aO cC cO) := HMy2.out.keep ho
                rw [← hy3, ← hB6]
                clear hy3 hB6 ho
                refine hK.out _ _ (HKS.out _ HXy3.out) (fun hHeld => ?_)
                clear hK
                (try simp only [Act.put, List.setIfInBounds_toArray, List.set_cons_zero, List.set_cons_succ])
                refine wpAnyH_ready (rs := [4]) (by kernel_rfl) (by simp) ?_
                refine AllReadyH.cons rfl (fun K hK => ?_) AllReadyH.nil
                rw [if_pos (by rfl)]
                go_simp
                obtain ⟨y4, hy4⟩ : ∃ Y, Y = y3.alloc (.cells #[.slice none 0 0, .slice none 0 0] 31) := ⟨_, rfl⟩
                obtain ⟨B5, hB5⟩ : ∃ b, b = y3.heap.size := ⟨_, rfl⟩
                have ho : Only (fun _ => False) y3 y4 := by rw [hy4]; exact (Only.refl _ _).alloc _
                have HXy4 : Hid (Only (fun _ => False) w3 y4) := HXy3.out.trans ho
                have HB5y4 : Hid (Blk w3 y4 B5 31 #[.slice none 0 0, .slice none 0 0]) := by rw [hy4, hB5]; exact Blk.made HXy3.out _ _
                have HB6y4 : Hid (Blk w3 y4 B6 35 #[.int .i64 0, .int .i64 0, .int .u8 0, .int .i64 0, .int .i64 0, .float .f64 0]) := HB6y3.out.keep ho
                have HMy4 : Hid (Made y4 LF nm k aC aO cC cO) := HMy3.out.keep ho
                rw [← hy4, ← hB5]
                clear hy4 hB5 ho
                refine hK.out _ _ (HKS.out _ HXy4.out) (fun hHeld => ?_)
                clear hK
                (try simp only [Act.put, List.setIfInBounds_toArray, List.set_cons_zero, List.set_cons_succ])
                refine wpAnyH_ready (rs := [6]) (by kernel_rfl) (by simp) ?_
                refine AllReadyH.cons rfl (fun K hK => ?_) AllReadyH.nil
                rw [if_pos (by rfl)]
                have HXa : Hid (Only (fun _ => False) w3 (y4.setRow B5 #[.slice aC k cC, .slice aO (k + 1) cO])) := HXy4.out.setRowNew HB5y4.out.2 _
                refine wp_store_row 31 _ _ rfl B5 #[.slice aC k cC, .slice aO (k + 1) cO] rfl rfl 31 _ HB5y4.out.1 (by kernel_rfl) rfl (two_one _ _ _ _ _ _) ?_
                have HMa : Hid (Made (y4.setRow B5 #[.slice aC k cC, .slice aO (k + 1) cO]) LF nm k aC aO cC cO ∧ Blk w3 (y4.setRow B5 #[.slice aC k cC, .slice aO (k + 1) cO]) B5 31 #[.slice aC k cC, .slice aO (k + 1) cO] ∧ Blk w3 (y4.setRow B5 #[.slice aC k cC, .slice aO (k + 1) cO]) B6 35 #[.int .i64 0, .int .i64 0, .int .u8 0, .int .i64 0, .int .i64 0, .float .f64 0]) := ⟨HMy4.out.store HB5y4.out.1 (by decide) (by decide) _, HB5y4.out.put _, HB6y4.out.far HB5y4.out (by decide) _⟩
                obtain ⟨za, hza⟩ : ∃ Y, Y = y4.setRow B5 #[.slice aC k cC, .slice aO (k + 1) cO] := ⟨_, rfl⟩
                rw [← hza] at HXa HMa ⊢
                clear hza
                refine hK.out _ _ (HKS.out _ HXa.out) (fun hHeld => ?_)
                clear hK
                (try simp only [Act.put, List.setIfInBounds_toArray, List.set_cons_zero, List.set_cons_succ])
                refine wpAnyH_ready (rs := [7]) (by kernel_rfl) (by simp) ?_
                refine AllReadyH.cons rfl (fun K hK => ?_) AllReadyH.nil
                rw [if_pos (by rfl)]
                have HXb : Hid (Only (fun _ => False) w3 (za.setRow B6 #[.int .i64 (W1 : Int), .int .i64 (T1 : Int), .int .u8 (M1 : Int), .int .i64 (hy : Int), .int .i64 (pr : Int), .float .f64 lo])) := HXa.out.setRowNew HMa.out.2.2.2 _
                refine wp_store_row 35 _ _ rfl B6 #[.int .i64 (W1 : Int), .int .i64 (T1 : Int), .int .u8 (M1 : Int), .int .i64 (hy : Int), .int .i64 (pr : Int), .float .f64 lo] rfl rfl 35 _ HMa.out.2.2.1 (by kernel_rfl) rfl (cfg_one _ _ _ _ _ _) ?_
                have HMb : Hid (Made (za.setRow B6 #[.int .i64 (W1 : Int), .int .i64 (T1 : Int), .int .u8 (M1 : Int), .int .i64 (hy : Int), .int .i64 (pr : Int), .float .f64 lo]) LF nm k aC aO cC cO ∧ Blk w3 (za.setRow B6 #[.int .i64 (W1 : Int), .int .i64 (T1 : Int), .int .u8 (M1 : Int), .int .i64 (hy : Int), .int .i64 (pr : Int), .float .f64 lo]) B5 31 #[.slice aC k cC, .slice aO (k + 1) cO] ∧ Blk w3 (za.setRow B6 #[.int .i64 (W1 : Int), .int .i64 (T1 : Int), .int .u8 (M1 : Int), .int .i64 (hy : Int), .int .i64 (pr : Int), .float .f64 lo]) B6 35 #[.int .i64 (W1 : Int), .int .i64 (T1 : Int), .int .u8 (M1 : Int), .int .i64 (hy : Int), .int .i64 (pr : Int), .float .f64 lo]) := ⟨HMa.out.1.store HMa.out.2.2.1 (by decide) (by decide) _, HMa.out.2.1.far HMa.out.2.2 (by decide) _, HMa.out.2.2.put _⟩
                obtain ⟨zb, hzb⟩ : ∃ Y, Y = za.setRow B6 #[.int .i64 (W1 : Int), .int .i64 (T1 : Int), .int .u8 (M1 : Int), .int .i64 (hy : Int), .int .i64 (pr : Int), .float .f64 lo] := ⟨_, rfl⟩
                rw [← hzb] at HXb HMb ⊢
                clear hzb
                refine hK.out _ _ (HKS.out _ HXb.out) (fun hHeld => ?_)
                clear hK
                (try simp only [Act.put, List.setIfInBounds_toArray, List.set_cons_zero, List.set_cons_succ])
                refine wpAnyH_done (by kernel_rfl) ?_ _
                clear hHeld
                go_wp2_with fail
                go_meet
                exact ⟨k, B5, B6, aC, aO, cC, cO, _, rfl, rfl, rfl, HMb.out.1, HMb.out.2.1, HMb.out.2.2, HXb.out⟩
            · rw [if_pos (by rfl)]
              go_simp
              obtain ⟨y2, hy2⟩ : ∃ Y, Y = y1.alloc (.cells #[.slice none 0 0, .slice none 0 0] 31) := ⟨_, rfl⟩
              obtain ⟨B5, hB5⟩ : ∃ b, b = y1.heap.size := ⟨_, rfl⟩
              have ho : Only (fun _ => False) y1 y2 := by rw [hy2]; exact (Only.refl _ _).alloc _
              have HXy2 : Hid (Only (fun _ => False) w3 y2) := HXy1.out.trans ho
              have HB5y2 : Hid (Blk w3 y2 B5 31 #[.slice none 0 0, .slice none 0 0]) := by rw [hy2, hB5]; exact Blk.made HXy1.out _ _
              have HMy2 : Hid (Made y2 LF nm k aC aO cC cO) := HMy1.out.keep ho
              rw [← hy2, ← hB5]
              clear hy2 hB5 ho
              refine hK.out _ _ (HKS.out _ HXy2.out) (fun hHeld => ?_)
              clear hK
              (try simp only [Act.put, List.setIfInBounds_toArray, List.set_cons_zero, List.set_cons_succ])
              refine wpAnyH_ready (rs := [3, 5]) (by kernel_rfl) (by simp) ?_
              refine AllReadyH.cons rfl (fun K hK => ?_) (AllReadyH.cons rfl (fun K hK => ?_) AllReadyH.nil)
              · rw [if_pos (by rfl)]
                go_simp
                refine Calls.mono (HCF.out _) ?_
                rintro e y3 ⟨rfl, ho⟩
                have HMy3 : Hid (Made y3 LF nm k aC aO cC cO) := HMy2.out.keep ho
                have HXy3 : Hid (Only (fun _ => False) w3 y3) := HXy2.out.trans ho
                have HB5y3 : Hid (Blk w3 y3 B5 31 #[.slice none 0 0, .slice none 0 0]) := HB5y2.out.keep ho
                clear ho
                refine hK.out _ _ (HKS.out _ HXy3.out) (fun hHeld => ?_)
                clear hK
                (try simp only [Act.put, List.setIfInBounds_toArray, List.set_cons_zero, List.set_cons_succ])
                refine wpAnyH_ready (rs := [5]) (by kernel_rfl) (by simp) ?_
                refine AllReadyH.cons rfl (fun K hK => ?_) AllReadyH.nil
                rw [if_pos (by rfl)]
                go_simp
                obtain ⟨y4, hy4⟩ : ∃ Y, Y = y3.alloc (.cells #[.int .i64 0, .int .i64 0, .int .u8 0, .int .i64 0, .int .i64 0, .float .f64 0] 35) := ⟨_, rfl⟩
                obtain ⟨B6, hB6⟩ : ∃ b, b = y3.heap.size := ⟨_, rfl⟩
                have ho : Only (fun _ => False) y3 y4 := by rw [hy4]; exact (Only.refl _ _).alloc _
                have HXy4 : Hid (Only (fun _ => False) w3 y4) := HXy3.out.trans ho
                have HB6y4 : Hid (Blk w3 y4 B6 35 #[.int .i64 0, .int .i64 0, .int .u8 0, .int .i64 0, .int .i64 0, .float .f64 0]) := by rw [hy4, hB6]; exact Blk.made HXy3.out _ _
                have HB5y4 : Hid (Blk w3 y4 B5 31 #[.slice none 0 0, .slice none 0 0]) := HB5y3.out.keep ho
                have HMy4 : Hid (Made y4 LF nm k aC aO cC cO) := HMy3.out.keep ho
                rw [← hy4, ← hB6]
                clear hy4 hB6 ho
                refine hK.out _ _ (HKS.out _ HXy4.out) (fun hHeld => ?_)
                clear hK
                (try simp only [Act.put, List.setIfInBounds_toArray, List.set_cons_zero, List.set_cons_succ])
                refine wpAnyH_ready (rs := [6]) (by kernel_rfl) (by simp) ?_
                refine AllReadyH.cons rfl (fun K hK => ?_) AllReadyH.nil
                rw [if_pos (by rfl)]
                have HXa : Hid (Only (fun _ => False) w3 (y4.setRow B5 #[.slice aC k cC, .slice aO (k + 1) cO])) := HXy4.out.setRowNew HB5y4.out.2 _
                refine wp_store_row 31 _ _ rfl B5 #[.slice aC k cC, .slice aO (k + 1) cO] rfl rfl 31 _ HB5y4.out.1 (by kernel_rfl) rfl (two_one _ _ _ _ _ _) ?_
                have HMa : Hid (Made (y4.setRow B5 #[.slice aC k cC, .slice aO (k + 1) cO]) LF nm k aC aO cC cO ∧ Blk w3 (y4.setRow B5 #[.slice aC k cC, .slice aO (k + 1) cO]) B5 31 #[.slice aC k cC, .slice aO (k + 1) cO] ∧ Blk w3 (y4.setRow B5 #[.slice aC k cC, .slice aO (k + 1) cO]) B6 35 #[.int .i64 0, .int .i64 0, .int .u8 0, .int .i64 0, .int .i64 0, .float .f64 0]) := ⟨HMy4.out.store HB5y4.out.1 (by decide) (by decide) _, HB5y4.out.put _, HB6y4.out.far HB5y4.out (by decide) _⟩
                obtain ⟨za, hza⟩ : ∃ Y, Y = y4.setRow B5 #[.slice aC k cC, .slice aO (k + 1) cO] := ⟨_, rfl⟩
                rw [← hza] at HXa HMa ⊢
                clear hza
                refine hK.out _ _ (HKS.out _ HXa.out) (fun hHeld => ?_)
                clear hK
                (try simp only [Act.put, List.setIfInBounds_toArray, List.set_cons_zero, List.set_cons_succ])
                refine wpAnyH_ready (rs := [7]) (by kernel_rfl) (by simp) ?_
                refine AllReadyH.cons rfl (fun K hK => ?_) AllReadyH.nil
                rw [if_pos (by rfl)]
                have HXb : Hid (Only (fun _ => False) w3 (za.setRow B6 #[.int .i64 (W1 : Int), .int .i64 (T1 : Int), .int .u8 (M1 : Int), .int .i64 (hy : Int), .int .i64 (pr : Int), .float .f64 lo])) := HXa.out.setRowNew HMa.out.2.2.2 _
                refine wp_store_row 35 _ _ rfl B6 #[.int .i64 (W1 : Int), .int .i64 (T1 : Int), .int .u8 (M1 : Int), .int .i64 (hy : Int), .int .i64 (pr : Int), .float .f64 lo] rfl rfl 35 _ HMa.out.2.2.1 (by kernel_rfl) rfl (cfg_one _ _ _ _ _ _) ?_
                have HMb : Hid (Made (za.setRow B6 #[.int .i64 (W1 : Int), .int .i64 (T1 : Int), .int .u8 (M1 : Int), .int .i64 (hy : Int), .int .i64 (pr : Int), .float .f64 lo]) LF nm k aC aO cC cO ∧ Blk w3 (za.setRow B6 #[.int .i64 (W1 : Int), .int .i64 (T1 : Int), .int .u8 (M1 : Int), .int .i64 (hy : Int), .int .i64 (pr : Int), .float .f64 lo]) B5 31 #[.slice aC k cC, .slice aO (k + 1) cO] ∧ Blk w3 (za.setRow B6 #[.int .i64 (W1 : Int), .int .i64 (T1 : Int), .int .u8 (M1 : Int), .int .i64 (hy : Int), .int .i64 (pr : Int), .float .f64 lo]) B6 35 #[.int .i64 (W1 : Int), .int .i64 (T1 : Int), .int .u8 (M1 : Int), .int .i64 (hy : Int), .int .i64 (pr : Int), .float .f64 lo]) := ⟨HMa.out.1.store HMa.out.2.2.1 (by decide) (by decide) _, HMa.out.2.1.far HMa.out.2.2 (by decide) _, HMa.out.2.2.put _⟩
                obtain ⟨zb, hzb⟩ : ∃ Y, Y = za.setRow B6 #[.int .i64 (W1 : Int), .int .i64 (T1 : Int), .int .u8 (M1 : Int), .int .i64 (hy : Int), .int .i64 (pr : Int), .float .f64 lo] := ⟨_, rfl⟩
                rw [← hzb] at HXb HMb ⊢
                clear hzb
                refine hK.out _ _ (HKS.out _ HXb.out) (fun hHeld => ?_)
                clear hK
                (try simp only [Act.put, List.setIfInBounds_toArray, List.set_cons_zero, List.set_cons_succ])
                refine wpAnyH_done (by kernel_rfl) ?_ _
                clear hHeld
                go_wp2_with fail
                go_meet
                exact ⟨k, B5, B6, aC, aO, cC, cO, _, rfl, rfl, rfl, HMb.out.1, HMb.out.2.1, HMb.out.2.2, HXb.out⟩
              · rw [if_pos (by rfl)]
                go_simp
                obtain ⟨y3, hy3⟩ : ∃ Y, Y = y2.alloc (.cells #[.int .i64 0, .int .i64 0, .int .u8 0, .int .i64 0, .int .i64 0, .float .f64 0] 35) := ⟨_, rfl⟩
                obtain ⟨B6, hB6⟩ : ∃ b, b = y2.heap.size := ⟨_, rfl⟩
                have ho : Only (fun _ => False) y2 y3 := by rw [hy3]; exact (Only.refl _ _).alloc _
                have HXy3 : Hid (Only (fun _ => False) w3 y3) := HXy2.out.trans ho
                have HB6y3 : Hid (Blk w3 y3 B6 35 #[.int .i64 0, .int .i64 0, .int .u8 0, .int .i64 0, .int .i64 0, .float .f64 0]) := by rw [hy3, hB6]; exact Blk.made HXy2.out _ _
                have HB5y3 : Hid (Blk w3 y3 B5 31 #[.slice none 0 0, .slice none 0 0]) := HB5y2.out.keep ho
                have HMy3 : Hid (Made y3 LF nm k aC aO cC cO) := HMy2.out.keep ho
                rw [← hy3, ← hB6]
                clear hy3 hB6 ho
                refine hK.out _ _ (HKS.out _ HXy3.out) (fun hHeld => ?_)
                clear hK
                (try simp only [Act.put, List.setIfInBounds_toArray, List.set_cons_zero, List.set_cons_succ])
                refine wpAnyH_ready (rs := [3]) (by kernel_rfl) (by simp) ?_
                refine AllReadyH.cons rfl (fun K hK => ?_) AllReadyH.nil
                rw [if_pos (by rfl)]
                go_simp
                refine Calls.mono (HCF.out _) ?_
                rintro e y4 ⟨rfl, ho⟩
                have HMy4 : Hid (Made y4 LF nm k aC aO cC cO) := HMy3.out.keep ho
                have HXy4 : Hid (Only (fun _ => False) w3 y4) := HXy3.out.trans ho
                have HB5y4 : Hid (Blk w3 y4 B5 31 #[.slice none 0 0, .slice none 0 0]) := HB5y3.out.keep ho
                have HB6y4 : Hid (Blk w3 y4 B6 35 #[.int .i64 0, .int .i64 0, .int .u8 0, .int .i64 0, .int .i64 0, .float .f64 0]) := HB6y3.out.keep ho
                clear ho
                refine hK.out _ _ (HKS.out _ HXy4.out) (fun hHeld => ?_)
                clear hK
                (try simp only [Act.put, List.setIfInBounds_toArray, List.set_cons_zero, List.set_cons_succ])
                refine wpAnyH_ready (rs := [6]) (by kernel_rfl) (by simp) ?_
                refine AllReadyH.cons rfl (fun K hK => ?_) AllReadyH.nil
                rw [if_pos (by rfl)]
                have HXa : Hid (Only (fun _ => False) w3 (y4.setRow B5 #[.slice aC k cC, .slice aO (k + 1) cO])) := HXy4.out.setRowNew HB5y4.out.2 _
                refine wp_store_row 31 _ _ rfl B5 #[.slice aC k cC, .slice aO (k + 1) cO] rfl rfl 31 _ HB5y4.out.1 (by kernel_rfl) rfl (two_one _ _ _ _ _ _) ?_
                have HMa : Hid (Made (y4.setRow B5 #[.slice aC k cC, .slice aO (k + 1) cO]) LF nm k aC aO cC cO ∧ Blk w3 (y4.setRow B5 #[.slice aC k cC, .slice aO (k + 1) cO]) B5 31 #[.slice aC k cC, .slice aO (k + 1) cO] ∧ Blk w3 (y4.setRow B5 #[.slice aC k cC, .slice aO (k + 1) cO]) B6 35 #[.int .i64 0, .int .i64 0, .int .u8 0, .int .i64 0, .int .i64 0, .float .f64 0]) := ⟨HMy4.out.store HB5y4.out.1 (by decide) (by decide) _, HB5y4.out.put _, HB6y4.out.far HB5y4.out (by decide) _⟩
                obtain ⟨za, hza⟩ : ∃ Y, Y = y4.setRow B5 #[.slice aC k cC, .slice aO (k + 1) cO] := ⟨_, rfl⟩
                rw [← hza] at HXa HMa ⊢
                clear hza
                refine hK.out _ _ (HKS.out _ HXa.out) (fun hHeld => ?_)
                clear hK
                (try simp only [Act.put, List.setIfInBounds_toArray, List.set_cons_zero, List.set_cons_succ])
                refine wpAnyH_ready (rs := [7]) (by kernel_rfl) (by simp) ?_
                refine AllReadyH.cons rfl (fun K hK => ?_) AllReadyH.nil
                rw [if_pos (by rfl)]
                have HXb : Hid (Only (fun _ => False) w3 (za.setRow B6 #[.int .i64 (W1 : Int), .int .i64 (T1 : Int), .int .u8 (M1 : Int), .int .i64 (hy : Int), .int .i64 (pr : Int), .float .f64 lo])) := HXa.out.setRowNew HMa.out.2.2.2 _
                refine wp_store_row 35 _ _ rfl B6 #[.int .i64 (W1 : Int), .int .i64 (T1 : Int), .int .u8 (M1 : Int), .int .i64 (hy : Int), .int .i64 (pr : Int), .float .f64 lo] rfl rfl 35 _ HMa.out.2.2.1 (by kernel_rfl) rfl (cfg_one _ _ _ _ _ _) ?_
                have HMb : Hid (Made (za.setRow B6 #[.int .i64 (W1 : Int), .int .i64 (T1 : Int), .int .u8 (M1 : Int), .int .i64 (hy : Int), .int .i64 (pr : Int), .float .f64 lo]) LF nm k aC aO cC cO ∧ Blk w3 (za.setRow B6 #[.int .i64 (W1 : Int), .int .i64 (T1 : Int), .int .u8 (M1 : Int), .int .i64 (hy : Int), .int .i64 (pr : Int), .float .f64 lo]) B5 31 #[.slice aC k cC, .slice aO (k + 1) cO] ∧ Blk w3 (za.setRow B6 #[.int .i64 (W1 : Int), .int .i64 (T1 : Int), .int .u8 (M1 : Int), .int .i64 (hy : Int), .int .i64 (pr : Int), .float .f64 lo]) B6 35 #[.int .i64 (W1 : Int), .int .i64 (T1 : Int), .int .u8 (M1 : Int), .int .i64 (hy : Int), .int .i64 (pr : Int), .float .f64 lo]) := ⟨HMa.out.1.store HMa.out.2.2.1 (by decide) (by decide) _, HMa.out.2.1.far HMa.out.2.2 (by decide) _, HMa.out.2.2.put _⟩
                obtain ⟨zb, hzb⟩ : ∃ Y, Y = za.setRow B6 #[.int .i64 (W1 : Int), .int .i64 (T1 : Int), .int .u8 (M1 : Int), .int .i64 (hy : Int), .int .i64 (pr : Int), .float .f64 lo] := ⟨_, rfl⟩
                rw [← hzb] at HXb HMb ⊢
                clear hzb
                refine hK.out _ _ (HKS.out _ HXb.out) (fun hHeld => ?_)
                clear hK
                (try simp only [Act.put, List.setIfInBounds_toArray, List.set_cons_zero, List.set_cons_succ])
                refine wpAnyH_done (by kernel_rfl) ?_ _
                clear hHeld
                go_wp2_with fail
                go_meet
                exact ⟨k, B5, B6, aC, aO, cC, cO, _, rfl, rfl, rfl, HMb.out.1, HMb.out.2.1, HMb.out.2.2, HXb.out⟩
            · rw [if_pos (by rfl)]
              go_simp
              obtain ⟨y2, hy2⟩ : ∃ Y, Y = y1.alloc (.cells #[.int .i64 0, .int .i64 0, .int .u8 0, .int .i64 0, .int .i64 0, .float .f64 0] 35) := ⟨_, rfl⟩
              obtain ⟨B6, hB6⟩ : ∃ b, b = y1.heap.size := ⟨_, rfl⟩
              have ho : Only (fun _ => False) y1 y2 := by rw [hy2]; exact (Only.refl _ _).alloc _
              have HXy2 : Hid (Only (fun _ => False) w3 y2) := HXy1.out.trans ho
              have HB6y2 : Hid (Blk w3 y2 B6 35 #[.int .i64 0, .int .i64 0, .int .u8 0, .int .i64 0, .int .i64 0, .float .f64 0]) := by rw [hy2, hB6]; exact Blk.made HXy1.out _ _
              have HMy2 : Hid (Made y2 LF nm k aC aO cC cO) := HMy1.out.keep ho
              rw [← hy2, ← hB6]
              clear hy2 hB6 ho
              refine hK.out _ _ (HKS.out _ HXy2.out) (fun hHeld => ?_)
              clear hK
              (try simp only [Act.put, List.setIfInBounds_toArray, List.set_cons_zero, List.set_cons_succ])
              refine wpAnyH_ready (rs := [3, 4]) (by kernel_rfl) (by simp) ?_
              refine AllReadyH.cons rfl (fun K hK => ?_) (AllReadyH.cons rfl (fun K hK => ?_) AllReadyH.nil)
              · rw [if_pos (by rfl)]
                go_simp
                refine Calls.mono (HCF.out _) ?_
                rintro e y3 ⟨rfl, ho⟩
                have HMy3 : Hid (Made y3 LF nm k aC aO cC cO) := HMy2.out.keep ho
                have HXy3 : Hid (Only (fun _ => False) w3 y3) := HXy2.out.trans ho
                have HB6y3 : Hid (Blk w3 y3 B6 35 #[.int .i64 0, .int .i64 0, .int .u8 0, .int .i64 0, .int .i64 0, .float .f64 0]) := HB6y2.out.keep ho
                clear ho
                refine hK.out _ _ (HKS.out _ HXy3.out) (fun hHeld => ?_)
                clear hK
                (try simp only [Act.put, List.setIfInBounds_toArray, List.set_cons_zero, List.set_cons_succ])
                refine wpAnyH_ready (rs := [4]) (by kernel_rfl) (by simp) ?_
                refine AllReadyH.cons rfl (fun K hK => ?_) AllReadyH.nil
                rw [if_pos (by rfl)]
                go_simp
                obtain ⟨y4, hy4⟩ : ∃ Y, Y = y3.alloc (.cells #[.slice none 0 0, .slice none 0 0] 31) := ⟨_, rfl⟩
                obtain ⟨B5, hB5⟩ : ∃ b, b = y3.heap.size := ⟨_, rfl⟩
                have ho : Only (fun _ => False) y3 y4 := by rw [hy4]; exact (Only.refl _ _).alloc _
                have HXy4 : Hid (Only (fun _ => False) w3 y4) := HXy3.out.trans ho
                have HB5y4 : Hid (Blk w3 y4 B5 31 #[.slice none 0 0, .slice none 0 0]) := by rw [hy4, hB5]; exact Blk.made HXy3.out _ _
                have HB6y4 : Hid (Blk w3 y4 B6 35 #[.int .i64 0, .int .i64 0, .int .u8 0, .int .i64 0, .int .i64 0, .float .f64 0]) := HB6y3.out.keep ho
                have HMy4 : Hid (Made y4 LF nm k aC aO cC cO) := HMy3.out.keep ho
                rw [← hy4, ← hB5]
                clear hy4 hB5 ho
                refine hK.out _ _ (HKS.out _ HXy4.out) (fun hHeld => ?_)
                clear hK
                (try simp only [Act.put, List.setIfInBounds_toArray, List.set_cons_zero, List.set_cons_succ])
                refine wpAnyH_ready (rs := [6]) (by kernel_rfl) (by simp) ?_
                refine AllReadyH.cons rfl (fun K hK => ?_) AllReadyH.nil
                rw [if_pos (by rfl)]
                have HXa : Hid (Only (fun _ => False) w3 (y4.setRow B5 #[.slice aC k cC, .slice aO (k + 1) cO])) := HXy4.out.setRowNew HB5y4.out.2 _
                refine wp_store_row 31 _ _ rfl B5 #[.slice aC k cC, .slice aO (k + 1) cO] rfl rfl 31 _ HB5y4.out.1 (by kernel_rfl) rfl (two_one _ _ _ _ _ _) ?_
                have HMa : Hid (Made (y4.setRow B5 #[.slice aC k cC, .slice aO (k + 1) cO]) LF nm k aC aO cC cO ∧ Blk w3 (y4.setRow B5 #[.slice aC k cC, .slice aO (k + 1) cO]) B5 31 #[.slice aC k cC, .slice aO (k + 1) cO] ∧ Blk w3 (y4.setRow B5 #[.slice aC k cC, .slice aO (k + 1) cO]) B6 35 #[.int .i64 0, .int .i64 0, .int .u8 0, .int .i64 0, .int .i64 0, .float .f64 0]) := ⟨HMy4.out.store HB5y4.out.1 (by decide) (by decide) _, HB5y4.out.put _, HB6y4.out.far HB5y4.out (by decide) _⟩
                obtain ⟨za, hza⟩ : ∃ Y, Y = y4.setRow B5 #[.slice aC k cC, .slice aO (k + 1) cO] := ⟨_, rfl⟩
                rw [← hza] at HXa HMa ⊢
                clear hza
                refine hK.out _ _ (HKS.out _ HXa.out) (fun hHeld => ?_)
                clear hK
                (try simp only [Act.put, List.setIfInBounds_toArray, List.set_cons_zero, List.set_cons_succ])
                refine wpAnyH_ready (rs := [7]) (by kernel_rfl) (by simp) ?_
                refine AllReadyH.cons rfl (fun K hK => ?_) AllReadyH.nil
                rw [if_pos (by rfl)]
                have HXb : Hid (Only (fun _ => False) w3 (za.setRow B6 #[.int .i64 (W1 : Int), .int .i64 (T1 : Int), .int .u8 (M1 : Int), .int .i64 (hy : Int), .int .i64 (pr : Int), .float .f64 lo])) := HXa.out.setRowNew HMa.out.2.2.2 _
                refine wp_store_row 35 _ _ rfl B6 #[.int .i64 (W1 : Int), .int .i64 (T1 : Int), .int .u8 (M1 : Int), .int .i64 (hy : Int), .int .i64 (pr : Int), .float .f64 lo] rfl rfl 35 _ HMa.out.2.2.1 (by kernel_rfl) rfl (cfg_one _ _ _ _ _ _) ?_
                have HMb : Hid (Made (za.setRow B6 #[.int .i64 (W1 : Int), .int .i64 (T1 : Int), .int .u8 (M1 : Int), .int .i64 (hy : Int), .int .i64 (pr : Int), .float .f64 lo]) LF nm k aC aO cC cO ∧ Blk w3 (za.setRow B6 #[.int .i64 (W1 : Int), .int .i64 (T1 : Int), .int .u8 (M1 : Int), .int .i64 (hy : Int), .int .i64 (pr : Int), .float .f64 lo]) B5 31 #[.slice aC k cC, .slice aO (k + 1) cO] ∧ Blk w3 (za.setRow B6 #[.int .i64 (W1 : Int), .int .i64 (T1 : Int), .int .u8 (M1 : Int), .int .i64 (hy : Int), .int .i64 (pr : Int), .float .f64 lo]) B6 35 #[.int .i64 (W1 : Int), .int .i64 (T1 : Int), .int .u8 (M1 : Int), .int .i64 (hy : Int), .int .i64 (pr : Int), .float .f64 lo]) := ⟨HMa.out.1.store HMa.out.2.2.1 (by decide) (by decide) _, HMa.out.2.1.far HMa.out.2.2 (by decide) _, HMa.out.2.2.put _⟩
                obtain ⟨zb, hzb⟩ : ∃ Y, Y = za.setRow B6 #[.int .i64 (W1 : Int), .int .i64 (T1 : Int), .int .u8 (M1 : Int), .int .i64 (hy : Int), .int .i64 (pr : Int), .float .f64 lo] := ⟨_, rfl⟩
                rw [← hzb] at HXb HMb ⊢
                clear hzb
                refine hK.out _ _ (HKS.out _ HXb.out) (fun hHeld => ?_)
                clear hK
                (try simp only [Act.put, List.setIfInBounds_toArray, List.set_cons_zero, List.set_cons_succ])
                refine wpAnyH_done (by kernel_rfl) ?_ _
                clear hHeld
                go_wp2_with fail
                go_meet
                exact ⟨k, B5, B6, aC, aO, cC, cO, _, rfl, rfl, rfl, HMb.out.1, HMb.out.2.1, HMb.out.2.2, HXb.out⟩
              · rw [if_pos (by rfl)]
                go_simp
                obtain ⟨y3, hy3⟩ : ∃ Y, Y = y2.alloc (.cells #[.slice none 0 0, .slice none 0 0] 31) := ⟨_, rfl⟩
                obtain ⟨B5, hB5⟩ : ∃ b, b = y2.heap.size := ⟨_, rfl⟩
                have ho : Only (fun _ => False) y2 y3 := by rw [hy3]; exact (Only.refl _ _).alloc _
                have HXy3 : Hid (Only (fun _ => False) w3 y3) := HXy2.out.trans ho
                have HB5y3 : Hid (Blk w3 y3 B5 31 #[.slice none 0 0, .slice none 0 0]) := by rw [hy3, hB5]; exact Blk.made HXy2.out _ _
                have HB6y3 : Hid (Blk w3 y3 B6 35 #[.int .i64 0, .int .i64 0, .int .u8 0, .int .i64 0, .int .i64 0, .float .f64 0]) := HB6y2.out.keep ho
                have HMy3 : Hid (Made y3 LF nm k aC aO cC cO) := HMy2.out.keep ho
                rw [← hy3, ← hB5]
                clear hy3 hB5 ho
                refine hK.out _ _ (HKS.out _ HXy3.out) (fun hHeld => ?_)
                clear hK
                (try simp only [Act.put, List.setIfInBounds_toArray, List.set_cons_zero, List.set_cons_succ])
                refine wpAnyH_ready (rs := [3]) (by kernel_rfl) (by simp) ?_
                refine AllReadyH.cons rfl (fun K hK => ?_) AllReadyH.nil
                rw [if_pos (by rfl)]
                go_simp
                refine Calls.mono (HCF.out _) ?_
                rintro e y4 ⟨rfl, ho⟩
                have HMy4 : Hid (Made y4 LF nm k aC aO cC cO) := HMy3.out.keep ho
                have HXy4 : Hid (Only (fun _ => False) w3 y4) := HXy3.out.trans ho
                have HB5y4 : Hid (Blk w3 y4 B5 31 #[.slice none 0 0, .slice none 0 0]) := HB5y3.out.keep ho
                have HB6y4 : Hid (Blk w3 y4 B6 35 #[.int .i64 0, .int .i64 0, .int .u8 0, .int .i64 0, .int .i64 0, .float .f64 0]) := HB6y3.out.keep ho
                clear ho
                refine hK.out _ _ (HKS.out _ HXy4.out) (fun hHeld => ?_)
                clear hK
                (try simp only [Act.put, List.setIfInBounds_toArray, List.set_cons_zero, List.set_cons_succ])
                refine wpAnyH_ready (rs := [6]) (by kernel_rfl) (by simp) ?_
                refine AllReadyH.cons rfl (fun K hK => ?_) AllReadyH.nil
                rw [if_pos (by rfl)]
                have HXa : Hid (Only (fun _ => False) w3 (y4.setRow B5 #[.slice aC k cC, .slice aO (k + 1) cO])) := HXy4.out.setRowNew HB5y4.out.2 _
                refine wp_store_row 31 _ _ rfl B5 #[.slice aC k cC, .slice aO (k + 1) cO] rfl rfl 31 _ HB5y4.out.1 (by kernel_rfl) rfl (two_one _ _ _ _ _ _) ?_
                have HMa : Hid (Made (y4.setRow B5 #[.slice aC k cC, .slice aO (k + 1) cO]) LF nm k aC aO cC cO ∧ Blk w3 (y4.setRow B5 #[.slice aC k cC, .slice aO (k + 1) cO]) B5 31 #[.slice aC k cC, .slice aO (k + 1) cO] ∧ Blk w3 (y4.setRow B5 #[.slice aC k cC, .slice aO (k + 1) cO]) B6 35 #[.int .i64 0, .int .i64 0, .int .u8 0, .int .i64 0, .int .i64 0, .float .f64 0]) := ⟨HMy4.out.store HB5y4.out.1 (by decide) (by decide) _, HB5y4.out.put _, HB6y4.out.far HB5y4.out (by decide) _⟩
                obtain ⟨za, hza⟩ : ∃ Y, Y = y4.setRow B5 #[.slice aC k cC, .slice aO (k + 1) cO] := ⟨_, rfl⟩
                rw [← hza] at HXa HMa ⊢
                clear hza
                refine hK.out _ _ (HKS.out _ HXa.out) (fun hHeld => ?_)
                clear hK
                (try simp only [Act.put, List.setIfInBounds_toArray, List.set_cons_zero, List.set_cons_succ])
                refine wpAnyH_ready (rs := [7]) (by kernel_rfl) (by simp) ?_
                refine AllReadyH.cons rfl (fun K hK => ?_) AllReadyH.nil
                rw [if_pos (by rfl)]
                have HXb : Hid (Only (fun _ => False) w3 (za.setRow B6 #[.int .i64 (W1 : Int), .int .i64 (T1 : Int), .int .u8 (M1 : Int), .int .i64 (hy : Int), .int .i64 (pr : Int), .float .f64 lo])) := HXa.out.setRowNew HMa.out.2.2.2 _
                refine wp_store_row 35 _ _ rfl B6 #[.int .i64 (W1 : Int), .int .i64 (T1 : Int), .int .u8 (M1 : Int), .int .i64 (hy : Int), .int .i64 (pr : Int), .float .f64 lo] rfl rfl 35 _ HMa.out.2.2.1 (by kernel_rfl) rfl (cfg_one _ _ _ _ _ _) ?_
                have HMb : Hid (Made (za.setRow B6 #[.int .i64 (W1 : Int), .int .i64 (T1 : Int), .int .u8 (M1 : Int), .int .i64 (hy : Int), .int .i64 (pr : Int), .float .f64 lo]) LF nm k aC aO cC cO ∧ Blk w3 (za.setRow B6 #[.int .i64 (W1 : Int), .int .i64 (T1 : Int), .int .u8 (M1 : Int), .int .i64 (hy : Int), .int .i64 (pr : Int), .float .f64 lo]) B5 31 #[.slice aC k cC, .slice aO (k + 1) cO] ∧ Blk w3 (za.setRow B6 #[.int .i64 (W1 : Int), .int .i64 (T1 : Int), .int .u8 (M1 : Int), .int .i64 (hy : Int), .int .i64 (pr : Int), .float .f64 lo]) B6 35 #[.int .i64 (W1 : Int), .int .i64 (T1 : Int), .int .u8 (M1 : Int), .int .i64 (hy : Int), .int .i64 (pr : Int), .float .f64 lo]) := ⟨HMa.out.1.store HMa.out.2.2.1 (by decide) (by decide) _, HMa.out.2.1.far HMa.out.2.2 (by decide) _, HMa.out.2.2.put _⟩
                obtain ⟨zb, hzb⟩ : ∃ Y, Y = za.setRow B6 #[.int .i64 (W1 : Int), .int .i64 (T1 : Int), .int .u8 (M1 : Int), .int .i64 (hy : Int), .int .i64 (pr : Int), .float .f64 lo] := ⟨_, rfl⟩
                rw [← hzb] at HXb HMb ⊢
                clear hzb
                refine hK.out _ _ (HKS.out _ HXb.out) (fun hHeld => ?_)
                clear hK
                (try simp only [Act.put, List.setIfInBounds_toArray, List.set_cons_zero, List.set_cons_succ])
                refine wpAnyH_done (by kernel_rfl) ?_ _
                clear hHeld
                go_wp2_with fail
                go_meet
                exact ⟨k, B5, B6, aC, aO, cC, cO, _, rfl, rfl, rfl, HMb.out.1, HMb.out.2.1, HMb.out.2.2, HXb.out⟩
          · rw [if_pos (by rfl)]
            go_simp
            obtain ⟨y1, hy1⟩ : ∃ Y, Y = (w3.alloc (.cells #[.slice none 0 0, .slice none 0 0] 31)).drew := ⟨_, rfl⟩
            obtain ⟨B5, hB5⟩ : ∃ b, b = w3.heap.size := ⟨_, rfl⟩
            have ho : Only (fun _ => False) w3 y1 := by rw [hy1]; exact ((Only.refl _ _).alloc _).drew
            have HXy1 : Hid (Only (fun _ => False) w3 y1) := ho
            have HB5y1 : Hid (Blk w3 y1 B5 31 #[.slice none 0 0, .slice none 0 0]) := by rw [hy1, hB5]; exact (Blk.made (Only.refl _ _) _ _).drew
            rw [← hy1, ← hB5]
            clear hy1 hB5 ho
            refine hK.out _ _ (HKS.out _ HXy1.out) (fun hHeld => ?_)
            clear hK
            (try simp only [Act.put, List.setIfInBounds_toArray, List.set_cons_zero, List.set_cons_succ])
            refine wpAnyH_ready (rs := [1, 5]) (by kernel_rfl) (by simp) ?_
            refine AllReadyH.cons rfl (fun K hK => ?_) (AllReadyH.cons rfl (fun K hK => ?_) AllReadyH.nil)
            · rw [if_pos (by rfl)]
              go_simp
              refine Calls.mono (HPA.out _ (HW3.out.trans HXy1.out) HXy1.out) ?_
              rintro e y2 ⟨k, aC, aO, cC, cO, rfl, hmd, ho⟩
              have HMy2 : Hid (Made y2 LF nm k aC aO cC cO) := hmd
              clear hmd
              have HXy2 : Hid (Only (fun _ => False) w3 y2) := HXy1.out.trans ho
              have HB5y2 : Hid (Blk w3 y2 B5 31 #[.slice none 0 0, .slice none 0 0]) := HB5y1.out.keep ho
              clear ho
              refine hK.out _ _ (HKS.out _ HXy2.out) (fun hHeld => ?_)
              clear hK
              (try simp only [Act.put, List.setIfInBounds_toArray, List.set_cons_zero, List.set_cons_succ])
              refine wpAnyH_ready (rs := [3, 5]) (by kernel_rfl) (by simp) ?_
              refine AllReadyH.cons rfl (fun K hK => ?_) (AllReadyH.cons rfl (fun K hK => ?_) AllReadyH.nil)
              · rw [if_pos (by rfl)]
                go_simp
                refine Calls.mono (HCF.out _) ?_
                rintro e y3 ⟨rfl, ho⟩
                have HMy3 : Hid (Made y3 LF nm k aC aO cC cO) := HMy2.out.keep ho
                have HXy3 : Hid (Only (fun _ => False) w3 y3) := HXy2.out.trans ho
                have HB5y3 : Hid (Blk w3 y3 B5 31 #[.slice none 0 0, .slice none 0 0]) := HB5y2.out.keep ho
                clear ho
                refine hK.out _ _ (HKS.out _ HXy3.out) (fun hHeld => ?_)
                clear hK
                (try simp only [Act.put, List.setIfInBounds_toArray, List.set_cons_zero, List.set_cons_succ])
                refine wpAnyH_ready (rs := [5]) (by kernel_rfl) (by simp) ?_
                refine AllReadyH.cons rfl (fun K hK => ?_) AllReadyH.nil
                rw [if_pos (by rfl)]
                go_simp
                obtain ⟨y4, hy4⟩ : ∃ Y, Y = y3.alloc (.cells #[.int .i64 0, .int .i64 0, .int .u8 0, .int .i64 0, .int .i64 0, .float .f64 0] 35) := ⟨_, rfl⟩
                obtain ⟨B6, hB6⟩ : ∃ b, b = y3.heap.size := ⟨_, rfl⟩
                have ho : Only (fun _ => False) y3 y4 := by rw [hy4]; exact (Only.refl _ _).alloc _
                have HXy4 : Hid (Only (fun _ => False) w3 y4) := HXy3.out.trans ho
                have HB6y4 : Hid (Blk w3 y4 B6 35 #[.int .i64 0, .int .i64 0, .int .u8 0, .int .i64 0, .int .i64 0, .float .f64 0]) := by rw [hy4, hB6]; exact Blk.made HXy3.out _ _
                have HB5y4 : Hid (Blk w3 y4 B5 31 #[.slice none 0 0, .slice none 0 0]) := HB5y3.out.keep ho
                have HMy4 : Hid (Made y4 LF nm k aC aO cC cO) := HMy3.out.keep ho
                rw [← hy4, ← hB6]
                clear hy4 hB6 ho
                refine hK.out _ _ (HKS.out _ HXy4.out) (fun hHeld => ?_)
                clear hK
                (try simp only [Act.put, List.setIfInBounds_toArray, List.set_cons_zero, List.set_cons_succ])
                refine wpAnyH_ready (rs := [6]) (by kernel_rfl) (by simp) ?_
                refine AllReadyH.cons rfl (fun K hK => ?_) AllReadyH.nil
                rw [if_pos (by rfl)]
                have HXa : Hid (Only (fun _ => False) w3 (y4.setRow B5 #[.slice aC k cC, .slice aO (k + 1) cO])) := HXy4.out.setRowNew HB5y4.out.2 _
                refine wp_store_row 31 _ _ rfl B5 #[.slice aC k cC, .slice aO (k + 1) cO] rfl rfl 31 _ HB5y4.out.1 (by kernel_rfl) rfl (two_one _ _ _ _ _ _) ?_
                have HMa : Hid (Made (y4.setRow B5 #[.slice aC k cC, .slice aO (k + 1) cO]) LF nm k aC aO cC cO ∧ Blk w3 (y4.setRow B5 #[.slice aC k cC, .slice aO (k + 1) cO]) B5 31 #[.slice aC k cC, .slice aO (k + 1) cO] ∧ Blk w3 (y4.setRow B5 #[.slice aC k cC, .slice aO (k + 1) cO]) B6 35 #[.int .i64 0, .int .i64 0, .int .u8 0, .int .i64 0, .int .i64 0, .float .f64 0]) := ⟨HMy4.out.store HB5y4.out.1 (by decide) (by decide) _, HB5y4.out.put _, HB6y4.out.far HB5y4.out (by decide) _⟩
                obtain ⟨za, hza⟩ : ∃ Y, Y = y4.setRow B5 #[.slice aC k cC, .slice aO (k + 1) cO] := ⟨_, rfl⟩
                rw [← hza] at HXa HMa ⊢
                clear hza
                refine hK.out _ _ (HKS.out _ HXa.out) (fun hHeld => ?_)
                clear hK
                (try simp only [Act.put, List.setIfInBounds_toArray, List.set_cons_zero, List.set_cons_succ])
                refine wpAnyH_ready (rs := [7]) (by kernel_rfl) (by simp) ?_
                refine AllReadyH.cons rfl (fun K hK => ?_) AllReadyH.nil
                rw [if_pos (by rfl)]
                have HXb : Hid (Only (fun _ => False) w3 (za.setRow B6 #[.int .i64 (W1 : Int), .int .i64 (T1 : Int), .int .u8 (M1 : Int), .int .i64 (hy : Int), .int .i64 (pr : Int), .float .f64 lo])) := HXa.out.setRowNew HMa.out.2.2.2 _
                refine wp_store_row 35 _ _ rfl B6 #[.int .i64 (W1 : Int), .int .i64 (T1 : Int), .int .u8 (M1 : Int), .int .i64 (hy : Int), .int .i64 (pr : Int), .float .f64 lo] rfl rfl 35 _ HMa.out.2.2.1 (by kernel_rfl) rfl (cfg_one _ _ _ _ _ _) ?_
                have HMb : Hid (Made (za.setRow B6 #[.int .i64 (W1 : Int), .int .i64 (T1 : Int), .int .u8 (M1 : Int), .int .i64 (hy : Int), .int .i64 (pr : Int), .float .f64 lo]) LF nm k aC aO cC cO ∧ Blk w3 (za.setRow B6 #[.int .i64 (W1 : Int), .int .i64 (T1 : Int), .int .u8 (M1 : Int), .int .i64 (hy : Int), .int .i64 (pr : Int), .float .f64 lo]) B5 31 #[.slice aC k cC, .slice aO (k + 1) cO] ∧ Blk w3 (za.setRow B6 #[.int .i64 (W1 : Int), .int .i64 (T1 : Int), .int .u8 (M1 : Int), .int .i64 (hy : Int), .int .i64 (pr : Int), .float .f64 lo]) B6 35 #[.int .i64 (W1 : Int), .int .i64 (T1 : Int), .int .u8 (M1 : Int), .int .i64 (hy : Int), .int .i64 (pr : Int), .float .f64 lo]) := ⟨HMa.out.1.store HMa.out.2.2.1 (by decide) (by decide) _, HMa.out.2.1.far HMa.out.2.2 (by decide) _, HMa.out.2.2.put _⟩
                obtain ⟨zb, hzb⟩ : ∃ Y, Y = za.setRow B6 #[.int .i64 (W1 : Int), .int .i64 (T1 : Int), .int .u8 (M1 : Int), .int .i64 (hy : Int), .int .i64 (pr : Int), .float .f64 lo] := ⟨_, rfl⟩
                rw [← hzb] at HXb HMb ⊢
                clear hzb
                refine hK.out _ _ (HKS.out _ HXb.out) (fun hHeld => ?_)
                clear hK
                (try simp only [Act.put, List.setIfInBounds_toArray, List.set_cons_zero, List.set_cons_succ])
                refine wpAnyH_done (by kernel_rfl) ?_ _
                clear hHeld
                go_wp2_with fail
                go_meet
                exact ⟨k, B5, B6, aC, aO, cC, cO, _, rfl, rfl, rfl, HMb.out.1, HMb.out.2.1, HMb.out.2.2, HXb.out⟩
              · rw [if_pos (by rfl)]
                go_simp
                obtain ⟨y3, hy3⟩ : ∃ Y, Y = y2.alloc (.cells #[.int .i64 0, .int .i64 0, .int .u8 0, .int .i64 0, .int .i64 0, .float .f64 0] 35) := ⟨_, rfl⟩
                obtain ⟨B6, hB6⟩ : ∃ b, b = y2.heap.size := ⟨_, rfl⟩
                have ho : Only (fun _ => False) y2 y3 := by rw [hy3]; exact (Only.refl _ _).alloc _
                have HXy3 : Hid (Only (fun _ => False) w3 y3) := HXy2.out.trans ho
                have HB6y3 : Hid (Blk w3 y3 B6 35 #[.int .i64 0, .int .i64 0, .int .u8 0, .int .i64 0, .int .i64 0, .float .f64 0]) := by rw [hy3, hB6]; exact Blk.made HXy2.out _ _
                have HB5y3 : Hid (Blk w3 y3 B5 31 #[.slice none 0 0, .slice none 0 0]) := HB5y2.out.keep ho
                have HMy3 : Hid (Made y3 LF nm k aC aO cC cO) := HMy2.out.keep ho
                rw [← hy3, ← hB6]
                clear hy3 hB6 ho
                refine hK.out _ _ (HKS.out _ HXy3.out) (fun hHeld => ?_)
                clear hK
                (try simp only [Act.put, List.setIfInBounds_toArray, List.set_cons_zero, List.set_cons_succ])
                refine wpAnyH_ready (rs := [3]) (by kernel_rfl) (by simp) ?_
                refine AllReadyH.cons rfl (fun K hK => ?_) AllReadyH.nil
                rw [if_pos (by rfl)]
                go_simp
                refine Calls.mono (HCF.out _) ?_
                rintro e y4 ⟨rfl, ho⟩
                have HMy4 : Hid (Made y4 LF nm k aC aO cC cO) := HMy3.out.keep ho
                have HXy4 : Hid (Only (fun _ => False) w3 y4) := HXy3.out.trans ho
                have HB5y4 : Hid (Blk w3 y4 B5 31 #[.slice none 0 0, .slice none 0 0]) := HB5y3.out.keep ho
                have HB6y4 : Hid (Blk w3 y4 B6 35 #[.int .i64 0, .int .i64 0, .int .u8 0, .int .i64 0, .int .i64 0, .float .f64 0]) := HB6y3.out.keep ho
                clear ho
                refine hK.out _ _ (HKS.out _ HXy4.out) (fun hHeld => ?_)
                clear hK
                (try simp only [Act.put, List.setIfInBounds_toArray, List.set_cons_zero, List.set_cons_succ])
                refine wpAnyH_ready (rs := [6]) (by kernel_rfl) (by simp) ?_
                refine AllReadyH.cons rfl (fun K hK => ?_) AllReadyH.nil
                rw [if_pos (by rfl)]
                have HXa : Hid (Only (fun _ => False) w3 (y4.setRow B5 #[.slice aC k cC, .slice aO (k + 1) cO])) := HXy4.out.setRowNew HB5y4.out.2 _
                refine wp_store_row 31 _ _ rfl B5 #[.slice aC k cC, .slice aO (k + 1) cO] rfl rfl 31 _ HB5y4.out.1 (by kernel_rfl) rfl (two_one _ _ _ _ _ _) ?_
                have HMa : Hid (Made (y4.setRow B5 #[.slice aC k cC, .slice aO (k + 1) cO]) LF nm k aC aO cC cO ∧ Blk w3 (y4.setRow B5 #[.slice aC k cC, .slice aO (k + 1) cO]) B5 31 #[.slice aC k cC, .slice aO (k + 1) cO] ∧ Blk w3 (y4.setRow B5 #[.slice aC k cC, .slice aO (k + 1) cO]) B6 35 #[.int .i64 0, .int .i64 0, .int .u8 0, .int .i64 0, .int .i64 0, .float .f64 0]) := ⟨HMy4.out.store HB5y4.out.1 (by decide) (by decide) _, HB5y4.out.put _, HB6y4.out.far HB5y4.out (by decide) _⟩
                obtain ⟨za, hza⟩ : ∃ Y, Y = y4.setRow B5 #[.slice aC k cC, .slice aO (k + 1) cO] := ⟨_, rfl⟩
                rw [← hza] at HXa HMa ⊢
                clear hza
                refine hK.out _ _ (HKS.out _ HXa.out) (fun hHeld => ?_)
                clear hK
                (try simp only [Act.put, List.setIfInBounds_toArray, List.set_cons_zero, List.set_cons_succ])
                refine wpAnyH_ready (rs := [7]) (by kernel_rfl) (by simp) ?_
                refine AllReadyH.cons rfl (fun K hK => ?_) AllReadyH.nil
                rw [if_pos (by rfl)]
                have HXb : Hid (Only (fun _ => False) w3 (za.setRow B6 #[.int .i64 (W1 : Int), .int .i64 (T1 : Int), .int .u8 (M1 : Int), .int .i64 (hy : Int), .int .i64 (pr : Int), .float .f64 lo])) := HXa.out.setRowNew HMa.out.2.2.2 _
                refine wp_store_row 35 _ _ rfl B6 #[.int .i64 (W1 : Int), .int .i64 (T1 : Int), .int .u8 (M1 : Int), .int .i64 (hy : Int), .int .i64 (pr : Int), .float .f64 lo] rfl rfl 35 _ HMa.out.2.2.1 (by kernel_rfl) rfl (cfg_one _ _ _ _ _ _) ?_
                have HMb : Hid (Made (za.setRow B6 #[.int .i64 (W1 : Int), .int .i64 (T1 : Int), .int .u8 (M1 : Int), .int .i64 (hy : Int), .int .i64 (pr : Int), .float .f64 lo]) LF nm k aC aO cC cO ∧ Blk w3 (za.setRow B6 #[.int .i64 (W1 : Int), .int .i64 (T1 : Int), .int .u8 (M1 : Int), .int .i64 (hy : Int), .int .i64 (pr : Int), .float .f64 lo]) B5 31 #[.slice aC k cC, .slice aO (k + 1) cO] ∧ Blk w3 (za.setRow B6 #[.int .i64 (W1 : Int), .int .i64 (T1 : Int), .int .u8 (M1 : Int), .int .i64 (hy : Int), .int .i64 (pr : Int), .float .f64 lo]) B6 35 #[.int .i64 (W1 : Int), .int .i64 (T1 : Int), .int .u8 (M1 : Int), .int .i64 (hy : Int), .int .i64 (pr : Int), .float .f64 lo]) := ⟨HMa.out.1.store HMa.out.2.2.1 (by decide) (by decide) _, HMa.out.2.1.far HMa.out.2.2 (by decide) _, HMa.out.2.2.put _⟩
                obtain ⟨zb, hzb⟩ : ∃ Y, Y = za.setRow B6 #[.int .i64 (W1 : Int), .int .i64 (T1 : Int), .int .u8 (M1 : Int), .int .i64 (hy : Int), .int .i64 (pr : Int), .float .f64 lo] := ⟨_, rfl⟩
                rw [← hzb] at HXb HMb ⊢
                clear hzb
                refine hK.out _ _ (HKS.out _ HXb.out) (fun hHeld => ?_)
                clear hK
                (try simp only [Act.put, List.setIfInBounds_toArray, List.set_cons_zero, List.set_cons_succ])
                refine wpAnyH_done (by kernel_rfl) ?_ _
                clear hHeld
                go_wp2_with fail
                go_meet
                exact ⟨k, B5, B6, aC, aO, cC, cO, _, rfl, rfl, rfl, HMb.out.1, HMb.out.2.1, HMb.out.2.2, HXb.out⟩
            · rw [if_pos (by rfl)]
              go_simp
              obtain ⟨y2, hy2⟩ : ∃ Y, Y = y1.alloc (.cells #[.int .i64 0, .int .i64 0, .int .u8 0, .int .i64 0, .int .i64 0, .float .f64 0] 35) := ⟨_, rfl⟩
              obtain ⟨B6, hB6⟩ : ∃ b, b = y1.heap.size := ⟨_, rfl⟩
              have ho : Only (fun _ => False) y1 y2 := by rw [hy2]; exact (Only.refl _ _).alloc _
              have HXy2 : Hid (Only (fun _ => False) w3 y2) := HXy1.out.trans ho
              have HB6y2 : Hid (Blk w3 y2 B6 35 #[.int .i64 0, .int .i64 0, .int .u8 0, .int .i64 0, .int .i64 0, .float .f64 0]) := by rw [hy2, hB6]; exact Blk.made HXy1.out _ _
              have HB5y2 : Hid (Blk w3 y2 B5 31 #[.slice none 0 0, .slice none 0 0]) := HB5y1.out.keep ho
              rw [← hy2, ← hB6]
              clear hy2 hB6 ho
              refine hK.out _ _ (HKS.out _ HXy2.out) (fun hHeld => ?_)
              clear hK
              (try simp only [Act.put, List.setIfInBounds_toArray, List.set_cons_zero, List.set_cons_succ])
              refine wpAnyH_ready (rs := [1]) (by kernel_rfl) (by simp) ?_
              refine AllReadyH.cons rfl (fun K hK => ?_) AllReadyH.nil
              rw [if_pos (by rfl)]
              go_simp
              refine Calls.mono (HPA.out _ (HW3.out.trans HXy2.out) HXy2.out) ?_
              rintro e y3 ⟨k, aC, aO, cC, cO, rfl, hmd, ho⟩
              have HMy3 : Hid (Made y3 LF nm k aC aO cC cO) := hmd
              clear hmd
              have HXy3 : Hid (Only (fun _ => False) w3 y3) := HXy2.out.trans ho
              have HB5y3 : Hid (Blk w3 y3 B5 31 #[.slice none 0 0, .slice none 0 0]) := HB5y2.out.keep ho
              have HB6y3 : Hid (Blk w3 y3 B6 35 #[.int .i64 0, .int .i64 0, .int .u8 0, .int .i64 0, .int .i64 0, .float .f64 0]) := HB6y2.out.keep ho
              clear ho
              refine hK.out _ _ (HKS.out _ HXy3.out) (fun hHeld => ?_)
              clear hK
              (try simp only [Act.put, List.setIfInBounds_toArray, List.set_cons_zero, List.set_cons_succ])
              refine wpAnyH_ready (rs := [3]) (by kernel_rfl) (by simp) ?_
              refine AllReadyH.cons rfl (fun K hK => ?_) AllReadyH.nil
              rw [if_pos (by rfl)]
              go_simp
              refine Calls.mono (HCF.out _) ?_
              rintro e y4 ⟨rfl, ho⟩
              have HMy4 : Hid (Made y4 LF nm k aC aO cC cO) := HMy3.out.keep ho
              have HXy4 : Hid (Only (fun _ => False) w3 y4) := HXy3.out.trans ho
              have HB5y4 : Hid (Blk w3 y4 B5 31 #[.slice none 0 0, .slice none 0 0]) := HB5y3.out.keep ho
              have HB6y4 : Hid (Blk w3 y4 B6 35 #[.int .i64 0, .int .i64 0, .int .u8 0, .int .i64 0, .int .i64 0, .float .f64 0]) := HB6y3.out.keep ho
              clear ho
              refine hK.out _ _ (HKS.out _ HXy4.out) (fun hHeld => ?_)
              clear hK
              (try simp only [Act.put, List.setIfInBounds_toArray, List.set_cons_zero, List.set_cons_succ])
              refine wpAnyH_ready (rs := [6]) (by kernel_rfl) (by simp) ?_
              refine AllReadyH.cons rfl (fun K hK => ?_) AllReadyH.nil
              rw [if_pos (by rfl)]
              have HXa : Hid (Only (fun _ => False) w3 (y4.setRow B5 #[.slice aC k cC, .slice aO (k + 1) cO])) := HXy4.out.setRowNew HB5y4.out.2 _
              refine wp_store_row 31 _ _ rfl B5 #[.slice aC k cC, .slice aO (k + 1) cO] rfl rfl 31 _ HB5y4.out.1 (by kernel_rfl) rfl (two_one _ _ _ _ _ _) ?_
              have HMa : Hid (Made (y4.setRow B5 #[.slice aC k cC, .slice aO (k + 1) cO]) LF nm k aC aO cC cO ∧ Blk w3 (y4.setRow B5 #[.slice aC k cC, .slice aO (k + 1) cO]) B5 31 #[.slice aC k cC, .slice aO (k + 1) cO] ∧ Blk w3 (y4.setRow B5 #[.slice aC k cC, .slice aO (k + 1) cO]) B6 35 #[.int .i64 0, .int .i64 0, .int .u8 0, .int .i64 0, .int .i64 0, .float .f64 0]) := ⟨HMy4.out.store HB5y4.out.1 (by decide) (by decide) _, HB5y4.out.put _, HB6y4.out.far HB5y4.out (by decide) _⟩
              obtain ⟨za, hza⟩ : ∃ Y, Y = y4.setRow B5 #[.slice aC k cC, .slice aO (k + 1) cO] := ⟨_, rfl⟩
              rw [← hza] at HXa HMa ⊢
              clear hza
              refine hK.out _ _ (HKS.out _ HXa.out) (fun hHeld => ?_)
              clear hK
              (try simp only [Act.put, List.setIfInBounds_toArray, List.set_cons_zero, List.set_cons_succ])
              refine wpAnyH_ready (rs := [7]) (by kernel_rfl) (by simp) ?_
              refine AllReadyH.cons rfl (fun K hK => ?_) AllReadyH.nil
              rw [if_pos (by rfl)]
              have HXb : Hid (Only (fun _ => False) w3 (za.setRow B6 #[.int .i64 (W1 : Int), .int .i64 (T1 : Int), .int .u8 (M1 : Int), .int .i64 (hy : Int), .int .i64 (pr : Int), .float .f64 lo])) := HXa.out.setRowNew HMa.out.2.2.2 _
              refine wp_store_row 35 _ _ rfl B6 #[.int .i64 (W1 : Int), .int .i64 (T1 : Int), .int .u8 (M1 : Int), .int .i64 (hy : Int), .int .i64 (pr : Int), .float .f64 lo] rfl rfl 35 _ HMa.out.2.2.1 (by kernel_rfl) rfl (cfg_one _ _ _ _ _ _) ?_
              have HMb : Hid (Made (za.setRow B6 #[.int .i64 (W1 : Int), .int .i64 (T1 : Int), .int .u8 (M1 : Int), .int .i64 (hy : Int), .int .i64 (pr : Int), .float .f64 lo]) LF nm k aC aO cC cO ∧ Blk w3 (za.setRow B6 #[.int .i64 (W1 : Int), .int .i64 (T1 : Int), .int .u8 (M1 : Int), .int .i64 (hy : Int), .int .i64 (pr : Int), .float .f64 lo]) B5 31 #[.slice aC k cC, .slice aO (k + 1) cO] ∧ Blk w3 (za.setRow B6 #[.int .i64 (W1 : Int), .int .i64 (T1 : Int), .int .u8 (M1 : Int), .int .i64 (hy : Int), .int .i64 (pr : Int), .float .f64 lo]) B6 35 #[.int .i64 (W1 : Int), .int .i64 (T1 : Int), .int .u8 (M1 : Int), .int .i64 (hy : Int), .int .i64 (pr : Int), .float .f64 lo]) := ⟨HMa.out.1.store HMa.out.2.2.1 (by decide) (by decide) _, HMa.out.2.1.far HMa.out.2.2 (by decide) _, HMa.out.2.2.put _⟩
              obtain ⟨zb, hzb⟩ : ∃ Y, Y = za.setRow B6 #[.int .i64 (W1 : Int), .int .i64 (T1 : Int), .int .u8 (M1 : Int), .int .i64 (hy : Int), .int .i64 (pr : Int), .float .f64 lo] := ⟨_, rfl⟩
              rw [← hzb] at HXb HMb ⊢
              clear hzb
              refine hK.out _ _ (HKS.out _ HXb.out) (fun hHeld => ?_)
              clear hK
              (try simp only [Act.put, List.setIfInBounds_toArray, List.set_cons_zero, List.set_cons_succ])
              refine wpAnyH_done (by kernel_rfl) ?_ _
              clear hHeld
              go_wp2_with fail
              go_meet
              exact ⟨k, B5, B6, aC, aO, cC, cO, _, rfl, rfl, rfl, HMb.out.1, HMb.out.2.1, HMb.out.2.2, HXb.out⟩
          · rw [if_pos (by rfl)]
            go_simp
            obtain ⟨y1, hy1⟩ : ∃ Y, Y = (w3.alloc (.cells #[.int .i64 0, .int .i64 0, .int .u8 0, .int .i64 0, .int .i64 0, .float .f64 0] 35)).drew := ⟨_, rfl⟩
            obtain ⟨B6, hB6⟩ : ∃ b, b = w3.heap.size := ⟨_, rfl⟩
            have ho : Only (fun _ => False) w3 y1 := by rw [hy1]; exact ((Only.refl _ _).alloc _).drew
            have HXy1 : Hid (Only (fun _ => False) w3 y1) := ho
            have HB6y1 : Hid (Blk w3 y1 B6 35 #[.int .i64 0, .int .i64 0, .int .u8 0, .int .i64 0, .int .i64 0, .float .f64 0]) := by rw [hy1, hB6]; exact (Blk.made (Only.refl _ _) _ _).drew
            rw [← hy1, ← hB6]
            clear hy1 hB6 ho
            refine hK.out _ _ (HKS.out _ HXy1.out) (fun hHeld => ?_)
            clear hK
            (try simp only [Act.put, List.setIfInBounds_toArray, List.set_cons_zero, List.set_cons_succ])
            refine wpAnyH_ready (rs := [1, 4]) (by kernel_rfl) (by simp) ?_
            refine AllReadyH.cons rfl (fun K hK => ?_) (AllReadyH.cons rfl (fun K hK => ?_) AllReadyH.nil)
            · rw [if_pos (by rfl)]
              go_simp
              refine Calls.mono (HPA.out _ (HW3.out.trans HXy1.out) HXy1.out) ?_
              rintro e y2 ⟨k, aC, aO, cC, cO, rfl, hmd, ho⟩
              have HMy2 : Hid (Made y2 LF nm k aC aO cC cO) := hmd
              clear hmd
              have HXy2 : Hid (Only (fun _ => False) w3 y2) := HXy1.out.trans ho
              have HB6y2 : Hid (Blk w3 y2 B6 35 #[.int .i64 0, .int .i64 0, .int .u8 0, .int .i64 0, .int .i64 0, .float .f64 0]) := HB6y1.out.keep ho
              clear ho
              refine hK.out _ _ (HKS.out _ HXy2.out) (fun hHeld => ?_)
              clear hK
              (try simp only [Act.put, List.setIfInBounds_toArray, List.set_cons_zero, List.set_cons_succ])
              refine wpAnyH_ready (rs := [3, 4]) (by kernel_rfl) (by simp) ?_
              refine AllReadyH.cons rfl (fun K hK => ?_) (AllReadyH.cons rfl (fun K hK => ?_) AllReadyH.nil)
              · rw [if_pos (by rfl)]
                go_simp
                refine Calls.mono (HCF.out _) ?_
                rintro e y3 ⟨rfl, ho⟩
                have HMy3 : Hid (Made y3 LF nm k aC aO cC cO) := HMy2.out.keep ho
                have HXy3 : Hid (Only (fun _ => False) w3 y3) := HXy2.out.trans ho
                have HB6y3 : Hid (Blk w3 y3 B6 35 #[.int .i64 0, .int .i64 0, .int .u8 0, .int .i64 0, .int .i64 0, .float .f64 0]) := HB6y2.out.keep ho
                clear ho
                refine hK.out _ _ (HKS.out _ HXy3.out) (fun hHeld => ?_)
                clear hK
                (try simp only [Act.put, List.setIfInBounds_toArray, List.set_cons_zero, List.set_cons_succ])
                refine wpAnyH_ready (rs := [4]) (by kernel_rfl) (by simp) ?_
                refine AllReadyH.cons rfl (fun K hK => ?_) AllReadyH.nil
                rw [if_pos (by rfl)]
                go_simp
                obtain ⟨y4, hy4⟩ : ∃ Y, Y = y3.alloc (.cells #[.slice none 0 0, .slice none 0 0] 31) := ⟨_, rfl⟩
                obtain ⟨B5, hB5⟩ : ∃ b, b = y3.heap.size := ⟨_, rfl⟩
                have ho : Only (fun _ => False) y3 y4 := by rw [hy4]; exact (Only.refl _ _).alloc _
                have HXy4 : Hid (Only (fun _ => False) w3 y4) := HXy3.out.trans ho
                have HB5y4 : Hid (Blk w3 y4 B5 31 #[.slice none 0 0, .slice none 0 0]) := by rw [hy4, hB5]; exact Blk.made HXy3.out _ _
                have HB6y4 : Hid (Blk w3 y4 B6 35 #[.int .i64 0, .int .i64 0, .int .u8 0, .int .i64 0, .int .i64 0, .float .f64 0]) := HB6y3.out.keep ho
                have HMy4 : Hid (Made y4 LF nm k aC aO cC cO) := HMy3.out.keep ho
                rw [← hy4, ← hB5]
                clear hy4 hB5 ho
                refine hK.out _ _ (HKS.out _ HXy4.out) (fun hHeld => ?_)
                clear hK
                (try simp only [Act.put, List.setIfInBounds_toArray, List.set_cons_zero, List.set_cons_succ])
                refine wpAnyH_ready (rs := [6]) (by kernel_rfl) (by simp) ?_
                refine AllReadyH.cons rfl (fun K hK => ?_) AllReadyH.nil
                rw [if_pos (by rfl)]
                have HXa : Hid (Only (fun _ => False) w3 (y4.setRow B5 #[.slice aC k cC, .slice aO (k + 1) cO])) := HXy4.out.setRowNew HB5y4.out.2 _
                refine wp_store_row 31 _ _ rfl B5 #[.slice aC k cC, .slice aO (k + 1) cO] rfl rfl 31 _ HB5y4.out.1 (by kernel_rfl) rfl (two_one _ _ _ _ _ _) ?_
                have HMa : Hid (Made (y4.setRow B5 #[.slice aC k cC, .slice aO (k + 1) cO]) LF nm k aC aO cC cO ∧ Blk w3 (y4.setRow B5 #[.slice aC k cC, .slice aO (k + 1) cO]) B5 31 #[.slice aC k cC, .slice aO (k + 1) cO] ∧ Blk w3 (y4.setRow B5 #[.slice aC k cC, .slice aO (k + 1) cO]) B6 35 #[.int .i64 0, .int .i64 0, .int .u8 0, .int .i64 0, .int .i64 0, .float .f64 0]) := ⟨HMy4.out.store HB5y4.out.1 (by decide) (by decide) _, HB5y4.out.put _, HB6y4.out.far HB5y4.out (by decide) _⟩
                obtain ⟨za, hza⟩ : ∃ Y, Y = y4.setRow B5 #[.slice aC k cC, .slice aO (k + 1) cO] := ⟨_, rfl⟩
                rw [← hza] at HXa HMa ⊢
                clear hza
                refine hK.out _ _ (HKS.out _ HXa.out) (fun hHeld => ?_)
                clear hK
                (try simp only [Act.put, List.setIfInBounds_toArray, List.set_cons_zero, List.set_cons_succ])
                refine wpAnyH_ready (rs := [7]) (by kernel_rfl) (by simp) ?_
                refine AllReadyH.cons rfl (fun K hK => ?_) AllReadyH.nil
                rw [if_pos (by rfl)]
                have HXb : Hid (Only (fun _ => False) w3 (za.setRow B6 #[.int .i64 (W1 : Int), .int .i64 (T1 : Int), .int .u8 (M1 : Int), .int .i64 (hy : Int), .int .i64 (pr : Int), .float .f64 lo])) := HXa.out.setRowNew HMa.out.2.2.2 _
                refine wp_store_row 35 _ _ rfl B6 #[.int .i64 (W1 : Int), .int .i64 (T1 : Int), .int .u8 (M1 : Int), .int .i64 (hy : Int), .int .i64 (pr : Int), .float .f64 lo] rfl rfl 35 _ HMa.out.2.2.1 (by kernel_rfl) rfl (cfg_one _ _ _ _ _ _) ?_
                have HMb : Hid (Made (za.setRow B6 #[.int .i64 (W1 : Int), .int .i64 (T1 : Int), .int .u8 (M1 : Int), .int .i64 (hy : Int), .int .i64 (pr : Int), .float .f64 lo]) LF nm k aC aO cC cO ∧ Blk w3 (za.setRow B6 #[.int .i64 (W1 : Int), .int .i64 (T1 : Int), .int .u8 (M1 : Int), .int .i64 (hy : Int), .int .i64 (pr : Int), .float .f64 lo]) B5 31 #[.slice aC k cC, .slice aO (k + 1) cO] ∧ Blk w3 (za.setRow B6 #[.int .i64 (W1 : Int), .int .i64 (T1 : Int), .int .u8 (M1 : Int), .int .i64 (hy : Int), .int .i64 (pr : Int), .float .f64 lo]) B6 35 #[.int .i64 (W1 : Int), .int .i64 (T1 : Int), .int .u8 (M1 : Int), .int .i64 (hy : Int), .int .i64 (pr : Int), .float .f64 lo]) := ⟨HMa.out.1.store HMa.out.2.2.1 (by decide) (by decide) _, HMa.out.2.1.far HMa.out.2.2 (by decide) _, HMa.out.2.2.put _⟩
                obtain ⟨zb, hzb⟩ : ∃ Y, Y = za.setRow B6 #[.int .i64 (W1 : Int), .int .i64 (T1 : Int), .int .u8 (M1 : Int), .int .i64 (hy : Int), .int .i64 (pr : Int), .float .f64 lo] := ⟨_, rfl⟩
                rw [← hzb] at HXb HMb ⊢
                clear hzb
                refine hK.out _ _ (HKS.out _ HXb.out) (fun hHeld => ?_)
                clear hK
                (try simp only [Act.put, List.setIfInBounds_toArray, List.set_cons_zero, List.set_cons_succ])
                refine wpAnyH_done (by kernel_rfl) ?_ _
                clear hHeld
                go_wp2_with fail
                go_meet
                exact ⟨k, B5, B6, aC, aO, cC, cO, _, rfl, rfl, rfl, HMb.out.1, HMb.out.2.1, HMb.out.2.2, HXb.out⟩
              · rw [if_pos (by rfl)]
                go_simp
                obtain ⟨y3, hy3⟩ : ∃ Y, Y = y2.alloc (.cells #[.slice none 0 0, .slice none 0 0] 31) := ⟨_, rfl⟩
                obtain ⟨B5, hB5⟩ : ∃ b, b = y2.heap.size := ⟨_, rfl⟩
                have ho : Only (fun _ => False) y2 y3 := by rw [hy3]; exact (Only.refl _ _).alloc _
                have HXy3 : Hid (Only (fun _ => False) w3 y3) := HXy2.out.trans ho
                have HB5y3 : Hid (Blk w3 y3 B5 31 #[.slice none 0 0, .slice none 0 0]) := by rw [hy3, hB5]; exact Blk.made HXy2.out _ _
                have HB6y3 : Hid (Blk w3 y3 B6 35 #[.int .i64 0, .int .i64 0, .int .u8 0, .int .i64 0, .int .i64 0, .float .f64 0]) := HB6y2.out.keep ho
                have HMy3 : Hid (Made y3 LF nm k aC aO cC cO) := HMy2.out.keep ho
                rw [← hy3, ← hB5]
                clear hy3 hB5 ho
                refine hK.out _ _ (HKS.out _ HXy3.out) (fun hHeld => ?_)
                clear hK
                (try simp only [Act.put, List.setIfInBounds_toArray, List.set_cons_zero, List.set_cons_succ])
                refine wpAnyH_ready (rs := [3]) (by kernel_rfl) (by simp) ?_
                refine AllReadyH.cons rfl (fun K hK => ?_) AllReadyH.nil
                rw [if_pos (by rfl)]
                go_simp
                refine Calls.mono (HCF.out _) ?_
                rintro e y4 ⟨rfl, ho⟩
                have HMy4 : Hid (Made y4 LF nm k aC aO cC cO) := HMy3.out.keep ho
                have HXy4 : Hid (Only (fun _ => False) w3 y4) := HXy3.out.trans ho
                have HB5y4 : Hid (Blk w3 y4 B5 31 #[.slice none 0 0, .slice none 0 0]) := HB5y3.out.keep ho
                have HB6y4 : Hid (Blk w3 y4 B6 35 #[.int .i64 0, .int .i64 0, .int .u8 0, .int .i64 0, .int .i64 0, .float .f64 0]) := HB6y3.out.keep ho
                clear ho
                refine hK.out _ _ (HKS.out _ HXy4.out) (fun hHeld => ?_)
                clear hK
                (try simp only [Act.put, List.setIfInBounds_toArray, List.set_cons_zero, List.set_cons_succ])
                refine wpAnyH_ready (rs := [6]) (by kernel_rfl) (by simp) ?_
                refine AllReadyH.cons rfl (fun K hK => ?_) AllReadyH.nil
                rw [if_pos (by rfl)]
                have HXa : Hid (Only (fun _ => False) w3 (y4.setRow B5 #[.slice aC k cC, .slice aO (k + 1) cO])) := HXy4.out.setRowNew HB5y4.out.2 _
                refine wp_store_row 31 _ _ rfl B5 #[.slice aC k cC, .slice aO (k + 1) cO] rfl rfl 31 _ HB5y4.out.1 (by kernel_rfl) rfl (two_one _ _ _ _ _ _) ?_
                have HMa : Hid (Made (y4.setRow B5 #[.slice aC k cC, .slice aO (k + 1) cO]) LF nm k aC aO cC cO ∧ Blk w3 (y4.setRow B5 #[.slice aC k cC, .slice aO (k + 1) cO]) B5 31 #[.slice aC k cC, .slice aO (k + 1) cO] ∧ Blk w3 (y4.setRow B5 #[.slice aC k cC, .slice aO (k + 1) cO]) B6 35 #[.int .i64 0, .int .i64 0, .int .u8 0, .int .i64 0, .int .i64 0, .float .f64 0]) := ⟨HMy4.out.store HB5y4.out.1 (by decide) (by decide) _, HB5y4.out.put _, HB6y4.out.far HB5y4.out (by decide) _⟩
                obtain ⟨za, hza⟩ : ∃ Y, Y = y4.setRow B5 #[.slice aC k cC, .slice aO (k + 1) cO] := ⟨_, rfl⟩
                rw [← hza] at HXa HMa ⊢
                clear hza
                refine hK.out _ _ (HKS.out _ HXa.out) (fun hHeld => ?_)
                clear hK
                (try simp only [Act.put, List.setIfInBounds_toArray, List.set_cons_zero, List.set_cons_succ])
                refine wpAnyH_ready (rs := [7]) (by kernel_rfl) (by simp) ?_
                refine AllReadyH.cons rfl (fun K hK => ?_) AllReadyH.nil
                rw [if_pos (by rfl)]
                have HXb : Hid (Only (fun _ => False) w3 (za.setRow B6 #[.int .i64 (W1 : Int), .int .i64 (T1 : Int), .int .u8 (M1 : Int), .int .i64 (hy : Int), .int .i64 (pr : Int), .float .f64 lo])) := HXa.out.setRowNew HMa.out.2.2.2 _
                refine wp_store_row 35 _ _ rfl B6 #[.int .i64 (W1 : Int), .int .i64 (T1 : Int), .int .u8 (M1 : Int), .int .i64 (hy : Int), .int .i64 (pr : Int), .float .f64 lo] rfl rfl 35 _ HMa.out.2.2.1 (by kernel_rfl) rfl (cfg_one _ _ _ _ _ _) ?_
                have HMb : Hid (Made (za.setRow B6 #[.int .i64 (W1 : Int), .int .i64 (T1 : Int), .int .u8 (M1 : Int), .int .i64 (hy : Int), .int .i64 (pr : Int), .float .f64 lo]) LF nm k aC aO cC cO ∧ Blk w3 (za.setRow B6 #[.int .i64 (W1 : Int), .int .i64 (T1 : Int), .int .u8 (M1 : Int), .int .i64 (hy : Int), .int .i64 (pr : Int), .float .f64 lo]) B5 31 #[.slice aC k cC, .slice aO (k + 1) cO] ∧ Blk w3 (za.setRow B6 #[.int .i64 (W1 : Int), .int .i64 (T1 : Int), .int .u8 (M1 : Int), .int .i64 (hy : Int), .int .i64 (pr : Int), .float .f64 lo]) B6 35 #[.int .i64 (W1 : Int), .int .i64 (T1 : Int), .int .u8 (M1 : Int), .int .i64 (hy : Int), .int .i64 (pr : Int), .float .f64 lo]) := ⟨HMa.out.1.store HMa.out.2.2.1 (by decide) (by decide) _, HMa.out.2.1.far HMa.out.2.2 (by decide) _, HMa.out.2.2.put _⟩
                obtain ⟨zb, hzb⟩ : ∃ Y, Y = za.setRow B6 #[.int .i64 (W1 : Int), .int .i64 (T1 : Int), .int .u8 (M1 : Int), .int .i64 (hy : Int), .int .i64 (pr : Int), .float .f64 lo] := ⟨_, rfl⟩
                rw [← hzb] at HXb HMb ⊢
                clear hzb
                refine hK.out _ _ (HKS.out _ HXb.out) (fun hHeld => ?_)
                clear hK
                (try simp only [Act.put, List.setIfInBounds_toArray, List.set_cons_zero, List.set_cons_succ])
                refine wpAnyH_done (by kernel_rfl) ?_ _
                clear hHeld
                go_wp2_with fail
                go_meet
                exact ⟨k, B5, B6, aC, aO, cC, cO, _, rfl, rfl, rfl, HMb.out.1, HMb.out.2.1, HMb.out.2.2, HXb.out⟩
            · rw [if_pos (by rfl)]
              go_simp
              obtain ⟨y2, hy2⟩ : ∃ Y, Y = y1.alloc (.cells #[.slice none 0 0, .slice none 0 0] 31) := ⟨_, rfl⟩
              obtain ⟨B5, hB5⟩ : ∃ b, b = y1.heap.size := ⟨_, rfl⟩
              have ho : Only (fun _ => False) y1 y2 := by rw [hy2]; exact (Only.refl _ _).alloc _
              have HXy2 : Hid (Only (fun _ => False) w3 y2) := HXy1.out.trans ho
              have HB5y2 : Hid (Blk w3 y2 B5 31 #[.slice none 0 0, .slice none 0 0]) := by rw [hy2, hB5]; exact Blk.made HXy1.out _ _
              have HB6y2 : Hid (Blk w3 y2 B6 35 #[.int .i64 0, .int .i64 0, .int .u8 0, .int .i64 0, .int .i64 0, .float .f64 0]) := HB6y1.out.keep ho
              rw [← hy2, ← hB5]
              clear hy2 hB5 ho
              refine hK.out _ _ (HKS.out _ HXy2.out) (fun hHeld => ?_)
              clear hK
              (try simp only [Act.put, List.setIfInBounds_toArray, List.set_cons_zero, List.set_cons_succ])
              refine wpAnyH_ready (rs := [1]) (by kernel_rfl) (by simp) ?_
              refine AllReadyH.cons rfl (fun K hK => ?_) AllReadyH.nil
              rw [if_pos (by rfl)]
              go_simp
              refine Calls.mono (HPA.out _ (HW3.out.trans HXy2.out) HXy2.out) ?_
              rintro e y3 ⟨k, aC, aO, cC, cO, rfl, hmd, ho⟩
              have HMy3 : Hid (Made y3 LF nm k aC aO cC cO) := hmd
              clear hmd
              have HXy3 : Hid (Only (fun _ => False) w3 y3) := HXy2.out.trans ho
              have HB5y3 : Hid (Blk w3 y3 B5 31 #[.slice none 0 0, .slice none 0 0]) := HB5y2.out.keep ho
              have HB6y3 : Hid (Blk w3 y3 B6 35 #[.int .i64 0, .int .i64 0, .int .u8 0, .int .i64 0, .int .i64 0, .float .f64 0]) := HB6y2.out.keep ho
              clear ho
              refine hK.out _ _ (HKS.out _ HXy3.out) (fun hHeld => ?_)
              clear hK
              (try simp only [Act.put, List.setIfInBounds_toArray, List.set_cons_zero, List.set_cons_succ])
              refine wpAnyH_ready (rs := [3]) (by kernel_rfl) (by simp) ?_
              refine AllReadyH.cons rfl (fun K hK => ?_) AllReadyH.nil
              rw [if_pos (by rfl)]
              go_simp
              refine Calls.mono (HCF.out _) ?_
              rintro e y4 ⟨rfl, ho⟩
              have HMy4 : Hid (Made y4 LF nm k aC aO cC cO) := HMy3.out.keep ho
              have HXy4 : Hid (Only (fun _ => False) w3 y4) := HXy3.out.trans ho
              have HB5y4 : Hid (Blk w3 y4 B5 31 #[.slice none 0 0, .slice none 0 0]) := HB5y3.out.keep ho
              have HB6y4 : Hid (Blk w3 y4 B6 35 #[.int .i64 0, .int .i64 0, .int .u8 0, .int .i64 0, .int .i64 0, .float .f64 0]) := HB6y3.out.keep ho
              clear ho
              refine hK.out _ _ (HKS.out _ HXy4.out) (fun hHeld => ?_)
              clear hK
              (try simp only [Act.put, List.setIfInBounds_toArray, List.set_cons_zero, List.set_cons_succ])
              refine wpAnyH_ready (rs := [6]) (by kernel_rfl) (by simp) ?_
              refine AllReadyH.cons rfl (fun K hK => ?_) AllReadyH.nil
              rw [if_pos (by rfl)]
              have HXa : Hid (Only (fun _ => False) w3 (y4.setRow B5 #[.slice aC k cC, .slice aO (k + 1) cO])) := HXy4.out.setRowNew HB5y4.out.2 _
              refine wp_store_row 31 _ _ rfl B5 #[.slice aC k cC, .slice aO (k + 1) cO] rfl rfl 31 _ HB5y4.out.1 (by kernel_rfl) rfl (two_one _ _ _ _ _ _) ?_
              have HMa : Hid (Made (y4.setRow B5 #[.slice aC k cC, .slice aO (k + 1) cO]) LF nm k aC aO cC cO ∧ Blk w3 (y4.setRow B5 #[.slice aC k cC, .slice aO (k + 1) cO]) B5 31 #[.slice aC k cC, .slice aO (k + 1) cO] ∧ Blk w3 (y4.setRow B5 #[.slice aC k cC, .slice aO (k + 1) cO]) B6 35 #[.int .i64 0, .int .i64 0, .int .u8 0, .int .i64 0, .int .i64 0, .float .f64 0]) := ⟨HMy4.out.store HB5y4.out.1 (by decide) (by decide) _, HB5y4.out.put _, HB6y4.out.far HB5y4.out (by decide) _⟩
              obtain ⟨za, hza⟩ : ∃ Y, Y = y4.setRow B5 #[.slice aC k cC, .slice aO (k + 1) cO] := ⟨_, rfl⟩
              rw [← hza] at HXa HMa ⊢
              clear hza
              refine hK.out _ _ (HKS.out _ HXa.out) (fun hHeld => ?_)
              clear hK
              (try simp only [Act.put, List.setIfInBounds_toArray, List.set_cons_zero, List.set_cons_succ])
              refine wpAnyH_ready (rs := [7]) (by kernel_rfl) (by simp) ?_
              refine AllReadyH.cons rfl (fun K hK => ?_) AllReadyH.nil
              rw [if_pos (by rfl)]
              have HXb : Hid (Only (fun _ => False) w3 (za.setRow B6 #[.int .i64 (W1 : Int), .int .i64 (T1 : Int), .int .u8 (M1 : Int), .int .i64 (hy : Int), .int .i64 (pr : Int), .float .f64 lo])) := HXa.out.setRowNew HMa.out.2.2.2 _
              refine wp_store_row 35 _ _ rfl B6 #[.int .i64 (W1 : Int), .int .i64 (T1 : Int), .int .u8 (M1 : Int), .int .i64 (hy : Int), .int .i64 (pr : Int), .float .f64 lo] rfl rfl 35 _ HMa.out.2.2.1 (by kernel_rfl) rfl (cfg_one _ _ _ _ _ _) ?_
              have HMb : Hid (Made (za.setRow B6 #[.int .i64 (W1 : Int), .int .i64 (T1 : Int), .int .u8 (M1 : Int), .int .i64 (hy : Int), .int .i64 (pr : Int), .float .f64 lo]) LF nm k aC aO cC cO ∧ Blk w3 (za.setRow B6 #[.int .i64 (W1 : Int), .int .i64 (T1 : Int), .int .u8 (M1 : Int), .int .i64 (hy : Int), .int .i64 (pr : Int), .float .f64 lo]) B5 31 #[.slice aC k cC, .slice aO (k + 1) cO] ∧ Blk w3 (za.setRow B6 #[.int .i64 (W1 : Int), .int .i64 (T1 : Int), .int .u8 (M1 : Int), .int .i64 (hy : Int), .int .i64 (pr : Int), .float .f64 lo]) B6 35 #[.int .i64 (W1 : Int), .int .i64 (T1 : Int), .int .u8 (M1 : Int), .int .i64 (hy : Int), .int .i64 (pr : Int), .float .f64 lo]) := ⟨HMa.out.1.store HMa.out.2.2.1 (by decide) (by decide) _, HMa.out.2.1.far HMa.out.2.2 (by decide) _, HMa.out.2.2.put _⟩
              obtain ⟨zb, hzb⟩ : ∃ Y, Y = za.setRow B6 #[.int .i64 (W1 : Int), .int .i64 (T1 : Int), .int .u8 (M1 : Int), .int .i64 (hy : Int), .int .i64 (pr : Int), .float .f64 lo] := ⟨_, rfl⟩
              rw [← hzb] at HXb HMb ⊢
              clear hzb
              refine hK.out _ _ (HKS.out _ HXb.out) (fun hHeld => ?_)
              clear hK
              (try simp only [Act.put, List.setIfInBounds_toArray, List.set_cons_zero, List.set_cons_succ])
              refine wpAnyH_done (by kernel_rfl) ?_ _
              clear hHeld
              go_wp2_with fail
              go_meet
              exact ⟨k, B5, B6, aC, aO, cC, cO, _, rfl, rfl, rfl, HMb.out.1, HMb.out.2.1, HMb.out.2.2, HXb.out⟩
        case rest =>
          obtain ⟨k, B5, B6, aC, aO, cC, cO, X, hX, rfl, rfl, hmd, hb5, hb6, hoX⟩ := hcut
          subst hX
          obtain ⟨C, hC⟩ : ∃ x, x = Pa.cts (LF.take k) 0 := ⟨_, rfl⟩
          obtain ⟨O, hO⟩ : ∃ x, x = Pa.ops LF k ++ [2] := ⟨_, rfl⟩
          have HMD : Hid (Made X LF nm k aC aO cC cO ∧ C = Pa.cts (LF.take k) 0 ∧ O = Pa.ops LF k ++ [2]) := ⟨hmd, hC, hO⟩
          have HPv : Hid (∀ W', Only (fun _ => False) X W' → Pv W' C O k (k + 1) aC aO cC cO) := fun W' ho => by rw [hC, hO]; exact (hmd.pv (by omega) HLF.out.2).keep ho
          have HO4 : Hid (∀ x ∈ O, x < 4) := by rw [hO]; exact ops_lt LF k
          have HOL : Hid (O.length = k + 1 ∧ O.getD k 0 = 2) := by rw [hO]; exact ⟨by rw [List.length_append, Pa.ops_len]; rfl, ops_end LF k⟩
          have hk0 : k ≤ nm := hmd.le
          have HPC : Hid (∀ W', Only (fun _ => False) X W' → (W'.cell? ⟨B5, 0, none⟩ = some (.slice aC k cC) ∧ W'.cell? ⟨B5, 1, none⟩ = some (.slice aO (k + 1) cO)) ∧ (W'.cell? ⟨B6, 0, none⟩ = some (.int .i64 (W1 : Int)) ∧ W'.cell? ⟨B6, 1, none⟩ = some (.int .i64 (T1 : Int)) ∧ W'.cell? ⟨B6, 2, none⟩ = some (.int .u8 (M1 : Int)) ∧ W'.cell? ⟨B6, 3, none⟩ = some (.int .i64 (hy : Int)) ∧ W'.cell? ⟨B6, 4, none⟩ = some (.int .i64 (pr : Int)) ∧ W'.cell? ⟨B6, 5, none⟩ = some (.float .f64 lo))) := fun W' ho => ⟨⟨(blk_two (blk_keep ho hb5.1)).1, (blk_two (blk_keep ho hb5.1)).2.1⟩, blk_six (blk_keep ho hb6.1)⟩
          have HLT : Hid (∀ W', Only (fun _ => False) X W' → B5 < W'.heap.size ∧ B6 < W'.heap.size) := fun W' ho => ⟨(Array.getElem?_eq_some_iff.1 (blk_keep ho hb5.1)).1, (Array.getElem?_eq_some_iff.1 (blk_keep ho hb6.1)).1⟩
          have HWX : Hid (Only (fun _ => False) w X ∧ Blk w3 X B6 35 #[.int .i64 (W1 : Int), .int .i64 (T1 : Int), .int .u8 (M1 : Int), .int .i64 (hy : Int), .int .i64 (pr : Int), .float .f64 lo]) := ⟨HW3.out.trans hoX, hb6⟩
          clear hmd hC hO hb5 hb6 hoX
          have HBK : Hid (∀ W', Only (fun _ => False) X W' → Calls Try.prog 14 #[.agg #[.slice aC k cC, .slice aO (k + 1) cO], .int .i64 0, .int .i64 (k : Int), .agg #[.int .i64 (W1 : Int), .int .i64 (T1 : Int), .int .u8 (M1 : Int), .int .i64 (hy : Int), .int .i64 (pr : Int), .float .f64 lo]] W' (bsP (bsF C O T1 W1 hy pr lo k) C O T1 k 0 W')) := fun W' ho => bbreak_any C O k (k + 1) aC aO cC cO 0 k W1 T1 M1 hy pr lo W' (HPv.out W' ho) (by omega) (by omega) (by omega) (by omega) ht0 (by omega) (by omega) (by omega)
          obtain ⟨nn, hnn⟩ : ∃ x, x = Sp.wde C T1 0 k 2 := ⟨_, rfl⟩
          have hnn2 : nn ≤ 100200001 := by rw [hnn, wde_cel]; exact cel_small (HPv.out X (Only.refl _ _)).ok ht0 (by omega) (by omega)
          have HNN : Hid (nn = Sp.wde C T1 0 k 2) := hnn
          have HCE : Hid (∀ W', Only (fun _ => False) X W' → Calls Try.prog 22 #[.agg #[.slice aC k cC, .slice aO (k + 1) cO], .int .i64 0, .int .i64 (k : Int), .int .u8 2, .int .i64 (T1 : Int)] W' fun r w' => r = .returned (.int .i64 (nn : Int)) ∧ Only (fun _ => False) W' w') := fun W' ho => by
            rw [hnn, wde_cel]
            exact refCells_any C O k (k + 1) aC aO cC cO 0 k T1 2 W' (HPv.out W' ho) (by omega) (by omega) ht0 (by omega) (by decide)
          have HC100 : Hid (∀ i j y, bsF C O T1 W1 hy pr lo k i j = some y → 100 ≤ y) := fun i j y h => (cos_le (by omega) (by omega) h).2.2
          clear hnn
          unfold bsP at HBK
          obtain ⟨⟨r0, r1⟩, k0, k1, k2, k3, k4, k5⟩ := HPC.out X (Only.refl _ _)
          obtain ⟨l5, l6⟩ := HLT.out X (Only.refl _ _)
          go_wp2_with fail
          refine Calls.mono (HBK.out _ (Only.refl _ _)) ?_
          clear r0 r1 k0 k1 k2 k3 k4 k5 l5 l6
          by_cases hk1 : k = 0
          · have z1 : ((k : Int) == 0) = true := by rw [beq_iff_eq]; omega
            rintro e w5 (⟨E, s, a5, n5, c5, hB5, hn5, rfl, hown5, ho5⟩ | ⟨hN5, rfl, ho5⟩)
            · have HBE := Ds.Best.one hB5 (by rw [hk1]; exact Ds.best_end _ 0)
              have hz : n5 = 0 := by rw [hn5, HBE.1]; rfl
              have H5 : Hid (Only (fun _ => False) X w5) := ho5
              clear HBE hown5 hB5 hn5 ho5
              subst hz
              go_wp2_with fail
              go_ret
              exact ⟨rfl, HWX.out.1.trans H5.out⟩
            · exact (Ds.Best.no (Ds.best_end _ 0) (by rw [hk1] at hN5; exact hN5)).elim
          · have z1 : ((k : Int) == 0) = false := by rw [beq_eq_false_iff_ne]; omega
            by_cases hnw : nn ≤ W1
            · have z2 : decide ((W1 : Int) < (nn : Int)) = false := decide_eq_false (by omega)
              have HBS : Hid (Ds.Best (bsF C O T1 W1 hy pr lo k) k 0 [k] 100) := Ds.best_single (by decide) (by omega) (f_one (by omega) HOL.out.2 (by rw [← HNN.out]; exact hnw)) HC100.out
              rintro e w5 (⟨E, s, a5, n5, c5, hB5, hn5, rfl, hown5, ho5⟩ | ⟨hN5, rfl, ho5⟩)
              · obtain ⟨hE, _⟩ := Ds.Best.one hB5 HBS.out
                subst hE
                have hz : n5 = 1 := hn5
                have H5 : Hid (Only (fun _ => False) X w5 ∧ Vw w5 a5 (lnC (mkL C O T1 0 [k]))) := ⟨ho5, own_vw hown5⟩
                clear hown5 hB5 hn5 ho5
                subst hz
                obtain ⟨⟨r0, r1⟩, k0, k1, k2, k3, k4, k5⟩ := HPC.out w5 H5.out.1
                obtain ⟨l5, l6⟩ := HLT.out w5 H5.out.1
                go_wp2_with fail
                go_region_held3 (fun W' => ((W'.cell? ⟨B5, 0, none⟩ = some (.slice aC k cC) ∧ W'.cell? ⟨B5, 1, none⟩ = some (.slice aO (k + 1) cO)) ∧ (W'.cell? ⟨B6, 0, none⟩ = some (.int .i64 (W1 : Int)) ∧ W'.cell? ⟨B6, 1, none⟩ = some (.int .i64 (T1 : Int)) ∧ W'.cell? ⟨B6, 2, none⟩ = some (.int .u8 (M1 : Int)) ∧ W'.cell? ⟨B6, 3, none⟩ = some (.int .i64 (hy : Int)) ∧ W'.cell? ⟨B6, 4, none⟩ = some (.int .i64 (pr : Int)) ∧ W'.cell? ⟨B6, 5, none⟩ = some (.float .f64 lo)))) ((first | exact HPC.out _ H5.out.1.drew | exact HPC.out _ H6.out.1)) ((go_at_call 22; refine Calls.mono (HCE.out _ H5.out.1.drew) ?_; rintro e w6 ⟨rfl, ho6⟩; have H6 : Hid (Only (fun _ => False) X w6 ∧ Only (fun _ => False) w5 w6) := ⟨H5.out.1.drew.trans ho6, (Only.refl _ _).drew.trans ho6⟩; clear ho6))
                clear r0 r1 k0 k1 k2 k3 k4 k5 l5 l6
                obtain ⟨⟨r0, r1⟩, k0, k1, k2, k3, k4, k5⟩ := HPC.out w6 H6.out.1
                obtain ⟨l5, l6⟩ := HLT.out w6 H6.out.1
                obtain ⟨g, off, rfl, hg, hc⟩ := (H5.out.2.keep H6.out.2).cells (by rw [lnC_len, mkL_len]; simp)
                have hq := lnC_at (mkL C O T1 0 [k]) 0 _ rfl
                have c1 := hc 1 _ hq.2.1
                have c3 := hc 3 _ hq.2.2.2
                rw [HOL.out.2] at c3
                simp only at c1 c3
                clear hc hq
                go_wp2_with fail
                go_ret
                exact ⟨rfl, HWX.out.1.trans H6.out.1⟩
              · exact (Ds.Best.no HBS.out hN5).elim
            · have z2 : (W1 : Int) < (nn : Int) := by omega
              have HFN : Hid (bsF C O T1 W1 hy pr lo k 0 k = none) := f_no HOL.out.2 (by rw [← HNN.out]; exact hnw)
              rintro e w5 (⟨E, s, a5, n5, c5, hB5, hn5, rfl, hown5, ho5⟩ | ⟨hN5, rfl, ho5⟩)
              · have z3 : (1 : Int) < (n5 : Int) := by have := Ds.best_more (by omega) HFN.out hB5; omega
                have H5 : Hid (Only (fun _ => False) X w5) := ho5
                clear hown5 hB5 hn5 ho5
                obtain ⟨⟨r0, r1⟩, k0, k1, k2, k3, k4, k5⟩ := HPC.out w5 H5.out
                obtain ⟨l5, l6⟩ := HLT.out w5 H5.out
                go_wp2_with fail
                go_region_held3 (fun W' => ((W'.cell? ⟨B5, 0, none⟩ = some (.slice aC k cC) ∧ W'.cell? ⟨B5, 1, none⟩ = some (.slice aO (k + 1) cO)) ∧ (W'.cell? ⟨B6, 0, none⟩ = some (.int .i64 (W1 : Int)) ∧ W'.cell? ⟨B6, 1, none⟩ = some (.int .i64 (T1 : Int)) ∧ W'.cell? ⟨B6, 2, none⟩ = some (.int .u8 (M1 : Int)) ∧ W'.cell? ⟨B6, 3, none⟩ = some (.int .i64 (hy : Int)) ∧ W'.cell? ⟨B6, 4, none⟩ = some (.int .i64 (pr : Int)) ∧ W'.cell? ⟨B6, 5, none⟩ = some (.float .f64 lo)))) ((first | exact HPC.out _ H5.out.drew | exact HPC.out _ H6.out)) ((go_at_call 22; refine Calls.mono (HCE.out _ H5.out.drew) ?_; rintro e w6 ⟨rfl, ho6⟩; have H6 : Hid (Only (fun _ => False) X w6) := H5.out.drew.trans ho6; clear ho6))
                clear r0 r1 k0 k1 k2 k3 k4 k5 l5 l6
                obtain ⟨⟨r0, r1⟩, k0, k1, k2, k3, k4, k5⟩ := HPC.out w6 H6.out
                obtain ⟨l5, l6⟩ := HLT.out w6 H6.out
                go_wp2_with fail
                go_ret
                exact ⟨rfl, HWX.out.1.trans H6.out⟩
              · have H5 : Hid (Only (fun _ => False) X w5) := ho5
                clear hN5 ho5
                obtain ⟨⟨r0, r1⟩, k0, k1, k2, k3, k4, k5⟩ := HPC.out w5 H5.out
                obtain ⟨l5, l6⟩ := HLT.out w5 H5.out
                go_wp2_with fail
                go_region_held3 (fun W' => ((W'.cell? ⟨B5, 0, none⟩ = some (.slice aC k cC) ∧ W'.cell? ⟨B5, 1, none⟩ = some (.slice aO (k + 1) cO)) ∧ (W'.cell? ⟨B6, 0, none⟩ = some (.int .i64 (W1 : Int)) ∧ W'.cell? ⟨B6, 1, none⟩ = some (.int .i64 (T1 : Int)) ∧ W'.cell? ⟨B6, 2, none⟩ = some (.int .u8 (M1 : Int)) ∧ W'.cell? ⟨B6, 3, none⟩ = some (.int .i64 (hy : Int)) ∧ W'.cell? ⟨B6, 4, none⟩ = some (.int .i64 (pr : Int)) ∧ W'.cell? ⟨B6, 5, none⟩ = some (.float .f64 lo)))) ((first | exact HPC.out _ H5.out.drew | exact HPC.out _ H6.out)) ((go_at_call 22; refine Calls.mono (HCE.out _ H5.out.drew) ?_; rintro e w6 ⟨rfl, ho6⟩; have H6 : Hid (Only (fun _ => False) X w6) := H5.out.drew.trans ho6; clear ho6))
                clear r0 r1 k0 k1 k2 k3 k4 k5 l5 l6
                obtain ⟨⟨r0, r1⟩, k0, k1, k2, k3, k4, k5⟩ := HPC.out w6 H6.out
                obtain ⟨l5, l6⟩ := HLT.out w6 H6.out
                go_wp2_with fail
                go_ret
                exact ⟨rfl, HWX.out.1.trans H6.out⟩
end Go.Proofs.Ythckdomljfdmpaa.bestOne

