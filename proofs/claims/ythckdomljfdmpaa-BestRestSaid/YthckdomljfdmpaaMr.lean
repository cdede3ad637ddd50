/-
  stanzalaw15.BestRest: its walk.
-/
import Derived.Test.YthckdomljfdmpaaAx
import Derived.Test.YthckdomljfdmpaaPc
import Derived.Test.YthckdomljfdmpaaBp
import Derived.Test.YthckdomljfdmpaaFx
import Derived.Test.YthckdomljfdmpaaDt
namespace Go.Proofs.Ythckdomljfdmpaa.bestRest
open Go.RowKit Go.Maps
set_option linter.unusedVariables false
set_option linter.unusedSimpArgs false
theorem lnC_drop : ∀ (S : List Ln) (x : Nat), lnC (S.drop x) = (lnC S).drop (x * 4)
  | [], x => by simp [lnC]
  | c :: S, 0 => by simp
  | c :: S, x + 1 => by
    rw [List.drop_succ_cons, lnC_drop S x, show (x + 1) * 4 = x * 4 + 4 by omega]
    rfl
theorem lnDrop {w : World} {b off : Nat} {S : List Ln} (h : Vw w (some ⟨b, off, none⟩) (lnC S)) (x : Nat) : Vw w (some ⟨b, off + x * 4, none⟩) (lnC (S.drop x)) := by
  rw [lnC_drop]
  rcases h with h | ⟨b', off', e, hc⟩
  · exact Or.inl (by rw [h]; simp)
  · injection e with e
    injection e with e1 e2
    subst e1 e2
    refine Or.inr ⟨b, off + x * 4, rfl, fun j u hj => ?_⟩
    rw [List.getElem?_drop] at hj
    rw [Nat.add_assoc]
    exact hc _ _ hj
theorem rest_at {f : Nat → Nat → Option Nat} {C : List Ct} {O : List Nat} {t b : Nat} : ∀ (j : Nat) (E : List Nat) {a s : Nat}, Ds.Best f b a E s → j ≤ E.length → ∃ q r, Ds.Best f b q (E.drop j) r ∧ (mkL C O t a E).drop j = mkL C O t q (E.drop j) ∧ q ≤ b
  | 0, E, a, s, h, _ => ⟨a, s, h, rfl, h.row.le⟩
  | j + 1, [], a, s, h, hj => absurd hj (by simp)
  | j + 1, k :: E, a, s, h, hj => by
    obtain ⟨x, r, _, _, hB⟩ := Ds.best_tail h
    exact rest_at j E hB (by simpa using hj)
theorem mkL_fst {C : List Ct} {O : List Nat} {t q : Nat} {S : List Ln} {F : List Nat} {j : Nat} (h : S.drop j = mkL C O t q F) (hF : 0 < F.length) : ∃ l : Ln, S[j]? = some l ∧ l.a = q := by
  cases F with
  | nil => exact absurd hF (by simp)
  | cons k F =>
    refine ⟨⟨q, k, Sp.wde C t q k (O.getD k 0), O.getD k 0⟩, ?_, rfl⟩
    have h2 := congrArg (fun l => l[0]?) h
    simp only [List.getElem?_drop, Nat.add_zero] at h2
    rw [h2]
    rfl
set_option maxRecDepth 100000 in
set_option maxHeartbeats 8000000 in
theorem walk1 (L : List Bt) (a0 : Option Addr) (c0 : Nat) (K : Wy) (w : World) (hV : Vw w a0 (btC L)) (hB : ∀ b ∈ L, b.cells < 256 ∧ b.kind < 256 ∧ b.len < 256 ∧ b.opp < 256) (hcap : L.length ≤ c0) (hcm : c0 ≤ maxLen) (hK : K.Ok) :
    Calls Try.prog 6 #[.slice a0 L.length c0, K.val] w fun e w' => e = .returned (.bool true) ∧ Only (fun _ => False) w w' := by
  obtain ⟨wi, tb, mo, hy, pr, lo⟩ := K
  obtain ⟨W1, hW1⟩ : ∃ x, x = 1 + wi := ⟨_, rfl⟩
  obtain ⟨T1, hT1⟩ : ∃ x, x = 1 + tb % 64 := ⟨_, rfl⟩
  obtain ⟨M1, hM1⟩ : ∃ x, x = mo % 2 := ⟨_, rfl⟩
  have HCF : Hid (∀ W, Calls Try.prog 12 #[.agg #[.int .u8 (wi : Int), .int .u8 (tb : Int), .int .u8 (mo : Int), .int .u16 (hy : Int), .int .u16 (pr : Int), .float .f64 lo]] W fun e w' => e = .returned (.agg #[.int .i64 (W1 : Int), .int .i64 (T1 : Int), .int .u8 (M1 : Int), .int .i64 (hy : Int), .int .i64 (pr : Int), .float .f64 lo]) ∧ Only (fun _ => False) W w') := fun W => by
    rw [hW1, hT1, hM1]
    exact config_any ⟨wi, tb, mo, hy, pr, lo⟩ W hK
  obtain ⟨b0, b1, b2, b3, b4, b5⟩ := hK
  simp only at b0 b1 b2 b3 b4 b5
  have hw1 : W1 ≤ 256 := by omega
  have hw0 : 1 ≤ W1 := by omega
  have ht0 : 0 < T1 := by omega
  have ht1 : T1 ≤ 64 := by omega
  have hm1 : M1 ≤ 1 := by omega
  obtain ⟨n0, hn0⟩ : ∃ n, n = L.length := ⟨_, rfl⟩
  have HN : Hid (n0 = L.length) := hn0
  obtain ⟨nm, hnm⟩ : ∃ x, x = min n0 80 := ⟨_, rfl⟩
  have mn : min (n0 : Int) 80 = (nm : Int) := by omega
  have hnm1 : nm ≤ n0 := by omega
  have hnm2 : nm ≤ 80 := by omega
  obtain ⟨M, hM⟩ : ∃ x, x = L.take nm := ⟨_, rfl⟩
  have hMl : nm = M.length := by rw [hM, List.length_take, ← hn0]; omega
  have HMB : Hid (∀ b ∈ M, b.cells < 256 ∧ b.kind < 256 ∧ b.len < 256 ∧ b.opp < 256) := fun b hb => hB b (by rw [hM] at hb; exact List.mem_of_mem_take hb)
  have HVM : Hid (Vw w a0 (btC M)) := by rw [hM]; exact hV.btTake nm
  have HML : Hid (nm = M.length) := hMl
  obtain ⟨LF, hLF⟩ : ∃ x, x = M.map (fx1 1) := ⟨_, rfl⟩
  have HLF : Hid (LF = M.map (fx1 1) ∧ nm = LF.length) := ⟨hLF, by rw [hLF, List.length_map]; exact hMl⟩
  unfold Wy.val
  simp only
  rw [← hn0] at hcap ⊢
  clear hn0 hW1 hT1 hM1 hV hB hnm hM hMl hLF
  unfold maxLen at hcm
  go_enter Try.func6, Try.ntmps6
  go_wp2_with fail
  obtain ⟨R, w0, hw0', hR, H0, lR⟩ := box6 w (.int .u8 (wi : Int)) (.int .u8 (tb : Int)) (.int .u8 (mo : Int)) (.int .u16 (hy : Int)) (.int .u16 (pr : Int)) (.float .f64 lo) 26
  rw [hw0', hR]
  clear hw0' hR
  refine Calls.mono (awake15_any _) ?_
  rintro e w2 ⟨rfl, ho2⟩
  have HW2 : Hid (Only (fun _ => False) w w2) := H0.out.2.1.trans ho2
  have HKS : Hid (∀ W', Only (fun _ => False) w2 W' → (W'.cell? ⟨R, 0, none⟩ = some (.int .u8 (wi : Int)) ∧ W'.cell? ⟨R, 1, none⟩ = some (.int .u8 (tb : Int)) ∧ W'.cell? ⟨R, 2, none⟩ = some (.int .u8 (mo : Int)) ∧ W'.cell? ⟨R, 3, none⟩ = some (.int .u16 (hy : Int)) ∧ W'.cell? ⟨R, 4, none⟩ = some (.int .u16 (pr : Int)) ∧ W'.cell? ⟨R, 5, none⟩ = some (.float .f64 lo))) := fun W' ho => blk_six (blk_keep (ho2.trans ho) H0.out.1)
  clear ho2 lR
  have HVA : Hid (∀ W', Only (fun _ => False) w W' → Vw W' a0 (btC M)) := fun W' ho => HVM.out.keep ho
  go_upto_region 3 with fail
  go_cut [0] from 16 to 22 (fun v0 wr => ∃ (g1 cap1 : Nat) (Y : World), Y = wr ∧ v0 = .slice (some ⟨g1, 0, none⟩) nm cap1 ∧ Only (fun _ => False) w2 Y ∧ Y.ownsRow w2.heap.size 49 4 (.slice (some ⟨g1, 0, none⟩) nm cap1) nm (btC M))
  case first =>
    by_cases hn2 : n0 ≤ 80
    · have t1 : (n0 : Int) ≤ 80 := by omega
      have f1 : n0 ≤ c0 := hcap
      have f1' : ¬ c0 < n0 := by omega
      have hnn : n0 = nm := by omega
      subst hnn
      clear mn
      rcases a0 with _ | ad
      all_goals
        go_wp2_with (first | (refine wpList_appB rfl (.tmp 16) (.tmp 21) rfl w2 ((Only.refl _ _).alloc _) w2.heap.size 0 0 [] rfl (own_e0B (heap_alloc_new w2 _) (Nat.le_refl _)) _ _ _ M rfl HML.out (HVA.out _ (HW2.out.alloc _)) n0 (by omega) (by omega) ?_; intro g1 cap1 y3 hown1 ho3; have H3 : Hid (Only (fun _ => False) w2 y3 ∧ y3.ownsRow w2.heap.size 49 4 (.slice (some ⟨g1, 0, none⟩) n0 cap1) n0 (btC ([] ++ M))) := ⟨ho3, hown1⟩; clear ho3 hown1) | fail)
        go_meet
        exact ⟨g1, cap1, _, rfl, rfl, H3.out.1, H3.out.2⟩
    · have t1 : ¬ (n0 : Int) ≤ 80 := by omega
      have t2 : 80 < n0 := by omega
      have f1 : 80 ≤ c0 := by omega
      have f1' : ¬ c0 < 80 := by omega
      have hnn : 80 = nm := by omega
      subst hnn
      clear mn
      rcases a0 with _ | ad
      all_goals
        go_wp2_with (first | (refine wpList_appB rfl (.tmp 16) (.tmp 21) rfl w2 ((Only.refl _ _).alloc _) w2.heap.size 0 0 [] rfl (own_e0B (heap_alloc_new w2 _) (Nat.le_refl _)) _ _ _ M rfl HML.out (HVA.out _ (HW2.out.alloc _)) 80 (by omega) (by omega) ?_; intro g1 cap1 y3 hown1 ho3; have H3 : Hid (Only (fun _ => False) w2 y3 ∧ y3.ownsRow w2.heap.size 49 4 (.slice (some ⟨g1, 0, none⟩) 80 cap1) 80 (btC ([] ++ M))) := ⟨ho3, hown1⟩; clear ho3 hown1) | fail)
        go_meet
        exact ⟨g1, cap1, _, rfl, rfl, H3.out.1, H3.out.2⟩
  case rest =>
    obtain ⟨g1, cap1, Y, hY, rfl, hoY, hownY⟩ := hcut
    subst hY
    have HY : Hid (Only (fun _ => False) w2 Y ∧ Y.ownsRow w2.heap.size 49 4 (.slice (some ⟨g1, 0, none⟩) nm cap1) nm (btC M)) := ⟨hoY, hownY⟩
    clear hoY hownY mn
    go_wp2_with fail
    go_loopg [25] nm (fun gh v wr => ∃ (i : Nat) (Z : World), Z = wr ∧ gh = nm - i ∧ i ≤ nm ∧ v = .int .i64 (i : Int) ∧ Z.ownsRow w2.heap.size 49 4 (.slice (some ⟨g1, 0, none⟩) nm cap1) nm (btC (fx 1 M i)) ∧ Only (fun g => w2.heap.size ≤ g) w2 Z)
    case atStart => exact ⟨0, _, rfl, rfl, Nat.zero_le _, rfl, by rw [fx_zero]; exact HY.out.2, HY.out.1.mono (fun _ h => h.elim)⟩
    case round =>
      obtain ⟨i, w3, hZ, rfl, hi, rfl, hownZ, hoZ⟩ := hrel
      subst hZ
      have HZ : Hid (w3.ownsRow w2.heap.size 49 4 (.slice (some ⟨g1, 0, none⟩) nm cap1) nm (btC (fx 1 M i)) ∧ Only (fun g => w2.heap.size ≤ g) w2 w3 ∧ Only (fun _ => False) w2 w3) := ⟨hownZ, hoZ, hoZ.old (fun b hb => Or.inl hb)⟩
      clear hownZ hoZ
      by_cases hlt : i < nm
      · have t1 : (i : Int) < (nm : Int) := by omega
        obtain ⟨x, hx⟩ : ∃ x, M[i]? = some x := ⟨_, List.getElem?_eq_getElem (by rw [← HML.out]; exact hlt)⟩
        have hx8 := HMB.out x (List.mem_of_getElem? hx)
        have hq := (btC_at _ i x (fx_at (v := 1) hx)).2.2.2
        obtain ⟨c3, z3, gb, gl⟩ := own_cell HZ.out.1 hq
        have HX : Hid (fx 1 M (i + 1) = (fx 1 M i).set i (fx1 1 x) ∧ (fx 1 M i)[i]? = some x) := ⟨fx_next hx, fx_at hx⟩
        obtain ⟨xc, xk, xl, xo⟩ := x
        simp only at c3 hx8
        obtain ⟨y, hy1⟩ : ∃ y, y = xo % 4 := ⟨_, rfl⟩
        have q1 : (xo : Int).tmod 4 = (y : Int) := by rw [Int.tmod_eq_emod_of_nonneg (by omega)]; omega
        have hy4 : y < 4 := by omega
        have HYY : Hid (y = xo % 4) := hy1
        clear hy1 hx hq
        by_cases hy2 : y = 2
        · have t2 : ((y : Int) == 2) = true := by rw [beq_iff_eq]; omega
          have HN3 : Hid ((w3.setCell ⟨g1, i * 4 + 3, none⟩ (.int .u8 (1 : Nat))).ownsRow w2.heap.size 49 4 (.slice (some ⟨g1, 0, none⟩) nm cap1) nm (btC (fx 1 M (i + 1)))) := by
            have h := own_set HZ.out.1 (i * 4 + 3) (by omega) (.int .u8 ((1 : Nat) : Int))
            rw [btC_set _ i _ 1 HX.out.2] at h
            rw [HX.out.1]
            unfold fx1
            rw [if_pos (show xo % 4 = 2 by rw [← HYY.out]; exact hy2)]
            exact h
          clear hy2
          go_wp2_with fail
          go_roundg (nm - (i + 1))
          case measure => omega
          case rel => exact ⟨i + 1, _, rfl, rfl, by omega, by go_num, HN3.out, HZ.out.2.1.setCell (p := ⟨g1, i * 4 + 3, none⟩) gb _⟩
        · have t2 : ((y : Int) == 2) = false := by rw [beq_eq_false_iff_ne]; omega
          have HN3 : Hid (fx 1 M (i + 1) = fx 1 M i) := by
            rw [HX.out.1]
            unfold fx1
            rw [if_neg (show ¬ xo % 4 = 2 by rw [← HYY.out]; exact hy2)]
            exact List.ext_getElem? (fun j => by
              by_cases e : j = i
              · rw [e, List.getElem?_set_self (List.getElem?_eq_some_iff.1 HX.out.2).1, HX.out.2]
              · rw [List.getElem?_set_ne (fun h => e h.symm)])
          clear hy2
          go_wp2_with fail
          go_roundg (nm - (i + 1))
          case measure => omega
          case rel => exact ⟨i + 1, _, rfl, rfl, by omega, by go_num, by rw [HN3.out]; exact HZ.out.1, HZ.out.2.1⟩
      · have t1 : decide ((i : Int) < (nm : Int)) = false := decide_eq_false (by omega)
        have HW3 : Hid (Only (fun _ => False) w w3) := HW2.out.trans HZ.out.2.2
        have HPA : Hid (∀ W, Only (fun _ => False) w W → Only (fun _ => False) w3 W → Calls Try.prog 11 #[.slice (some ⟨g1, 0, none⟩) nm cap1] W fun e w' => ∃ k aC aO cC cO, e = .returned (.agg #[.slice aC k cC, .slice aO (k + 1) cO]) ∧ Made w' LF nm k aC aO cC cO ∧ Only (fun _ => False) W w') := fun W _ ho => para_made LF nm _ cap1 W HLF.out.2 (by
          have h := own_vw HZ.out.1
          rw [show i = M.length by have := HML.out; omega, fx_all, ← HLF.out.1] at h
          exact h.keep ho) (by rw [HLF.out.1]; exact fx_ok (by decide) HMB.out) (by omega)
        replace HKS : Hid (∀ W', Only (fun _ => False) w3 W' → (W'.cell? ⟨R, 0, none⟩ = some (.int .u8 (wi : Int)) ∧ W'.cell? ⟨R, 1, none⟩ = some (.int .u8 (tb : Int)) ∧ W'.cell? ⟨R, 2, none⟩ = some (.int .u8 (mo : Int)) ∧ W'.cell? ⟨R, 3, none⟩ = some (.int .u16 (hy : Int)) ∧ W'.cell? ⟨R, 4, none⟩ = some (.int .u16 (pr : Int)) ∧ W'.cell? ⟨R, 5, none⟩ = some (.float .f64 lo))) := fun W' ho => HKS.out W' (HZ.out.2.2.trans ho)
        go_wp2_with fail
        go_cut [6, 7] from 40 to 43 (fun v5 v6 wr => ∃ (k B5 B6 : Nat) (aC aO : Option Addr) (cC cO : Nat) (X : World), X = wr ∧ v5 = .pointer (some ⟨B5, 0, none⟩) ∧ v6 = .pointer (some ⟨B6, 0, none⟩) ∧ Made X LF nm k aC aO cC cO ∧ Blk w3 X B5 31 #[.slice aC k cC, .slice aO (k + 1) cO] ∧ Blk w3 X B6 35 #[.int .i64 (W1 : Int), .int .i64 (T1 : Int), .int .u8 (M1 : Int), .int .i64 (hy : Int), .int .i64 (pr : Int), .float .f64 lo] ∧ Only (fun _ => False) w3 X)
        case first =>
          have HXD : Hid (Only (fun _ => False) w3 w3.drew) := (Only.refl _ _).drew
          refine wp_region_held_drew (S := (fun W' => W'.cell? ⟨R, 0, none⟩ = some (.int .u8 (wi : Int)) ∧ W'.cell? ⟨R, 1, none⟩ = some (.int .u8 (tb : Int)) ∧ W'.cell? ⟨R, 2, none⟩ = some (.int .u8 (mo : Int)) ∧ W'.cell? ⟨R, 3, none⟩ = some (.int .u16 (hy : Int)) ∧ W'.cell? ⟨R, 4, none⟩ = some (.int .u16 (pr : Int)) ∧ W'.cell? ⟨R, 5, none⟩ = some (.float .f64 lo))) (by kernel_rfl) (HKS.out _ HXD.out) (fun hHeld => ?_)
          refine wpAnyH_take (i := 0) (oi := { dst := some 40, op := _, type := _, pos := _, after := _, guard := _ }) (v := .slice (some ⟨g1, 0, none⟩) nm cap1) rfl (by kernel_rfl) (by kernel_rfl) (by kernel_rfl) (fun _ _ _ h => h) (Or.inl ⟨by rfl, fun w hSw => by obtain ⟨y0, y1, y2, y3, y4, y5⟩ := hSw; first | (go_simp; done) | go_simp⟩) (by assumption) ?_
          (try simp only [Act.put, List.setIfInBounds_toArray, List.set_cons_zero, List.set_cons_succ])
          refine wpAnyH_take (i := 2) (oi := { dst := some 42, op := _, type := _, pos := _, after := _, guard := _ }) (v := .agg #[.int .u8 (wi : Int), .int .u8 (tb : Int), .int .u8 (mo : Int), .int .u16 (hy : Int), .int .u16 (pr : Int), .float .f64 lo]) rfl (by kernel_rfl) (by kernel_rfl) (by kernel_rfl) (fun _ _ _ h => h) (Or.inl ⟨by rfl, fun w hSw => by obtain ⟨y0, y1, y2, y3, y4, y5⟩ := hSw; first | (go_simp; done) | go_simp⟩) (by assumption) ?_
          (try simp only [Act.put, List.setIfInBounds_toArray, List.set_cons_zero, List.set_cons_succ])
          refine wpAnyH_ready (rs := [1, 4, 5]) (by kernel_rfl) (by simp) ?_
          refine AllReadyH.cons rfl (fun K hK => ?_) (AllReadyH.cons rfl (fun K hK => ?_) (AllReadyH.cons rfl (fun K hK => ?_) AllReadyH.nil))
          · rw [if_pos (by rfl)]
            go_simp
            refine Calls.mono (HPA.out _ (HW3.out.trans HXD.out) HXD.out) ?_
            rintro e y1 ⟨k, aC, aO, cC, cO, rfl, hmd, ho⟩
            have HMy1 : Hid (Made y1 LF nm k aC aO cC cO) := hmd
            clear hmd
            have HXy1 : Hid (Only (fun _ => False) w3 y1) := HXD.out.trans ho
            clear ho
            refine hK.out _ _ (HKS.out _ HXy1.out) (fun hHeld => ?_)
            clear hK
            (try simp only [Act.put, List.setIfInBounds_toArray, List.set_cons_zero, List.set_cons_succ])
            refine wpAnyH_ready (rs := [3, 4, 5]) (by kernel_rfl) (by simp) ?_
            refine AllReadyH.cons rfl (fun K hK => ?_) (AllReadyH.cons rfl (fun K hK => ?_) (AllReadyH.cons rfl (fun K hK => ?_) AllReadyH.nil))
            · rw [if_pos (by rfl)]
              go_simp
              refine Calls.mono (HCF.out _) ?_
              rintro e y2 ⟨rfl, ho⟩
              have HMy2 : Hid (Made y2 LF nm k aC aO cC cO) := HMy1.out.keep ho
              have HXy2 : Hid (Only (fun _ => False) w3 y2) := HXy1.out.trans ho
              clear ho
              refine hK.out _ _ (HKS.out _ HXy2.out) (fun hHeld => ?_)
              clear hK
              (try simp only [Act.put, List.setIfInBounds_toArray, List.set_cons_zero, List.set_cons_succ])
              refine wpAnyH_ready (rs := [4, 5]) (by kernel_rfl) (by simp) ?_
              refine AllReadyH.cons rfl (fun K hK => ?_) (AllReadyH.cons rfl (fun K hK => ?_) AllReadyH.nil)
              · rw [if_pos (by rfl)]
                go_simp
                obtain ⟨y3, hy3⟩ : ∃ Y, Y = y2.alloc (.cells #[.slice none 0 0, .slice none 0 0] 31) := ⟨_, rfl⟩
                obtain ⟨B5, hB5⟩ : ∃ b, b = y2.heap.size := ⟨_, rfl⟩
                have ho : Only (fun _ => False) y2 y3 := by rw [hy3]; exact (Only.refl _ _).alloc _
                have HXy3 : Hid (Only (fun _ => False) w3 y3) := HXy2.out.trans ho
                have HB5y3 : Hid (Blk w3 y3 B5 31 #[.slice none 0 0, .slice none 0 0]) := by rw [hy3, hB5]; exact Blk.made HXy2.out _ _
                have HMy3 : Hid (Made y3 LF nm k aC aO cC cO) := HMy2.out.keep ho
                rw [← hy3, ← hB5]
                clear hy3 hB5 ho
                refine hK.out _ _ (HKS.out _ HXy3.out) (fun hHeld => ?_)
                clear hK
                (try simp only [Act.put, List.setIfInBounds_toArray, List.set_cons_zero, List.set_cons_succ])
                refine wpAnyH_ready (rs := [5]) (by kernel_rfl) (by simp) ?_
                refine AllReadyH.cons rfl (fun K hK => ?_) AllReadyH.nil
                rw [if_pos (by rfl)]
                go_simp
                obtain ⟨y4, hy4⟩ : ∃ Y, Y = y3.alloc (.cells #[.int .i64 0, .int .i64 0, .int .u8 0, .int .i64 0, .int .i64 0, .float .f64 0] 35) := ⟨_, rfl⟩
                obtain ⟨B6, hB6⟩ : ∃ b, b = y3.heap.size := ⟨_, rfl⟩
                have ho : Only (fun _ => False) y3 y4 := by rw [hy4]; exact (Only.refl _ _).alloc _
                have HXy4 : Hid (Only (fun _ => False) w3 y4) := HXy3.out.trans ho
                have HB6y4 : Hid (Blk w3 y4 B6 35 #[.int .i64 0, .int .i64 0, .int .u8 0, .int .i64 0, .int .i64 0, .float .f64 0]) := by rw [hy4, hB6]; exact Blk.made HXy3.out _ _
                have HB5y4 : Hid (Blk w3 y4 B5 31 #[.slice none 0 0, .slice none 0 0]) := HB5y3.out.keep ho
                have HMy4 : Hid (Made y4 LF nm k aC aO cC cO) := HMy3.out.keep ho
                rw [← hy4, ← hB6]
                clear hy4 hB6 ho
                refine hK.out _ _ (HKS.out _ HXy4.out) (fun hHeld => ?_)
                clear hK
                (try simp only [Act.put, List.setIfInBounds_toArray, List.set_cons_zero, List.set_cons_succ])
                refine wpAnyH_ready (rs := [6]) (by kernel_rfl) (by simp) ?_
                refine AllReadyH.cons rfl (fun K hK => ?_) AllReadyH.nil
                rw [if_pos (by rfl)]
                have HXa : Hid (Only (fun _ => False) w3 (y4.setRow B5 #[.slice aC k cC, .slice aO (k + 1) cO])) := HXy4.out.setRowNew HB5y4.out.2 _
                refine wp_store_row 31 _ _ rfl B5 #[.slice aC k cC, .slice aO (k + 1) cO] rfl rfl 31 _ HB5y4.out.1 (by kernel_rfl) rfl (two_one _ _ _ _ _ _) ?_
                have HMa : Hid (Made (y4.setRow B5 #[.slice aC k cC, .slice aO (k + 1) cO]) LF nm k aC aO cC cO ∧ Blk w3 (y4.setRow B5 #[.slice aC k cC, .slice aO (k + 1) cO]) B5 31 #[.slice aC k cC, .slice aO (k + 1) cO] ∧ Blk w3 (y4.setRow B5 #[.slice aC k cC, .slice aO (k + 1) cO]) B6 35 #[.int .i64 0, .int .i64 0, .int .u8 0, .int .i64 0, .int .i64 0, .float .f64 0]) := ⟨HMy4.out.store HB5y4.out.1 (by decide) (by decide) _, HB5y4.out.put _, HB6y4.out.far HB5y4.out (by decide) _⟩
                obtain ⟨za, hza⟩ : ∃ Y, Y = y4.setRow B5 #[.slice aC k cC, .slice aO (k + 1) cO] := ⟨_, rfl⟩
                rw [← hza] at HXa HMa ⊢
                clear hza
                refine hK.out _ _ (HKS.out _ HXa.out) (fun hHeld => ?_)
                clear hK
                (try simp only [Act.put, List.setIfInBounds_toArray, List.set_cons_zero, List.set_cons_succ])
                refine wpAnyH_ready (rs := [7]) (by kernel_rfl) (by simp) ?_
                refine AllReadyH.cons rfl (fun K hK => ?_) AllReadyH.nil
                rw [if_pos (by rfl)]
                have HXb : Hid (Only (fun _ => False) w3 (za.setRow B6 #[.int .i64 (W1 : Int), .int .i64 (T1 : Int), .int .u8 (M1 : Int), .int .i64 (hy : Int), .int .i64 (pr : Int), .float .f64 lo])) := HXa.out.setRowNew HMa.out.2.2.2 _
                refine wp_store_row 35 _ _ rfl B6 #[.int .i64 (W1 : Int), .int .i64 (T1 : Int), .int .u8 (M1 : Int), .int .i64 (hy : Int), .int .i64 (pr : Int), .float .f64 lo] rfl rfl 35 _ HMa.out.2.2.1 (by kernel_rfl) rfl (cfg_one _ _ _ _ _ _) ?_
                have HMb : Hid (Made (za.setRow B6 #[.int .i64 (W1 : Int), .int .i64 (T1 : Int), .int .u8 (M1 : Int), .int .i64 (hy : Int), .int .i64 (pr : Int), .float .f64 lo]) LF nm k aC aO cC cO ∧ Blk w3 (za.setRow B6 #[.int .i64 (W1 : Int), .int .i64 (T1 : Int), .int .u8 (M1 : Int), .int .i64 (hy : Int), .int .i64 (pr : Int), .float .f64 lo]) B5 31 #[.slice aC k cC, .slice aO (k + 1) cO] ∧ Blk w3 (za.setRow B6 #[.int .i64 (W1 : Int), .int .i64 (T1 : Int), .int .u8 (M1 : Int), .int .i64 (hy : Int), .int .i64 (pr : Int), .float .f64 lo]) B6 35 #[.int .i64 (W1 : Int), .int .i64 (T1 : Int), .int .u8 (M1 : Int), .int .i64 (hy : Int), .int .i64 (pr : Int), .float .f64 lo]) := ⟨HMa.out.1.store HMa.out.2.2.1 (by decide) (by decide) _, HMa.out.2.1.far HMa.out.2.2 (by decide) _, HMa.out.2.2.put _⟩
                obtain ⟨zb, hzb⟩ : ∃ Y, Y = za.setRow B6 #[.int .i64 (W1 : Int), .int .i64 (T1 : Int), .int .u8 (M1 : Int), .int .i64 (hy : Int), .int .i64 (pr : Int), .float .f64 lo] := ⟨_, rfl⟩
                rw [← hzb] at HXb HMb ⊢
                clear hzb
                refine hK.out _ _ (HKS.out _ HXb.out) (fun hHeld => ?_)
                clear hK
                (try simp only [Act.put, List.setIfInBounds_toArray, List.set_cons_zero, List.set_cons_succ])
                refine wpAnyH_done (by kernel_rfl) ?_ _
                clear hHeld
                go_wp2_with fail
                go_meet
                exact ⟨k, B5, B6, aC, aO, cC, cO, _, rfl, rfl, rfl, HMb.out.1, HMb.out.2.1, HMb.out.2.2, HXb.out⟩
              · rw [if_pos (by rfl)]
                go_simp
                obtain ⟨y3, hy3⟩ : ∃ Y, Y = y2.alloc (.cells #[.int .i64 0, .int .i64 0, .int .u8 0, .int .i64 0, .int .i64 0, .float .f64 0] 35) := ⟨_, rfl⟩
                obtain ⟨B6, hB6⟩ : ∃ b, b = y2.heap.size := ⟨_, rfl⟩
                have ho : Only (fun _ => False) y2 y3 := by rw [hy3]; exact (Only.refl _ _).alloc _
                have HXy3 : Hid (Only (fun _ => False) w3 y3) := HXy2.out.trans ho
                have HB6y3 : Hid (Blk w3 y3 B6 35 #[.int .i64 0, .int .i64 0, .int .u8 0, .int .i64 0, .int .i64 0, .float .f64 0]) := by rw [hy3, hB6]; exact Blk.made HXy2.out _ _
                have HMy3 : Hid (Made y3 LF nm k aC aO cC cO) := HMy2.out.keep ho
                rw [← hy3, ← hB6]
                clear hy3 hB6 ho
                refine hK.out _ _ (HKS.out _ HXy3.out) (fun hHeld => ?_)
                clear hK
                (try simp only [Act.put, List.setIfInBounds_toArray, List.set_cons_zero, List.set_cons_succ])
                refine wpAnyH_ready (rs := [4]) (by kernel_rfl) (by simp) ?_
                refine AllReadyH.cons rfl (fun K hK => ?_) AllReadyH.nil
                rw [if_pos (by rfl)]
                go_simp
                obtain ⟨y4, hy4⟩ : ∃ Y, Y = y3.alloc (.cells #[.slice none 0 0, .slice none 0 0] 31) := ⟨_, rfl⟩
                obtain ⟨B5, hB5⟩ : ∃ b, b = y3.heap.size := ⟨_, rfl⟩
                have ho : Only (fun _ => False) y3 y4 := by rw [hy4]; exact (Only.refl _ _).alloc _
                have HXy4 : Hid (Only (fun _ => False) w3 y4) := HXy3.out.trans ho
                have HB5y4 : Hid (Blk w3 y4 B5 31 #[.slice none 0 0, .slice none 0 0]) := by rw [hy4, hB5]; exact Blk.made HXy3.out _ _
                have HB6y4 : Hid (Blk w3 y4 B6 35 #[.int .i64 0, .int .i64 0, .int .u8 0, .int .i64 0, .int .i64 0, .float .f64 0]) := HB6y3.out.keep ho
                have HMy4 : Hid (Made y4 LF nm k aC aO cC cO) := HMy3.out.keep ho
                rw [← hy4, ← hB5]
                clear hy4 hB5 ho
                refine hK.out _ _ (HKS.out _ HXy4.out) (fun hHeld => ?_)
                clear hK
                (try simp only [Act.put, List.setIfInBounds_toArray, List.set_cons_zero, List.set_cons_succ])
                refine wpAnyH_ready (rs := [6]) (by kernel_rfl) (by simp) ?_
                refine AllReadyH.cons rfl (fun K hK => ?_) AllReadyH.nil
                rw [if_pos (by rfl)]
                have HXa : Hid (Only (fun _ => False) w3 (y4.setRow B5 #[.slice aC k cC, .slice aO (k + 1) cO])) := HXy4.out.setRowNew HB5y4.out.2 _
                refine wp_store_row 31 _ _ rfl B5 #[.slice aC k cC, .slice aO (k + 1) cO] rfl rfl 31 _ HB5y4.out.1 (by kernel_rfl) rfl (two_one _ _ _ _ _ _) ?_
                have HMa : Hid (Made (y4.setRow B5 #[.slice aC k cC, .slice aO (k + 1) cO]) LF nm k aC aO cC cO ∧ Blk w3 (y4.setRow B5 #[.slice aC k cC, .slice aO (k + 1) cO]) B5 31 #[.slice aC k cC, .slice aO (k + 1) cO] ∧ Blk w3 (y4.setRow B5 #[.slice aC k cC, .slice aO (k + 1) cO]) B6 35 #[.int .i64 0, .int .i64 0, .int .u8 0, .int .i64 0, .int .i64 0, .float .f64 0]) := ⟨HMy4.out.store HB5y4.out.1 (by decide) (by decide) _, HB5y4.out.put _, HB6y4.out.far HB5y4.out (by decide) _⟩
                obtain ⟨za, hza⟩ : ∃ Y, Y = y4.setRow B5 #[.slice aC k cC, .slice aO (k + 1) cO] := ⟨_, rfl⟩
                rw [← hza] at HXa HMa ⊢
                clear hza
                refine hK.out _ _ (HKS.out _ HXa.out) (fun hHeld => ?_)
                clear hK
                (try simp only [Act.put, List.setIfInBounds_toArray, List.set_cons_zero, List.set_cons_succ])
                refine wpAnyH_ready (rs := [7]) (by kernel_rfl) (by simp) ?_
                refine AllReadyH.cons rfl (fun K hK => ?_) AllReadyH.nil
                rw [if_pos (by rfl)]
                have HXb : Hid (Only (fun _ => False) w3 (za.setRow B6 #[.int .i64 (W1 : Int), .int .i64 (T1 : Int), .int .u8 (M1 : Int), .int .i64 (hy : Int), .int .i64 (pr : Int), .float .f64 lo])) := HXa.out.setRowNew HMa.out.2.2.2 _
                refine wp_store_row 35 _ _ rfl B6 #[.int .i64 (W1 : Int), .int .i64 (T1 : Int), .int .u8 (M1 : Int), .int .i64 (hy : Int), .int .i64 (pr : Int), .float .f64 lo] rfl rfl 35 _ HMa.out.2.2.1 (by kernel_rfl) rfl (cfg_one _ _ _ _ _ _) ?_
                have HMb : Hid (Made (za.setRow B6 #[.int .i64 (W1 : Int), .int .i64 (T1 : Int), .int .u8 (M1 : Int), .int .i64 (hy : Int), .int .i64 (pr : Int), .float .f64 lo]) LF nm k aC aO cC cO ∧ Blk w3 (za.setRow B6 #[.int .i64 (W1 : Int), .int .i64 (T1 : Int), .int .u8 (M1 : Int), .int .i64 (hy : Int), .int .i64 (pr : Int), .float .f64 lo]) B5 31 #[.slice aC k cC, .slice aO (k + 1) cO] ∧ Blk w3 (za.setRow B6 #[.int .i64 (W1 : Int), .int .i64 (T1 : Int), .int .u8 (M1 : Int), .int .i64 (hy : Int), .int .i64 (pr : Int), .float .f64 lo]) B6 35 #[.int .i64 (W1 : Int), .int .i64 (T1 : Int), .int .u8 (M1 : Int), .int .i64 (hy : Int), .int .i64 (pr : Int), .float .f64 lo]) := ⟨HMa.out.1.store HMa.out.2.2.1 (by decide) (by decide) _, HMa.out.2.1.far HMa.out.2.2 (by decide) _, HMa.out.2.2.put _⟩
                obtain ⟨zb, hzb⟩ : ∃ Y, Y = za.setRow B6 #[.int .i64 (W1 : Int), .int .i64 (T1 : Int), .int .u8 (M1 : Int), .int .i64 (hy : Int), .int .i64 (pr : Int), .float .f64 lo] := ⟨_, rfl⟩
                rw [← hzb] at HXb HMb ⊢
                clear hzb
                refine hK.out _ _ (HKS.out _ HXb.out) (fun hHeld => ?_)
                clear hK
                (try simp only [Act.put, List.setIfInBounds_toArray, List.set_cons_zero, List.set_cons_succ])
                refine wpAnyH_done (by kernel_rfl) ?_ _
                clear hHeld
                go_wp2_with fail
                go_meet
                exact ⟨k, B5, B6, aC, aO, cC, cO, _, rfl, rfl, rfl, HMb.out.1, HMb.out.2.1, HMb.out.2.2, HXb.out⟩
            · rw [if_pos (by rfl)]
              go_simp
              obtain ⟨y2, hy2⟩ : ∃ Y, Y = y1.alloc (.cells #[.slice none 0 0, .slice none 0 0] 31) := ⟨_, rfl⟩
              obtain ⟨B5, hB5⟩ : ∃ b, b = y1.heap.size := ⟨_, rfl⟩
              have ho : Only (fun _ => False) y1 y2 := by rw [hy2]; exact (Only.refl _ _).alloc _
              have HXy2 : Hid (Only (fun _ => False) w3 y2) := HXy1.out.trans ho
              have HB5y2 : Hid (Blk w3 y2 B5 31 #[.slice none 0 0, .slice none 0 0]) := by rw [hy2, hB5]; exact Blk.made HXy1.out _ _
              have HMy2 : Hid (Made y2 LF nm k aC aO cC cO) := HMy1.out.keep ho
              rw [← hy2, ← hB5]
              clear hy2 hB5 ho
              refine hK.out _ _ (HKS.out _ HXy2.out) (fun hHeld => ?_)
              clear hK
              (try simp only [Act.put, List.setIfInBounds_toArray, List.set_cons_zero, List.set_cons_succ])
              refine wpAnyH_ready (rs := [3, 5]) (by kernel_rfl) (by simp) ?_
              refine AllReadyH.cons rfl (fun K hK => ?_) (AllReadyH.cons rfl (fun K hK => ?_) AllReadyH.nil)
              · rw [if_pos (by rfl)]
                go_simp
                refine Calls.mono (HCF.out _) ?_
                rintro e y3 ⟨rfl, ho⟩
                have HMy3 : Hid (Made y3 LF nm k aC aO cC cO) := HMy2.out.keep ho
                have HXy3 : Hid (Only (fun _ => False) w3 y3) := HXy2.out.trans ho
                have HB5y3 : Hid (Blk w3 y3 B5 31 #[.slice none 0 0, .slice none 0 0]) := HB5y2.out.keep ho
                clear ho
                refine hK.out _ _ (HKS.out _ HXy3.out) (fun hHeld => ?_)
                clear hK
                (try simp only [Act.put, List.setIfInBounds_toArray, List.set_cons_zero, List.set_cons_succ])
                refine wpAnyH_ready (rs := [5]) (by kernel_rfl) (by simp) ?_
                refine AllReadyH.cons rfl (fun K hK => ?_) AllReadyH.nil
                rw [if_pos (by rfl)]
                go_simp
                obtain ⟨y4, hy4⟩ : ∃ Y, Y = y3.alloc (.cells #[.int .i64 0, .int .i64 0, .int .u8 0, .int .i64 0, .int .i64 0, .float .f64 0] 35) := ⟨_, rfl⟩
                obtain ⟨B6, hB6⟩ : ∃ b, b = y3.heap.size := ⟨_, rfl⟩
                have ho : Only (fun _ => False) y3 y4 := by rw [hy4]; exact (Only.refl _ _).alloc _
                have HXy4 : Hid (Only (fun _ => False) w3 y4) := HXy3.out.trans ho
                have HB6y4 : Hid (Blk w3 y4 B6 35 #[.int .i64 0, .int .i64 0, .int .u8 0, .int .i64 0, .int .i64 0, .float .f64 0]) := by rw [hy4, hB6]; exact Blk.made HXy3.out _ _
                have HB5y4 : Hid (Blk w3 y4 B5 31 #[.slice none 0 0, .slice none 0 0]) := HB5y3.out.keep ho
                have HMy4 : Hid (Made y4 LF nm k aC aO cC cO) := HMy3.out.keep ho
                rw [← hy4, ← hB6]
                clear hy4 hB6 ho
                refine hK.out _ _ (HKS.out _ HXy4.out) (fun hHeld => ?_)
                clear hK
                (try simp only [Act.put, List.setIfInBounds_toArray, List.set_cons_zero, List.set_cons_succ])
                refine wpAnyH_ready (rs := [6]) (by kernel_rfl) (by simp) ?_
                refine AllReadyH.cons rfl (fun K hK => ?_) AllReadyH.nil
                rw [if_pos (by rfl)]
                have HXa : Hid (Only (fun _ => False) w3 (y4.setRow B5 #[.slice aC k cC, .slice aO (k + 1) cO])) := HXy4.out.setRowNew HB5y4.out.2 _
                refine wp_store_row 31 _ _ rfl B5 #[.slice aC k cC, .slice aO (k + 1) cO] rfl rfl 31 _ HB5y4.out.1 (by kernel_rfl) rfl (two_one _ _ _ _ _ _) ?_
                have HMa : Hid (Made (y4.setRow B5 #[.slice aC k cC, .slice aO (k + 1) cO]) LF nm k aC aO cC cO ∧ Blk w3 (y4.setRow B5 #[.slice aC k cC, .slice aO (k + 1) cO]) B5 31 #[.slice aC k cC, .slice aO (k + 1) cO] ∧ Blk w3 (y4.setRow B5 #[.slice aC k cC, .slice aO (k + 1) cO]) B6 35 #[.int .i64 0, .int .i64 0, .int .u8 0, .int .i64 0, .int .i64 0, .float .f64 0]) := ⟨HMy4.out.store HB5y4.out.1 (by decide) (by decide) _, HB5y4.out.put _, HB6y4.out.far HB5y4.out (by decide) _⟩
                obtain ⟨za, hza⟩ : ∃ Y, Y = y4.setRow B5 #[.slice aC k cC, .slice aO (k + 1) cO] := ⟨_, rfl⟩
                rw [← hza] at HXa HMa ⊢
                clear hza
                refine hK.out _ _ (HKS.out _ HXa.out) (fun hHeld => ?_)
                clear hK
                (try simp only [Act.put, List.setIfInBounds_toArray, List.set_cons_zero, List.set_cons_succ])
                refine wpAnyH_ready (rs := [7]) (by kernel_rfl) (by simp) ?_
                refine AllReadyH.cons rfl (fun K hK => ?_) AllReadyH.nil
                rw [if_pos (by rfl)]
                have HXb : Hid (Only (fun _ => False) w3 (za.setRow B6 #[.int .i64 (W1 : Int), .int .i64 (T1 : Int), .int .u8 (M1 : Int), .int .i64 (hy : Int), .int .i64 (pr : Int), .float .f64 lo])) := HXa.out.setRowNew HMa.out.2.2.2 _
                refine wp_store_row 35 _ _ rfl B6 #[.int .i64 (W1 : Int), .int .i64 (T1 : Int), .int .u8 (M1 : Int), .int .i64 (hy : Int), .int .i64 (pr : Int), .float .f64 lo] rfl rfl 35 _ HMa.out.2.2.1 (by kernel_rfl) rfl (cfg_one _ _ _ _ _ _) ?_
                have HMb : Hid (Made (za.setRow B6 #[.int .i64 (W1 : Int), .int .i64 (T1 : Int), .int .u8 (M1 : Int), .int .i64 (hy : Int), .int .i64 (pr : Int), .float .f64 lo]) LF nm k aC aO cC cO ∧ Blk w3 (za.setRow B6 #[.int .i64 (W1 : Int), .int .i64 (T1 : Int), .int .u8 (M1 : Int), .int .i64 (hy : Int), .int .i64 (pr : Int), .float .f64 lo]) B5 31 #[.slice aC k cC, .slice aO (k + 1) cO] ∧ Blk w3 (za.setRow B6 #[.int .i64 (W1 : Int), .int .i64 (T1 : Int), .int .u8 (M1 : Int), .int .i64 (hy : Int), .int .i64 (pr : Int), .float .f64 lo]) B6 35 #[.int .i64 (W1 : Int), .int .i64 (T1 : Int), .int .u8 (M1 : Int), .int .i64 (hy : Int), .int .i64 (pr : Int), .float .f64 lo]) := ⟨HMa.out.1.store HMa.out.2.2.1 (by decide) (by decide) _, HMa.out.2.1.far HMa.out.2.2 (by decide) _, HMa.out.2.2.put _⟩
                obtain ⟨zb, hzb⟩ : ∃ Y, Y = za.setRow B6 #[.int .i64 (W1 : Int), .int .i64 (T1 : Int), .int .u8 (M1 : Int), .int .i64 (hy : Int), .int .i64 (pr : Int), .float .f64 lo] := ⟨_, rfl⟩
                rw [← hzb] at HXb HMb ⊢
                clear hzb
                refine hK.out _ _ (HKS.out _ HXb.out) (fun hHeld => ?_)
                clear hK
                (try simp only [Act.put, List.setIfInBounds_toArray, List.set_cons_zero, List.set_cons_succ])
                refine wpAnyH_done (by kernel_rfl) ?_ _
                clear hHeld
                go_wp2_with fail
                go_meet
                exact ⟨k, B5, B6, aC, aO, cC, cO, _, rfl, rfl, rfl, HMb.out.1, HMb.out.2.1, HMb.out.2.2, HXb.out⟩
              · rw [if_pos (by rfl)]
                go_simp
                obtain ⟨y3, hy3⟩ : ∃ Y, Y = y2.alloc (.cells #[.int .i64 0, .int .i64 0, .int .u8 0, .int .i64 0, .int .i64 0, .float .f64 0] 35) := ⟨_, rfl⟩
                obtain ⟨B6, hB6⟩ : ∃ b, b = y2.heap.size := ⟨_, rfl⟩
                have ho : Only (fun _ => False) y2 y3 := by rw [hy3]; exact (Only.refl _ _).alloc _
                have HXy3 : Hid (Only (fun _ => False) w3 y3) := HXy2.out.trans ho
                have HB6y3 : Hid (Blk w3 y3 B6 35 #[.int .i64 0, .int .i64 0, .int .u8 0, .int .i64 0, .int .i64 0, .float .f64 0]) := by rw [hy3, hB6]; exact Blk.made HXy2.out _ _
                have HB5y3 : Hid (Blk w3 y3 B5 31 #[.slice none 0 0, .slice none 0 0]) := HB5y2.out.keep ho
                have HMy3 : Hid (Made y3 LF nm k aC aO cC cO) := HMy2.out.keep ho
                rw [← hy3, ← hB6]
                clear hy3 hB6 ho
                refine hK.out _ _ (HKS.out _ HXy3.out) (fun hHeld => ?_)
                clear hK
                (try simp only [Act.put, List.setIfInBounds_toArray, List.set_cons_zero, List.set_cons_succ])
                refine wpAnyH_ready (rs := [3]) (by kernel_rfl) (by simp) ?_
                refine AllReadyH.cons rfl (fun K hK => ?_) AllReadyH.nil
                rw [if_pos (by rfl)]
                go_simp
                refine Calls.mono (HCF.out _) ?_
                rintro e y4 ⟨rfl, ho⟩
                have HMy4 : Hid (Made y4 LF nm k aC aO cC cO) := HMy3.out.keep ho
                have HXy4 : Hid (Only (fun _ => False) w3 y4) := HXy3.out.trans ho
                have HB5y4 : Hid (Blk w3 y4 B5 31 #[.slice none 0 0, .slice none 0 0]) := HB5y3.out.keep ho
                have HB6y4 : Hid (Blk w3 y4 B6 35 #[.int .i64 0, .int .i64 0, .int .u8 0, .int .i64 0, .int .i64 0, .float .f64 0]) := HB6y3.out.keep ho
                clear ho
                refine hK.out _ _ (HKS.out _ HXy4.out) (fun hHeld => ?_)
                clear hK
                (try simp only [Act.put, List.setIfInBounds_toArray, List.set_cons_zero, List.set_cons_succ])
                refine wpAnyH_ready (rs := [6]) (by kernel_rfl) (by simp) ?_
                refine AllReadyH.cons rfl (fun K hK => ?_) AllReadyH.nil
                rw [if_pos (by rfl)]
                have HXa : Hid (Only (fun _ => False) w3 (y4.setRow B5 #[.slice aC k cC, .slice aO (k + 1) cO])) := HXy4.out.setRowNew HB5y4.out.2 _
                refine wp_store_row 31 _ _ rfl B5 #[.slice aC k cC, .slice aO (k + 1) cO] rfl rfl 31 _ HB5y4.out.1 (by kernel_rfl) rfl (two_one _ _ _ _ _ _) ?_
                have HMa : Hid (Made (y4.setRow B5 #[.slice aC k cC, .slice aO (k + 1) cO]) LF nm k aC aO cC cO ∧ Blk w3 (y4.setRow B5 #[.slice aC k cC, .slice aO (k + 1) cO]) B5 31 #[.slice aC k cC, .slice aO (k + 1) cO] ∧ Blk w3 (y4.setRow B5 #[.slice aC k cC, .slice aO (k + 1) cO]) B6 35 #[.int .i64 0, .int .i64 0, .int .u8 0, .int .i64 0, .int .i64 0, .float .f64 0]) := ⟨HMy4.out.store HB5y4.out.1 (by decide) (by decide) _, HB5y4.out.put _, HB6y4.out.far HB5y4.out (by decide) _⟩
                obtain ⟨za, hza⟩ : ∃ Y, Y = y4.setRow B5 #[.slice aC k cC, .slice aO (k + 1) cO] := ⟨_, rfl⟩
                rw [← hza] at HXa HMa ⊢
                clear hza
                refine hK.out _ _ (HKS.out _ HXa.out) (fun hHeld => ?_)
                clear hK
                (try simp only [Act.put, List.setIfInBounds_toArray, List.set_cons_zero, List.set_cons_succ])
                refine wpAnyH_ready (rs := [7]) (by kernel_rfl) (by simp) ?_
                refine AllReadyH.cons rfl (fun K hK => ?_) AllReadyH.nil
                rw [if_pos (by rfl)]
                have HXb : Hid (Only (fun _ => False) w3 (za.setRow B6 #[.int .i64 (W1 : Int), .int .i64 (T1 : Int), .int .u8 (M1 : Int), .int .i64 (hy : Int), .int .i64 (pr : Int), .float .f64 lo])) := HXa.out.setRowNew HMa.out.2.2.2 _
                refine wp_store_row 35 _ _ rfl B6 #[.int .i64 (W1 : Int), .int .i64 (T1 : Int), .int .u8 (M1 : Int), .int .i64 (hy : Int), .int .i64 (pr : Int), .float .f64 lo] rfl rfl 35 _ HMa.out.2.2.1 (by kernel_rfl) rfl (cfg_one _ _ _ _ _ _) ?_
                have HMb : Hid (Made (za.setRow B6 #[.int .i64 (W1 : Int), .int .i64 (T1 : Int), .int .u8 (M1 : Int), .int .i64 (hy : Int), .int .i64 (pr : Int), .float .f64 lo]) LF nm k aC aO cC cO ∧ Blk w3 (za.setRow B6 #[.int .i64 (W1 : Int), .int .i64 (T1 : Int), .int .u8 (M1 : Int), .int .i64 (hy : Int), .int .i64 (pr : Int), .float .f64 lo]) B5 31 #[.slice aC k cC, .slice aO (k + 1) cO] ∧ Blk w3 (za.setRow B6 #[.int .i64 (W1 : Int), .int .i64 (T1 : Int), .int .u8 (M1 : Int), .int .i64 (hy : Int), .int .i64 (pr : Int), .float .f64 lo]) B6 35 #[.int .i64 (W1 : Int), .int .i64 (T1 : Int), .int .u8 (M1 : Int), .int .i64 (hy : Int), .int .i64 (pr : Int), .float .f64 lo]) := ⟨HMa.out.1.store HMa.out.2.2.1 (by decide) (by decide) _, HMa.out.2.1.far HMa.out.2.2 (by decide) _, HMa.out.2.2.put _⟩
                obtain ⟨zb, hzb⟩ : ∃ Y, Y = za.setRow B6 #[.int .i64 (W1 : Int), .int .i64 (T1 : Int), .int .u8 (M1 : Int), .int .i64 (hy : Int), .int .i64 (pr : Int), .float .f64 lo] := ⟨_, rfl⟩
                rw [← hzb] at HXb HMb ⊢
                clear hzb
                refine hK.out _ _ (HKS.out _ HXb.out) (fun hHeld => ?_)
                clear hK
                (try simp only [Act.put, List.setIfInBounds_toArray, List.set_cons_zero, List.set_cons_succ])
                refine wpAnyH_done (by kernel_rfl) ?_ _
                clear hHeld
                go_wp2_with fail
                go_meet
                exact ⟨k, B5, B6, aC, aO, cC, cO, _, rfl, rfl, rfl, HMb.out.1, HMb.out.2.1, HMb.out.2.2, HXb.out⟩
            · rw [if_pos (by rfl)]
              go_simp
              obtain ⟨y2, hy2⟩ : ∃ Y, Y = y1.alloc (.cells #[.int .i64 0, .int .i64 0, .int .u8 0, .int .i64 0, .int .i64 0, .float .f64 0] 35) := ⟨_, rfl⟩
              obtain ⟨B6, hB6⟩ : ∃ b, b = y1.heap.size := ⟨_, rfl⟩
              have ho : Only (fun _ => False) y1 y2 := by rw [hy2]; exact (Only.refl _ _).alloc _
              have HXy2 : Hid (Only (fun _ => False) w3 y2) := HXy1.out.trans ho
              have HB6y2 : Hid (Blk w3 y2 B6 35 #[.int .i64 0, .int .i64 0, .int .u8 0, .int .i64 0, .int .i64 0, .float .f64 0]) := by rw [hy2, hB6]; exact Blk.made HXy1.out _ _
              have HMy2 : Hid (Made y2 LF nm k aC aO cC cO) := HMy1.out.keep ho
              rw [← hy2, ← hB6]
              clear hy2 hB6 ho
              refine hK.out _ _ (HKS.out _ HXy2.out) (fun hHeld => ?_)
              clear hK
              (try simp only [Act.put, List.setIfInBounds_toArray, List.set_cons_zero, List.set_cons_succ])
              refine wpAnyH_ready (rs := [3, 4]) (by kernel_rfl) (by simp) ?_
              refine AllReadyH.cons rfl (fun K hK => ?_) (AllReadyH.cons rfl (fun K hK => ?_) AllReadyH.nil)
              · rw [if_pos (by rfl)]
                go_simp
                refine Calls.mono (HCF.out _) ?_
                rintro e y3 ⟨rfl, ho⟩
                have HMy3 : Hid (Made y3 LF nm k aC aO cC cO) := HMy2.out.keep ho
                have HXy3 : Hid (Only (fun _ => False) w3 y3) := HXy2.out.trans ho
                have HB6y3 : Hid (Blk w3 y3 B6 35 #[.int .i64 0, .int .i64 0, .int .u8 0, .int .i64 0, .int .i64 0, .float .f64 0]) := HB6y2.out.keep ho
                clear ho
                refine hK.out _ _ (HKS.out _ HXy3.out) (fun hHeld => ?_)
                clear hK
                (try simp only [Act.put, List.setIfInBounds_toArray, List.set_cons_zero, List.set_cons_succ])
                refine wpAnyH_ready (rs := [4]) (by kernel_rfl) (by simp) ?_
                refine AllReadyH.cons rfl (fun K hK => ?_) AllReadyH.nil
                rw [if_pos (by rfl)]
                go_simp
                obtain ⟨y4, hy4⟩ : ∃ Y, Y = y3.alloc (.cells #[.slice none 0 0, .slice none 0 0] 31) := ⟨_, rfl⟩
                obtain ⟨B5, hB5⟩ : ∃ b, b = y3.heap.size := ⟨_, rfl⟩
                have ho : Only (fun _ => False) y3 y4 := by rw [hy4]; exact (Only.refl _ _).alloc _
                have HXy4 : Hid (Only (fun _ => False) w3 y4) := HXy3.out.trans ho
                have HB5y4 : Hid (Blk w3 y4 B5 31 #[.slice none 0 0, .slice none 0 0]) := by rw [hy4, hB5]; exact Blk.made HXy3.out _ _
                have HB6y4 : Hid (Blk w3 y4 B6 35 #[.int .i64 0, .int .i64 0, .int .u8 0, .int .i64 0, .int .i64 0, .float .f64 0]) := HB6y3.out.keep ho
                have HMy4 : Hid (Made y4 LF nm k aC aO cC cO) := HMy3.out.keep ho
                rw [← hy4, ← hB5]
                clear hy4 hB5 ho
                refine hK.out _ _ (HKS.out _ HXy4.out) (fun hHeld => ?_)
                clear hK
                (try simp only [Act.put, List.setIfInBounds_toArray, List.set_cons_zero, List.set_cons_succ])
                refine wpAnyH_ready (rs := [6]) (by kernel_rfl) (by simp) ?_
                refine AllReadyH.cons rfl (fun K hK => ?_) AllReadyH.nil
                rw [if_pos (by rfl)]
                have HXa : Hid (Only (fun _ => False) w3 (y4.setRow B5 #[.slice aC k cC, .slice aO (k + 1) cO])) := HXy4.out.setRowNew HB5y4.out.2 _
                refine wp_store_row 31 _ _ rfl B5 #[.slice aC k cC, .slice aO (k + 1) cO] rfl rfl 31 _ HB5y4.out.1 (by kernel_rfl) rfl (two_one _ _ _ _ _ _) ?_
                have HMa : Hid (Made (y4.setRow B5 #[.slice aC k cC, .slice aO (k + 1) cO]) LF nm k aC aO cC cO ∧ Blk w3 (y4.setRow B5 #[.slice aC k cC, .slice aO (k + 1) cO]) B5 31 #[.slice aC k cC, .slice aO (k + 1) cO] ∧ Blk w3 (y4.setRow B5 #[.slice aC k cC, .slice aO (k + 1) cO]) B6 35 #[.int .i64 0, .int .i64 0, .int .u8 0, .int .i64 0, .int .i64 0, .float .f64 0]) := ⟨HMy4.out.store HB5y4.out.1 (by decide) (by decide) _, HB5y4.out.put _, HB6y4.out.far HB5y4.out (by decide) _⟩
                obtain ⟨za, hza⟩ : ∃ Y, Y = y4.setRow B5 #[.slice aC k cC, .slice aO (k + 1) cO] := ⟨_, rfl⟩
                rw [← hza] at HXa HMa ⊢
                clear hza
                refine hK.out _ _ (HKS.out _ HXa.out) (fun hHeld => ?_)
                clear hK
                (try simp only [Act.put, List.setIfInBounds_toArray, List.set_cons_zero, List.set_cons_succ])
                refine wpAnyH_ready (rs := [7]) (by kernel_rfl) (by simp) ?_
                refine AllReadyH.cons rfl (fun K hK => ?_) AllReadyH.nil
                rw [if_pos (by rfl)]
                have HXb : Hid (Only (fun _ => False) w3 (za.setRow B6 #[.int .i64 (W1 : Int), .int .i64 (T1 : Int), .int .u8 (M1 : Int), .int .i64 (hy : Int), .int .i64 (pr : Int), .float .f64 lo])) := HXa.out.setRowNew HMa.out.2.2.2 _
                refine wp_store_row 35 _ _ rfl B6 #[.int .i64 (W1 : Int), .int .i64 (T1 : Int), .int .u8 (M1 : Int), .int .i64 (hy : Int), .int .i64 (pr : Int), .float .f64 lo] rfl rfl 35 _ HMa.out.2.2.1 (by kernel_rfl) rfl (cfg_one _ _ _ _ _ _) ?_
                have HMb : Hid (Made (za.setRow B6 #[.int .i64 (W1 : Int), .int .i64 (T1 : Int), .int .u8 (M1 : Int), .int .i64 (hy : Int), .int .i64 (pr : Int), .float .f64 lo]) LF nm k aC aO cC cO ∧ Blk w3 (za.setRow B6 #[.int .i64 (W1 : Int), .int .i64 (T1 : Int), .int .u8 (M1 : Int), .int .i64 (hy : Int), .int .i64 (pr : Int), .float .f64 lo]) B5 31 #[.slice aC k cC, .slice aO (k + 1) cO] ∧ Blk w3 (za.setRow B6 #[.int .i64 (W1 : Int), .int .i64 (T1 : Int), .int .u8 (M1 : Int), .int .i64 (hy : Int), .int .i64 (pr : Int), .float .f64 lo]) B6 35 #[.int .i64 (W1 : Int), .int .i64 (T1 : Int), .int .u8 (M1 : Int), .int .i64 (hy : Int), .int .i64 (pr : Int), .float .f64 lo]) := ⟨HMa.out.1.store HMa.out.2.2.1 (by decide) (by decide) _, HMa.out.2.1.far HMa.out.2.2 (by decide) _, HMa.out.2.2.put _⟩
                obtain ⟨zb, hzb⟩ : ∃ Y, Y = za.setRow B6 #[.int .i64 (W1 : Int), .int .i64 (T1 : Int), .int .u8 (M1 : Int), .int .i64 (hy : Int), .int .i64 (pr : Int), .float .f64 lo] := ⟨_, rfl⟩
                rw [← hzb] at HXb HMb ⊢
                clear hzb
                refine hK.out _ _ (HKS.out _ HXb.out) (fun hHeld => ?_)
                clear hK
                (try simp only [Act.put, List.setIfInBounds_toArray, List.set_cons_zero, List.set_cons_succ])
                refine wpAnyH_done (by kernel_rfl) ?_ _
                clear hHeld
                go_wp2_with fail
                go_meet
                exact ⟨k, B5, B6, aC, aO, cC, cO, _, rfl, rfl, rfl, HMb.out.1, HMb.out.2.1, HMb.out.2.2, HXb.out⟩
              · rw [if_pos (by rfl)]
                go_simp
                obtain ⟨y3, hy3⟩ : ∃ Y, Y = y2.alloc (.cells #[.slice none 0 0, .slice none 0 0] 31) := ⟨_, rfl⟩
                obtain ⟨B5, hB5⟩ : ∃ b, b = y2.heap.size := ⟨_, rfl⟩
                have ho : Only (fun _ => False) y2 y3 := by rw [hy3]; exact (Only.refl _ _).alloc _
                have HXy3 : Hid (Only (fun _ => False) w3 y3) := HXy2.out.trans ho
                have HB5y3 : Hid (Blk w3 y3 B5 31 #[.slice none 0 0, .slice none 0 0]) := by rw [hy3, hB5]; exact Blk.made HXy2.out _ _
                have HB6y3 : Hid (Blk w3 y3 B6 35 #[.int .i64 0, .int .i64 0, .int .u8 0, .int .i64 0, .int .i64 0, .float .f64 0]) := HB6y2.out.keep ho
                have HMy3 : Hid (Made y3 LF nm k aC aO cC cO) := HMy2.out.keep ho
                rw [← hy3, ← hB5]
                clear hy3 hB5 ho
                refine hK.out _ _ (HKS.out _ HXy3.out) (fun hHeld => ?_)
                clear hK
                (try simp only [Act.put, List.setIfInBounds_toArray, List.set_cons_zero, List.set_cons_succ])
                refine wpAnyH_ready (rs := [3]) (by kernel_rfl) (by simp) ?_
                refine AllReadyH.cons rfl (fun K hK => ?_) AllReadyH.nil
                rw [if_pos (by rfl)]
                go_simp
                refine Calls.mono (HCF.out _) ?_
                rintro e y4 ⟨rfl, ho⟩
                have HMy4 : Hid (Made y4 LF nm k aC aO cC cO) := HMy3.out.keep ho
                have HXy4 : Hid (Only (fun _ => False) w3 y4) := HXy3.out.trans ho
                have HB5y4 : Hid (Blk w3 y4 B5 31 #[.slice none 0 0, .slice none 0 0]) := HB5y3.out.keep ho
                have HB6y4 : Hid (Blk w3 y4 B6 35 #[.int .i64 0, .int .i64 0, .int .u8 0, .int .i64 0, .int .i64 0, .float .f64 0]) := HB6y3.out.keep ho
                clear ho
                refine hK.out _ _ (HKS.out _ HXy4.out) (fun hHeld => ?_)
                clear hK
                (try simp only [Act.put, List.setIfInBounds_toArray, List.set_cons_zero, List.set_cons_succ])
                refine wpAnyH_ready (rs := [6]) (by kernel_rfl) (by simp) ?_
                refine AllReadyH.cons rfl (fun K hK => ?_) AllReadyH.nil
                rw [if_pos (by rfl)]
                have HXa : Hid (Only (fun _ => False) w3 (y4.setRow B5 #[.slice aC k cC, .slice aO (k + 1) cO])) := HXy4.out.setRowNew HB5y4.out.2 _
                refine wp_store_row 31 _ _ rfl B5 #[.slice aC k cC, .slice aO (k + 1) cO] rfl rfl 31 _ HB5y4.out.1 (by kernel_rfl) rfl (two_one _ _ _ _ _ _) ?_
                have HMa : Hid (Made (y4.setRow B5 #[.slice aC k cC, .slice aO (k + 1) cO]) LF nm k aC aO cC cO ∧ Blk w3 (y4.setRow B5 #[.slice aC k cC, .slice aO (k + 1) cO]) B5 31 #[.slice aC k cC, .slice aO (k + 1) cO] ∧ Blk w3 (y4.setRow B5 #[.slice aC k cC, .slice aO (k + 1) cO]) B6 35 #[.int .i64 0, .int .i64 0, .int .u8 0, .int .i64 0, .int .i64 0, .float .f64 0]) := ⟨HMy4.out.store HB5y4.out.1 (by decide) (by decide) _, HB5y4.out.put _, HB6y4.out.far HB5y4.out (by decide) _⟩
                obtain ⟨za, hza⟩ : ∃ Y, Y = y4.setRow B5 #[.slice aC k cC, .slice aO (k + 1) cO] := ⟨_, rfl⟩
                rw [← hza] at HXa HMa ⊢
                clear hza
                refine hK.out _ _ (HKS.out _ HXa.out) (fun hHeld => ?_)
                clear hK
                (try simp only [Act.put, List.setIfInBounds_toArray, List.set_cons_zero, List.set_cons_succ])
                refine wpAnyH_ready (rs := [7]) (by kernel_rfl) (by simp) ?_
                refine AllReadyH.cons rfl (fun K hK => ?_) AllReadyH.nil
                rw [if_pos (by rfl)]
                have HXb : Hid (Only (fun _ => False) w3 (za.setRow B6 #[.int .i64 (W1 : Int), .int .i64 (T1 : Int), .int .u8 (M1 : Int), .int .i64 (hy : Int), .int .i64 (pr : Int), .float .f64 lo])) := HXa.out.setRowNew HMa.out.2.2.2 _
                refine wp_store_row 35 _ _ rfl B6 #[.int .i64 (W1 : Int), .int .i64 (T1 : Int), .int .u8 (M1 : Int), .int .i64 (hy : Int), .int .i64 (pr : Int), .float .f64 lo] rfl rfl 35 _ HMa.out.2.2.1 (by kernel_rfl) rfl (cfg_one _ _ _ _ _ _) ?_
                have HMb : Hid (Made (za.setRow B6 #[.int .i64 (W1 : Int), .int .i64 (T1 : Int), .int .u8 (M1 : Int), .int .i64 (hy : Int), .int .i64 (pr : Int), .float .f64 lo]) LF nm k aC aO cC cO ∧ Blk w3 (za.setRow B6 #[.int .i64 (W1 : Int), .int .i64 (T1 : Int), .int .u8 (M1 : Int), .int .i64 (hy : Int), .int .i64 (pr : Int), .float .f64 lo]) B5 31 #[.slice aC k cC, .slice aO (k + 1) cO] ∧ Blk w3 (za.setRow B6 #[.int .i64 (W1 : Int), .int .i64 (T1 : Int), .int .u8 (M1 : Int), .int .i64 (hy : Int), .int .i64 (pr : Int), .float .f64 lo]) B6 35 #[.int .i64 (W1 : Int), .int .i64 (T1 : Int), .int .u8 (M1 : Int), .int .i64 (hy : Int), .int .i64 (pr : Int), .float .f64 lo]) := ⟨HMa.out.1.store HMa.out.2.2.1 (by decide) (by decide) _, HMa.out.2.1.far HMa.out.2.2 (by decide) _, HMa.out.2.2.put _⟩
                obtain ⟨zb, hzb⟩ : ∃ Y, Y = za.setRow B6 #[.int .i64 (W1 : Int), .int .i64 (T1 : Int), .int .u8 (M1 : Int), .int .i64 (hy : Int), .int .i64 (pr : Int), .float .f64 lo] := ⟨_, rfl⟩
                rw [← hzb] at HXb HMb ⊢
                clear hzb
                refine hK.out _ _ (HKS.out _ HXb.out) (fun hHeld => ?_)
                clear hK
                (try simp only [Act.put, List.setIfInBounds_toArray, List.set_cons_zero, List.set_cons_succ])
                refine wpAnyH_done (by kernel_rfl) ?_ _
                clear hHeld
                go_wp2_with fail
                go_meet
                exact ⟨k, B5, B6, aC, aO, cC, cO, _, rfl, rfl, rfl, HMb.out.1, HMb.out.2.1, HMb.out.2.2, HXb.out⟩
          · rw [if_pos (by rfl)]
            go_simp
            obtain ⟨y1, hy1⟩ : ∃ Y, Y = (w3.alloc (.cells #[.slice none 0 0, .slice none 0 0] 31)).drew := ⟨_, rfl⟩
            obtain ⟨B5, hB5⟩ : ∃ b, b = w3.heap.size := ⟨_, rfl⟩
            have ho : Only (fun _ => False) w3 y1 := by rw [hy1]; exact ((Only.refl _ _).alloc _).drew
            have HXy1 : Hid (Only (fun _ => False) w3 y1) := ho
            have HB5y1 : Hid (Blk w3 y1 B5 31 #[.slice none 0 0, .slice none 0 0]) := by rw [hy1, hB5]; exact (Blk.made (Only.refl _ _) _ _).drew
            rw [← hy1, ← hB5]
            clear hy1 hB5 ho
            refine hK.out _ _ (HKS.out _ HXy1.out) (fun hHeld => ?_)
            clear hK
            (try simp only [Act.put, List.setIfInBounds_toArray, List.set_cons_zero, List.set_cons_succ])
            refine wpAnyH_ready (rs := [1, 5]) (by kernel_rfl) (by simp) ?_
            refine AllReadyH.cons rfl (fun K hK => ?_) (AllReadyH.cons rfl (fun K hK => ?_) AllReadyH.nil)
            · rw [if_pos (by rfl)]
              go_simp
              refine Calls.mono (HPA.out _ (HW3.out.trans HXy1.out) HXy1.out) ?_
              rintro e y2 ⟨k, aC, aO, cC, cO, rfl, hmd, ho⟩
              have HMy2 : Hid (Made y2 LF nm k aC aO cC cO) := hmd
              clear hmd
              have HXy2 : Hid (Only (fun _ => False) w3 y2) := HXy1.out.trans ho
              have HB5y2 : Hid (Blk w3 y2 B5 31 #[.slice none 0 0, .slice none 0 0]) := HB5y1.out.keep ho
              clear ho
              refine hK.out _ _ (HKS.out _ HXy2.out) (fun hHeld => ?_)
              clear hK
              (try simp only [Act.put, List.setIfInBounds_toArray, List.set_cons_zero, List.set_cons_succ])
              refine wpAnyH_ready (rs := [3, 5]) (by kernel_rfl) (by simp) ?_
              refine AllReadyH.cons rfl (fun K hK => ?_) (AllReadyH.cons rfl (fun K hK => ?_) AllReadyH.nil)
              · rw [if_pos (by rfl)]
                go_simp
                refine Calls.mono (HCF.out _) ?_
                rintro e y3 ⟨rfl, ho⟩
                have HMy3 : Hid (Made y3 LF nm k aC aO cC cO) := HMy2.out.keep ho
                have HXy3 : Hid (Only (fun _ => False) w3 y3) := HXy2.out.trans ho
                have HB5y3 : Hid (Blk w3 y3 B5 31 #[.slice none 0 0, .slice none 0 0]) := HB5y2.out.keep ho
                clear ho
                refine hK.out _ _ (HKS.out _ HXy3.out) (fun hHeld => ?_)
                clear hK
                (try simp only [Act.put, List.setIfInBounds_toArray, List.set_cons_zero, List.set_cons_succ])
                refine wpAnyH_ready (rs := [5]) (by kernel_rfl) (by simp) ?_
                refine AllReadyH.cons rfl (fun K hK => ?_) AllReadyH.nil
                rw [if_pos (by rfl)]
                go_simp
                obtain ⟨y4, hy4⟩ : ∃ Y, Y = y3.alloc (.cells #[.int .i64 0, .int .i64 0, .int .u8 0, .int .i64 0, .int .i64 0, .float .f64 0] 35) := ⟨_, rfl⟩
                obtain ⟨B6, hB6⟩ : ∃ b, b = y3.heap.size := ⟨_, rfl⟩
                have ho : Only (fun _ => False) y3 y4 := by rw [hy4]; exact (Only.refl _ _).alloc _
                have HXy4 : Hid (Only (fun _ => False) w3 y4) := HXy3.out.trans ho
                have HB6y4 : Hid (Blk w3 y4 B6 35 #[.int .i64 0, .int .i64 0, .int .u8 0, .int .i64 0, .int .i64 0, .float .f64 0]) := by rw [hy4, hB6]; exact Blk.made HXy3.out _ _
                have HB5y4 : Hid (Blk w3 y4 B5 31 #[.slice none 0 0, .slice none 0 0]) := HB5y3.out.keep ho
                have HMy4 : Hid (Made y4 LF nm k aC aO cC cO) := HMy3.out.keep ho
                rw [← hy4, ← hB6]
                clear hy4 hB6 ho
                refine hK.out _ _ (HKS.out _ HXy4.out) (fun hHeld => ?_)
                clear hK
                (try simp only [Act.put, List.setIfInBounds_toArray, List.set_cons_zero, List.set_cons_succ])
                refine wpAnyH_ready (rs := [6]) (by kernel_rfl) (by simp) ?_
                refine AllReadyH.cons rfl (fun K hK => ?_) AllReadyH.nil
                rw [if_pos (by rfl)]
                have HXa : Hid (Only (fun _ => False) w3 (y4.setRow B5 #[.slice aC k cC, .slice aO (k + 1) cO])) := HXy4.out.setRowNew HB5y4.out.2 _
                refine wp_store_row 31 _ _ rfl B5 #[.slice aC k cC, .slice aO (k + 1) cO] rfl rfl 31 _ HB5y4.out.1 (by kernel_rfl) rfl (two_one _ _ _ _ _ _) ?_
                have HMa : Hid (Made (y4.setRow B5 #[.slice aC k cC, .slice aO (k + 1) cO]) LF nm k aC aO cC cO ∧ Blk w3 (y4.setRow B5 #[.slice aC k cC, .slice aO (k + 1) cO]) B5 31 #[.slice aC k cC, .slice aO (k + 1) cO] ∧ Blk w3 (y4.setRow B5 #[.slice aC k cC, .slice aO (k + 1) cO]) B6 35 #[.int .i64 0, .int .i64 0, .int .u8 0, .int .i64 0, .int .i64 0, .float .f64 0]) := ⟨HMy4.out.store HB5y4.out.1 (by decide) (by decide) _, HB5y4.out.put _, HB6y4.out.far HB5y4.out (by decide) _⟩
                obtain ⟨za, hza⟩ : ∃ Y, Y = y4.setRow B5 #[.slice aC k cC, .slice aO (k + 1) cO] := ⟨_, rfl⟩
                rw [← hza] at HXa HMa ⊢
                clear hza
                refine hK.out _ _ (HKS.out _ HXa.out) (fun hHeld => ?_)
                clear hK
                (try simp only [Act.put, List.setIfInBounds_toArray, List.set_cons_zero, List.set_cons_succ])
                refine wpAnyH_ready (rs := [7]) (by kernel_rfl) (by simp) ?_
                refine AllReadyH.cons rfl (fun K hK => ?_) AllReadyH.nil
                rw [if_pos (by rfl)]
                have HXb : Hid (Only (fun _ => False) w3 (za.setRow B6 #[.int .i64 (W1 : Int), .int .i64 (T1 : Int), .int .u8 (M1 : Int), .int .i64 (hy : Int), .int .i64 (pr : Int), .float .f64 lo])) := HXa.out.setRowNew HMa.out.2.2.2 _
                refine wp_store_row 35 _ _ rfl B6 #[.int .i64 (W1 : Int), .int .i64 (T1 : Int), .int .u8 (M1 : Int), .int .i64 (hy : Int), .int .i64 (pr : Int), .float .f64 lo] rfl rfl 35 _ HMa.out.2.2.1 (by kernel_rfl) rfl (cfg_one _ _ _ _ _ _) ?_
                have HMb : Hid (Made (za.setRow B6 #[.int .i64 (W1 : Int), .int .i64 (T1 : Int), .int .u8 (M1 : Int), .int .i64 (hy : Int), .int .i64 (pr : Int), .float .f64 lo]) LF nm k aC aO cC cO ∧ Blk w3 (za.setRow B6 #[.int .i64 (W1 : Int), .int .i64 (T1 : Int), .int .u8 (M1 : Int), .int .i64 (hy : Int), .int .i64 (pr : Int), .float .f64 lo]) B5 31 #[.slice aC k cC, .slice aO (k + 1) cO] ∧ Blk w3 (za.setRow B6 #[.int .i64 (W1 : Int), .int .i64 (T1 : Int), .int .u8 (M1 : Int), .int .i64 (hy : Int), .int .i64 (pr : Int), .float .f64 lo]) B6 35 #[.int .i64 (W1 : Int), .int .i64 (T1 : Int), .int .u8 (M1 : Int), .int .i64 (hy : Int), .int .i64 (pr : Int), .float .f64 lo]) := ⟨HMa.out.1.store HMa.out.2.2.1 (by decide) (by decide) _, HMa.out.2.1.far HMa.out.2.2 (by decide) _, HMa.out.2.2.put _⟩
                obtain ⟨zb, hzb⟩ : ∃ Y, Y = za.setRow B6 #[.int .i64 (W1 : Int), .int .i64 (T1 : Int), .int .u8 (M1 : Int), .int .i64 (hy : Int), .int .i64 (pr : Int), .float .f64 lo] := ⟨_, rfl⟩
                rw [← hzb] at HXb HMb ⊢
                clear hzb
                refine hK.out _ _ (HKS.out _ HXb.out) (fun hHeld => ?_)
                clear hK
                (try simp only [Act.put, List.setIfInBounds_toArray, List.set_cons_zero, List.set_cons_succ])
                refine wpAnyH_done (by kernel_rfl) ?_ _
                clear hHeld
                go_wp2_with fail
                go_meet
                exact ⟨k, B5, B6, aC, aO, cC, cO, _, rfl, rfl, rfl, HMb.out.1, HMb.out.2.1, HMb.out.2.2, HXb.out⟩
              · rw [if_pos (by rfl)]
                go_simp
                obtain ⟨y3, hy3⟩ : ∃ Y, Y = y2.alloc (.cells #[.int .i64 0, .int .i64 0, .int .u8 0, .int .i64 0, .int .i64 0, .float .f64 0] 35) := ⟨_, rfl⟩
                obtain ⟨B6, hB6⟩ : ∃ b, b = y2.heap.size := ⟨_, rfl⟩
                have ho : Only (fun _ => False) y2 y3 := by rw [hy3]; exact (Only.refl _ _).alloc _
                have HXy3 : Hid (Only (fun _ => False) w3 y3) := HXy2.out.trans ho
                have HB6y3 : Hid (Blk w3 y3 B6 35 #[.int .i64 0, .int .i64 0, .int .u8 0, .int .i64 0, .int .i64 0, .float .f64 0]) := by rw [hy3, hB6]; exact Blk.made HXy2.out _ _
                have HB5y3 : Hid (Blk w3 y3 B5 31 #[.slice none 0 0, .slice none 0 0]) := HB5y2.out.keep ho
                have HMy3 : Hid (Made y3 LF nm k aC aO cC cO) := HMy2.out.keep ho
                rw [← hy3, ← hB6]
                clear hy3 hB6 ho
                refine hK.out _ _ (HKS.out _ HXy3.out) (fun hHeld => ?_)
                clear hK
                (try simp only [Act.put, List.setIfInBounds_toArray, List.set_cons_zero, List.set_cons_succ])
                refine wpAnyH_ready (rs := [3]) (by kernel_rfl) (by simp) ?_
                refine AllReadyH.cons rfl (fun K hK => ?_) AllReadyH.nil
                rw [if_pos (by rfl)]
                go_simp
                refine Calls.mono (HCF.out _) ?_
                rintro e y4 ⟨rfl, ho⟩
                have HMy4 : Hid (Made y4 LF nm k aC aO cC cO) := HMy3.out.keep ho
                have HXy4 : Hid (Only (fun _ => False) w3 y4) := HXy3.out.trans ho
                have HB5y4 : Hid (Blk w3 y4 B5 31 #[.slice none 0 0, .slice none 0 0]) := HB5y3.out.keep ho
                have HB6y4 : Hid (Blk w3 y4 B6 35 #[.int .i64 0, .int .i64 0, .int .u8 0, .int .i64 0, .int .i64 0, .float .f64 0]) := HB6y3.out.keep ho
                clear ho
                refine hK.out _ _ (HKS.out _ HXy4.out) (fun hHeld => ?_)
                clear hK
                (try simp only [Act.put, List.setIfInBounds_toArray, List.set_cons_zero, List.set_cons_succ])
                refine wpAnyH_ready (rs := [6]) (by kernel_rfl) (by simp) ?_
                refine AllReadyH.cons rfl (fun K hK => ?_) AllReadyH.nil
                rw [if_pos (by rfl)]
                have HXa : Hid (Only (fun _ => False) w3 (y4.setRow B5 #[.slice aC k cC, .slice aO (k + 1) cO])) := HXy4.out.setRowNew HB5y4.out.2 _
                refine wp_store_row 31 _ _ rfl B5 #[.slice aC k cC, .slice aO (k + 1) cO] rfl rfl 31 _ HB5y4.out.1 (by kernel_rfl) rfl (two_one _ _ _ _ _ _) ?_
                have HMa : Hid (Made (y4.setRow B5 #[.slice aC k cC, .slice aO (k + 1) cO]) LF nm k aC aO cC cO ∧ Blk w3 (y4.setRow B5 #[.slice aC k cC, .slice aO (k + 1) cO]) B5 31 #[.slice aC k cC, .slice aO (k + 1) cO] ∧ Blk w3 (y4.setRow B5 #[.slice aC k cC, .slice aO (k + 1) cO]) B6 35 #[.int .i64 0, .int .i64 0, .int .u8 0, .int .i64 0, .int .i64 0, .float .f64 0]) := ⟨HMy4.out.store HB5y4.out.1 (by decide) (by decide) _, HB5y4.out.put _, HB6y4.out.far HB5y4.out (by decide) _⟩
                obtain ⟨za, hza⟩ : ∃ Y, Y = y4.setRow B5 #[.slice aC k cC, .slice aO (k + 1) cO] := ⟨_, rfl⟩
                rw [← hza] at HXa HMa ⊢
                clear hza
                refine hK.out _ _ (HKS.out _ HXa.out) (fun hHeld => ?_)
                clear hK
                (try simp only [Act.put, List.setIfInBounds_toArray, List.set_cons_zero, List.set_cons_succ])
                refine wpAnyH_ready (rs := [7]) (by kernel_rfl) (by simp) ?_
                refine AllReadyH.cons rfl (fun K hK => ?_) AllReadyH.nil
                rw [if_pos (by rfl)]
                have HXb : Hid (Only (fun _ => False) w3 (za.setRow B6 #[.int .i64 (W1 : Int), .int .i64 (T1 : Int), .int .u8 (M1 : Int), .int .i64 (hy : Int), .int .i64 (pr : Int), .float .f64 lo])) := HXa.out.setRowNew HMa.out.2.2.2 _
                refine wp_store_row 35 _ _ rfl B6 #[.int .i64 (W1 : Int), .int .i64 (T1 : Int), .int .u8 (M1 : Int), .int .i64 (hy : Int), .int .i64 (pr : Int), .float .f64 lo] rfl rfl 35 _ HMa.out.2.2.1 (by kernel_rfl) rfl (cfg_one _ _ _ _ _ _) ?_
                have HMb : Hid (Made (za.setRow B6 #[.int .i64 (W1 : Int), .int .i64 (T1 : Int), .int .u8 (M1 : Int), .int .i64 (hy : Int), .int .i64 (pr : Int), .float .f64 lo]) LF nm k aC aO cC cO ∧ Blk w3 (za.setRow B6 #[.int .i64 (W1 : Int), .int .i64 (T1 : Int), .int .u8 (M1 : Int), .int .i64 (hy : Int), .int .i64 (pr : Int), .float .f64 lo]) B5 31 #[.slice aC k cC, .slice aO (k + 1) cO] ∧ Blk w3 (za.setRow B6 #[.int .i64 (W1 : Int), .int .i64 (T1 : Int), .int .u8 (M1 : Int), .int .i64 (hy : Int), .int .i64 (pr : Int), .float .f64 lo]) B6 35 #[.int .i64 (W1 : Int), .int .i64 (T1 : Int), .int .u8 (M1 : Int), .int .i64 (hy : Int), .int .i64 (pr : Int), .float .f64 lo]) := ⟨HMa.out.1.store HMa.out.2.2.1 (by decide) (by decide) _, HMa.out.2.1.far HMa.out.2.2 (by decide) _, HMa.out.2.2.put _⟩
                obtain ⟨zb, hzb⟩ : ∃ Y, Y = za.setRow B6 #[.int .i64 (W1 : Int), .int .i64 (T1 : Int), .int .u8 (M1 : Int), .int .i64 (hy : Int), .int .i64 (pr : Int), .float .f64 lo] := ⟨_, rfl⟩
                rw [← hzb] at HXb HMb ⊢
                clear hzb
                refine hK.out _ _ (HKS.out _ HXb.out) (fun hHeld => ?_)
                clear hK
                (try simp only [Act.put, List.setIfInBounds_toArray, List.set_cons_zero, List.set_cons_succ])
                refine wpAnyH_done (by kernel_rfl) ?_ _
                clear hHeld
                go_wp2_with fail
                go_meet
                exact ⟨k, B5, B6, aC, aO, cC, cO, _, rfl, rfl, rfl, HMb.out.1, HMb.out.2.1, HMb.out.2.2, HXb.out⟩
            · rw [if_pos (by rfl)]
              go_simp
              obtain ⟨y2, hy2⟩ : ∃ Y, Y = y1.alloc (.cells #[.int .i64 0, .int .i64 0, .int .u8 0, .int .i64 0, .int .i64 0, .float .f64 0] 35) := ⟨_, rfl⟩
              obtain ⟨B6, hB6⟩ : ∃ b, b = y1.heap.size := ⟨_, rfl⟩
              have ho : Only (fun _ => False) y1 y2 := by rw [hy2]; exact (Only.refl _ _).alloc _
              have HXy2 : Hid (Only (fun _ => False) w3 y2) := HXy1.out.trans ho
              have HB6y2 : Hid (Blk w3 y2 B6 35 #[.int .i64 0, .int .i64 0, .int .u8 0, .int .i64 0, .int .i64 0, .float .f64 0]) := by rw [hy2, hB6]; exact Blk.made HXy1.out _ _
              have HB5y2 : Hid (Blk w3 y2 B5 31 #[.slice none 0 0, .slice none 0 0]) := HB5y1.out.keep ho
              rw [← hy2, ← hB6]
              clear hy2 hB6 ho
              refine hK.out _ _ (HKS.out _ HXy2.out) (fun hHeld => ?_)
              clear hK
              (try simp only [Act.put, List.setIfInBounds_toArray, List.set_cons_zero, List.set_cons_succ])
              refine wpAnyH_ready (rs := [1]) (by kernel_rfl) (by simp) ?_
              refine AllReadyH.cons rfl (fun K hK => ?_) AllReadyH.nil
              rw [if_pos (by rfl)]
              go_simp
              refine Calls.mono (HPA.out _ (HW3.out.trans HXy2.out) HXy2.out) ?_
              rintro e y3 ⟨k, aC, aO, cC, cO, rfl, hmd, ho⟩
              have HMy3 : Hid (Made y3 LF nm k aC aO cC cO) := hmd
              clear hmd
              have HXy3 : Hid (Only (fun _ => False) w3 y3) := HXy2.out.trans ho
              have HB5y3 : Hid (Blk w3 y3 B5 31 #[.slice none 0 0, .slice none 0 0]) := HB5y2.out.keep ho
              have HB6y3 : Hid (Blk w3 y3 B6 35 #[.int .i64 0, .int .i64 0, .int .u8 0, .int .i64 0, .int .i64 0, .float .f64 0]) := HB6y2.out.keep ho
              clear ho
              refine hK.out _ _ (HKS.out _ HXy3.out) (fun hHeld => ?_)
              clear hK
              (try simp only [Act.put, List.setIfInBounds_toArray, List.set_cons_zero, List.set_cons_succ])
              refine wpAnyH_ready (rs := [3]) (by kernel_rfl) (by simp) ?_
              refine AllReadyH.cons rfl (fun K hK => ?_) AllReadyH.nil
              rw [if_pos (by rfl)]
              go_simp
              refine Calls.mono (HCF.out _) ?_
              rintro e y4 ⟨rfl, ho⟩
              have HMy4 : Hid (Made y4 LF nm k aC aO cC cO) := HMy3.out.keep ho
              have HXy4 : Hid (Only (fun _ => False) w3 y4) := HXy3.out.trans ho
              have HB5y4 : Hid (Blk w3 y4 B5 31 #[.slice none 0 0, .slice none 0 0]) := HB5y3.out.keep ho
              have HB6y4 : Hid (Blk w3 y4 B6 35 #[.int .i64 0, .int .i64 0, .int .u8 0, .int .i64 0, .int .i64 0, .float .f64 0]) := HB6y3.out.keep ho
              clear ho
              refine hK.out _ _ (HKS.out _ HXy4.out) (fun hHeld => ?_)
              clear hK
              (try simp only [Act.put, List.setIfInBounds_toArray, List.set_cons_zero, List.set_cons_succ])
              refine wpAnyH_ready (rs := [6]) (by kernel_rfl) (by simp) ?_
              refine AllReadyH.cons rfl (fun K hK => ?_) AllReadyH.nil
              rw [if_pos (by rfl)]
              have HXa : Hid (Only (fun _ => False) w3 (y4.setRow B5 #[.slice aC k cC, .slice aO (k + 1) cO])) := HXy4.out.setRowNew HB5y4.out.2 _
              refine wp_store_row 31 _ _ rfl B5 #[.slice aC k cC, .slice aO (k + 1) cO] rfl rfl 31 _ HB5y4.out.1 (by kernel_rfl) rfl (two_one _ _ _ _ _ _) ?_
              have HMa : Hid (Made (y4.setRow B5 #[.slice aC k cC, .slice aO (k + 1) cO]) LF nm k aC aO cC cO ∧ Blk w3 (y4.setRow B5 #[.slice aC k cC, .slice aO (k + 1) cO]) B5 31 #[.slice aC k cC, .slice aO (k + 1) cO] ∧ Blk w3 (y4.setRow B5 #[.slice aC k cC, .slice aO (k + 1) cO]) B6 35 #[.int .i64 0, .int .i64 0, .int .u8 0, .int .i64 0, .int .i64 0, .float .f64 0]) := ⟨HMy4.out.store HB5y4.out.1 (by decide) (by decide) _, HB5y4.out.put _, HB6y4.out.far HB5y4.out (by decide) _⟩
              obtain ⟨za, hza⟩ : ∃ Y, Y = y4.setRow B5 #[.slice aC k cC, .slice aO (k + 1) cO] := ⟨_, rfl⟩
              rw [← hza] at HXa HMa ⊢
              clear hza
              refine hK.out _ _ (HKS.out _ HXa.out) (fun hHeld => ?_)
              clear hK
              (try simp only [Act.put, List.setIfInBounds_toArray, List.set_cons_zero, List.set_cons_succ])
              refine wpAnyH_ready (rs := [7]) (by kernel_rfl) (by simp) ?_
              refine AllReadyH.cons rfl (fun K hK => ?_) AllReadyH.nil
              rw [if_pos (by rfl)]
              have HXb : Hid (Only (fun _ => False) w3 (za.setRow B6 #[.int .i64 (W1 : Int), .int .i64 (T1 : Int), .int .u8 (M1 : Int), .int .i64 (hy : Int), .int .i64 (pr : Int), .float .f64 lo])) := HXa.out.setRowNew HMa.out.2.2.2 _
              refine wp_store_row 35 _ _ rfl B6 #[.int .i64 (W1 : Int), .int .i64 (T1 : Int), .int .u8 (M1 : Int), .int .i64 (hy : Int), .int .i64 (pr : Int), .float .f64 lo] rfl rfl 35 _ HMa.out.2.2.1 (by kernel_rfl) rfl (cfg_one _ _ _ _ _ _) ?_
              have HMb : Hid (Made (za.setRow B6 #[.int .i64 (W1 : Int), .int .i64 (T1 : Int), .int .u8 (M1 : Int), .int .i64 (hy : Int), .int .i64 (pr : Int), .float .f64 lo]) LF nm k aC aO cC cO ∧ Blk w3 (za.setRow B6 #[.int .i64 (W1 : Int), .int .i64 (T1 : Int), .int .u8 (M1 : Int), .int .i64 (hy : Int), .int .i64 (pr : Int), .float .f64 lo]) B5 31 #[.slice aC k cC, .slice aO (k + 1) cO] ∧ Blk w3 (za.setRow B6 #[.int .i64 (W1 : Int), .int .i64 (T1 : Int), .int .u8 (M1 : Int), .int .i64 (hy : Int), .int .i64 (pr : Int), .float .f64 lo]) B6 35 #[.int .i64 (W1 : Int), .int .i64 (T1 : Int), .int .u8 (M1 : Int), .int .i64 (hy : Int), .int .i64 (pr : Int), .float .f64 lo]) := ⟨HMa.out.1.store HMa.out.2.2.1 (by decide) (by decide) _, HMa.out.2.1.far HMa.out.2.2 (by decide) _, HMa.out.2.2.put _⟩
              obtain ⟨zb, hzb⟩ : ∃ Y, Y = za.setRow B6 #[.int .i64 (W1 : Int), .int .i64 (T1 : Int), .int .u8 (M1 : Int), .int .i64 (hy : Int), .int .i64 (pr : Int), .float .f64 lo] := ⟨_, rfl⟩
              rw [← hzb] at HXb HMb ⊢
              clear hzb
              refine hK.out _ _ (HKS.out _ HXb.out) (fun hHeld => ?_)
              clear hK
              (try simp only [Act.put, List.setIfInBounds_toArray, List.set_cons_zero, List.set_cons_succ])
              refine wpAnyH_done (by kernel_rfl) ?_ _
              clear hHeld
              go_wp2_with fail
              go_meet
              exact ⟨k, B5, B6, aC, aO, cC, cO, _, rfl, rfl, rfl, HMb.out.1, HMb.out.2.1, HMb.out.2.2, HXb.out⟩
          · rw [if_pos (by rfl)]
            go_simp
            obtain ⟨y1, hy1⟩ : ∃ Y, Y = (w3.alloc (.cells #[.int .i64 0, .int .i64 0, .int .u8 0, .int .i64 0, .int .i64 0, .float .f64 0] 35)).drew := ⟨_, rfl⟩
            obtain ⟨B6, hB6⟩ : ∃ b, b = w3.heap.size := ⟨_, rfl⟩
            have ho : Only (fun _ => False) w3 y1 := by rw [hy1]; exact ((Only.refl _ _).alloc _).drew
            have HXy1 : Hid (Only (fun _ => False) w3 y1) := ho
            have HB6y1 : Hid (Blk w3 y1 B6 35 #[.int .i64 0, .int .i64 0, .int .u8 0, .int .i64 0, .int .i64 0, .float .f64 0]) := by rw [hy1, hB6]; exact (Blk.made (Only.refl _ _) _ _).drew
            rw [← hy1, ← hB6]
            clear hy1 hB6 ho
            refine hK.out _ _ (HKS.out _ HXy1.out) (fun hHeld => ?_)
            clear hK
            (try simp only [Act.put, List.setIfInBounds_toArray, List.set_cons_zero, List.set_cons_succ])
            refine wpAnyH_ready (rs := [1, 4]) (by kernel_rfl) (by simp) ?_
            refine AllReadyH.cons rfl (fun K hK => ?_) (AllReadyH.cons rfl (fun K hK => ?_) AllReadyH.nil)
            · rw [if_pos (by rfl)]
              go_simp
              refine Calls.mono (HPA.out _ (HW3.out.trans HXy1.out) HXy1.out) ?_
              rintro e y2 ⟨k, aC, aO, cC, cO, rfl, hmd, ho⟩
              have HMy2 : Hid (Made y2 LF nm k aC aO cC cO) := hmd
              clear hmd
              have HXy2 : Hid (Only (fun _ => False) w3 y2) := HXy1.out.trans ho
              have HB6y2 : Hid (Blk w3 y2 B6 35 #[.int .i64 0, .int .i64 0, .int .u8 0, .int .i64 0, .int .i64 0, .float .f64 0]) := HB6y1.out.keep ho
              clear ho
              refine hK.out _ _ (HKS.out _ HXy2.out) (fun hHeld => ?_)
              clear hK
              (try simp only [Act.put, List.setIfInBounds_toArray, List.set_cons_zero, List.set_cons_succ])
              refine wpAnyH_ready (rs := [3, 4]) (by kernel_rfl) (by simp) ?_
              refine AllReadyH.cons rfl (fun K hK => ?_) (AllReadyH.cons rfl (fun K hK => ?_) AllReadyH.nil)
              · rw [if_pos (by rfl)]
                go_simp
                refine Calls.mono (HCF.out _) ?_
                rintro e y3 ⟨rfl, ho⟩
                have HMy3 : Hid (Made y3 LF nm k aC aO cC cO) := HMy2.out.keep ho
                have HXy3 : Hid (Only (fun _ => False) w3 y3) := HXy2.out.trans ho
                have HB6y3 : Hid (Blk w3 y3 B6 35 #[.int .i64 0, .int .i64 0, .int .u8 0, .int .i64 0, .int .i64 0, .float .f64 0]) := HB6y2.out.keep ho
                clear ho
                refine hK.out _ _ (HKS.out _ HXy3.out) (fun hHeld => ?_)
                clear hK
                (try simp only [Act.put, List.setIfInBounds_toArray, List.set_cons_zero, List.set_cons_succ])
                refine wpAnyH_ready (rs := [4]) (by kernel_rfl) (by simp) ?_
                refine AllReadyH.cons rfl (fun K hK => ?_) AllReadyH.nil
                rw [if_pos (by rfl)]
                go_simp
                obtain ⟨y4, hy4⟩ : ∃ Y, Y = y3.alloc (.cells #[.slice none 0 0, .slice none 0 0] 31) := ⟨_, rfl⟩
                obtain ⟨B5, hB5⟩ : ∃ b, b = y3.heap.size := ⟨_, rfl⟩
                have ho : Only (fun _ => False) y3 y4 := by rw [hy4]; exact (Only.refl _ _).alloc _
                have HXy4 : Hid (Only (fun _ => False) w3 y4) := HXy3.out.trans ho
                have HB5y4 : Hid (Blk w3 y4 B5 31 #[.slice none 0 0, .slice none 0 0]) := by rw [hy4, hB5]; exact Blk.made HXy3.out _ _
                have HB6y4 : Hid (Blk w3 y4 B6 35 #[.int .i64 0, .int .i64 0, .int .u8 0, .int .i64 0, .int .i64 0, .float .f64 0]) := HB6y3.out.keep ho
                have HMy4 : Hid (Made y4 LF nm k aC aO cC cO) := HMy3.out.keep ho
                rw [← hy4, ← hB5]
                clear hy4 hB5 ho
                refine hK.out _ _ (HKS.out _ HXy4.out) (fun hHeld => ?_)
                clear hK
                (try simp only [Act.put, List.setIfInBounds_toArray, List.set_cons_zero, List.set_cons_succ])
                refine wpAnyH_ready (rs := [6]) (by kernel_rfl) (by simp) ?_
                refine AllReadyH.cons rfl (fun K hK => ?_) AllReadyH.nil
                rw [if_pos (by rfl)]
                have HXa : Hid (Only (fun _ => False) w3 (y4.setRow B5 #[.slice aC k cC, .slice aO (k + 1) cO])) := HXy4.out.setRowNew HB5y4.out.2 _
                refine wp_store_row 31 _ _ rfl B5 #[.slice aC k cC, .slice aO (k + 1) cO] rfl rfl 31 _ HB5y4.out.1 (by kernel_rfl) rfl (two_one _ _ _ _ _ _) ?_
                have HMa : Hid (Made (y4.setRow B5 #[.slice aC k cC, .slice aO (k + 1) cO]) LF nm k aC aO cC cO ∧ Blk w3 (y4.setRow B5 #[.slice aC k cC, .slice aO (k + 1) cO]) B5 31 #[.slice aC k cC, .slice aO (k + 1) cO] ∧ Blk w3 (y4.setRow B5 #[.slice aC k cC, .slice aO (k + 1) cO]) B6 35 #[.int .i64 0, .int .i64 0, .int .u8 0, .int .i64 0, .int .i64 0, .float .f64 0]) := ⟨HMy4.out.store HB5y4.out.1 (by decide) (by decide) _, HB5y4.out.put _, HB6y4.out.far HB5y4.out (by decide) _⟩
                obtain ⟨za, hza⟩ : ∃ Y, Y = y4.setRow B5 #[.slice aC k cC, .slice aO (k + 1) cO] := ⟨_, rfl⟩
                rw [← hza] at HXa HMa ⊢
                clear hza
                refine hK.out _ _ (HKS.out _ HXa.out) (fun hHeld => ?_)
                clear hK
                (try simp only [Act.put, List.setIfInBounds_toArray, List.set_cons_zero, List.set_cons_succ])
                refine wpAnyH_ready (rs := [7]) (by kernel_rfl) (by simp) ?_
                refine AllReadyH.cons rfl (fun K hK => ?_) AllReadyH.nil
                rw [if_pos (by rfl)]
                have HXb : Hid (Only (fun _ => False) w3 (za.setRow B6 #[.int .i64 (W1 : Int), .int .i64 (T1 : Int), .int .u8 (M1 : Int), .int .i64 (hy : Int), .int .i64 (pr : Int), .float .f64 lo])) := HXa.out.setRowNew HMa.out.2.2.2 _
                refine wp_store_row 35 _ _ rfl B6 #[.int .i64 (W1 : Int), .int .i64 (T1 : Int), .int .u8 (M1 : Int), .int .i64 (hy : Int), .int .i64 (pr : Int), .float .f64 lo] rfl rfl 35 _ HMa.out.2.2.1 (by kernel_rfl) rfl (cfg_one _ _ _ _ _ _) ?_
                have HMb : Hid (Made (za.setRow B6 #[.int .i64 (W1 : Int), .int .i64 (T1 : Int), .int .u8 (M1 : Int), .int .i64 (hy : Int), .int .i64 (pr : Int), .float .f64 lo]) LF nm k aC aO cC cO ∧ Blk w3 (za.setRow B6 #[.int .i64 (W1 : Int), .int .i64 (T1 : Int), .int .u8 (M1 : Int), .int .i64 (hy : Int), .int .i64 (pr : Int), .float .f64 lo]) B5 31 #[.slice aC k cC, .slice aO (k + 1) cO] ∧ Blk w3 (za.setRow B6 #[.int .i64 (W1 : Int), .int .i64 (T1 : Int), .int .u8 (M1 : Int), .int .i64 (hy : Int), .int .i64 (pr : Int), .float .f64 lo]) B6 35 #[.int .i64 (W1 : Int), .int .i64 (T1 : Int), .int .u8 (M1 : Int), .int .i64 (hy : Int), .int .i64 (pr : Int), .float .f64 lo]) := ⟨HMa.out.1.store HMa.out.2.2.1 (by decide) (by decide) _, HMa.out.2.1.far HMa.out.2.2 (by decide) _, HMa.out.2.2.put _⟩
                obtain ⟨zb, hzb⟩ : ∃ Y, Y = za.setRow B6 #[.int .i64 (W1 : Int), .int .i64 (T1 : Int), .int .u8 (M1 : Int), .int .i64 (hy : Int), .int .i64 (pr : Int), .float .f64 lo] := ⟨_, rfl⟩
                rw [← hzb] at HXb HMb ⊢
                clear hzb
                refine hK.out _ _ (HKS.out _ HXb.out) (fun hHeld => ?_)
                clear hK
                (try simp only [Act.put, List.setIfInBounds_toArray, List.set_cons_zero, List.set_cons_succ])
                refine wpAnyH_done (by kernel_rfl) ?_ _
                clear hHeld
                go_wp2_with fail
                go_meet
                exact ⟨k, B5, B6, aC, aO, cC, cO, _, rfl, rfl, rfl, HMb.out.1, HMb.out.2.1, HMb.out.2.2, HXb.out⟩
              · rw [if_pos (by rfl)]
                go_simp
                obtain ⟨y3, hy3⟩ : ∃ Y, Y = y2.alloc (.cells #[.slice none 0 0, .slice none 0 0] 31) := ⟨_, rfl⟩
                obtain ⟨B5, hB5⟩ : ∃ b, b = y2.heap.size := ⟨_, rfl⟩
                have ho : Only (fun _ => False) y2 y3 := by rw [hy3]; exact (Only.refl _ _).alloc _
                have HXy3 : Hid (Only (fun _ => False) w3 y3) := HXy2.out.trans ho
                have HB5y3 : Hid (Blk w3 y3 B5 31 #[.slice none 0 0, .slice none 0 0]) := by rw [hy3, hB5]; exact Blk.made HXy2.out _ _
                have HB6y3 : Hid (Blk w3 y3 B6 35 #[.int .i64 0, .int .i64 0, .int .u8 0, .int .i64 0, .int .i64 0, .float .f64 0]) := HB6y2.out.keep ho
                have HMy3 : Hid (Made y3 LF nm k aC aO cC cO) := HMy2.out.keep ho
                rw [← hy3, ← hB5]
                clear hy3 hB5 ho
                refine hK.out _ _ (HKS.out _ HXy3.out) (fun hHeld => ?_)
                clear hK
                (try simp only [Act.put, List.setIfInBounds_toArray, List.set_cons_zero, List.set_cons_succ])
                refine wpAnyH_ready (rs := [3]) (by kernel_rfl) (by simp) ?_
                refine AllReadyH.cons rfl (fun K hK => ?_) AllReadyH.nil
                rw [if_pos (by rfl)]
                go_simp
                refine Calls.mono (HCF.out _) ?_
                rintro e y4 ⟨rfl, ho⟩
                have HMy4 : Hid (Made y4 LF nm k aC aO cC cO) := HMy3.out.keep ho
                have HXy4 : Hid (Only (fun _ => False) w3 y4) := HXy3.out.trans ho
                have HB5y4 : Hid (Blk w3 y4 B5 31 #[.slice none 0 0, .slice none 0 0]) := HB5y3.out.keep ho
                have HB6y4 : Hid (Blk w3 y4 B6 35 #[.int .i64 0, .int .i64 0, .int .u8 0, .int .i64 0, .int .i64 0, .float .f64 0]) := HB6y3.out.keep ho
                clear ho
                refine hK.out _ _ (HKS.out _ HXy4.out) (fun hHeld => ?_)
                clear hK
                (try simp only [Act.put, List.setIfInBounds_toArray, List.set_cons_zero, List.set_cons_succ])
                refine wpAnyH_ready (rs := [6]) (by kernel_rfl) (by simp) ?_
                refine AllReadyH.cons rfl (fun K hK => ?_) AllReadyH.nil
                rw [if_pos (by rfl)]
                have HXa : Hid (Only (fun _ => False) w3 (y4.setRow B5 #[.slice aC k cC, .slice aO (k + 1) cO])) := HXy4.out.setRowNew HB5y4.out.2 _
                refine wp_store_row 31 _ _ rfl B5 #[.slice aC k cC, .slice aO (k + 1) cO] rfl rfl 31 _ HB5y4.out.1 (by kernel_rfl) rfl (two_one _ _ _ _ _ _) ?_
                have HMa : Hid (Made (y4.setRow B5 #[.slice aC k cC, .slice aO (k + 1) cO]) LF nm k aC aO cC cO ∧ Blk w3 (y4.setRow B5 #[.slice aC k cC, .slice aO (k + 1) cO]) B5 31 #[.slice aC k cC, .slice aO (k + 1) cO] ∧ Blk w3 (y4.setRow B5 #[.slice aC k cC, .slice aO (k + 1) cO]) B6 35 #[.int .i64 0, .int .i64 0, .int .u8 0, .int .i64 0, .int .i64 0, .float .f64 0]) := ⟨HMy4.out.store HB5y4.out.1 (by decide) (by decide) _, HB5y4.out.put _, HB6y4.out.far HB5y4.out (by decide) _⟩
                obtain ⟨za, hza⟩ : ∃ Y, Y = y4.setRow B5 #[.slice aC k cC, .slice aO (k + 1) cO] := ⟨_, rfl⟩
                rw [← hza] at HXa HMa ⊢
                clear hza
                refine hK.out _ _ (HKS.out _ HXa.out) (fun hHeld => ?_)
                clear hK
                (try simp only [Act.put, List.setIfInBounds_toArray, List.set_cons_zero, List.set_cons_succ])
                refine wpAnyH_ready (rs := [7]) (by kernel_rfl) (by simp) ?_
                refine AllReadyH.cons rfl (fun K hK => ?_) AllReadyH.nil
                rw [if_pos (by rfl)]
                have HXb : Hid (Only (fun _ => False) w3 (za.setRow B6 #[.int .i64 (W1 : Int), .int .i64 (T1 : Int), .int .u8 (M1 : Int), .int .i64 (hy : Int), .int .i64 (pr : Int), .float .f64 lo])) := HXa.out.setRowNew HMa.out.2.2.2 _
                refine wp_store_row 35 _ _ rfl B6 #[.int .i64 (W1 : Int), .int .i64 (T1 : Int), .int .u8 (M1 : Int), .int .i64 (hy : Int), .int .i64 (pr : Int), .float .f64 lo] rfl rfl 35 _ HMa.out.2.2.1 (by kernel_rfl) rfl (cfg_one _ _ _ _ _ _) ?_
                have HMb : Hid (Made (za.setRow B6 #[.int .i64 (W1 : Int), .int .i64 (T1 : Int), .int .u8 (M1 : Int), .int .i64 (hy : Int), .int .i64 (pr : Int), .float .f64 lo]) LF nm k aC aO cC cO ∧ Blk w3 (za.setRow B6 #[.int .i64 (W1 : Int), .int .i64 (T1 : Int), .int .u8 (M1 : Int), .int .i64 (hy : Int), .int .i64 (pr : Int), .float .f64 lo]) B5 31 #[.slice aC k cC, .slice aO (k + 1) cO] ∧ Blk w3 (za.setRow B6 #[.int .i64 (W1 : Int), .int .i64 (T1 : Int), .int .u8 (M1 : Int), .int .i64 (hy : Int), .int .i64 (pr : Int), .float .f64 lo]) B6 35 #[.int .i64 (W1 : Int), .int .i64 (T1 : Int), .int .u8 (M1 : Int), .int .i64 (hy : Int), .int .i64 (pr : Int), .float .f64 lo]) := ⟨HMa.out.1.store HMa.out.2.2.1 (by decide) (by decide) _, HMa.out.2.1.far HMa.out.2.2 (by decide) _, HMa.out.2.2.put _⟩
                obtain ⟨zb, hzb⟩ : ∃ Y, Y = za.setRow B6 #[.int .i64 (W1 : Int), .int .i64 (T1 : Int), .int .u8 (M1 : Int), .int .i64 (hy : Int), .int .i64 (pr : Int), .float .f64 lo] := ⟨_, rfl⟩
                rw [← hzb] at HXb HMb ⊢
                clear hzb
                refine hK.out _ _ (HKS.out _ HXb.out) (fun hHeld => ?_)
                clear hK
                (try simp only [Act.put, List.setIfInBounds_toArray, List.set_cons_zero, List.set_cons_succ])
                refine wpAnyH_done (by kernel_rfl) ?_ _
                clear hHeld
                go_wp2_with fail
                go_meet
                exact ⟨k, B5, B6, aC, aO, cC, cO, _, rfl, rfl, rfl, HMb.out.1, HMb.out.2.1, HMb.out.2.2, HXb.out⟩
            · rw [if_pos (by rfl)]
              go_simp
              obtain ⟨y2, hy2⟩ : ∃ Y, Y = y1.alloc (.cells #[.slice none 0 0, .slice none 0 0] 31) := ⟨_, rfl⟩
              obtain ⟨B5, hB5⟩ : ∃ b, b = y1.heap.size := ⟨_, rfl⟩
              have ho : Only (fun _ => False) y1 y2 := by rw [hy2]; exact (Only.refl _ _).alloc _
              have HXy2 : Hid (Only (fun _ => False) w3 y2) := HXy1.out.trans ho
              have HB5y2 : Hid (Blk w3 y2 B5 31 #[.slice none 0 0, .slice none 0 0]) := by rw [hy2, hB5]; exact Blk.made HXy1.out _ _
              have HB6y2 : Hid (Blk w3 y2 B6 35 #[.int .i64 0, .int .i64 0, .int .u8 0, .int .i64 0, .int .i64 0, .float .f64 0]) := HB6y1.out.keep ho
              rw [← hy2, ← hB5]
              clear hy2 hB5 ho
              refine hK.out _ _ (HKS.out _ HXy2.out) (fun hHeld => ?_)
              clear hK
              (try simp only [Act.put, List.setIfInBounds_toArray, List.set_cons_zero, List.set_cons_succ])
              refine wpAnyH_ready (rs := [1]) (by kernel_rfl) (by simp) ?_
              refine AllReadyH.cons rfl (fun K hK => ?_) AllReadyH.nil
              rw [if_pos (by rfl)]
              go_simp
              refine Calls.mono (HPA.out _ (HW3.out.trans HXy2.out) HXy2.out) ?_
              rintro e y3 ⟨k, aC, aO, cC, cO, rfl, hmd, ho⟩
              have HMy3 : Hid (Made y3 LF nm k aC aO cC cO) := hmd
              clear hmd
              have HXy3 : Hid (Only (fun _ => False) w3 y3) := HXy2.out.trans ho
              have HB5y3 : Hid (Blk w3 y3 B5 31 #[.slice none 0 0, .slice none 0 0]) := HB5y2.out.keep ho
              have HB6y3 : Hid (Blk w3 y3 B6 35 #[.int .i64 0, .int .i64 0, .int .u8 0, .int .i64 0, .int .i64 0, .float .f64 0]) := HB6y2.out.keep ho
              clear ho
              refine hK.out _ _ (HKS.out _ HXy3.out) (fun hHeld => ?_)
              clear hK
              (try simp only [Act.put, List.setIfInBounds_toArray, List.set_cons_zero, List.set_cons_succ])
              refine wpAnyH_ready (rs := [3]) (by kernel_rfl) (by simp) ?_
              refine AllReadyH.cons rfl (fun K hK => ?_) AllReadyH.nil
              rw [if_pos (by rfl)]
              go_simp
              refine Calls.mono (HCF.out _) ?_
              rintro e y4 ⟨rfl, ho⟩
              have HMy4 : Hid (Made y4 LF nm k aC aO cC cO) := HMy3.out.keep ho
              have HXy4 : Hid (Only (fun _ => False) w3 y4) := HXy3.out.trans ho
              have HB5y4 : Hid (Blk w3 y4 B5 31 #[.slice none 0 0, .slice none 0 0]) := HB5y3.out.keep ho
              have HB6y4 : Hid (Blk w3 y4 B6 35 #[.int .i64 0, .int .i64 0, .int .u8 0, .int .i64 0, .int .i64 0, .float .f64 0]) := HB6y3.out.keep ho
              clear ho
              refine hK.out _ _ (HKS.out _ HXy4.out) (fun hHeld => ?_)
              clear hK
              (try simp only [Act.put, List.setIfInBounds_toArray, List.set_cons_zero, List.set_cons_succ])
              refine wpAnyH_ready (rs := [6]) (by kernel_rfl) (by simp) ?_
              refine AllReadyH.cons rfl (fun K hK => ?_) AllReadyH.nil
              rw [if_pos (by rfl)]
              have HXa : Hid (Only (fun _ => False) w3 (y4.setRow B5 #[.slice aC k cC, .slice aO (k + 1) cO])) := HXy4.out.setRowNew HB5y4.out.2 _
              refine wp_store_row 31 _ _ rfl B5 #[.slice aC k cC, .slice aO (k + 1) cO] rfl rfl 31 _ HB5y4.out.1 (by kernel_rfl) rfl (two_one _ _ _ _ _ _) ?_
              have HMa : Hid (Made (y4.setRow B5 #[.slice aC k cC, .slice aO (k + 1) cO]) LF nm k aC aO cC cO ∧ Blk w3 (y4.setRow B5 #[.slice aC k cC, .slice aO (k + 1) cO]) B5 31 #[.slice aC k cC, .slice aO (k + 1) cO] ∧ Blk w3 (y4.setRow B5 #[.slice aC k cC, .slice aO (k + 1) cO]) B6 35 #[.int .i64 0, .int .i64 0, .int .u8 0, .int .i64 0, .int .i64 0, .float .f64 0]) := ⟨HMy4.out.store HB5y4.out.1 (by decide) (by decide) _, HB5y4.out.put _, HB6y4.out.far HB5y4.out (by decide) _⟩
              obtain ⟨za, hza⟩ : ∃ Y, Y = y4.setRow B5 #[.slice aC k cC, .slice aO (k + 1) cO] := ⟨_, rfl⟩
              rw [← hza] at HXa HMa ⊢
              clear hza
              refine hK.out _ _ (HKS.out _ HXa.out) (fun hHeld => ?_)
              clear hK
              (try simp only [Act.put, List.setIfInBounds_toArray, List.set_cons_zero, List.set_cons_succ])
              refine wpAnyH_ready (rs := [7]) (by kernel_rfl) (by simp) ?_
              refine AllReadyH.cons rfl (fun K hK => ?_) AllReadyH.nil
              rw [if_pos (by rfl)]
              have HXb : Hid (Only (fun _ => False) w3 (za.setRow B6 #[.int .i64 (W1 : Int), .int .i64 (T1 : Int), .int .u8 (M1 : Int), .int .i64 (hy : Int), .int .i64 (pr : Int), .float .f64 lo])) := HXa.out.setRowNew HMa.out.2.2.2 _
              refine wp_store_row 35 _ _ rfl B6 #[.int .i64 (W1 : Int), .int .i64 (T1 : Int), .int .u8 (M1 : Int), .int .i64 (hy : Int), .int .i64 (pr : Int), .float .f64 lo] rfl rfl 35 _ HMa.out.2.2.1 (by kernel_rfl) rfl (cfg_one _ _ _ _ _ _) ?_
              have HMb : Hid (Made (za.setRow B6 #[.int .i64 (W1 : Int), .int .i64 (T1 : Int), .int .u8 (M1 : Int), .int .i64 (hy : Int), .int .i64 (pr : Int), .float .f64 lo]) LF nm k aC aO cC cO ∧ Blk w3 (za.setRow B6 #[.int .i64 (W1 : Int), .int .i64 (T1 : Int), .int .u8 (M1 : Int), .int .i64 (hy : Int), .int .i64 (pr : Int), .float .f64 lo]) B5 31 #[.slice aC k cC, .slice aO (k + 1) cO] ∧ Blk w3 (za.setRow B6 #[.int .i64 (W1 : Int), .int .i64 (T1 : Int), .int .u8 (M1 : Int), .int .i64 (hy : Int), .int .i64 (pr : Int), .float .f64 lo]) B6 35 #[.int .i64 (W1 : Int), .int .i64 (T1 : Int), .int .u8 (M1 : Int), .int .i64 (hy : Int), .int .i64 (pr : Int), .float .f64 lo]) := ⟨HMa.out.1.store HMa.out.2.2.1 (by decide) (by decide) _, HMa.out.2.1.far HMa.out.2.2 (by decide) _, HMa.out.2.2.put _⟩
              obtain ⟨zb, hzb⟩ : ∃ Y, Y = za.setRow B6 #[.int .i64 (W1 : Int), .int .i64 (T1 : Int), .int .u8 (M1 : Int), .int .i64 (hy : Int), .int .i64 (pr : Int), .float .f64 lo] := ⟨_, rfl⟩
              rw [← hzb] at HXb HMb ⊢
              clear hzb
              refine hK.out _ _ (HKS.out _ HXb.out) (fun hHeld => ?_)
              clear hK
              (try simp only [Act.put, List.setIfInBounds_toArray, List.set_cons_zero, List.set_cons_succ])
              refine wpAnyH_done (by kernel_rfl) ?_ _
              clear hHeld
              go_wp2_with fail
              go_meet
              exact ⟨k, B5, B6, aC, aO, cC, cO, _, rfl, rfl, rfl, HMb.out.1, HMb.out.2.1, HMb.out.2.2, HXb.out⟩
        case rest =>
          obtain ⟨k, B5, B6, aC, aO, cC, cO, X, hX, rfl, rfl, hmd, hb5, hb6, hoX⟩ := hcut
          subst hX
          obtain ⟨C, hC⟩ : ∃ x, x = Pa.cts (LF.take k) 0 := ⟨_, rfl⟩
          obtain ⟨O, hO⟩ : ∃ x, x = Pa.ops LF k ++ [2] := ⟨_, rfl⟩
          have HMD : Hid (Made X LF nm k aC aO cC cO ∧ C = Pa.cts (LF.take k) 0 ∧ O = Pa.ops LF k ++ [2]) := ⟨hmd, hC, hO⟩
          have HPv : Hid (∀ W', Only (fun _ => False) X W' → Pv W' C O k (k + 1) aC aO cC cO) := fun W' ho => by rw [hC, hO]; exact (hmd.pv (by omega) HLF.out.2).keep ho
          have HO4 : Hid (∀ x ∈ O, x < 4) := by rw [hO]; exact ops_lt LF k
          have HOL : Hid (O.length = k + 1 ∧ O.getD k 0 = 2) := by rw [hO]; exact ⟨by rw [List.length_append, Pa.ops_len]; rfl, ops_end LF k⟩
          have hk0 : k ≤ nm := hmd.le
          have HPC : Hid (∀ W', Only (fun _ => False) X W' → (W'.cell? ⟨B5, 0, none⟩ = some (.slice aC k cC) ∧ W'.cell? ⟨B5, 1, none⟩ = some (.slice aO (k + 1) cO)) ∧ (W'.cell? ⟨B6, 0, none⟩ = some (.int .i64 (W1 : Int)) ∧ W'.cell? ⟨B6, 1, none⟩ = some (.int .i64 (T1 : Int)) ∧ W'.cell? ⟨B6, 2, none⟩ = some (.int .u8 (M1 : Int)) ∧ W'.cell? ⟨B6, 3, none⟩ = some (.int .i64 (hy : Int)) ∧ W'.cell? ⟨B6, 4, none⟩ = some (.int .i64 (pr : Int)) ∧ W'.cell? ⟨B6, 5, none⟩ = some (.float .f64 lo))) := fun W' ho => ⟨⟨(blk_two (blk_keep ho hb5.1)).1, (blk_two (blk_keep ho hb5.1)).2.1⟩, blk_six (blk_keep ho hb6.1)⟩
          have HLT : Hid (∀ W', Only (fun _ => False) X W' → B5 < W'.heap.size ∧ B6 < W'.heap.size) := fun W' ho => ⟨(Array.getElem?_eq_some_iff.1 (blk_keep ho hb5.1)).1, (Array.getElem?_eq_some_iff.1 (blk_keep ho hb6.1)).1⟩
          have HWX : Hid (Only (fun _ => False) w X ∧ Blk w3 X B6 35 #[.int .i64 (W1 : Int), .int .i64 (T1 : Int), .int .u8 (M1 : Int), .int .i64 (hy : Int), .int .i64 (pr : Int), .float .f64 lo]) := ⟨HW3.out.trans hoX, hb6⟩
          clear hmd hC hO hb5 hb6 hoX
          have HBK : Hid (∀ W' f, Only (fun _ => False) X W' → f ≤ k → Calls Try.prog 14 #[.agg #[.slice aC k cC, .slice aO (k + 1) cO], .int .i64 ((f : Nat) : Int), .int .i64 (k : Int), .agg #[.int .i64 (W1 : Int), .int .i64 (T1 : Int), .int .u8 (M1 : Int), .int .i64 (hy : Int), .int .i64 (pr : Int), .float .f64 lo]] W' (bsP (bsF C O T1 W1 hy pr lo k) C O T1 k f W')) := fun W' f ho hf => bbreak_any C O k (k + 1) aC aO cC cO f k W1 T1 M1 hy pr lo W' (HPv.out W' ho) (by omega) hf (by omega) (by omega) ht0 (by omega) (by omega) (by omega)
          have HB0 : Hid (∀ W', Only (fun _ => False) X W' → Calls Try.prog 14 #[.agg #[.slice aC k cC, .slice aO (k + 1) cO], .int .i64 0, .int .i64 (k : Int), .agg #[.int .i64 (W1 : Int), .int .i64 (T1 : Int), .int .u8 (M1 : Int), .int .i64 (hy : Int), .int .i64 (pr : Int), .float .f64 lo]] W' (bsP (bsF C O T1 W1 hy pr lo k) C O T1 k 0 W')) := fun W' ho => HBK.out W' 0 ho (Nat.zero_le _)
          unfold bsP at HB0
          obtain ⟨⟨r0, r1⟩, k0, k1, k2, k3, k4, k5⟩ := HPC.out X (Only.refl _ _)
          obtain ⟨l5, l6⟩ := HLT.out X (Only.refl _ _)
          go_wp2_with fail
          refine Calls.mono (HB0.out _ (Only.refl _ _)) ?_
          clear r0 r1 k0 k1 k2 k3 k4 k5 l5 l6
          rintro e V0 (⟨E, s, aL, nL, cL, hB5, hn5, rfl, hown5, ho5⟩ | ⟨hN5, rfl, ho5⟩)
          · have hcL : nL ≤ cL := own_le hown5
            have hnk : nL ≤ k := by rw [hn5]; have := Ds.Row.length hB5.row; omega
            obtain ⟨Ls, hLs⟩ : ∃ x, x = mkL C O T1 0 E := ⟨_, rfl⟩
            have HLL : Hid (Ls = mkL C O T1 0 E ∧ nL = E.length ∧ nL = Ls.length ∧ Ds.Best (bsF C O T1 W1 hy pr lo k) k 0 E s) := ⟨hLs, hn5, by rw [hLs, mkL_len]; exact hn5, hB5⟩
            have HV0 : Hid (Vw V0 aL (lnC Ls) ∧ Only (fun _ => False) X V0) := ⟨by rw [hLs]; exact own_vw hown5, ho5⟩
            clear hown5 hB5 hn5 ho5 hLs
            go_wp2_with fail
            go_loopg [61] nL (fun gh v61 wr => ∃ (j : Nat) (V : World), V = wr ∧ gh = nL - j ∧ j ≤ nL ∧ v61 = .int .i64 (j : Int) ∧ Only (fun _ => False) V0 V)
            case atStart => exact ⟨0, _, rfl, rfl, Nat.zero_le _, rfl, Only.refl _ _⟩
            case round =>
              obtain ⟨j, V, hV, rfl, hj, rfl, hoV⟩ := hrel
              subst hV
              have HGV : Hid (Only (fun _ => False) V0 V ∧ Only (fun _ => False) X V) := ⟨hoV, HV0.out.2.trans hoV⟩
              clear hoV
              by_cases hjl : j < nL
              · have t3 : (j : Int) < (nL : Int) := by omega
                obtain ⟨f, rr, hBf, hdr, hfk⟩ := rest_at (C := C) (O := O) (t := T1) j E HLL.out.2.2.2 (by rw [← HLL.out.2.1]; omega)
                rw [← HLL.out.1] at hdr
                obtain ⟨l, hat, hla⟩ := mkL_fst hdr (by rw [List.length_drop, ← HLL.out.2.1]; omega)
                have HVL := HV0.out.1.keep HGV.out.1
                obtain ⟨g, off, rfl, hg, c0', c1', c2', c3'⟩ := HVL.line hat
                rw [hla] at c0'
                have HC0 : Hid (∀ W', Only (fun _ => False) V W' → W'.cell? ⟨g, off + j * 4, none⟩ = some (.int .i64 (f : Int)) ∧ Vw W' (some ⟨g, off + j * 4, none⟩) (lnC (Ls.drop j))) := fun W' ho => ⟨keep0 ho c0', (lnDrop HVL j).keep ho⟩
                obtain ⟨nd, hnd⟩ : ∃ n, n = nL - j := ⟨_, rfl⟩
                have HB1 : Hid (∀ W', Only (fun _ => False) X W' → Calls Try.prog 14 #[.agg #[.slice aC k cC, .slice aO (k + 1) cO], .int .i64 (f : Int), .int .i64 (k : Int), .agg #[.int .i64 (W1 : Int), .int .i64 (T1 : Int), .int .u8 (M1 : Int), .int .i64 (hy : Int), .int .i64 (pr : Int), .float .f64 lo]] W' fun e w' => ∃ (a : Option Addr) (c : Nat), e = .returned (.tuple #[.slice a nd c, .bool true]) ∧ Vw w' a (lnC (Ls.drop j)) ∧ Only (fun _ => False) W' w') := fun W' ho => by
                  refine (HBK.out W' f ho hfk).mono ?_
                  rintro e w' (⟨E', s', a, n', c, hB', hn', he, hown', ho'⟩ | ⟨hN', _⟩)
                  · obtain ⟨hE, _⟩ := Ds.Best.one hB' hBf
                    subst hE
                    rw [List.length_drop, ← HLL.out.2.1, ← hnd] at hn'
                    subst hn'
                    exact ⟨a, c, he, by rw [hdr]; exact own_vw hown', ho'⟩
                  · exact (Ds.Best.no hBf hN').elim
                have HSL : Hid (∀ W' a c c', Vw W' a (lnC (Ls.drop j)) → Vw W' (some ⟨g, off + j * 4, none⟩) (lnC (Ls.drop j)) → Calls Try.prog 16 #[.slice a nd c, .slice (some ⟨g, off + j * 4, none⟩) (nL - j) c'] W' fun e w' => e = .returned (.bool true) ∧ Only (fun _ => False) W' w') := fun W' a c c' h1 h2 => by
                  rw [← hnd]
                  exact sameLines_any (Ls.drop j) nd a _ c c' W' (by rw [List.length_drop, ← HLL.out.2.2.1, hnd]) h1 h2 (by omega)
                have ncap : ¬ cL = j := by omega
                clear hdr hat HVL c0' c1' c2' c3' hnd hBf hla
                go_wp2_with fail
                go_region_held3 (fun W' => ((W'.cell? ⟨B5, 0, none⟩ = some (.slice aC k cC) ∧ W'.cell? ⟨B5, 1, none⟩ = some (.slice aO (k + 1) cO)) ∧ (W'.cell? ⟨B6, 0, none⟩ = some (.int .i64 (W1 : Int)) ∧ W'.cell? ⟨B6, 1, none⟩ = some (.int .i64 (T1 : Int)) ∧ W'.cell? ⟨B6, 2, none⟩ = some (.int .u8 (M1 : Int)) ∧ W'.cell? ⟨B6, 3, none⟩ = some (.int .i64 (hy : Int)) ∧ W'.cell? ⟨B6, 4, none⟩ = some (.int .i64 (pr : Int)) ∧ W'.cell? ⟨B6, 5, none⟩ = some (.float .f64 lo))) ∧ W'.cell? ⟨g, off + j * 4, none⟩ = some (.int .i64 (f : Int))) ((first | exact ⟨HPC.out _ HGV.out.2.drew, (HC0.out _ (Only.refl _ _).drew).1⟩ | exact ⟨HPC.out _ H1.out.2.1, (HC0.out _ H1.out.2.2).1⟩)) ((go_at_call 14; refine Calls.mono (HB1.out _ HGV.out.2.drew) ?_; rintro e w5 ⟨a5, c5, rfl, hv5, ho5⟩; have H1 : Hid (Vw w5 a5 (lnC (Ls.drop j)) ∧ Only (fun _ => False) X w5 ∧ Only (fun _ => False) V w5) := ⟨hv5, HGV.out.2.drew.trans ho5, (Only.refl _ _).drew.trans ho5⟩; clear hv5 ho5))
                go_wp2_with fail
                refine Calls.mono (HSL.out _ _ _ _ H1.out.1 (HC0.out _ H1.out.2.2).2) ?_
                rintro e w7 ⟨rfl, ho7⟩
                have H2 : Hid (Only (fun _ => False) V0 w7) := (HGV.out.1.trans H1.out.2.2).trans ho7
                clear ho7
                go_wp2_with fail
                go_roundg (nL - (j + 1))
                case measure => omega
                case rel => exact ⟨j + 1, _, rfl, rfl, by omega, by go_num, H2.out⟩
              · have t3 : decide ((j : Int) < (nL : Int)) = false := decide_eq_false (by omega)
                go_wp2_with fail
                go_ret
                exact ⟨rfl, HWX.out.1.trans HGV.out.2⟩
          · have H5 : Hid (Only (fun _ => False) X V0) := ho5
            clear hN5 ho5
            go_wp2_with fail
            go_ret
            exact ⟨rfl, HWX.out.1.trans H5.out⟩
end Go.Proofs.Ythckdomljfdmpaa.bestRest

