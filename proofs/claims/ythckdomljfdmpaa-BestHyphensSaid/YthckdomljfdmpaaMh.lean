/-
  stanzalaw15.BestHyphens: its walk.
-/
import Derived.Test.YthckdomljfdmpaaAx
import Derived.Test.YthckdomljfdmpaaPc
import Derived.Test.YthckdomljfdmpaaBp
import Derived.Test.YthckdomljfdmpaaFx
import Derived.Test.YthckdomljfdmpaaHx
import Derived.Test.YthckdomljfdmpaaCu
namespace Go.Proofs.Ythckdomljfdmpaa.bestHyphens
open Go.RowKit Go.Maps
set_option linter.unusedVariables false
set_option linter.unusedSimpArgs false
theorem box6t (w : World) (u0 u1 u2 u3 u4 u5 v0 v1 v2 v3 v4 v5 : Value) (t : TypeId) : ∃ R w0, (w.alloc (.cells #[u0, u1, u2, u3, u4, u5] t)).setRow w.heap.size #[v0, v1, v2, v3, v4, v5] = w0 ∧ w.heap.size = R ∧ Hid (w0.heap[R]? = some (.cells #[v0, v1, v2, v3, v4, v5] t (0, 0))) ∧ Hid (Only (fun _ => False) w w0) :=
  ⟨_, _, rfl, rfl, setRow_heap _ _ _ _ _ _ (heap_alloc_new w _), ((Only.refl _ _).alloc _).setRowNew (Nat.le_refl _) _⟩
theorem turn3 {w w0 : World} {R : Nat} {v0 v1 v2 v3 v4 v5 x : Value} {t : TypeId} (hR : w.heap.size = R) (h : w0.heap[R]? = some (.cells #[v0, v1, v2, v3, v4, v5] t (0, 0))) (ho : Only (fun _ => False) w w0) : (w0.setCell ⟨R, 3, none⟩ x).heap[R]? = some (.cells #[v0, v1, v2, x, v4, v5] t (0, 0)) ∧ Only (fun _ => False) w (w0.setCell ⟨R, 3, none⟩ x) :=
  ⟨heap_setCell_at (k := 3) h x, ((ho.mono (fun _ h => h.elim) : Only (fun g => w.heap.size ≤ g) w w0).setCell (p := ⟨R, 3, none⟩) (Nat.le_of_eq hR) x).old (fun b hb => Or.inl hb)⟩
theorem mkL_e {C : List Ct} {O : List Nat} {t : Nat} (h : ∀ x ∈ O, x < 4) : ∀ (a : Nat) (E : List Nat), ∀ x ∈ mkL C O t a E, x.e < 256
  | _, [], x, hx => by simp [mkL] at hx
  | a, k :: E, x, hx => by
    have hk : O.getD k 0 < 4 := by
      rw [List.getD_eq_getElem?_getD]
      cases h1 : O[k]? with
      | none => decide
      | some v => exact h v (List.mem_of_getElem? h1)
    rcases List.mem_cons.1 hx with rfl | hx
    · show O.getD k 0 < 256
      omega
    · exact mkL_e h k E x hx
set_option maxRecDepth 100000 in
set_option maxHeartbeats 8000000 in
theorem walk1 (L : List Bt) (a0 : Option Addr) (c0 : Nat) (K : Wy) (mq : Nat) (w : World) (hV : Vw w a0 (btC L)) (hB : ∀ b ∈ L, b.cells < 256 ∧ b.kind < 256 ∧ b.len < 256 ∧ b.opp < 256) (hcap : L.length ≤ c0) (hcm : c0 ≤ maxLen) (hK : K.Ok) (hmq : mq ≤ 65535) :
    Calls Try.prog 8 #[.slice a0 L.length c0, K.val, .int .u16 (mq : Int)] w fun e w' => e = .returned (.bool true) ∧ Only (fun _ => False) w w' := by
  obtain ⟨wi, tb, mo, hy, pr, lo⟩ := K
  obtain ⟨W1, hW1⟩ : ∃ x, x = 1 + wi := ⟨_, rfl⟩
  obtain ⟨T1, hT1⟩ : ∃ x, x = 1 + tb % 64 := ⟨_, rfl⟩
  obtain ⟨M1, hM1⟩ : ∃ x, x = mo % 2 := ⟨_, rfl⟩
  have HCF : Hid (∀ W, Calls Try.prog 12 #[.agg #[.int .u8 (wi : Int), .int .u8 (tb : Int), .int .u8 (mo : Int), .int .u16 (hy : Int), .int .u16 (pr : Int), .float .f64 lo]] W fun e w' => e = .returned (.agg #[.int .i64 (W1 : Int), .int .i64 (T1 : Int), .int .u8 (M1 : Int), .int .i64 (hy : Int), .int .i64 (pr : Int), .float .f64 lo]) ∧ Only (fun _ => False) W w') := fun W => by
    rw [hW1, hT1, hM1]
    exact config_any ⟨wi, tb, mo, hy, pr, lo⟩ W hK
  obtain ⟨b0, b1, b2, b3, b4, b5⟩ := hK
  simp only at b0 b1 b2 b3 b4 b5
  have hw1 : W1 ≤ 256 := by omega
  have hw0 : 1 ≤ W1 := by omega
  have ht0 : 0 < T1 := by omega
  have ht1 : T1 ≤ 64 := by omega
  have hm1 : M1 ≤ 1 := by omega
  obtain ⟨n0, hn0⟩ : ∃ n, n = L.length := ⟨_, rfl⟩
  have HN : Hid (n0 = L.length) := hn0
  obtain ⟨nm, hnm⟩ : ∃ x, x = min n0 80 := ⟨_, rfl⟩
  have mn : min (n0 : Int) 80 = (nm : Int) := by omega
  have hnm1 : nm ≤ n0 := by omega
  have hnm2 : nm ≤ 80 := by omega
  obtain ⟨M, hM⟩ : ∃ x, x = L.take nm := ⟨_, rfl⟩
  have hMl : nm = M.length := by rw [hM, List.length_take, ← hn0]; omega
  have HMB : Hid (∀ b ∈ M, b.cells < 256 ∧ b.kind < 256 ∧ b.len < 256 ∧ b.opp < 256) := fun b hb => hB b (by rw [hM] at hb; exact List.mem_of_mem_take hb)
  have HVM : Hid (Vw w a0 (btC M)) := by rw [hM]; exact hV.btTake nm
  have HML : Hid (nm = M.length) := hMl
  obtain ⟨LF, hLF⟩ : ∃ x, x = M.map (fx1 3) := ⟨_, rfl⟩
  have HLF : Hid (LF = M.map (fx1 3) ∧ nm = LF.length) := ⟨hLF, by rw [hLF, List.length_map]; exact hMl⟩
  unfold Wy.val
  simp only
  rw [← hn0] at hcap ⊢
  clear hn0 hW1 hT1 hM1 hV hB hnm hM hMl hLF
  unfold maxLen at hcm
  go_enter Try.func8, Try.ntmps8
  go_wp2_with fail
  obtain ⟨R, w0, hw0', hR, H0, lR⟩ := box6 w (.int .u8 (wi : Int)) (.int .u8 (tb : Int)) (.int .u8 (mo : Int)) (.int .u16 (hy : Int)) (.int .u16 (pr : Int)) (.float .f64 lo) 26
  rw [hw0', hR]
  clear hw0' hR
  refine Calls.mono (awake15_any _) ?_
  rintro e w2 ⟨rfl, ho2⟩
  have HW2 : Hid (Only (fun _ => False) w w2) := H0.out.2.1.trans ho2
  have HKS : Hid (∀ W', Only (fun _ => False) w2 W' → (W'.cell? ⟨R, 0, none⟩ = some (.int .u8 (wi : Int)) ∧ W'.cell? ⟨R, 1, none⟩ = some (.int .u8 (tb : Int)) ∧ W'.cell? ⟨R, 2, none⟩ = some (.int .u8 (mo : Int)) ∧ W'.cell? ⟨R, 3, none⟩ = some (.int .u16 (hy : Int)) ∧ W'.cell? ⟨R, 4, none⟩ = some (.int .u16 (pr : Int)) ∧ W'.cell? ⟨R, 5, none⟩ = some (.float .f64 lo))) := fun W' ho => blk_six (blk_keep (ho2.trans ho) H0.out.1)
  clear ho2 lR
  have HVA : Hid (∀ W', Only (fun _ => False) w W' → Vw W' a0 (btC M)) := fun W' ho => HVM.out.keep ho
  go_upto_region 3 with fail
  go_cut [0] from 18 to 24 (fun v0 wr => ∃ (g1 cap1 : Nat) (Y : World), Y = wr ∧ v0 = .slice (some ⟨g1, 0, none⟩) nm cap1 ∧ Only (fun _ => False) w2 Y ∧ Y.ownsRow w2.heap.size 49 4 (.slice (some ⟨g1, 0, none⟩) nm cap1) nm (btC M))
  case first =>
    by_cases hn2 : n0 ≤ 80
    · have t1 : (n0 : Int) ≤ 80 := by omega
      have f1 : n0 ≤ c0 := hcap
      have f1' : ¬ c0 < n0 := by omega
      have hnn : n0 = nm := by omega
      subst hnn
      clear mn
      rcases a0 with _ | ad
      all_goals
        go_wp2_with (first | (refine wpList_appB rfl (.tmp 18) (.tmp 23) rfl w2 ((Only.refl _ _).alloc _) w2.heap.size 0 0 [] rfl (own_e0B (heap_alloc_new w2 _) (Nat.le_refl _)) _ _ _ M rfl HML.out (HVA.out _ (HW2.out.alloc _)) n0 (by omega) (by omega) ?_; intro g1 cap1 y3 hown1 ho3; have H3 : Hid (Only (fun _ => False) w2 y3 ∧ y3.ownsRow w2.heap.size 49 4 (.slice (some ⟨g1, 0, none⟩) n0 cap1) n0 (btC ([] ++ M))) := ⟨ho3, hown1⟩; clear ho3 hown1) | fail)
        go_meet
        exact ⟨g1, cap1, _, rfl, rfl, H3.out.1, H3.out.2⟩
    · have t1 : ¬ (n0 : Int) ≤ 80 := by omega
      have t2 : 80 < n0 := by omega
      have f1 : 80 ≤ c0 := by omega
      have f1' : ¬ c0 < 80 := by omega
      have hnn : 80 = nm := by omega
      subst hnn
      clear mn
      rcases a0 with _ | ad
      all_goals
        go_wp2_with (first | (refine wpList_appB rfl (.tmp 18) (.tmp 23) rfl w2 ((Only.refl _ _).alloc _) w2.heap.size 0 0 [] rfl (own_e0B (heap_alloc_new w2 _) (Nat.le_refl _)) _ _ _ M rfl HML.out (HVA.out _ (HW2.out.alloc _)) 80 (by omega) (by omega) ?_; intro g1 cap1 y3 hown1 ho3; have H3 : Hid (Only (fun _ => False) w2 y3 ∧ y3.ownsRow w2.heap.size 49 4 (.slice (some ⟨g1, 0, none⟩) 80 cap1) 80 (btC ([] ++ M))) := ⟨ho3, hown1⟩; clear ho3 hown1) | fail)
        go_meet
        exact ⟨g1, cap1, _, rfl, rfl, H3.out.1, H3.out.2⟩
  case rest =>
    obtain ⟨g1, cap1, Y, hY, rfl, hoY, hownY⟩ := hcut
    subst hY
    have HY : Hid (Only (fun _ => False) w2 Y ∧ Y.ownsRow w2.heap.size 49 4 (.slice (some ⟨g1, 0, none⟩) nm cap1) nm (btC M)) := ⟨hoY, hownY⟩
    clear hoY hownY mn
    go_wp2_with fail
    go_loopg [27] nm (fun gh v wr => ∃ (i : Nat) (Z : World), Z = wr ∧ gh = nm - i ∧ i ≤ nm ∧ v = .int .i64 (i : Int) ∧ Z.ownsRow w2.heap.size 49 4 (.slice (some ⟨g1, 0, none⟩) nm cap1) nm (btC (fx 3 M i)) ∧ Only (fun g => w2.heap.size ≤ g) w2 Z)
    case atStart => exact ⟨0, _, rfl, rfl, Nat.zero_le _, rfl, by rw [fx_zero]; exact HY.out.2, HY.out.1.mono (fun _ h => h.elim)⟩
    case round =>
      obtain ⟨i, w3, hZ, rfl, hi, rfl, hownZ, hoZ⟩ := hrel
      subst hZ
      have HZ : Hid (w3.ownsRow w2.heap.size 49 4 (.slice (some ⟨g1, 0, none⟩) nm cap1) nm (btC (fx 3 M i)) ∧ Only (fun g => w2.heap.size ≤ g) w2 w3 ∧ Only (fun _ => False) w2 w3) := ⟨hownZ, hoZ, hoZ.old (fun b hb => Or.inl hb)⟩
      clear hownZ hoZ
      by_cases hlt : i < nm
      · have t1 : (i : Int) < (nm : Int) := by omega
        obtain ⟨x, hx⟩ : ∃ x, M[i]? = some x := ⟨_, List.getElem?_eq_getElem (by rw [← HML.out]; exact hlt)⟩
        have hx8 := HMB.out x (List.mem_of_getElem? hx)
        have hq := (btC_at _ i x (fx_at (v := 3) hx)).2.2.2
        obtain ⟨c3, z3, gb, gl⟩ := own_cell HZ.out.1 hq
        have HX : Hid (fx 3 M (i + 1) = (fx 3 M i).set i (fx1 3 x) ∧ (fx 3 M i)[i]? = some x) := ⟨fx_next hx, fx_at hx⟩
        obtain ⟨xc, xk, xl, xo⟩ := x
        simp only at c3 hx8
        obtain ⟨y, hy1⟩ : ∃ y, y = xo % 4 := ⟨_, rfl⟩
        have q1 : (xo : Int).tmod 4 = (y : Int) := by rw [Int.tmod_eq_emod_of_nonneg (by omega)]; omega
        have hy4 : y < 4 := by omega
        have HYY : Hid (y = xo % 4) := hy1
        clear hy1 hx hq
        by_cases hy2 : y = 2
        · have t2 : ((y : Int) == 2) = true := by rw [beq_iff_eq]; omega
          have HN3 : Hid ((w3.setCell ⟨g1, i * 4 + 3, none⟩ (.int .u8 (3 : Nat))).ownsRow w2.heap.size 49 4 (.slice (some ⟨g1, 0, none⟩) nm cap1) nm (btC (fx 3 M (i + 1)))) := by
            have h := own_set HZ.out.1 (i * 4 + 3) (by omega) (.int .u8 ((3 : Nat) : Int))
            rw [btC_set _ i _ 3 HX.out.2] at h
            rw [HX.out.1]
            unfold fx1
            rw [if_pos (show xo % 4 = 2 by rw [← HYY.out]; exact hy2)]
            exact h
          clear hy2
          go_wp2_with fail
          go_roundg (nm - (i + 1))
          case measure => omega
          case rel => exact ⟨i + 1, _, rfl, rfl, by omega, by go_num, HN3.out, HZ.out.2.1.setCell (p := ⟨g1, i * 4 + 3, none⟩) gb _⟩
        · have t2 : ((y : Int) == 2) = false := by rw [beq_eq_false_iff_ne]; omega
          have HN3 : Hid (fx 3 M (i + 1) = fx 3 M i) := by
            rw [HX.out.1]
            unfold fx1
            rw [if_neg (show ¬ xo % 4 = 2 by rw [← HYY.out]; exact hy2)]
            exact List.ext_getElem? (fun j => by
              by_cases e : j = i
              · rw [e, List.getElem?_set_self (List.getElem?_eq_some_iff.1 HX.out.2).1, HX.out.2]
              · rw [List.getElem?_set_ne (fun h => e h.symm)])
          clear hy2
          go_wp2_with fail
          go_roundg (nm - (i + 1))
          case measure => omega
          case rel => exact ⟨i + 1, _, rfl, rfl, by omega, by go_num, by rw [HN3.out]; exact HZ.out.1, HZ.out.2.1⟩
      · have t1 : decide ((i : Int) < (nm : Int)) = false := decide_eq_false (by omega)
        have HW3 : Hid (Only (fun _ => False) w w3) := HW2.out.trans HZ.out.2.2
        have HPA : Hid (∀ W, Only (fun _ => False) w W → Only (fun _ => False) w3 W → Calls Try.prog 11 #[.slice (some ⟨g1, 0, none⟩) nm cap1] W fun e w' => ∃ k aC aO cC cO, e = .returned (.agg #[.slice aC k cC, .slice aO (k + 1) cO]) ∧ Made w' LF nm k aC aO cC cO ∧ Only (fun _ => False) W w') := fun W _ ho => para_made LF nm _ cap1 W HLF.out.2 (by
          have h := own_vw HZ.out.1
          rw [show i = M.length by have := HML.out; omega, fx_all, ← HLF.out.1] at h
          exact h.keep ho) (by rw [HLF.out.1]; exact fx_ok (by decide) HMB.out) (by omega)
        replace HKS : Hid (∀ W', Only (fun _ => False) w3 W' → (W'.cell? ⟨R, 0, none⟩ = some (.int .u8 (wi : Int)) ∧ W'.cell? ⟨R, 1, none⟩ = some (.int .u8 (tb : Int)) ∧ W'.cell? ⟨R, 2, none⟩ = some (.int .u8 (mo : Int)) ∧ W'.cell? ⟨R, 3, none⟩ = some (.int .u16 (hy : Int)) ∧ W'.cell? ⟨R, 4, none⟩ = some (.int .u16 (pr : Int)) ∧ W'.cell? ⟨R, 5, none⟩ = some (.float .f64 lo))) := fun W' ho => HKS.out W' (HZ.out.2.2.trans ho)
        go_wp2_with fail
        go_cut [8, 9] from 42 to 45 (fun v5 v6 wr => ∃ (k B5 B6 : Nat) (aC aO : Option Addr) (cC cO : Nat) (X : World), X = wr ∧ v5 = .pointer (some ⟨B5, 0, none⟩) ∧ v6 = .pointer (some ⟨B6, 0, none⟩) ∧ Made X LF nm k aC aO cC cO ∧ Blk w3 X B5 31 #[.slice aC k cC, .slice aO (k + 1) cO] ∧ Blk w3 X B6 35 #[.int .i64 (W1 : Int), .int .i64 (T1 : Int), .int .u8 (M1 : Int), .int .i64 (hy : Int), .int .i64 (pr : Int), .float .f64 lo] ∧ Only (fun _ => False) w3 X)
        case first =>
          have HXD : Hid (Only (fun _ => False) w3 w3.drew) := (Only.refl _ _).drew
          refine wp_region_held_drew (S := (fun W' => W'.cell? ⟨R, 0, none⟩ = some (.int .u8 (wi : Int)) ∧ W'.cell? ⟨R, 1, none⟩ = some (.int .u8 (tb : Int)) ∧ W'.cell? ⟨R, 2, none⟩ = some (.int .u8 (mo : Int)) ∧ W'.cell? ⟨R, 3, none⟩ = some (.int .u16 (hy : Int)) ∧ W'.cell? ⟨R, 4, none⟩ = some (.int .u16 (pr : Int)) ∧ W'.cell? ⟨R, 5, none⟩ = some (.float .f64 lo))) (by kernel_rfl) (HKS.out _ HXD.out) (fun hHeld => ?_)
          refine wpAnyH_take (i := 0) (oi := { dst := some 42, op := _, type := _, pos := _, after := _, guard := _ }) (v := .slice (some ⟨g1, 0, none⟩) nm cap1) rfl (by kernel_rfl) (by kernel_rfl) (by kernel_rfl) (fun _ _ _ h => h) (Or.inl ⟨by rfl, fun w hSw => by obtain ⟨y0, y1, y2, y3, y4, y5⟩ := hSw; first | (go_simp; done) | go_simp⟩) (by assumption) ?_
          (try simp only [Act.put, List.setIfInBounds_toArray, List.set_cons_zero, List.set_cons_succ])
          refine wpAnyH_take (i := 2) (oi := { dst := some 44, op := _, type := _, pos := _, after := _, guard := _ }) (v := .agg #[.int .u8 (wi : Int), .int .u8 (tb : Int), .int .u8 (mo : Int), .int .u16 (hy : Int), .int .u16 (pr : Int), .float .f64 lo]) rfl (by kernel_rfl) (by kernel_rfl) (by kernel_rfl) (fun _ _ _ h => h) (Or.inl ⟨by rfl, fun w hSw => by obtain ⟨y0, y1, y2, y3, y4, y5⟩ := hSw; first | (go_simp; done) | go_simp⟩) (by assumption) ?_
          (try simp only [Act.put, List.setIfInBounds_toArray, List.set_cons_zero, List.set_cons_succ])
          refine wpAnyH_ready (rs := [1, 4, 5]) (by kernel_rfl) (by simp) ?_
          refine AllReadyH.cons rfl (fun K hK => ?_) (AllReadyH.cons rfl (fun K hK => ?_) (AllReadyH.cons rfl (fun K hK => ?_) AllReadyH.nil))
          · rw [if_pos (by rfl)]
            go_simp
            refine Calls.mono (HPA.out _ (HW3.out.trans HXD.out) HXD.out) ?_
            rintro e y1 ⟨k, aC, aO, cC, cO, rfl, hmd, ho⟩
            have HMy1 : Hid (Made y1 LF nm k aC aO cC cO) := hmd
            clear hmd
            have HXy1 : Hid (Only (fun _ => False) w3 y1) := HXD.out.trans ho
            clear ho
            refine hK.out _ _ (HKS.out _ HXy1.out) (fun hHeld => ?_)
            clear hK
            (try simp only [Act.put, List.setIfInBounds_toArray, List.set_cons_zero, List.set_cons_succ])
            refine wpAnyH_ready (rs := [3, 4, 5]) (by kernel_rfl) (by simp) ?_
            refine AllReadyH.cons rfl (fun K hK => ?_) (AllReadyH.cons rfl (fun K hK => ?_) (AllReadyH.cons rfl (fun K hK => ?_) AllReadyH.nil))
            · rw [if_pos (by rfl)]
              go_simp
              refine Calls.mono (HCF.out _) ?_
              rintro e y2 ⟨rfl, ho⟩
              have HMy2 : Hid (Made y2 LF nm k aC aO cC cO) := HMy1.out.keep ho
              have HXy2 : Hid (Only (fun _ => False) w3 y2) := HXy1.out.trans ho
              clear ho
              refine hK.out _ _ (HKS.out _ HXy2.out) (fun hHeld => ?_)
              clear hK
              (try simp only [Act.put, List.setIfInBounds_toArray, List.set_cons_zero, List.set_cons_succ])
              refine wpAnyH_ready (rs := [4, 5]) (by kernel_rfl) (by simp) ?_
              refine AllReadyH.cons rfl (fun K hK => ?_) (AllReadyH.cons rfl (fun K hK => ?_) AllReadyH.nil)
              · rw [if_pos (by rfl)]
                go_simp
                obtain ⟨y3, hy3⟩ : ∃ Y, Y = y2.alloc (.cells #[.slice none 0 0, .slice none 0 0] 31) := ⟨_, rfl⟩
                obtain ⟨B5, hB5⟩ : ∃ b, b = y2.heap.size := ⟨_, rfl⟩
                have ho : Only (fun _ => False) y2 y3 := by rw [hy3]; exact (Only.refl _ _).alloc _
                have HXy3 : Hid (Only (fun _ => False) w3 y3) := HXy2.out.trans ho
                have HB5y3 : Hid (Blk w3 y3 B5 31 #[.slice none 0 0, .slice none 0 0]) := by rw [hy3, hB5]; exact Blk.made HXy2.out _ _
                have HMy3 : Hid (Made y3 LF nm k aC aO cC cO) := HMy2.out.keep ho
                rw [← hy3, ← hB5]
                clear hy3 hB5 ho
                refine hK.out _ _ (HKS.out _ HXy3.out) (fun hHeld => ?_)
                clear hK
                (try simp only [Act.put, List.setIfInBounds_toArray, List.set_cons_zero, List.set_cons_succ])
                refine wpAnyH_ready (rs := [5]) (by kernel_rfl) (by simp) ?_
                refine AllReadyH.cons rfl (fun K hK => ?_) AllReadyH.nil
                rw [if_pos (by rfl)]
                go_simp
                obtain ⟨y4, hy4⟩ : ∃ Y, Y = y3.alloc (.cells #[.int .i64 0, .int .i64 0, .int .u8 0, .int .i64 0, .int .i64 0, .float .f64 0] 35) := ⟨_, rfl⟩
                obtain ⟨B6, hB6⟩ : ∃ b, b = y3.heap.size := ⟨_, rfl⟩
                have ho : Only (fun _ => False) y3 y4 := by rw [hy4]; exact (Only.refl _ _).alloc _
                have HXy4 : Hid (Only (fun _ => False) w3 y4) := HXy3.out.trans ho
                have HB6y4 : Hid (Blk w3 y4 B6 35 #[.int .i64 0, .int .i64 0, .int .u8 0, .int .i64 0, .int .i64 0, .float .f64 0]) := by rw [hy4, hB6]; exact Blk.made HXy3.out _ _
                have HB5y4 : Hid (Blk w3 y4 B5 31 #[.slice none 0 0, .slice none 0 0]) := HB5y3.out.keep ho
                have HMy4 : Hid (Made y4 LF nm k aC aO cC cO) := HMy3.out.keep ho
                rw [← hy4, ← hB6]
                clear hy4 hB6 ho
                refine hK.out _ _ (HKS.out _ HXy4.out) (fun hHeld => ?_)
                clear hK
                (try simp only [Act.put, List.setIfInBounds_toArray, List.set_cons_zero, List.set_cons_succ])
                refine wpAnyH_ready (rs := [6]) (by kernel_rfl) (by simp) ?_
                refine AllReadyH.cons rfl (fun K hK => ?_) AllReadyH.nil
                rw [if_pos (by rfl)]
                have HXa : Hid (Only (fun _ => False) w3 (y4.setRow B5 #[.slice aC k cC, .slice aO (k + 1) cO])) := HXy4.out.setRowNew HB5y4.out.2 _
                refine wp_store_row 31 _ _ rfl B5 #[.slice aC k cC, .slice aO (k + 1) cO] rfl rfl 31 _ HB5y4.out.1 (by kernel_rfl) rfl (two_one _ _ _ _ _ _) ?_
                have HMa : Hid (Made (y4.setRow B5 #[.slice aC k cC, .slice aO (k + 1) cO]) LF nm k aC aO cC cO ∧ Blk w3 (y4.setRow B5 #[.slice aC k cC, .slice aO (k + 1) cO]) B5 31 #[.slice aC k cC, .slice aO (k + 1) cO] ∧ Blk w3 (y4.setRow B5 #[.slice aC k cC, .slice aO (k + 1) cO]) B6 35 #[.int .i64 0, .int .i64 0, .int .u8 0, .int .i64 0, .int .i64 0, .float .f64 0]) := ⟨HMy4.out.store HB5y4.out.1 (by decide) (by decide) _, HB5y4.out.put _, HB6y4.out.far HB5y4.out (by decide) _⟩
                obtain ⟨za, hza⟩ : ∃ Y, Y = y4.setRow B5 #[.slice aC k cC, .slice aO (k + 1) cO] := ⟨_, rfl⟩
                rw [← hza] at HXa HMa ⊢
                clear hza
                refine hK.out _ _ (HKS.out _ HXa.out) (fun hHeld => ?_)
                clear hK
                (try simp only [Act.put, List.setIfInBounds_toArray, List.set_cons_zero, List.set_cons_succ])
                refine wpAnyH_ready (rs := [7]) (by kernel_rfl) (by simp) ?_
                refine AllReadyH.cons rfl (fun K hK => ?_) AllReadyH.nil
                rw [if_pos (by rfl)]
                have HXb : Hid (Only (fun _ => False) w3 (za.setRow B6 #[.int .i64 (W1 : Int), .int .i64 (T1 : Int), .int .u8 (M1 : Int), .int .i64 (hy : Int), .int .i64 (pr : Int), .float .f64 lo])) := HXa.out.setRowNew HMa.out.2.2.2 _
                refine wp_store_row 35 _ _ rfl B6 #[.int .i64 (W1 : Int), .int .i64 (T1 : Int), .int .u8 (M1 : Int), .int .i64 (hy : Int), .int .i64 (pr : Int), .float .f64 lo] rfl rfl 35 _ HMa.out.2.2.1 (by kernel_rfl) rfl (cfg_one _ _ _ _ _ _) ?_
                have HMb : Hid (Made (za.setRow B6 #[.int .i64 (W1 : Int), .int .i64 (T1 : Int), .int .u8 (M1 : Int), .int .i64 (hy : Int), .int .i64 (pr : Int), .float .f64 lo]) LF nm k aC aO cC cO ∧ Blk w3 (za.setRow B6 #[.int .i64 (W1 : Int), .int .i64 (T1 : Int), .int .u8 (M1 : Int), .int .i64 (hy : Int), .int .i64 (pr : Int), .float .f64 lo]) B5 31 #[.slice aC k cC, .slice aO (k + 1) cO] ∧ Blk w3 (za.setRow B6 #[.int .i64 (W1 : Int), .int .i64 (T1 : Int), .int .u8 (M1 : Int), .int .i64 (hy : Int), .int .i64 (pr : Int), .float .f64 lo]) B6 35 #[.int .i64 (W1 : Int), .int .i64 (T1 : Int), .int .u8 (M1 : Int), .int .i64 (hy : Int), .int .i64 (pr : Int), .float .f64 lo]) := ⟨HMa.out.1.store HMa.out.2.2.1 (by decide) (by decide) _, HMa.out.2.1.far HMa.out.2.2 (by decide) _, HMa.out.2.2.put _⟩
                obtain ⟨zb, hzb⟩ : ∃ Y, Y = za.setRow B6 #[.int .i64 (W1 : Int), .int .i64 (T1 : Int), .int .u8 (M1 : Int), .int .i64 (hy : Int), .int .i64 (pr : Int), .float .f64 lo] := ⟨_, rfl⟩
                rw [← hzb] at HXb HMb ⊢
                clear hzb
                refine hK.out _ _ (HKS.out _ HXb.out) (fun hHeld => ?_)
                clear hK
                (try simp only [Act.put, List.setIfInBounds_toArray, List.set_cons_zero, List.set_cons_succ])
                refine wpAnyH_done (by kernel_rfl) ?_ _
                clear hHeld
                go_wp2_with fail
                go_meet
                exact ⟨k, B5, B6, aC, aO, cC, cO, _, rfl, rfl, rfl, HMb.out.1, HMb.out.2.1, HMb.out.2.2, HXb.out⟩
              · rw [if_pos (by rfl)]
                go_simp
                obtain ⟨y3, hy3⟩ : ∃ Y, Y = y2.alloc (.cells #[.int .i64 0, .int .i64 0, .int .u8 0, .int .i64 0, .int .i64 0, .float .f64 0] 35) := ⟨_, rfl⟩
                obtain ⟨B6, hB6⟩ : ∃ b, b = y2.heap.size := ⟨_, rfl⟩
                have ho : Only (fun _ => False) y2 y3 := by rw [hy3]; exact (Only.refl _ _).alloc _
                have HXy3 : Hid (Only (fun _ => False) w3 y3) := HXy2.out.trans ho
                have HB6y3 : Hid (Blk w3 y3 B6 35 #[.int .i64 0, .int .i64 0, .int .u8 0, .int .i64 0, .int .i64 0, .float .f64 0]) := by rw [hy3, hB6]; exact Blk.made HXy2.out _ _
                have HMy3 : Hid (Made y3 LF nm k aC aO cC cO) := HMy2.out.keep ho
                rw [← hy3, ← hB6]
                clear hy3 hB6 ho
                refine hK.out _ _ (HKS.out _ HXy3.out) (fun hHeld => ?_)
                clear hK
                (try simp only [Act.put, List.setIfInBounds_toArray, List.set_cons_zero, List.set_cons_succ])
                refine wpAnyH_ready (rs := [4]) (by kernel_rfl) (by simp) ?_
                refine AllReadyH.cons rfl (fun K hK => ?_) AllReadyH.nil
                rw [if_pos (by rfl)]
                go_simp
                obtain ⟨y4, hy4⟩ : ∃ Y, Y = y3.alloc (.cells #[.slice none 0 0, .slice none 0 0] 31) := ⟨_, rfl⟩
                obtain ⟨B5, hB5⟩ : ∃ b, b = y3.heap.size := ⟨_, rfl⟩
                have ho : Only (fun _ => False) y3 y4 := by rw [hy4]; exact (Only.refl _ _).alloc _
                have HXy4 : Hid (Only (fun _ => False) w3 y4) := HXy3.out.trans ho
                have HB5y4 : Hid (Blk w3 y4 B5 31 #[.slice none 0 0, .slice none 0 0]) := by rw [hy4, hB5]; exact Blk.made HXy3.out _ _
                have HB6y4 : Hid (Blk w3 y4 B6 35 #[.int .i64 0, .int .i64 0, .int .u8 0, .int .i64 0, .int .i64 0, .float .f64 0]) := HB6y3.out.keep ho
                have HMy4 : Hid (Made y4 LF nm k aC aO cC cO) := HMy3.out.keep ho
                rw [← hy4, ← hB5]
                clear hy4 hB5 ho
                refine hK.out _ _ (HKS.out _ HXy4.out) (fun hHeld => ?_)
                clear hK
                (try simp only [Act.put, List.setIfInBounds_toArray, List.set_cons_zero, List.set_cons_succ])
                refine wpAnyH_ready (rs := [6]) (by kernel_rfl) (by simp) ?_
                refine AllReadyH.cons rfl (fun K hK => ?_) AllReadyH.nil
                rw [if_pos (by rfl)]
                have HXa : Hid (Only (fun _ => False) w3 (y4.setRow B5 #[.slice aC k cC, .slice aO (k + 1) cO])) := HXy4.out.setRowNew HB5y4.out.2 _
                refine wp_store_row 31 _ _ rfl B5 #[.slice aC k cC, .slice aO (k + 1) cO] rfl rfl 31 _ HB5y4.out.1 (by kernel_rfl) rfl (two_one _ _ _ _ _ _) ?_
                have HMa : Hid (Made (y4.setRow B5 #[.slice aC k cC, .slice aO (k + 1) cO]) LF nm k aC aO cC cO ∧ Blk w3 (y4.setRow B5 #[.slice aC k cC, .slice aO (k + 1) cO]) B5 31 #[.slice aC k cC, .slice aO (k + 1) cO] ∧ Blk w3 (y4.setRow B5 #[.slice aC k cC, .slice aO (k + 1) cO]) B6 35 #[.int .i64 0, .int .i64 0, .int .u8 0, .int .i64 0, .int .i64 0, .float .f64 0]) := ⟨HMy4.out.store HB5y4.out.1 (by decide) (by decide) _, HB5y4.out.put _, HB6y4.out.far HB5y4.out (by decide) _⟩
                obtain ⟨za, hza⟩ : ∃ Y, Y = y4.setRow B5 #[.slice aC k cC, .slice aO (k + 1) cO] := ⟨_, rfl⟩
                rw [← hza] at HXa HMa ⊢
                clear hza
                refine hK.out _ _ (HKS.out _ HXa.out) (fun hHeld => ?_)
                clear hK
                (try simp only [Act.put, List.setIfInBounds_toArray, List.set_cons_zero, List.set_cons_succ])
                refine wpAnyH_ready (rs := [7]) (by kernel_rfl) (by simp) ?_
                refine AllReadyH.cons rfl (fun K hK => ?_) AllReadyH.nil
                rw [if_pos (by rfl)]
                have HXb : Hid (Only (fun _ => False) w3 (za.setRow B6 #[.int .i64 (W1 : Int), .int .i64 (T1 : Int), .int .u8 (M1 : Int), .int .i64 (hy : Int), .int .i64 (pr : Int), .float .f64 lo])) := HXa.out.setRowNew HMa.out.2.2.2 _
                refine wp_store_row 35 _ _ rfl B6 #[.int .i64 (W1 : Int), .int .i64 (T1 : Int), .int .u8 (M1 : Int), .int .i64 (hy : Int), .int .i64 (pr : Int), .float .f64 lo] rfl rfl 35 _ HMa.out.2.2.1 (by kernel_rfl) rfl (cfg_one _ _ _ _ _ _) ?_
                have HMb : Hid (Made (za.setRow B6 #[.int .i64 (W1 : Int), .int .i64 (T1 : Int), .int .u8 (M1 : Int), .int .i64 (hy : Int), .int .i64 (pr : Int), .float .f64 lo]) LF nm k aC aO cC cO ∧ Blk w3 (za.setRow B6 #[.int .i64 (W1 : Int), .int .i64 (T1 : Int), .int .u8 (M1 : Int), .int .i64 (hy : Int), .int .i64 (pr : Int), .float .f64 lo]) B5 31 #[.slice aC k cC, .slice aO (k + 1) cO] ∧ Blk w3 (za.setRow B6 #[.int .i64 (W1 : Int), .int .i64 (T1 : Int), .int .u8 (M1 : Int), .int .i64 (hy : Int), .int .i64 (pr : Int), .float .f64 lo]) B6 35 #[.int .i64 (W1 : Int), .int .i64 (T1 : Int), .int .u8 (M1 : Int), .int .i64 (hy : Int), .int .i64 (pr : Int), .float .f64 lo]) := ⟨HMa.out.1.store HMa.out.2.2.1 (by decide) (by decide) _, HMa.out.2.1.far HMa.out.2.2 (by decide) _, HMa.out.2.2.put _⟩
                obtain ⟨zb, hzb⟩ : ∃ Y, Y = za.setRow B6 #[.int .i64 (W1 : Int), .int .i64 (T1 : Int), .int .u8 (M1 : Int), .int .i64 (hy : Int), .int .i64 (pr : Int), .float .f64 lo] := ⟨_, rfl⟩
                rw [← hzb] at HXb HMb ⊢
                clear hzb
                refine hK.out _ _ (HKS.out _ HXb.out) (fun hHeld => ?_)
                clear hK
                (try simp only [Act.put, List.setIfInBounds_toArray, List.set_cons_zero, List.set_cons_succ])
                refine wpAnyH_done (by kernel_rfl) ?_ _
                clear hHeld
                go_wp2_with fail
                go_meet
                exact ⟨k, B5, B6, aC, aO, cC, cO, _, rfl, rfl, rfl, HMb.out.1, HMb.out.2.1, HMb.out.2.2, HXb.out⟩
            · rw [if_pos (by rfl)]
              go_simp
              obtain ⟨y2, hy2⟩ : ∃ Y, Y = y1.alloc (.cells #[.slice none 0 0, .slice none 0 0] 31) := ⟨_, rfl⟩
              obtain ⟨B5, hB5⟩ : ∃ b, b = y1.heap.size := ⟨_, rfl⟩
              have ho : Only (fun _ => False) y1 y2 := by rw [hy2]; exact (Only.refl _ _).alloc _
              have HXy2 : Hid (Only (fun _ => False) w3 y2) := HXy1.out.trans ho
              have HB5y2 : Hid (Blk w3 y2 B5 31 #[.slice none 0 0, .slice none 0 0]) := by rw [hy2, hB5]; exact Blk.made HXy1.out _ _
              have HMy2 : Hid (Made y2 LF nm k aC aO cC cO) := HMy1.out.keep ho
              rw [← hy2, ← hB5]
              clear hy2 hB5 ho
              refine hK.out _ _ (HKS.out _ HXy2.out) (fun hHeld => ?_)
              clear hK
              (try simp only [Act.put, List.setIfInBounds_toArray, List.set_cons_zero, List.set_cons_succ])
              refine wpAnyH_ready (rs := [3, 5]) (by kernel_rfl) (by simp) ?_
              refine AllReadyH.cons rfl (fun K hK => ?_) (AllReadyH.cons rfl (fun K hK => ?_) AllReadyH.nil)
              · rw [if_pos (by rfl)]
                go_simp
                refine Calls.mono (HCF.out _) ?_
                rintro e y3 ⟨rfl, ho⟩
                have HMy3 : Hid (Made y3 LF nm k aC aO cC cO) := HMy2.out.keep ho
                have HXy3 : Hid (Only (fun _ => False) w3 y3) := HXy2.out.trans ho
                have HB5y3 : Hid (Blk w3 y3 B5 31 #[.slice none 0 0, .slice none 0 0]) := HB5y2.out.keep ho
                clear ho
                refine hK.out _ _ (HKS.out _ HXy3.out) (fun hHeld => ?_)
                clear hK
                (try simp only [Act.put, List.setIfInBounds_toArray, List.set_cons_zero, List.set_cons_succ])
                refine wpAnyH_ready (rs := [5]) (by kernel_rfl) (by simp) ?_
                refine AllReadyH.cons rfl (fun K hK => ?_) AllReadyH.nil
                rw [if_pos (by rfl)]
                go_simp
                obtain ⟨y4, hy4⟩ : ∃ Y, Y = y3.alloc (.cells #[.int .i64 0, .int .i64 0, .int .u8 0, .int .i64 0, .int .i64 0, .float .f64 0] 35) := ⟨_, rfl⟩
                obtain ⟨B6, hB6⟩ : ∃ b, b = y3.heap.size := ⟨_, rfl⟩
                have ho : Only (fun _ => False) y3 y4 := by rw [hy4]; exact (Only.refl _ _).alloc _
                have HXy4 : Hid (Only (fun _ => False) w3 y4) := HXy3.out.trans ho
                have HB6y4 : Hid (Blk w3 y4 B6 35 #[.int .i64 0, .int .i64 0, .int .u8 0, .int .i64 0, .int .i64 0, .float .f64 0]) := by rw [hy4, hB6]; exact Blk.made HXy3.out _ _
                have HB5y4 : Hid (Blk w3 y4 B5 31 #[.slice none 0 0, .slice none 0 0]) := HB5y3.out.keep ho
                have HMy4 : Hid (Made y4 LF nm k aC aO cC cO) := HMy3.out.keep ho
                rw [← hy4, ← hB6]
                clear hy4 hB6 ho
                refine hK.out _ _ (HKS.out _ HXy4.out) (fun hHeld => ?_)
                clear hK
                (try simp only [Act.put, List.setIfInBounds_toArray, List.set_cons_zero, List.set_cons_succ])
                refine wpAnyH_ready (rs := [6]) (by kernel_rfl) (by simp) ?_
                refine AllReadyH.cons rfl (fun K hK => ?_) AllReadyH.nil
                rw [if_pos (by rfl)]
                have HXa : Hid (Only (fun _ => False) w3 (y4.setRow B5 #[.slice aC k cC, .slice aO (k + 1) cO])) := HXy4.out.setRowNew HB5y4.out.2 _
                refine wp_store_row 31 _ _ rfl B5 #[.slice aC k cC, .slice aO (k + 1) cO] rfl rfl 31 _ HB5y4.out.1 (by kernel_rfl) rfl (two_one _ _ _ _ _ _) ?_
                have HMa : Hid (Made (y4.setRow B5 #[.slice aC k cC, .slice aO (k + 1) cO]) LF nm k aC aO cC cO ∧ Blk w3 (y4.setRow B5 #[.slice aC k cC, .slice aO (k + 1) cO]) B5 31 #[.slice aC k cC, .slice aO (k + 1) cO] ∧ Blk w3 (y4.setRow B5 #[.slice aC k cC, .slice aO (k + 1) cO]) B6 35 #[.int .i64 0, .int .i64 0, .int .u8 0, .int .i64 0, .int .i64 0, .float .f64 0]) := ⟨HMy4.out.store HB5y4.out.1 (by decide) (by decide) _, HB5y4.out.put _, HB6y4.out.far HB5y4.out (by decide) _⟩
                obtain ⟨za, hza⟩ : ∃ Y, Y = y4.setRow B5 #[.slice aC k cC, .slice aO (k + 1) cO] := ⟨_, rfl⟩
                rw [← hza] at HXa HMa ⊢
                clear hza
                refine hK.out _ _ (HKS.out _ HXa.out) (fun hHeld => ?_)
                clear hK
                (try simp only [Act.put, List.setIfInBounds_toArray, List.set_cons_zero, List.set_cons_succ])
                refine wpAnyH_ready (rs := [7]) (by kernel_rfl) (by simp) ?_
                refine AllReadyH.cons rfl (fun K hK => ?_) AllReadyH.nil
                rw [if_pos (by rfl)]
                have HXb : Hid (Only (fun _ => False) w3 (za.setRow B6 #[.int .i64 (W1 : Int), .int .i64 (T1 : Int), .int .u8 (M1 : Int), .int .i64 (hy : Int), .int .i64 (pr : Int), .float .f64 lo])) := HXa.out.setRowNew HMa.out.2.2.2 _
                refine wp_store_row 35 _ _ rfl B6 #[.int .i64 (W1 : Int), .int .i64 (T1 : Int), .int .u8 (M1 : Int), .int .i64 (hy : Int), .int .i64 (pr : Int), .float .f64 lo] rfl rfl 35 _ HMa.out.2.2.1 (by kernel_rfl) rfl (cfg_one _ _ _ _ _ _) ?_
                have HMb : Hid (Made (za.setRow B6 #[.int .i64 (W1 : Int), .int .i64 (T1 : Int), .int .u8 (M1 : Int), .int .i64 (hy : Int), .int .i64 (pr : Int), .float .f64 lo]) LF nm k aC aO cC cO ∧ Blk w3 (za.setRow B6 #[.int .i64 (W1 : Int), .int .i64 (T1 : Int), .int .u8 (M1 : Int), .int .i64 (hy : Int), .int .i64 (pr : Int), .float .f64 lo]) B5 31 #[.slice aC k cC, .slice aO (k + 1) cO] ∧ Blk w3 (za.setRow B6 #[.int .i64 (W1 : Int), .int .i64 (T1 : Int), .int .u8 (M1 : Int), .int .i64 (hy : Int), .int .i64 (pr : Int), .float .f64 lo]) B6 35 #[.int .i64 (W1 : Int), .int .i64 (T1 : Int), .int .u8 (M1 : Int), .int .i64 (hy : Int), .int .i64 (pr : Int), .float .f64 lo]) := ⟨HMa.out.1.store HMa.out.2.2.1 (by decide) (by decide) _, HMa.out.2.1.far HMa.out.2.2 (by decide) _, HMa.out.2.2.put _⟩
                obtain ⟨zb, hzb⟩ : ∃ Y, Y = za.setRow B6 #[.int .i64 (W1 : Int), .int .i64 (T1 : Int), .int .u8 (M1 : Int), .int .i64 (hy : Int), .int .i64 (pr : Int), .float .f64 lo] := ⟨_, rfl⟩
                rw [← hzb] at HXb HMb ⊢
                clear hzb
                refine hK.out _ _ (HKS.out _ HXb.out) (fun hHeld => ?_)
                clear hK
                (try simp only [Act.put, List.setIfInBounds_toArray, List.set_cons_zero, List.set_cons_succ])
                refine wpAnyH_done (by kernel_rfl) ?_ _
                clear hHeld
                go_wp2_with fail
                go_meet
                exact ⟨k, B5, B6, aC, aO, cC, cO, _, rfl, rfl, rfl, HMb.out.1, HMb.out.2.1, HMb.out.2.2, HXb.out⟩
              · rw [if_pos (by rfl)]
                go_simp
                obtain ⟨y3, hy3⟩ : ∃ Y, Y = y2.alloc (.cells #[.int .i64 0, .int .i64 0, .int .u8 0, .int .i64 0, .int .i64 0, .float .f64 0] 35) := ⟨_, rfl⟩
                obtain ⟨B6, hB6⟩ : ∃ b, b = y2.heap.size := ⟨_, rfl⟩
                have ho : Only (fun _ => False) y2 y3 := by rw [hy3]; exact (Only.refl _ _).alloc _
                have HXy3 : Hid (Only (fun _ => False) w3 y3) := HXy2.out.trans ho
                have HB6y3 : Hid (Blk w3 y3 B6 35 #[.int .i64 0, .int .i64 0, .int .u8 0, .int .i64 0, .int .i64 0, .float .f64 0]) := by rw [hy3, hB6]; exact Blk.made HXy2.out _ _
                have HB5y3 : Hid (Blk w3 y3 B5 31 #[.slice none 0 0, .slice none 0 0]) := HB5y2.out.keep ho
                have HMy3 : Hid (Made y3 LF nm k aC aO cC cO) := HMy2.out.keep ho
                rw [← hy3, ← hB6]
                clear hy3 hB6 ho
                refine hK.out _ _ (HKS.out _ HXy3.out) (fun hHeld => ?_)
                clear hK
                (try simp only [Act.put, List.setIfInBounds_toArray, List.set_cons_zero, List.set_cons_succ])
                refine wpAnyH_ready (rs := [3]) (by kernel_rfl) (by simp) ?_
                refine AllReadyH.cons rfl (fun K hK => ?_) AllReadyH.nil
                rw [if_pos (by rfl)]
                go_simp
                refine Calls.mono (HCF.out _) ?_
                rintro e y4 ⟨rfl, ho⟩
                have HMy4 : Hid (Made y4 LF nm k aC aO cC cO) := HMy3.out.keep ho
                have HXy4 : Hid (Only (fun _ => False) w3 y4) := HXy3.out.trans ho
                have HB5y4 : Hid (Blk w3 y4 B5 31 #[.slice none 0 0, .slice none 0 0]) := HB5y3.out.keep ho
                have HB6y4 : Hid (Blk w3 y4 B6 35 #[.int .i64 0, .int .i64 0, .int .u8 0, .int .i64 0, .int .i64 0, .float .f64 0]) := HB6y3.out.keep ho
                clear ho
                refine hK.out _ _ (HKS.out _ HXy4.out) (fun hHeld => ?_)
                clear hK
                (try simp only [Act.put, List.setIfInBounds_toArray, List.set_cons_zero, List.set_cons_succ])
                refine wpAnyH_ready (rs := [6]) (by kernel_rfl) (by simp) ?_
                refine AllReadyH.cons rfl (fun K hK => ?_) AllReadyH.nil
                rw [if_pos (by rfl)]
                have HXa : Hid (Only (fun _ => False) w3 (y4.setRow B5 #[.slice aC k cC, .slice aO (k + 1) cO])) := HXy4.out.setRowNew HB5y4.out.2 _
                refine wp_store_row 31 _ _ rfl B5 #[.slice aC k cC, .slice aO (k + 1) cO] rfl rfl 31 _ HB5y4.out.1 (by kernel_rfl) rfl (two_one _ _ _ _ _ _) ?_
                have HMa : Hid (Made (y4.setRow B5 #[.slice aC k cC, .slice aO (k + 1) cO]) LF nm k aC aO cC cO ∧ Blk w3 (y4.setRow B5 #[.slice aC k cC, .slice aO (k + 1) cO]) B5 31 #[.slice aC k cC, .slice aO (k + 1) cO] ∧ Blk w3 (y4.setRow B5 #[.slice aC k cC, .slice aO (k + 1) cO]) B6 35 #[.int .i64 0, .int .i64 0, .int .u8 0, .int .i64 0, .int .i64 0, .float .f64 0]) := ⟨HMy4.out.store HB5y4.out.1 (by decide) (by decide) _, HB5y4.out.put _, HB6y4.out.far HB5y4.out (by decide) _⟩
                obtain ⟨za, hza⟩ : ∃ Y, Y = y4.setRow B5 #[.slice aC k cC, .slice aO (k + 1) cO] := ⟨_, rfl⟩
                rw [← hza] at HXa HMa ⊢
                clear hza
                refine hK.out _ _ (HKS.out _ HXa.out) (fun hHeld => ?_)
                clear hK
                (try simp only [Act.put, List.setIfInBounds_toArray, List.set_cons_zero, List.set_cons_succ])
                refine wpAnyH_ready (rs := [7]) (by kernel_rfl) (by simp) ?_
                refine AllReadyH.cons rfl (fun K hK => ?_) AllReadyH.nil
                rw [if_pos (by rfl)]
                have HXb : Hid (Only (fun _ => False) w3 (za.setRow B6 #[.int .i64 (W1 : Int), .int .i64 (T1 : Int), .int .u8 (M1 : Int), .int .i64 (hy : Int), .int .i64 (pr : Int), .float .f64 lo])) := HXa.out.setRowNew HMa.out.2.2.2 _
                refine wp_store_row 35 _ _ rfl B6 #[.int .i64 (W1 : Int), .int .i64 (T1 : Int), .int .u8 (M1 : Int), .int .i64 (hy : Int), .int .i64 (pr : Int), .float .f64 lo] rfl rfl 35 _ HMa.out.2.2.1 (by kernel_rfl) rfl (cfg_one _ _ _ _ _ _) ?_
                have HMb : Hid (Made (za.setRow B6 #[.int .i64 (W1 : Int), .int .i64 (T1 : Int), .int .u8 (M1 : Int), .int .i64 (hy : Int), .int .i64 (pr : Int), .float .f64 lo]) LF nm k aC aO cC cO ∧ Blk w3 (za.setRow B6 #[.int .i64 (W1 : Int), .int .i64 (T1 : Int), .int .u8 (M1 : Int), .int .i64 (hy : Int), .int .i64 (pr : Int), .float .f64 lo]) B5 31 #[.slice aC k cC, .slice aO (k + 1) cO] ∧ Blk w3 (za.setRow B6 #[.int .i64 (W1 : Int), .int .i64 (T1 : Int), .int .u8 (M1 : Int), .int .i64 (hy : Int), .int .i64 (pr : Int), .float .f64 lo]) B6 35 #[.int .i64 (W1 : Int), .int .i64 (T1 : Int), .int .u8 (M1 : Int), .int .i64 (hy : Int), .int .i64 (pr : Int), .float .f64 lo]) := ⟨HMa.out.1.store HMa.out.2.2.1 (by decide) (by decide) _, HMa.out.2.1.far HMa.out.2.2 (by decide) _, HMa.out.2.2.put _⟩
                obtain ⟨zb, hzb⟩ : ∃ Y, Y = za.setRow B6 #[.int .i64 (W1 : Int), .int .i64 (T1 : Int), .int .u8 (M1 : Int), .int .i64 (hy : Int), .int .i64 (pr : Int), .float .f64 lo] := ⟨_, rfl⟩
                rw [← hzb] at HXb HMb ⊢
                clear hzb
                refine hK.out _ _ (HKS.out _ HXb.out) (fun hHeld => ?_)
                clear hK
                (try simp only [Act.put, List.setIfInBounds_toArray, List.set_cons_zero, List.set_cons_succ])
                refine wpAnyH_done (by kernel_rfl) ?_ _
                clear hHeld
                go_wp2_with fail
                go_meet
                exact ⟨k, B5, B6, aC, aO, cC, cO, _, rfl, rfl, rfl, HMb.out.1, HMb.out.2.1, HMb.out.2.2, HXb.out⟩
            · rw [if_pos (by rfl)]
              go_simp
              obtain ⟨y2, hy2⟩ : ∃ Y, Y = y1.alloc (.cells #[.int .i64 0, .int .i64 0, .int .u8 0, .int .i64 0, .int .i64 0, .float .f64 0] 35) := ⟨_, rfl⟩
              obtain ⟨B6, hB6⟩ : ∃ b, b = y1.heap.size := ⟨_, rfl⟩
              have ho : Only (fun _ => False) y1 y2 := by rw [hy2]; exact (Only.refl _ _).alloc _
              have HXy2 : Hid (Only (fun _ => False) w3 y2) := HXy1.out.trans ho
              have HB6y2 : Hid (Blk w3 y2 B6 35 #[.int .i64 0, .int .i64 0, .int .u8 0, .int .i64 0, .int .i64 0, .float .f64 0]) := by rw [hy2, hB6]; exact Blk.made HXy1.out _ _
              have HMy2 : Hid (Made y2 LF nm k aC aO cC cO) := HMy1.out.keep ho
              rw [← hy2, ← hB6]
              clear hy2 hB6 ho
              refine hK.out _ _ (HKS.out _ HXy2.out) (fun hHeld => ?_)
              clear hK
              (try simp only [Act.put, List.setIfInBounds_toArray, List.set_cons_zero, List.set_cons_succ])
              refine wpAnyH_ready (rs := [3, 4]) (by kernel_rfl) (by simp) ?_
              refine AllReadyH.cons rfl (fun K hK => ?_) (AllReadyH.cons rfl (fun K hK => ?_) AllReadyH.nil)
              · rw [if_pos (by rfl)]
                go_simp
                refine Calls.mono (HCF.out _) ?_
                rintro e y3 ⟨rfl, ho⟩
                have HMy3 : Hid (Made y3 LF nm k aC aO cC cO) := HMy2.out.keep ho
                have HXy3 : Hid (Only (fun _ => False) w3 y3) := HXy2.out.trans ho
                have HB6y3 : Hid (Blk w3 y3 B6 35 #[.int .i64 0, .int .i64 0, .int .u8 0, .int .i64 0, .int .i64 0, .float .f64 0]) := HB6y2.out.keep ho
                clear ho
                refine hK.out _ _ (HKS.out _ HXy3.out) (fun hHeld => ?_)
                clear hK
                (try simp only [Act.put, List.setIfInBounds_toArray, List.set_cons_zero, List.set_cons_succ])
                refine wpAnyH_ready (rs := [4]) (by kernel_rfl) (by simp) ?_
                refine AllReadyH.cons rfl (fun K hK => ?_) AllReadyH.nil
                rw [if_pos (by rfl)]
                go_simp
                obtain ⟨y4, hy4⟩ : ∃ Y, Y = y3.alloc (.cells #[.slice none 0 0, .slice none 0 0] 31) := ⟨_, rfl⟩
                obtain ⟨B5, hB5⟩ : ∃ b, b = y3.heap.size := ⟨_, rfl⟩
                have ho : Only (fun _ => False) y3 y4 := by rw [hy4]; exact (Only.refl _ _).alloc _
                have HXy4 : Hid (Only (fun _ => False) w3 y4) := HXy3.out.trans ho
                have HB5y4 : Hid (Blk w3 y4 B5 31 #[.slice none 0 0, .slice none 0 0]) := by rw [hy4, hB5]; exact Blk.made HXy3.out _ _
                have HB6y4 : Hid (Blk w3 y4 B6 35 #[.int .i64 0, .int .i64 0, .int .u8 0, .int .i64 0, .int .i64 0, .float .f64 0]) := HB6y3.out.keep ho
                have HMy4 : Hid (Made y4 LF nm k aC aO cC cO) := HMy3.out.keep ho
                rw [← hy4, ← hB5]
                clear hy4 hB5 ho
                refine hK.out _ _ (HKS.out _ HXy4.out) (fun hHeld => ?_)
                clear hK
                (try simp only [Act.put, List.setIfInBounds_toArray, List.set_cons_zero, List.set_cons_succ])
                refine wpAnyH_ready (rs := [6]) (by kernel_rfl) (by simp) ?_
                refine AllReadyH.cons rfl (fun K hK => ?_) AllReadyH.nil
                rw [if_pos (by rfl)]
                have HXa : Hid (Only (fun _ => False) w3 (y4.setRow B5 #[.slice aC k cC, .slice aO (k + 1) cO])) := HXy4.out.setRowNew HB5y4.out.2 _
                refine wp_store_row 31 _ _ rfl B5 #[.slice aC k cC, .slice aO (k + 1) cO] rfl rfl 31 _ HB5y4.out.1 (by kernel_rfl) rfl (two_one _ _ _ _ _ _) ?_
                have HMa : Hid (Made (y4.setRow B5 #[.slice aC k cC, .slice aO (k + 1) cO]) LF nm k aC aO cC cO ∧ Blk w3 (y4.setRow B5 #[.slice aC k cC, .slice aO (k + 1) cO]) B5 31 #[.slice aC k cC, .slice aO (k + 1) cO] ∧ Blk w3 (y4.setRow B5 #[.slice aC k cC, .slice aO (k + 1) cO]) B6 35 #[.int .i64 0, .int .i64 0, .int .u8 0, .int .i64 0, .int .i64 0, .float .f64 0]) := ⟨HMy4.out.store HB5y4.out.1 (by decide) (by decide) _, HB5y4.out.put _, HB6y4.out.far HB5y4.out (by decide) _⟩
                obtain ⟨za, hza⟩ : ∃ Y, Y = y4.setRow B5 #[.slice aC k cC, .slice aO (k + 1) cO] := ⟨_, rfl⟩
                rw [← hza] at HXa HMa ⊢
                clear hza
                refine hK.out _ _ (HKS.out _ HXa.out) (fun hHeld => ?_)
                clear hK
                (try simp only [Act.put, List.setIfInBounds_toArray, List.set_cons_zero, List.set_cons_succ])
                refine wpAnyH_ready (rs := [7]) (by kernel_rfl) (by simp) ?_
                refine AllReadyH.cons rfl (fun K hK => ?_) AllReadyH.nil
                rw [if_pos (by rfl)]
                have HXb : Hid (Only (fun _ => False) w3 (za.setRow B6 #[.int .i64 (W1 : Int), .int .i64 (T1 : Int), .int .u8 (M1 : Int), .int .i64 (hy : Int), .int .i64 (pr : Int), .float .f64 lo])) := HXa.out.setRowNew HMa.out.2.2.2 _
                refine wp_store_row 35 _ _ rfl B6 #[.int .i64 (W1 : Int), .int .i64 (T1 : Int), .int .u8 (M1 : Int), .int .i64 (hy : Int), .int .i64 (pr : Int), .float .f64 lo] rfl rfl 35 _ HMa.out.2.2.1 (by kernel_rfl) rfl (cfg_one _ _ _ _ _ _) ?_
                have HMb : Hid (Made (za.setRow B6 #[.int .i64 (W1 : Int), .int .i64 (T1 : Int), .int .u8 (M1 : Int), .int .i64 (hy : Int), .int .i64 (pr : Int), .float .f64 lo]) LF nm k aC aO cC cO ∧ Blk w3 (za.setRow B6 #[.int .i64 (W1 : Int), .int .i64 (T1 : Int), .int .u8 (M1 : Int), .int .i64 (hy : Int), .int .i64 (pr : Int), .float .f64 lo]) B5 31 #[.slice aC k cC, .slice aO (k + 1) cO] ∧ Blk w3 (za.setRow B6 #[.int .i64 (W1 : Int), .int .i64 (T1 : Int), .int .u8 (M1 : Int), .int .i64 (hy : Int), .int .i64 (pr : Int), .float .f64 lo]) B6 35 #[.int .i64 (W1 : Int), .int .i64 (T1 : Int), .int .u8 (M1 : Int), .int .i64 (hy : Int), .int .i64 (pr : Int), .float .f64 lo]) := ⟨HMa.out.1.store HMa.out.2.2.1 (by decide) (by decide) _, HMa.out.2.1.far HMa.out.2.2 (by decide) _, HMa.out.2.2.put _⟩
                obtain ⟨zb, hzb⟩ : ∃ Y, Y = za.setRow B6 #[.int .i64 (W1 : Int), .int .i64 (T1 : Int), .int .u8 (M1 : Int), .int .i64 (hy : Int), .int .i64 (pr : Int), .float .f64 lo] := ⟨_, rfl⟩
                rw [← hzb] at HXb HMb ⊢
                clear hzb
                refine hK.out _ _ (HKS.out _ HXb.out) (fun hHeld => ?_)
                clear hK
                (try simp only [Act.put, List.setIfInBounds_toArray, List.set_cons_zero, List.set_cons_succ])
                refine wpAnyH_done (by kernel_rfl) ?_ _
                clear hHeld
                go_wp2_with fail
                go_meet
                exact ⟨k, B5, B6, aC, aO, cC, cO, _, rfl, rfl, rfl, HMb.out.1, HMb.out.2.1, HMb.out.2.2, HXb.out⟩
              · rw [if_pos (by rfl)]
                go_simp
                obtain ⟨y3, hy3⟩ : ∃ Y, Y = y2.alloc (.cells #[.slice none 0 0, .slice none 0 0] 31) := ⟨_, rfl⟩
                obtain ⟨B5, hB5⟩ : ∃ b, b = y2.heap.size := ⟨_, rfl⟩
                have ho : Only (fun _ => False) y2 y3 := by rw [hy3]; exact (Only.refl _ _).alloc _
                have HXy3 : Hid (Only (fun _ => False) w3 y3) := HXy2.out.trans ho
                have HB5y3 : Hid (Blk w3 y3 B5 31 #[.slice none 0 0, .slice none 0 0]) := by rw [hy3, hB5]; exact Blk.made HXy2.out _ _
                have HB6y3 : Hid (Blk w3 y3 B6 35 #[.int .i64 0, .int .i64 0, .int .u8 0, .int .i64 0, .int .i64 0, .float .f64 0]) := HB6y2.out.keep ho
                have HMy3 : Hid (Made y3 LF nm k aC aO cC cO) := HMy2.out.keep ho
                rw [← hy3, ← hB5]
                clear hy3 hB5 ho
                refine hK.out _ _ (HKS.out _ HXy3.out) (fun hHeld => ?_)
                clear hK
                (try simp only [Act.put, List.setIfInBounds_toArray, List.set_cons_zero, List.set_cons_succ])
                refine wpAnyH_ready (rs := [3]) (by kernel_rfl) (by simp) ?_
                refine AllReadyH.cons rfl (fun K hK => ?_) AllReadyH.nil
                rw [if_pos (by rfl)]
                go_simp
                refine Calls.mono (HCF.out _) ?_
                rintro e y4 ⟨rfl, ho⟩
                have HMy4 : Hid (Made y4 LF nm k aC aO cC cO) := HMy3.out.keep ho
                have HXy4 : Hid (Only (fun _ => False) w3 y4) := HXy3.out.trans ho
                have HB5y4 : Hid (Blk w3 y4 B5 31 #[.slice none 0 0, .slice none 0 0]) := HB5y3.out.keep ho
                have HB6y4 : Hid (Blk w3 y4 B6 35 #[.int .i64 0, .int .i64 0, .int .u8 0, .int .i64 0, .int .i64 0, .float .f64 0]) := HB6y3.out.keep ho
                clear ho
                refine hK.out _ _ (HKS.out _ HXy4.out) (fun hHeld => ?_)
                clear hK
                (try simp only [Act.put, List.setIfInBounds_toArray, List.set_cons_zero, List.set_cons_succ])
                refine wpAnyH_ready (rs := [6]) (by kernel_rfl) (by simp) ?_
                refine AllReadyH.cons rfl (fun K hK => ?_) AllReadyH.nil
                rw [if_pos (by rfl)]
                have HXa : Hid (Only (fun _ => False) w3 (y4.setRow B5 #[.slice aC k cC, .slice aO (k + 1) cO])) := HXy4.out.setRowNew HB5y4.out.2 _
                refine wp_store_row 31 _ _ rfl B5 #[.slice aC k cC, .slice aO (k + 1) cO] rfl rfl 31 _ HB5y4.out.1 (by kernel_rfl) rfl (two_one _ _ _ _ _ _) ?_
                have HMa : Hid (Made (y4.setRow B5 #[.slice aC k cC, .slice aO (k + 1) cO]) LF nm k aC aO cC cO ∧ Blk w3 (y4.setRow B5 #[.slice aC k cC, .slice aO (k + 1) cO]) B5 31 #[.slice aC k cC, .slice aO (k + 1) cO] ∧ Blk w3 (y4.setRow B5 #[.slice aC k cC, .slice aO (k + 1) cO]) B6 35 #[.int .i64 0, .int .i64 0, .int .u8 0, .int .i64 0, .int .i64 0, .float .f64 0]) := ⟨HMy4.out.store HB5y4.out.1 (by decide) (by decide) _, HB5y4.out.put _, HB6y4.out.far HB5y4.out (by decide) _⟩
                obtain ⟨za, hza⟩ : ∃ Y, Y = y4.setRow B5 #[.slice aC k cC, .slice aO (k + 1) cO] := ⟨_, rfl⟩
                rw [← hza] at HXa HMa ⊢
                clear hza
                refine hK.out _ _ (HKS.out _ HXa.out) (fun hHeld => ?_)
                clear hK
                (try simp only [Act.put, List.setIfInBounds_toArray, List.set_cons_zero, List.set_cons_succ])
                refine wpAnyH_ready (rs := [7]) (by kernel_rfl) (by simp) ?_
                refine AllReadyH.cons rfl (fun K hK => ?_) AllReadyH.nil
                rw [if_pos (by rfl)]
                have HXb : Hid (Only (fun _ => False) w3 (za.setRow B6 #[.int .i64 (W1 : Int), .int .i64 (T1 : Int), .int .u8 (M1 : Int), .int .i64 (hy : Int), .int .i64 (pr : Int), .float .f64 lo])) := HXa.out.setRowNew HMa.out.2.2.2 _
                refine wp_store_row 35 _ _ rfl B6 #[.int .i64 (W1 : Int), .int .i64 (T1 : Int), .int .u8 (M1 : Int), .int .i64 (hy : Int), .int .i64 (pr : Int), .float .f64 lo] rfl rfl 35 _ HMa.out.2.2.1 (by kernel_rfl) rfl (cfg_one _ _ _ _ _ _) ?_
                have HMb : Hid (Made (za.setRow B6 #[.int .i64 (W1 : Int), .int .i64 (T1 : Int), .int .u8 (M1 : Int), .int .i64 (hy : Int), .int .i64 (pr : Int), .float .f64 lo]) LF nm k aC aO cC cO ∧ Blk w3 (za.setRow B6 #[.int .i64 (W1 : Int), .int .i64 (T1 : Int), .int .u8 (M1 : Int), .int .i64 (hy : Int), .int .i64 (pr : Int), .float .f64 lo]) B5 31 #[.slice aC k cC, .slice aO (k + 1) cO] ∧ Blk w3 (za.setRow B6 #[.int .i64 (W1 : Int), .int .i64 (T1 : Int), .int .u8 (M1 : Int), .int .i64 (hy : Int), .int .i64 (pr : Int), .float .f64 lo]) B6 35 #[.int .i64 (W1 : Int), .int .i64 (T1 : Int), .int .u8 (M1 : Int), .int .i64 (hy : Int), .int .i64 (pr : Int), .float .f64 lo]) := ⟨HMa.out.1.store HMa.out.2.2.1 (by decide) (by decide) _, HMa.out.2.1.far HMa.out.2.2 (by decide) _, HMa.out.2.2.put _⟩
                obtain ⟨zb, hzb⟩ : ∃ Y, Y = za.setRow B6 #[.int .i64 (W1 : Int), .int .i64 (T1 : Int), .int .u8 (M1 : Int), .int .i64 (hy : Int), .int .i64 (pr : Int), .float .f64 lo] := ⟨_, rfl⟩
                rw [← hzb] at HXb HMb ⊢
                clear hzb
                refine hK.out _ _ (HKS.out _ HXb.out) (fun hHeld => ?_)
                clear hK
                (try simp only [Act.put, List.setIfInBounds_toArray, List.set_cons_zero, List.set_cons_succ])
                refine wpAnyH_done (by kernel_rfl) ?_ _
                clear hHeld
                go_wp2_with fail
                go_meet
                exact ⟨k, B5, B6, aC, aO, cC, cO, _, rfl, rfl, rfl, HMb.out.1, HMb.out.2.1, HMb.out.2.2, HXb.out⟩
          · rw [if_pos (by rfl)]
            go_simp
            obtain ⟨y1, hy1⟩ : ∃ Y, Y = (w3.alloc (.cells #[.slice none 0 0, .slice none 0 0] 31)).drew := ⟨_, rfl⟩
            obtain ⟨B5, hB5⟩ : ∃ b, b = w3.heap.size := ⟨_, rfl⟩
            have ho : Only (fun _ => False) w3 y1 := by rw [hy1]; exact ((Only.refl _ _).alloc _).drew
            have HXy1 : Hid (Only (fun _ => False) w3 y1) := ho
            have HB5y1 : Hid (Blk w3 y1 B5 31 #[.slice none 0 0, .slice none 0 0]) := by rw [hy1, hB5]; exact (Blk.made (Only.refl _ _) _ _).drew
            rw [← hy1, ← hB5]
            clear hy1 hB5 ho
            refine hK.out _ _ (HKS.out _ HXy1.out) (fun hHeld => ?_)
            clear hK
            (try simp only [Act.put, List.setIfInBounds_toArray, List.set_cons_zero, List.set_cons_succ])
            refine wpAnyH_ready (rs := [1, 5]) (by kernel_rfl) (by simp) ?_
            refine AllReadyH.cons rfl (fun K hK => ?_) (AllReadyH.cons rfl (fun K hK => ?_) AllReadyH.nil)
            · rw [if_pos (by rfl)]
              go_simp
              refine Calls.mono (HPA.out _ (HW3.out.trans HXy1.out) HXy1.out) ?_
              rintro e y2 ⟨k, aC, aO, cC, cO, rfl, hmd, ho⟩
              have HMy2 : Hid (Made y2 LF nm k aC aO cC cO) := hmd
              clear hmd
              have HXy2 : Hid (Only (fun _ => False) w3 y2) := HXy1.out.trans ho
              have HB5y2 : Hid (Blk w3 y2 B5 31 #[.slice none 0 0, .slice none 0 0]) := HB5y1.out.keep ho
              clear ho
              refine hK.out _ _ (HKS.out _ HXy2.out) (fun hHeld => ?_)
              clear hK
              (try simp only [Act.put, List.setIfInBounds_toArray, List.set_cons_zero, List.set_cons_succ])
              refine wpAnyH_ready (rs := [3, 5]) (by kernel_rfl) (by simp) ?_
              refine AllReadyH.cons rfl (fun K hK => ?_) (AllReadyH.cons rfl (fun K hK => ?_) AllReadyH.nil)
              · rw [if_pos (by rfl)]
                go_simp
                refine Calls.mono (HCF.out _) ?_
                rintro e y3 ⟨rfl, ho⟩
                have HMy3 : Hid (Made y3 LF nm k aC aO cC cO) := HMy2.out.keep ho
                have HXy3 : Hid (Only (fun _ => False) w3 y3) := HXy2.out.trans ho
                have HB5y3 : Hid (Blk w3 y3 B5 31 #[.slice none 0 0, .slice none 0 0]) := HB5y2.out.keep ho
                clear ho
                refine hK.out _ _ (HKS.out _ HXy3.out) (fun hHeld => ?_)
                clear hK
                (try simp only [Act.put, List.setIfInBounds_toArray, List.set_cons_zero, List.set_cons_succ])
                refine wpAnyH_ready (rs := [5]) (by kernel_rfl) (by simp) ?_
                refine AllReadyH.cons rfl (fun K hK => ?_) AllReadyH.nil
                rw [if_pos (by rfl)]
                go_simp
                obtain ⟨y4, hy4⟩ : ∃ Y, Y = y3.alloc (.cells #[.int .i64 0, .int .i64 0, .int .u8 0, .int .i64 0, .int .i64 0, .float .f64 0] 35) := ⟨_, rfl⟩
                obtain ⟨B6, hB6⟩ : ∃ b, b = y3.heap.size := ⟨_, rfl⟩
                have ho : Only (fun _ => False) y3 y4 := by rw [hy4]; exact (Only.refl _ _).alloc _
                have HXy4 : Hid (Only (fun _ => False) w3 y4) := HXy3.out.trans ho
                have HB6y4 : Hid (Blk w3 y4 B6 35 #[.int .i64 0, .int .i64 0, .int .u8 0, .int .i64 0, .int .i64 0, .float .f64 0]) := by rw [hy4, hB6]; exact Blk.made HXy3.out _ _
                have HB5y4 : Hid (Blk w3 y4 B5 31 #[.slice none 0 0, .slice none 0 0]) := HB5y3.out.keep ho
                have HMy4 : Hid (Made y4 LF nm k aC aO cC cO) := HMy3.out.keep ho
                rw [← hy4, ← hB6]
                clear hy4 hB6 ho
                refine hK.out _ _ (HKS.out _ HXy4.out) (fun hHeld => ?_)
                clear hK
                (try simp only [Act.put, List.setIfInBounds_toArray, List.set_cons_zero, List.set_cons_succ])
                refine wpAnyH_ready (rs := [6]) (by kernel_rfl) (by simp) ?_
                refine AllReadyH.cons rfl (fun K hK => ?_) AllReadyH.nil
                rw [if_pos (by rfl)]
                have HXa : Hid (Only (fun _ => False) w3 (y4.setRow B5 #[.slice aC k cC, .slice aO (k + 1) cO])) := HXy4.out.setRowNew HB5y4.out.2 _
                refine wp_store_row 31 _ _ rfl B5 #[.slice aC k cC, .slice aO (k + 1) cO] rfl rfl 31 _ HB5y4.out.1 (by kernel_rfl) rfl (two_one _ _ _ _ _ _) ?_
                have HMa : Hid (Made (y4.setRow B5 #[.slice aC k cC, .slice aO (k + 1) cO]) LF nm k aC aO cC cO ∧ Blk w3 (y4.setRow B5 #[.slice aC k cC, .slice aO (k + 1) cO]) B5 31 #[.slice aC k cC, .slice aO (k + 1) cO] ∧ Blk w3 (y4.setRow B5 #[.slice aC k cC, .slice aO (k + 1) cO]) B6 35 #[.int .i64 0, .int .i64 0, .int .u8 0, .int .i64 0, .int .i64 0, .float .f64 0]) := ⟨HMy4.out.store HB5y4.out.1 (by decide) (by decide) _, HB5y4.out.put _, HB6y4.out.far HB5y4.out (by decide) _⟩
                obtain ⟨za, hza⟩ : ∃ Y, Y = y4.setRow B5 #[.slice aC k cC, .slice aO (k + 1) cO] := ⟨_, rfl⟩
                rw [← hza] at HXa HMa ⊢
                clear hza
                refine hK.out _ _ (HKS.out _ HXa.out) (fun hHeld => ?_)
                clear hK
                (try simp only [Act.put, List.setIfInBounds_toArray, List.set_cons_zero, List.set_cons_succ])
                refine wpAnyH_ready (rs := [7]) (by kernel_rfl) (by simp) ?_
                refine AllReadyH.cons rfl (fun K hK => ?_) AllReadyH.nil
                rw [if_pos (by rfl)]
                have HXb : Hid (Only (fun _ => False) w3 (za.setRow B6 #[.int .i64 (W1 : Int), .int .i64 (T1 : Int), .int .u8 (M1 : Int), .int .i64 (hy : Int), .int .i64 (pr : Int), .float .f64 lo])) := HXa.out.setRowNew HMa.out.2.2.2 _
                refine wp_store_row 35 _ _ rfl B6 #[.int .i64 (W1 : Int), .int .i64 (T1 : Int), .int .u8 (M1 : Int), .int .i64 (hy : Int), .int .i64 (pr : Int), .float .f64 lo] rfl rfl 35 _ HMa.out.2.2.1 (by kernel_rfl) rfl (cfg_one _ _ _ _ _ _) ?_
                have HMb : Hid (Made (za.setRow B6 #[.int .i64 (W1 : Int), .int .i64 (T1 : Int), .int .u8 (M1 : Int), .int .i64 (hy : Int), .int .i64 (pr : Int), .float .f64 lo]) LF nm k aC aO cC cO ∧ Blk w3 (za.setRow B6 #[.int .i64 (W1 : Int), .int .i64 (T1 : Int), .int .u8 (M1 : Int), .int .i64 (hy : Int), .int .i64 (pr : Int), .float .f64 lo]) B5 31 #[.slice aC k cC, .slice aO (k + 1) cO] ∧ Blk w3 (za.setRow B6 #[.int .i64 (W1 : Int), .int .i64 (T1 : Int), .int .u8 (M1 : Int), .int .i64 (hy : Int), .int .i64 (pr : Int), .float .f64 lo]) B6 35 #[.int .i64 (W1 : Int), .int .i64 (T1 : Int), .int .u8 (M1 : Int), .int .i64 (hy : Int), .int .i64 (pr : Int), .float .f64 lo]) := ⟨HMa.out.1.store HMa.out.2.2.1 (by decide) (by decide) _, HMa.out.2.1.far HMa.out.2.2 (by decide) _, HMa.out.2.2.put _⟩
                obtain ⟨zb, hzb⟩ : ∃ Y, Y = za.setRow B6 #[.int .i64 (W1 : Int), .int .i64 (T1 : Int), .int .u8 (M1 : Int), .int .i64 (hy : Int), .int .i64 (pr : Int), .float .f64 lo] := ⟨_, rfl⟩
                rw [← hzb] at HXb HMb ⊢
                clear hzb
                refine hK.out _ _ (HKS.out _ HXb.out) (fun hHeld => ?_)
                clear hK
                (try simp only [Act.put, List.setIfInBounds_toArray, List.set_cons_zero, List.set_cons_succ])
                refine wpAnyH_done (by kernel_rfl) ?_ _
                clear hHeld
                go_wp2_with fail
                go_meet
                exact ⟨k, B5, B6, aC, aO, cC, cO, _, rfl, rfl, rfl, HMb.out.1, HMb.out.2.1, HMb.out.2.2, HXb.out⟩
              · rw [if_pos (by rfl)]
                go_simp
                obtain ⟨y3, hy3⟩ : ∃ Y, Y = y2.alloc (.cells #[.int .i64 0, .int .i64 0, .int .u8 0, .int .i64 0, .int .i64 0, .float .f64 0] 35) := ⟨_, rfl⟩
                obtain ⟨B6, hB6⟩ : ∃ b, b = y2.heap.size := ⟨_, rfl⟩
                have ho : Only (fun _ => False) y2 y3 := by rw [hy3]; exact (Only.refl _ _).alloc _
                have HXy3 : Hid (Only (fun _ => False) w3 y3) := HXy2.out.trans ho
                have HB6y3 : Hid (Blk w3 y3 B6 35 #[.int .i64 0, .int .i64 0, .int .u8 0, .int .i64 0, .int .i64 0, .float .f64 0]) := by rw [hy3, hB6]; exact Blk.made HXy2.out _ _
                have HB5y3 : Hid (Blk w3 y3 B5 31 #[.slice none 0 0, .slice none 0 0]) := HB5y2.out.keep ho
                have HMy3 : Hid (Made y3 LF nm k aC aO cC cO) := HMy2.out.keep ho
                rw [← hy3, ← hB6]
                clear hy3 hB6 ho
                refine hK.out _ _ (HKS.out _ HXy3.out) (fun hHeld => ?_)
                clear hK
                (try simp only [Act.put, List.setIfInBounds_toArray, List.set_cons_zero, List.set_cons_succ])
                refine wpAnyH_ready (rs := [3]) (by kernel_rfl) (by simp) ?_
                refine AllReadyH.cons rfl (fun K hK => ?_) AllReadyH.nil
                rw [if_pos (by rfl)]
                go_simp
                refine Calls.mono (HCF.out _) ?_
                rintro e y4 ⟨rfl, ho⟩
                have HMy4 : Hid (Made y4 LF nm k aC aO cC cO) := HMy3.out.keep ho
                have HXy4 : Hid (Only (fun _ => False) w3 y4) := HXy3.out.trans ho
                have HB5y4 : Hid (Blk w3 y4 B5 31 #[.slice none 0 0, .slice none 0 0]) := HB5y3.out.keep ho
                have HB6y4 : Hid (Blk w3 y4 B6 35 #[.int .i64 0, .int .i64 0, .int .u8 0, .int .i64 0, .int .i64 0, .float .f64 0]) := HB6y3.out.keep ho
                clear ho
                refine hK.out _ _ (HKS.out _ HXy4.out) (fun hHeld => ?_)
                clear hK
                (try simp only [Act.put, List.setIfInBounds_toArray, List.set_cons_zero, List.set_cons_succ])
                refine wpAnyH_ready (rs := [6]) (by kernel_rfl) (by simp) ?_
                refine AllReadyH.cons rfl (fun K hK => ?_) AllReadyH.nil
                rw [if_pos (by rfl)]
                have HXa : Hid (Only (fun _ => False) w3 (y4.setRow B5 #[.slice aC k cC, .slice aO (k + 1) cO])) := HXy4.out.setRowNew HB5y4.out.2 _
                refine wp_store_row 31 _ _ rfl B5 #[.slice aC k cC, .slice aO (k + 1) cO] rfl rfl 31 _ HB5y4.out.1 (by kernel_rfl) rfl (two_one _ _ _ _ _ _) ?_
                have HMa : Hid (Made (y4.setRow B5 #[.slice aC k cC, .slice aO (k + 1) cO]) LF nm k aC aO cC cO ∧ Blk w3 (y4.setRow B5 #[.slice aC k cC, .slice aO (k + 1) cO]) B5 31 #[.slice aC k cC, .slice aO (k + 1) cO] ∧ Blk w3 (y4.setRow B5 #[.slice aC k cC, .slice aO (k + 1) cO]) B6 35 #[.int .i64 0, .int .i64 0, .int .u8 0, .int .i64 0, .int .i64 0, .float .f64 0]) := ⟨HMy4.out.store HB5y4.out.1 (by decide) (by decide) _, HB5y4.out.put _, HB6y4.out.far HB5y4.out (by decide) _⟩
                obtain ⟨za, hza⟩ : ∃ Y, Y = y4.setRow B5 #[.slice aC k cC, .slice aO (k + 1) cO] := ⟨_, rfl⟩
                rw [← hza] at HXa HMa ⊢
                clear hza
                refine hK.out _ _ (HKS.out _ HXa.out) (fun hHeld => ?_)
                clear hK
                (try simp only [Act.put, List.setIfInBounds_toArray, List.set_cons_zero, List.set_cons_succ])
                refine wpAnyH_ready (rs := [7]) (by kernel_rfl) (by simp) ?_
                refine AllReadyH.cons rfl (fun K hK => ?_) AllReadyH.nil
                rw [if_pos (by rfl)]
                have HXb : Hid (Only (fun _ => False) w3 (za.setRow B6 #[.int .i64 (W1 : Int), .int .i64 (T1 : Int), .int .u8 (M1 : Int), .int .i64 (hy : Int), .int .i64 (pr : Int), .float .f64 lo])) := HXa.out.setRowNew HMa.out.2.2.2 _
                refine wp_store_row 35 _ _ rfl B6 #[.int .i64 (W1 : Int), .int .i64 (T1 : Int), .int .u8 (M1 : Int), .int .i64 (hy : Int), .int .i64 (pr : Int), .float .f64 lo] rfl rfl 35 _ HMa.out.2.2.1 (by kernel_rfl) rfl (cfg_one _ _ _ _ _ _) ?_
                have HMb : Hid (Made (za.setRow B6 #[.int .i64 (W1 : Int), .int .i64 (T1 : Int), .int .u8 (M1 : Int), .int .i64 (hy : Int), .int .i64 (pr : Int), .float .f64 lo]) LF nm k aC aO cC cO ∧ Blk w3 (za.setRow B6 #[.int .i64 (W1 : Int), .int .i64 (T1 : Int), .int .u8 (M1 : Int), .int .i64 (hy : Int), .int .i64 (pr : Int), .float .f64 lo]) B5 31 #[.slice aC k cC, .slice aO (k + 1) cO] ∧ Blk w3 (za.setRow B6 #[.int .i64 (W1 : Int), .int .i64 (T1 : Int), .int .u8 (M1 : Int), .int .i64 (hy : Int), .int .i64 (pr : Int), .float .f64 lo]) B6 35 #[.int .i64 (W1 : Int), .int .i64 (T1 : Int), .int .u8 (M1 : Int), .int .i64 (hy : Int), .int .i64 (pr : Int), .float .f64 lo]) := ⟨HMa.out.1.store HMa.out.2.2.1 (by decide) (by decide) _, HMa.out.2.1.far HMa.out.2.2 (by decide) _, HMa.out.2.2.put _⟩
                obtain ⟨zb, hzb⟩ : ∃ Y, Y = za.setRow B6 #[.int .i64 (W1 : Int), .int .i64 (T1 : Int), .int .u8 (M1 : Int), .int .i64 (hy : Int), .int .i64 (pr : Int), .float .f64 lo] := ⟨_, rfl⟩
                rw [← hzb] at HXb HMb ⊢
                clear hzb
                refine hK.out _ _ (HKS.out _ HXb.out) (fun hHeld => ?_)
                clear hK
                (try simp only [Act.put, List.setIfInBounds_toArray, List.set_cons_zero, List.set_cons_succ])
                refine wpAnyH_done (by kernel_rfl) ?_ _
                clear hHeld
                go_wp2_with fail
                go_meet
                exact ⟨k, B5, B6, aC, aO, cC, cO, _, rfl, rfl, rfl, HMb.out.1, HMb.out.2.1, HMb.out.2.2, HXb.out⟩
            · rw [if_pos (by rfl)]
              go_simp
              obtain ⟨y2, hy2⟩ : ∃ Y, Y = y1.alloc (.cells #[.int .i64 0, .int .i64 0, .int .u8 0, .int .i64 0, .int .i64 0, .float .f64 0] 35) := ⟨_, rfl⟩
              obtain ⟨B6, hB6⟩ : ∃ b, b = y1.heap.size := ⟨_, rfl⟩
              have ho : Only (fun _ => False) y1 y2 := by rw [hy2]; exact (Only.refl _ _).alloc _
              have HXy2 : Hid (Only (fun _ => False) w3 y2) := HXy1.out.trans ho
              have HB6y2 : Hid (Blk w3 y2 B6 35 #[.int .i64 0, .int .i64 0, .int .u8 0, .int .i64 0, .int .i64 0, .float .f64 0]) := by rw [hy2, hB6]; exact Blk.made HXy1.out _ _
              have HB5y2 : Hid (Blk w3 y2 B5 31 #[.slice none 0 0, .slice none 0 0]) := HB5y1.out.keep ho
              rw [← hy2, ← hB6]
              clear hy2 hB6 ho
              refine hK.out _ _ (HKS.out _ HXy2.out) (fun hHeld => ?_)
              clear hK
              (try simp only [Act.put, List.setIfInBounds_toArray, List.set_cons_zero, List.set_cons_succ])
              refine wpAnyH_ready (rs := [1]) (by kernel_rfl) (by simp) ?_
              refine AllReadyH.cons rfl (fun K hK => ?_) AllReadyH.nil
              rw [if_pos (by rfl)]
              go_simp
              refine Calls.mono (HPA.out _ (HW3.out.trans HXy2.out) HXy2.out) ?_
              rintro e y3 ⟨k, aC, aO, cC, cO, rfl, hmd, ho⟩
              have HMy3 : Hid (Made y3 LF nm k aC aO cC cO) := hmd
              clear hmd
              have HXy3 : Hid (Only (fun _ => False) w3 y3) := HXy2.out.trans ho
              have HB5y3 : Hid (Blk w3 y3 B5 31 #[.slice none 0 0, .slice none 0 0]) := HB5y2.out.keep ho
              have HB6y3 : Hid (Blk w3 y3 B6 35 #[.int .i64 0, .int .i64 0, .int .u8 0, .int .i64 0, .int .i64 0, .float .f64 0]) := HB6y2.out.keep ho
              clear ho
              refine hK.out _ _ (HKS.out _ HXy3.out) (fun hHeld => ?_)
              clear hK
              (try simp only [Act.put, List.setIfInBounds_toArray, List.set_cons_zero, List.set_cons_succ])
              refine wpAnyH_ready (rs := [3]) (by kernel_rfl) (by simp) ?_
              refine AllReadyH.cons rfl (fun K hK => ?_) AllReadyH.nil
              rw [if_pos (by rfl)]
              go_simp
              refine Calls.mono (HCF.out _) ?_
              rintro e y4 ⟨rfl, ho⟩
              have HMy4 : Hid (Made y4 LF nm k aC aO cC cO) := HMy3.out.keep ho
              have HXy4 : Hid (Only (fun _ => False) w3 y4) := HXy3.out.trans ho
              have HB5y4 : Hid (Blk w3 y4 B5 31 #[.slice none 0 0, .slice none 0 0]) := HB5y3.out.keep ho
              have HB6y4 : Hid (Blk w3 y4 B6 35 #[.int .i64 0, .int .i64 0, .int .u8 0, .int .i64 0, .int .i64 0, .float .f64 0]) := HB6y3.out.keep ho
              clear ho
              refine hK.out _ _ (HKS.out _ HXy4.out) (fun hHeld => ?_)
              clear hK
              (try simp only [Act.put, List.setIfInBounds_toArray, List.set_cons_zero, List.set_cons_succ])
              refine wpAnyH_ready (rs := [6]) (by kernel_rfl) (by simp) ?_
              refine AllReadyH.cons rfl (fun K hK => ?_) AllReadyH.nil
              rw [if_pos (by rfl)]
              have HXa : Hid (Only (fun _ => False) w3 (y4.setRow B5 #[.slice aC k cC, .slice aO (k + 1) cO])) := HXy4.out.setRowNew HB5y4.out.2 _
              refine wp_store_row 31 _ _ rfl B5 #[.slice aC k cC, .slice aO (k + 1) cO] rfl rfl 31 _ HB5y4.out.1 (by kernel_rfl) rfl (two_one _ _ _ _ _ _) ?_
              have HMa : Hid (Made (y4.setRow B5 #[.slice aC k cC, .slice aO (k + 1) cO]) LF nm k aC aO cC cO ∧ Blk w3 (y4.setRow B5 #[.slice aC k cC, .slice aO (k + 1) cO]) B5 31 #[.slice aC k cC, .slice aO (k + 1) cO] ∧ Blk w3 (y4.setRow B5 #[.slice aC k cC, .slice aO (k + 1) cO]) B6 35 #[.int .i64 0, .int .i64 0, .int .u8 0, .int .i64 0, .int .i64 0, .float .f64 0]) := ⟨HMy4.out.store HB5y4.out.1 (by decide) (by decide) _, HB5y4.out.put _, HB6y4.out.far HB5y4.out (by decide) _⟩
              obtain ⟨za, hza⟩ : ∃ Y, Y = y4.setRow B5 #[.slice aC k cC, .slice aO (k + 1) cO] := ⟨_, rfl⟩
              rw [← hza] at HXa HMa ⊢
              clear hza
              refine hK.out _ _ (HKS.out _ HXa.out) (fun hHeld => ?_)
              clear hK
              (try simp only [Act.put, List.setIfInBounds_toArray, List.set_cons_zero, List.set_cons_succ])
              refine wpAnyH_ready (rs := [7]) (by kernel_rfl) (by simp) ?_
              refine AllReadyH.cons rfl (fun K hK => ?_) AllReadyH.nil
              rw [if_pos (by rfl)]
              have HXb : Hid (Only (fun _ => False) w3 (za.setRow B6 #[.int .i64 (W1 : Int), .int .i64 (T1 : Int), .int .u8 (M1 : Int), .int .i64 (hy : Int), .int .i64 (pr : Int), .float .f64 lo])) := HXa.out.setRowNew HMa.out.2.2.2 _
              refine wp_store_row 35 _ _ rfl B6 #[.int .i64 (W1 : Int), .int .i64 (T1 : Int), .int .u8 (M1 : Int), .int .i64 (hy : Int), .int .i64 (pr : Int), .float .f64 lo] rfl rfl 35 _ HMa.out.2.2.1 (by kernel_rfl) rfl (cfg_one _ _ _ _ _ _) ?_
              have HMb : Hid (Made (za.setRow B6 #[.int .i64 (W1 : Int), .int .i64 (T1 : Int), .int .u8 (M1 : Int), .int .i64 (hy : Int), .int .i64 (pr : Int), .float .f64 lo]) LF nm k aC aO cC cO ∧ Blk w3 (za.setRow B6 #[.int .i64 (W1 : Int), .int .i64 (T1 : Int), .int .u8 (M1 : Int), .int .i64 (hy : Int), .int .i64 (pr : Int), .float .f64 lo]) B5 31 #[.slice aC k cC, .slice aO (k + 1) cO] ∧ Blk w3 (za.setRow B6 #[.int .i64 (W1 : Int), .int .i64 (T1 : Int), .int .u8 (M1 : Int), .int .i64 (hy : Int), .int .i64 (pr : Int), .float .f64 lo]) B6 35 #[.int .i64 (W1 : Int), .int .i64 (T1 : Int), .int .u8 (M1 : Int), .int .i64 (hy : Int), .int .i64 (pr : Int), .float .f64 lo]) := ⟨HMa.out.1.store HMa.out.2.2.1 (by decide) (by decide) _, HMa.out.2.1.far HMa.out.2.2 (by decide) _, HMa.out.2.2.put _⟩
              obtain ⟨zb, hzb⟩ : ∃ Y, Y = za.setRow B6 #[.int .i64 (W1 : Int), .int .i64 (T1 : Int), .int .u8 (M1 : Int), .int .i64 (hy : Int), .int .i64 (pr : Int), .float .f64 lo] := ⟨_, rfl⟩
              rw [← hzb] at HXb HMb ⊢
              clear hzb
              refine hK.out _ _ (HKS.out _ HXb.out) (fun hHeld => ?_)
              clear hK
              (try simp only [Act.put, List.setIfInBounds_toArray, List.set_cons_zero, List.set_cons_succ])
              refine wpAnyH_done (by kernel_rfl) ?_ _
              clear hHeld
              go_wp2_with fail
              go_meet
              exact ⟨k, B5, B6, aC, aO, cC, cO, _, rfl, rfl, rfl, HMb.out.1, HMb.out.2.1, HMb.out.2.2, HXb.out⟩
          · rw [if_pos (by rfl)]
            go_simp
            obtain ⟨y1, hy1⟩ : ∃ Y, Y = (w3.alloc (.cells #[.int .i64 0, .int .i64 0, .int .u8 0, .int .i64 0, .int .i64 0, .float .f64 0] 35)).drew := ⟨_, rfl⟩
            obtain ⟨B6, hB6⟩ : ∃ b, b = w3.heap.size := ⟨_, rfl⟩
            have ho : Only (fun _ => False) w3 y1 := by rw [hy1]; exact ((Only.refl _ _).alloc _).drew
            have HXy1 : Hid (Only (fun _ => False) w3 y1) := ho
            have HB6y1 : Hid (Blk w3 y1 B6 35 #[.int .i64 0, .int .i64 0, .int .u8 0, .int .i64 0, .int .i64 0, .float .f64 0]) := by rw [hy1, hB6]; exact (Blk.made (Only.refl _ _) _ _).drew
            rw [← hy1, ← hB6]
            clear hy1 hB6 ho
            refine hK.out _ _ (HKS.out _ HXy1.out) (fun hHeld => ?_)
            clear hK
            (try simp only [Act.put, List.setIfInBounds_toArray, List.set_cons_zero, List.set_cons_succ])
            refine wpAnyH_ready (rs := [1, 4]) (by kernel_rfl) (by simp) ?_
            refine AllReadyH.cons rfl (fun K hK => ?_) (AllReadyH.cons rfl (fun K hK => ?_) AllReadyH.nil)
            · rw [if_pos (by rfl)]
              go_simp
              refine Calls.mono (HPA.out _ (HW3.out.trans HXy1.out) HXy1.out) ?_
              rintro e y2 ⟨k, aC, aO, cC, cO, rfl, hmd, ho⟩
              have HMy2 : Hid (Made y2 LF nm k aC aO cC cO) := hmd
              clear hmd
              have HXy2 : Hid (Only (fun _ => False) w3 y2) := HXy1.out.trans ho
              have HB6y2 : Hid (Blk w3 y2 B6 35 #[.int .i64 0, .int .i64 0, .int .u8 0, .int .i64 0, .int .i64 0, .float .f64 0]) := HB6y1.out.keep ho
              clear ho
              refine hK.out _ _ (HKS.out _ HXy2.out) (fun hHeld => ?_)
              clear hK
              (try simp only [Act.put, List.setIfInBounds_toArray, List.set_cons_zero, List.set_cons_succ])
              refine wpAnyH_ready (rs := [3, 4]) (by kernel_rfl) (by simp) ?_
              refine AllReadyH.cons rfl (fun K hK => ?_) (AllReadyH.cons rfl (fun K hK => ?_) AllReadyH.nil)
              · rw [if_pos (by rfl)]
                go_simp
                refine Calls.mono (HCF.out _) ?_
                rintro e y3 ⟨rfl, ho⟩
                have HMy3 : Hid (Made y3 LF nm k aC aO cC cO) := HMy2.out.keep ho
                have HXy3 : Hid (Only (fun _ => False) w3 y3) := HXy2.out.trans ho
                have HB6y3 : Hid (Blk w3 y3 B6 35 #[.int .i64 0, .int .i64 0, .int .u8 0, .int .i64 0, .int .i64 0, .float .f64 0]) := HB6y2.out.keep ho
                clear ho
                refine hK.out _ _ (HKS.out _ HXy3.out) (fun hHeld => ?_)
                clear hK
                (try simp only [Act.put, List.setIfInBounds_toArray, List.set_cons_zero, List.set_cons_succ])
                refine wpAnyH_ready (rs := [4]) (by kernel_rfl) (by simp) ?_
                refine AllReadyH.cons rfl (fun K hK => ?_) AllReadyH.nil
                rw [if_pos (by rfl)]
                go_simp
                obtain ⟨y4, hy4⟩ : ∃ Y, Y = y3.alloc (.cells #[.slice none 0 0, .slice none 0 0] 31) := ⟨_, rfl⟩
                obtain ⟨B5, hB5⟩ : ∃ b, b = y3.heap.size := ⟨_, rfl⟩
                have ho : Only (fun _ => False) y3 y4 := by rw [hy4]; exact (Only.refl _ _).alloc _
                have HXy4 : Hid (Only (fun _ => False) w3 y4) := HXy3.out.trans ho
                have HB5y4 : Hid (Blk w3 y4 B5 31 #[.slice none 0 0, .slice none 0 0]) := by rw [hy4, hB5]; exact Blk.made HXy3.out _ _
                have HB6y4 : Hid (Blk w3 y4 B6 35 #[.int .i64 0, .int .i64 0, .int .u8 0, .int .i64 0, .int .i64 0, .float .f64 0]) := HB6y3.out.keep ho
                have HMy4 : Hid (Made y4 LF nm k aC aO cC cO) := HMy3.out.keep ho
                rw [← hy4, ← hB5]
                clear hy4 hB5 ho
                refine hK.out _ _ (HKS.out _ HXy4.out) (fun hHeld => ?_)
                clear hK
                (try simp only [Act.put, List.setIfInBounds_toArray, List.set_cons_zero, List.set_cons_succ])
                refine wpAnyH_ready (rs := [6]) (by kernel_rfl) (by simp) ?_
                refine AllReadyH.cons rfl (fun K hK => ?_) AllReadyH.nil
                rw [if_pos (by rfl)]
                have HXa : Hid (Only (fun _ => False) w3 (y4.setRow B5 #[.slice aC k cC, .slice aO (k + 1) cO])) := HXy4.out.setRowNew HB5y4.out.2 _
                refine wp_store_row 31 _ _ rfl B5 #[.slice aC k cC, .slice aO (k + 1) cO] rfl rfl 31 _ HB5y4.out.1 (by kernel_rfl) rfl (two_one _ _ _ _ _ _) ?_
                have HMa : Hid (Made (y4.setRow B5 #[.slice aC k cC, .slice aO (k + 1) cO]) LF nm k aC aO cC cO ∧ Blk w3 (y4.setRow B5 #[.slice aC k cC, .slice aO (k + 1) cO]) B5 31 #[.slice aC k cC, .slice aO (k + 1) cO] ∧ Blk w3 (y4.setRow B5 #[.slice aC k cC, .slice aO (k + 1) cO]) B6 35 #[.int .i64 0, .int .i64 0, .int .u8 0, .int .i64 0, .int .i64 0, .float .f64 0]) := ⟨HMy4.out.store HB5y4.out.1 (by decide) (by decide) _, HB5y4.out.put _, HB6y4.out.far HB5y4.out (by decide) _⟩
                obtain ⟨za, hza⟩ : ∃ Y, Y = y4.setRow B5 #[.slice aC k cC, .slice aO (k + 1) cO] := ⟨_, rfl⟩
                rw [← hza] at HXa HMa ⊢
                clear hza
                refine hK.out _ _ (HKS.out _ HXa.out) (fun hHeld => ?_)
                clear hK
                (try simp only [Act.put, List.setIfInBounds_toArray, List.set_cons_zero, List.set_cons_succ])
                refine wpAnyH_ready (rs := [7]) (by kernel_rfl) (by simp) ?_
                refine AllReadyH.cons rfl (fun K hK => ?_) AllReadyH.nil
                rw [if_pos (by rfl)]
                have HXb : Hid (Only (fun _ => False) w3 (za.setRow B6 #[.int .i64 (W1 : Int), .int .i64 (T1 : Int), .int .u8 (M1 : Int), .int .i64 (hy : Int), .int .i64 (pr : Int), .float .f64 lo])) := HXa.out.setRowNew HMa.out.2.2.2 _
                refine wp_store_row 35 _ _ rfl B6 #[.int .i64 (W1 : Int), .int .i64 (T1 : Int), .int .u8 (M1 : Int), .int .i64 (hy : Int), .int .i64 (pr : Int), .float .f64 lo] rfl rfl 35 _ HMa.out.2.2.1 (by kernel_rfl) rfl (cfg_one _ _ _ _ _ _) ?_
                have HMb : Hid (Made (za.setRow B6 #[.int .i64 (W1 : Int), .int .i64 (T1 : Int), .int .u8 (M1 : Int), .int .i64 (hy : Int), .int .i64 (pr : Int), .float .f64 lo]) LF nm k aC aO cC cO ∧ Blk w3 (za.setRow B6 #[.int .i64 (W1 : Int), .int .i64 (T1 : Int), .int .u8 (M1 : Int), .int .i64 (hy : Int), .int .i64 (pr : Int), .float .f64 lo]) B5 31 #[.slice aC k cC, .slice aO (k + 1) cO] ∧ Blk w3 (za.setRow B6 #[.int .i64 (W1 : Int), .int .i64 (T1 : Int), .int .u8 (M1 : Int), .int .i64 (hy : Int), .int .i64 (pr : Int), .float .f64 lo]) B6 35 #[.int .i64 (W1 : Int), .int .i64 (T1 : Int), .int .u8 (M1 : Int), .int .i64 (hy : Int), .int .i64 (pr : Int), .float .f64 lo]) := ⟨HMa.out.1.store HMa.out.2.2.1 (by decide) (by decide) _, HMa.out.2.1.far HMa.out.2.2 (by decide) _, HMa.out.2.2.put _⟩
                obtain ⟨zb, hzb⟩ : ∃ Y, Y = za.setRow B6 #[.int .i64 (W1 : Int), .int .i64 (T1 : Int), .int .u8 (M1 : Int), .int .i64 (hy : Int), .int .i64 (pr : Int), .float .f64 lo] := ⟨_, rfl⟩
                rw [← hzb] at HXb HMb ⊢
                clear hzb
                refine hK.out _ _ (HKS.out _ HXb.out) (fun hHeld => ?_)
                clear hK
                (try simp only [Act.put, List.setIfInBounds_toArray, List.set_cons_zero, List.set_cons_succ])
                refine wpAnyH_done (by kernel_rfl) ?_ _
                clear hHeld
                go_wp2_with fail
                go_meet
                exact ⟨k, B5, B6, aC, aO, cC, cO, _, rfl, rfl, rfl, HMb.out.1, HMb.out.2.1, HMb.out.2.2, HXb.out⟩
              · rw [if_pos (by rfl)]
                go_simp
                obtain ⟨y3, hy3⟩ : ∃ Y, Y = y2.alloc (.cells #[.slice none 0 0, .slice none 0 0] 31) := ⟨_, rfl⟩
                obtain ⟨B5, hB5⟩ : ∃ b, b = y2.heap.size := ⟨_, rfl⟩
                have ho : Only (fun _ => False) y2 y3 := by rw [hy3]; exact (Only.refl _ _).alloc _
                have HXy3 : Hid (Only (fun _ => False) w3 y3) := HXy2.out.trans ho
                have HB5y3 : Hid (Blk w3 y3 B5 31 #[.slice none 0 0, .slice none 0 0]) := by rw [hy3, hB5]; exact Blk.made HXy2.out _ _
                have HB6y3 : Hid (Blk w3 y3 B6 35 #[.int .i64 0, .int .i64 0, .int .u8 0, .int .i64 0, .int .i64 0, .float .f64 0]) := HB6y2.out.keep ho
                have HMy3 : Hid (Made y3 LF nm k aC aO cC cO) := HMy2.out.keep ho
                rw [← hy3, ← hB5]
                clear hy3 hB5 ho
                refine hK.out _ _ (HKS.out _ HXy3.out) (fun hHeld => ?_)
                clear hK
                (try simp only [Act.put, List.setIfInBounds_toArray, List.set_cons_zero, List.set_cons_succ])
                refine wpAnyH_ready (rs := [3]) (by kernel_rfl) (by simp) ?_
                refine AllReadyH.cons rfl (fun K hK => ?_) AllReadyH.nil
                rw [if_pos (by rfl)]
                go_simp
                refine Calls.mono (HCF.out _) ?_
                rintro e y4 ⟨rfl, ho⟩
                have HMy4 : Hid (Made y4 LF nm k aC aO cC cO) := HMy3.out.keep ho
                have HXy4 : Hid (Only (fun _ => False) w3 y4) := HXy3.out.trans ho
                have HB5y4 : Hid (Blk w3 y4 B5 31 #[.slice none 0 0, .slice none 0 0]) := HB5y3.out.keep ho
                have HB6y4 : Hid (Blk w3 y4 B6 35 #[.int .i64 0, .int .i64 0, .int .u8 0, .int .i64 0, .int .i64 0, .float .f64 0]) := HB6y3.out.keep ho
                clear ho
                refine hK.out _ _ (HKS.out _ HXy4.out) (fun hHeld => ?_)
                clear hK
                (try simp only [Act.put, List.setIfInBounds_toArray, List.set_cons_zero, List.set_cons_succ])
                refine wpAnyH_ready (rs := [6]) (by kernel_rfl) (by simp) ?_
                refine AllReadyH.cons rfl (fun K hK => ?_) AllReadyH.nil
                rw [if_pos (by rfl)]
                have HXa : Hid (Only (fun _ => False) w3 (y4.setRow B5 #[.slice aC k cC, .slice aO (k + 1) cO])) := HXy4.out.setRowNew HB5y4.out.2 _
                refine wp_store_row 31 _ _ rfl B5 #[.slice aC k cC, .slice aO (k + 1) cO] rfl rfl 31 _ HB5y4.out.1 (by kernel_rfl) rfl (two_one _ _ _ _ _ _) ?_
                have HMa : Hid (Made (y4.setRow B5 #[.slice aC k cC, .slice aO (k + 1) cO]) LF nm k aC aO cC cO ∧ Blk w3 (y4.setRow B5 #[.slice aC k cC, .slice aO (k + 1) cO]) B5 31 #[.slice aC k cC, .slice aO (k + 1) cO] ∧ Blk w3 (y4.setRow B5 #[.slice aC k cC, .slice aO (k + 1) cO]) B6 35 #[.int .i64 0, .int .i64 0, .int .u8 0, .int .i64 0, .int .i64 0, .float .f64 0]) := ⟨HMy4.out.store HB5y4.out.1 (by decide) (by decide) _, HB5y4.out.put _, HB6y4.out.far HB5y4.out (by decide) _⟩
                obtain ⟨za, hza⟩ : ∃ Y, Y = y4.setRow B5 #[.slice aC k cC, .slice aO (k + 1) cO] := ⟨_, rfl⟩
                rw [← hza] at HXa HMa ⊢
                clear hza
                refine hK.out _ _ (HKS.out _ HXa.out) (fun hHeld => ?_)
                clear hK
                (try simp only [Act.put, List.setIfInBounds_toArray, List.set_cons_zero, List.set_cons_succ])
                refine wpAnyH_ready (rs := [7]) (by kernel_rfl) (by simp) ?_
                refine AllReadyH.cons rfl (fun K hK => ?_) AllReadyH.nil
                rw [if_pos (by rfl)]
                have HXb : Hid (Only (fun _ => False) w3 (za.setRow B6 #[.int .i64 (W1 : Int), .int .i64 (T1 : Int), .int .u8 (M1 : Int), .int .i64 (hy : Int), .int .i64 (pr : Int), .float .f64 lo])) := HXa.out.setRowNew HMa.out.2.2.2 _
                refine wp_store_row 35 _ _ rfl B6 #[.int .i64 (W1 : Int), .int .i64 (T1 : Int), .int .u8 (M1 : Int), .int .i64 (hy : Int), .int .i64 (pr : Int), .float .f64 lo] rfl rfl 35 _ HMa.out.2.2.1 (by kernel_rfl) rfl (cfg_one _ _ _ _ _ _) ?_
                have HMb : Hid (Made (za.setRow B6 #[.int .i64 (W1 : Int), .int .i64 (T1 : Int), .int .u8 (M1 : Int), .int .i64 (hy : Int), .int .i64 (pr : Int), .float .f64 lo]) LF nm k aC aO cC cO ∧ Blk w3 (za.setRow B6 #[.int .i64 (W1 : Int), .int .i64 (T1 : Int), .int .u8 (M1 : Int), .int .i64 (hy : Int), .int .i64 (pr : Int), .float .f64 lo]) B5 31 #[.slice aC k cC, .slice aO (k + 1) cO] ∧ Blk w3 (za.setRow B6 #[.int .i64 (W1 : Int), .int .i64 (T1 : Int), .int .u8 (M1 : Int), .int .i64 (hy : Int), .int .i64 (pr : Int), .float .f64 lo]) B6 35 #[.int .i64 (W1 : Int), .int .i64 (T1 : Int), .int .u8 (M1 : Int), .int .i64 (hy : Int), .int .i64 (pr : Int), .float .f64 lo]) := ⟨HMa.out.1.store HMa.out.2.2.1 (by decide) (by decide) _, HMa.out.2.1.far HMa.out.2.2 (by decide) _, HMa.out.2.2.put _⟩
                obtain ⟨zb, hzb⟩ : ∃ Y, Y = za.setRow B6 #[.int .i64 (W1 : Int), .int .i64 (T1 : Int), .int .u8 (M1 : Int), .int .i64 (hy : Int), .int .i64 (pr : Int), .float .f64 lo] := ⟨_, rfl⟩
                rw [← hzb] at HXb HMb ⊢
                clear hzb
                refine hK.out _ _ (HKS.out _ HXb.out) (fun hHeld => ?_)
                clear hK
                (try simp only [Act.put, List.setIfInBounds_toArray, List.set_cons_zero, List.set_cons_succ])
                refine wpAnyH_done (by kernel_rfl) ?_ _
                clear hHeld
                go_wp2_with fail
                go_meet
                exact ⟨k, B5, B6, aC, aO, cC, cO, _, rfl, rfl, rfl, HMb.out.1, HMb.out.2.1, HMb.out.2.2, HXb.out⟩
            · rw [if_pos (by rfl)]
              go_simp
              obtain ⟨y2, hy2⟩ : ∃ Y, Y = y1.alloc (.cells #[.slice none 0 0, .slice none 0 0] 31) := ⟨_, rfl⟩
              obtain ⟨B5, hB5⟩ : ∃ b, b = y1.heap.size := ⟨_, rfl⟩
              have ho : Only (fun _ => False) y1 y2 := by rw [hy2]; exact (Only.refl _ _).alloc _
              have HXy2 : Hid (Only (fun _ => False) w3 y2) := HXy1.out.trans ho
              have HB5y2 : Hid (Blk w3 y2 B5 31 #[.slice none 0 0, .slice none 0 0]) := by rw [hy2, hB5]; exact Blk.made HXy1.out _ _
              have HB6y2 : Hid (Blk w3 y2 B6 35 #[.int .i64 0, .int .i64 0, .int .u8 0, .int .i64 0, .int .i64 0, .float .f64 0]) := HB6y1.out.keep ho
              rw [← hy2, ← hB5]
              clear hy2 hB5 ho
              refine hK.out _ _ (HKS.out _ HXy2.out) (fun hHeld => ?_)
              clear hK
              (try simp only [Act.put, List.setIfInBounds_toArray, List.set_cons_zero, List.set_cons_succ])
              refine wpAnyH_ready (rs := [1]) (by kernel_rfl) (by simp) ?_
              refine AllReadyH.cons rfl (fun K hK => ?_) AllReadyH.nil
              rw [if_pos (by rfl)]
              go_simp
              refine Calls.mono (HPA.out _ (HW3.out.trans HXy2.out) HXy2.out) ?_
              rintro e y3 ⟨k, aC, aO, cC, cO, rfl, hmd, ho⟩
              have HMy3 : Hid (Made y3 LF nm k aC aO cC cO) := hmd
              clear hmd
              have HXy3 : Hid (Only (fun _ => False) w3 y3) := HXy2.out.trans ho
              have HB5y3 : Hid (Blk w3 y3 B5 31 #[.slice none 0 0, .slice none 0 0]) := HB5y2.out.keep ho
              have HB6y3 : Hid (Blk w3 y3 B6 35 #[.int .i64 0, .int .i64 0, .int .u8 0, .int .i64 0, .int .i64 0, .float .f64 0]) := HB6y2.out.keep ho
              clear ho
              refine hK.out _ _ (HKS.out _ HXy3.out) (fun hHeld => ?_)
              clear hK
              (try simp only [Act.put, List.setIfInBounds_toArray, List.set_cons_zero, List.set_cons_succ])
              refine wpAnyH_ready (rs := [3]) (by kernel_rfl) (by simp) ?_
              refine AllReadyH.cons rfl (fun K hK => ?_) AllReadyH.nil
              rw [if_pos (by rfl)]
              go_simp
              refine Calls.mono (HCF.out _) ?_
              rintro e y4 ⟨rfl, ho⟩
              have HMy4 : Hid (Made y4 LF nm k aC aO cC cO) := HMy3.out.keep ho
              have HXy4 : Hid (Only (fun _ => False) w3 y4) := HXy3.out.trans ho
              have HB5y4 : Hid (Blk w3 y4 B5 31 #[.slice none 0 0, .slice none 0 0]) := HB5y3.out.keep ho
              have HB6y4 : Hid (Blk w3 y4 B6 35 #[.int .i64 0, .int .i64 0, .int .u8 0, .int .i64 0, .int .i64 0, .float .f64 0]) := HB6y3.out.keep ho
              clear ho
              refine hK.out _ _ (HKS.out _ HXy4.out) (fun hHeld => ?_)
              clear hK
              (try simp only [Act.put, List.setIfInBounds_toArray, List.set_cons_zero, List.set_cons_succ])
              refine wpAnyH_ready (rs := [6]) (by kernel_rfl) (by simp) ?_
              refine AllReadyH.cons rfl (fun K hK => ?_) AllReadyH.nil
              rw [if_pos (by rfl)]
              have HXa : Hid (Only (fun _ => False) w3 (y4.setRow B5 #[.slice aC k cC, .slice aO (k + 1) cO])) := HXy4.out.setRowNew HB5y4.out.2 _
              refine wp_store_row 31 _ _ rfl B5 #[.slice aC k cC, .slice aO (k + 1) cO] rfl rfl 31 _ HB5y4.out.1 (by kernel_rfl) rfl (two_one _ _ _ _ _ _) ?_
              have HMa : Hid (Made (y4.setRow B5 #[.slice aC k cC, .slice aO (k + 1) cO]) LF nm k aC aO cC cO ∧ Blk w3 (y4.setRow B5 #[.slice aC k cC, .slice aO (k + 1) cO]) B5 31 #[.slice aC k cC, .slice aO (k + 1) cO] ∧ Blk w3 (y4.setRow B5 #[.slice aC k cC, .slice aO (k + 1) cO]) B6 35 #[.int .i64 0, .int .i64 0, .int .u8 0, .int .i64 0, .int .i64 0, .float .f64 0]) := ⟨HMy4.out.store HB5y4.out.1 (by decide) (by decide) _, HB5y4.out.put _, HB6y4.out.far HB5y4.out (by decide) _⟩
              obtain ⟨za, hza⟩ : ∃ Y, Y = y4.setRow B5 #[.slice aC k cC, .slice aO (k + 1) cO] := ⟨_, rfl⟩
              rw [← hza] at HXa HMa ⊢
              clear hza
              refine hK.out _ _ (HKS.out _ HXa.out) (fun hHeld => ?_)
              clear hK
              (try simp only [Act.put, List.setIfInBounds_toArray, List.set_cons_zero, List.set_cons_succ])
              refine wpAnyH_ready (rs := [7]) (by kernel_rfl) (by simp) ?_
              refine AllReadyH.cons rfl (fun K hK => ?_) AllReadyH.nil
              rw [if_pos (by rfl)]
              have HXb : Hid (Only (fun _ => False) w3 (za.setRow B6 #[.int .i64 (W1 : Int), .int .i64 (T1 : Int), .int .u8 (M1 : Int), .int .i64 (hy : Int), .int .i64 (pr : Int), .float .f64 lo])) := HXa.out.setRowNew HMa.out.2.2.2 _
              refine wp_store_row 35 _ _ rfl B6 #[.int .i64 (W1 : Int), .int .i64 (T1 : Int), .int .u8 (M1 : Int), .int .i64 (hy : Int), .int .i64 (pr : Int), .float .f64 lo] rfl rfl 35 _ HMa.out.2.2.1 (by kernel_rfl) rfl (cfg_one _ _ _ _ _ _) ?_
              have HMb : Hid (Made (za.setRow B6 #[.int .i64 (W1 : Int), .int .i64 (T1 : Int), .int .u8 (M1 : Int), .int .i64 (hy : Int), .int .i64 (pr : Int), .float .f64 lo]) LF nm k aC aO cC cO ∧ Blk w3 (za.setRow B6 #[.int .i64 (W1 : Int), .int .i64 (T1 : Int), .int .u8 (M1 : Int), .int .i64 (hy : Int), .int .i64 (pr : Int), .float .f64 lo]) B5 31 #[.slice aC k cC, .slice aO (k + 1) cO] ∧ Blk w3 (za.setRow B6 #[.int .i64 (W1 : Int), .int .i64 (T1 : Int), .int .u8 (M1 : Int), .int .i64 (hy : Int), .int .i64 (pr : Int), .float .f64 lo]) B6 35 #[.int .i64 (W1 : Int), .int .i64 (T1 : Int), .int .u8 (M1 : Int), .int .i64 (hy : Int), .int .i64 (pr : Int), .float .f64 lo]) := ⟨HMa.out.1.store HMa.out.2.2.1 (by decide) (by decide) _, HMa.out.2.1.far HMa.out.2.2 (by decide) _, HMa.out.2.2.put _⟩
              obtain ⟨zb, hzb⟩ : ∃ Y, Y = za.setRow B6 #[.int .i64 (W1 : Int), .int .i64 (T1 : Int), .int .u8 (M1 : Int), .int .i64 (hy : Int), .int .i64 (pr : Int), .float .f64 lo] := ⟨_, rfl⟩
              rw [← hzb] at HXb HMb ⊢
              clear hzb
              refine hK.out _ _ (HKS.out _ HXb.out) (fun hHeld => ?_)
              clear hK
              (try simp only [Act.put, List.setIfInBounds_toArray, List.set_cons_zero, List.set_cons_succ])
              refine wpAnyH_done (by kernel_rfl) ?_ _
              clear hHeld
              go_wp2_with fail
              go_meet
              exact ⟨k, B5, B6, aC, aO, cC, cO, _, rfl, rfl, rfl, HMb.out.1, HMb.out.2.1, HMb.out.2.2, HXb.out⟩
        case rest =>
          obtain ⟨k, B5, B6, aC, aO, cC, cO, X, hX, rfl, rfl, hmd, hb5, hb6, hoX⟩ := hcut
          subst hX
          obtain ⟨PZ, hPZ⟩ : ∃ x : Nat, x = 0 := ⟨_, rfl⟩
          have HPZ : Hid (PZ = 0) := hPZ
          have hpz : PZ ≤ 1048576 := by omega
          clear hPZ
          obtain ⟨q0, q1, q2, q3, q4, q5⟩ := blk_six hb6.1
          have fz : ∀ x, X.frozen? ⟨B6, x, none⟩ = false := fun x => fz_blk hb6.1 x
          have lq : B6 < X.heap.size := (Array.getElem?_eq_some_iff.1 hb6.1).1
          have HQ : Hid (Made X LF nm k aC aO cC cO ∧ Blk w3 X B5 31 #[.slice aC k cC, .slice aO (k + 1) cO] ∧ Blk w3 X B6 35 #[.int .i64 (W1 : Int), .int .i64 (T1 : Int), .int .u8 (M1 : Int), .int .i64 (hy : Int), .int .i64 (pr : Int), .float .f64 lo] ∧ Only (fun _ => False) w3 X) := ⟨hmd, hb5, hb6, hoX⟩
          clear hmd hb5 hb6 hoX
          go_upto_region 12 with fail
          obtain ⟨Y, hY⟩ : ∃ Y, Y = X.setCell ⟨B6, 4, none⟩ (.int .i64 0) := ⟨_, rfl⟩
          rw [← hY]
          have e1 : Y = X.setRow B6 #[.int .i64 (W1 : Int), .int .i64 (T1 : Int), .int .u8 (M1 : Int), .int .i64 (hy : Int), .int .i64 (PZ : Int), .float .f64 lo] := by rw [hY, setCell_eq_setRow _ _ _ _ _ _ _ HQ.out.2.2.1.1, HPZ.out]; rfl
          have hmd : Made Y LF nm k aC aO cC cO := by rw [e1]; exact HQ.out.1.store HQ.out.2.2.1.1 (by decide) (by decide) _
          have hb5 : Blk w3 Y B5 31 #[.slice aC k cC, .slice aO (k + 1) cO] := by rw [e1]; exact HQ.out.2.1.far HQ.out.2.2.1 (by decide) _
          have hb6 : Blk w3 Y B6 35 #[.int .i64 (W1 : Int), .int .i64 (T1 : Int), .int .u8 (M1 : Int), .int .i64 (hy : Int), .int .i64 (PZ : Int), .float .f64 lo] := by rw [e1]; exact HQ.out.2.2.1.put _
          have hoX : Only (fun _ => False) w3 Y := by rw [e1]; exact HQ.out.2.2.2.setRowNew HQ.out.2.2.1.2 _
          clear hY e1 q0 q1 q2 q3 q4 q5 fz lq HQ
          obtain ⟨C, hC⟩ : ∃ x, x = Pa.cts (LF.take k) 0 := ⟨_, rfl⟩
          obtain ⟨O, hO⟩ : ∃ x, x = Pa.ops LF k ++ [2] := ⟨_, rfl⟩
          have HMD : Hid (Made Y LF nm k aC aO cC cO ∧ C = Pa.cts (LF.take k) 0 ∧ O = Pa.ops LF k ++ [2]) := ⟨hmd, hC, hO⟩
          have HPv : Hid (∀ W', Only (fun _ => False) Y W' → Pv W' C O k (k + 1) aC aO cC cO) := fun W' ho => by rw [hC, hO]; exact (hmd.pv (by omega) HLF.out.2).keep ho
          have HO4 : Hid (∀ x ∈ O, x < 4) := by rw [hO]; exact ops_lt LF k
          have HOL : Hid (O.length = k + 1 ∧ O.getD k 0 = 2) := by rw [hO]; exact ⟨by rw [List.length_append, Pa.ops_len]; rfl, ops_end LF k⟩
          have hk0 : k ≤ nm := hmd.le
          have HPC : Hid (∀ W', Only (fun _ => False) Y W' → (W'.cell? ⟨B5, 0, none⟩ = some (.slice aC k cC) ∧ W'.cell? ⟨B5, 1, none⟩ = some (.slice aO (k + 1) cO)) ∧ (W'.cell? ⟨B6, 0, none⟩ = some (.int .i64 (W1 : Int)) ∧ W'.cell? ⟨B6, 1, none⟩ = some (.int .i64 (T1 : Int)) ∧ W'.cell? ⟨B6, 2, none⟩ = some (.int .u8 (M1 : Int)) ∧ W'.cell? ⟨B6, 3, none⟩ = some (.int .i64 (hy : Int)) ∧ W'.cell? ⟨B6, 4, none⟩ = some (.int .i64 (PZ : Int)) ∧ W'.cell? ⟨B6, 5, none⟩ = some (.float .f64 lo))) := fun W' ho => ⟨⟨(blk_two (blk_keep ho hb5.1)).1, (blk_two (blk_keep ho hb5.1)).2.1⟩, blk_six (blk_keep ho hb6.1)⟩
          have HLT : Hid (∀ W', Only (fun _ => False) Y W' → B5 < W'.heap.size ∧ B6 < W'.heap.size) := fun W' ho => ⟨(Array.getElem?_eq_some_iff.1 (blk_keep ho hb5.1)).1, (Array.getElem?_eq_some_iff.1 (blk_keep ho hb6.1)).1⟩
          have HWX : Hid (Only (fun _ => False) w Y ∧ Blk w3 Y B6 35 #[.int .i64 (W1 : Int), .int .i64 (T1 : Int), .int .u8 (M1 : Int), .int .i64 (hy : Int), .int .i64 (PZ : Int), .float .f64 lo]) := ⟨HW3.out.trans hoX, hb6⟩
          clear hmd hC hO hb5 hb6 hoX
          obtain ⟨h1, hh1⟩ : ∃ x, x = hy + 1 := ⟨_, rfl⟩
          obtain ⟨hh, hhh⟩ : ∃ x, x = h1 + mq := ⟨_, rfl⟩
          have HHH : Hid (hh = hy + 1 + mq) := by rw [hhh, hh1]; rfl
          have hhl : hh ≤ 140000 := by omega
          have s1 : (hy : Int) + 1 = (h1 : Int) := by omega
          have s2 : (h1 : Int) + (mq : Int) = (hh : Int) := by omega
          have s3 : IntKind.i64.wrap (mq : Int) = (mq : Int) := wrap_small _ (by omega) (by omega)
          have s4 : h1 ≤ 70000 := by omega
          clear hh1 hhh
          have HB1 : Hid (∀ W', Only (fun _ => False) Y W' → Calls Try.prog 14 #[.agg #[.slice aC k cC, .slice aO (k + 1) cO], .int .i64 0, .int .i64 (k : Int), .agg #[.int .i64 (W1 : Int), .int .i64 (T1 : Int), .int .u8 (M1 : Int), .int .i64 (hy : Int), .int .i64 (PZ : Int), .float .f64 lo]] W' (bsP (bsF C O T1 W1 hy PZ lo k) C O T1 k 0 W')) := fun W' ho => bbreak_any C O k (k + 1) aC aO cC cO 0 k W1 T1 M1 hy PZ lo W' (HPv.out W' ho) (by omega) (by omega) (by omega) (by omega) ht0 (by omega) (by omega) (by omega)
          have HB2 : Hid (∀ W', Only (fun _ => False) Y W' → Calls Try.prog 14 #[.agg #[.slice aC k cC, .slice aO (k + 1) cO], .int .i64 0, .int .i64 (k : Int), .agg #[.int .i64 (W1 : Int), .int .i64 (T1 : Int), .int .u8 (M1 : Int), .int .i64 (hh : Int), .int .i64 (PZ : Int), .float .f64 lo]] W' (bsP (bsF C O T1 W1 hh PZ lo k) C O T1 k 0 W')) := fun W' ho => bbreak_any C O k (k + 1) aC aO cC cO 0 k W1 T1 M1 hh PZ lo W' (HPv.out W' ho) (by omega) (by omega) (by omega) (by omega) ht0 (by omega) (by omega) (by omega)
          have HM1 : Hid (bsF C O T1 W1 hy PZ lo k = Ds.more (bsF C O T1 W1 0 0 lo k) (fun k => O.getD k 0 == 3) hy) := by rw [HPZ.out]; exact bsF_more ..
          have HM2 : Hid (bsF C O T1 W1 hh PZ lo k = Ds.more (bsF C O T1 W1 0 0 lo k) (fun k => O.getD k 0 == 3) (hy + 1 + mq)) := by rw [HPZ.out, HHH.out]; exact bsF_more ..
          unfold bsP at HB1 HB2
          obtain ⟨⟨r0, r1⟩, k0, k1, k2, k3, k4, k5⟩ := HPC.out Y (Only.refl _ _)
          obtain ⟨l5, l6⟩ := HLT.out Y (Only.refl _ _)
          go_upto_region 13 with (refine wpList_store_row rfl 35 _ _ rfl Y.heap.size #[.int .i64 (W1 : Int), .int .i64 (T1 : Int), .int .u8 (M1 : Int), .int .i64 (hy : Int), .int .i64 (PZ : Int), .float .f64 lo] rfl rfl 35 _ (heap_alloc_new Y _) (by kernel_rfl) rfl (cfg_one _ _ _ _ _ _) ?_)
          clear r0 r1 k0 k1 k2 k3 k4 k5 l5 l6
          obtain ⟨R2, D0, hD0, hR2, HB2', HO2⟩ := box6t Y (.int .i64 0) (.int .i64 0) (.int .u8 0) (.int .i64 0) (.int .i64 0) (.float .f64 0) (.int .i64 (W1 : Int)) (.int .i64 (T1 : Int)) (.int .u8 (M1 : Int)) (.int .i64 (hy : Int)) (.int .i64 (PZ : Int)) (.float .f64 lo) 35
          rw [hD0, hR2]
          obtain ⟨d0, d1, d2, d3, d4, d5⟩ := blk_six HB2'.out
          have ld : R2 < D0.heap.size := (Array.getElem?_eq_some_iff.1 HB2'.out).1
          have fd := fz_blk HB2'.out 3
          have HT := turn3 (x := .int .i64 (hh : Int)) hR2 HB2'.out HO2.out
          clear hD0 hR2
          obtain ⟨⟨r0, r1⟩, k0, k1, k2, k3, k4, k5⟩ := HPC.out D0 HO2.out
          obtain ⟨l5, l6⟩ := HLT.out D0 HO2.out
          go_upto_region 14 with fail
          obtain ⟨D, hD⟩ : ∃ D, D = D0.setCell ⟨R2, 3, none⟩ (.int .i64 (hh : Int)) := ⟨_, rfl⟩
          rw [← hD] at HT ⊢
          have HD : Hid ((∀ W', Only (fun _ => False) D W' → W'.cell? ⟨R2, 0, none⟩ = some (.int .i64 (W1 : Int)) ∧ W'.cell? ⟨R2, 1, none⟩ = some (.int .i64 (T1 : Int)) ∧ W'.cell? ⟨R2, 2, none⟩ = some (.int .u8 (M1 : Int)) ∧ W'.cell? ⟨R2, 3, none⟩ = some (.int .i64 (hh : Int)) ∧ W'.cell? ⟨R2, 4, none⟩ = some (.int .i64 (PZ : Int)) ∧ W'.cell? ⟨R2, 5, none⟩ = some (.float .f64 lo)) ∧ Only (fun _ => False) Y D ∧ (∀ W', Only (fun _ => False) D W' → R2 < W'.heap.size)) := ⟨fun W' ho => blk_six (blk_keep ho HT.1), HT.2, fun W' ho => (Array.getElem?_eq_some_iff.1 (blk_keep ho HT.1)).1⟩
          clear hD HT fd d0 d1 d2 d3 d4 d5 ld HB2' HO2 r0 r1 k0 k1 k2 k3 k4 k5 l5 l6 s1 s2 s3
          obtain ⟨⟨r0, r1⟩, k0, k1, k2, k3, k4, k5⟩ := HPC.out D HD.out.2.1
          obtain ⟨l5, l6⟩ := HLT.out D HD.out.2.1
          go_wp2_with fail
          refine Calls.mono (HB1.out _ HD.out.2.1) ?_
          clear r0 r1 k0 k1 k2 k3 k4 k5 l5 l6
          rintro e w5 (⟨E, s, a5, n5, c5, hB5, hn5, rfl, hown5, ho5⟩ | ⟨hN5, rfl, ho5⟩)
          · have H5 : Hid (Only (fun _ => False) Y w5 ∧ Only (fun _ => False) D w5 ∧ Vw w5 a5 (lnC (mkL C O T1 0 E)) ∧ Ds.Best (bsF C O T1 W1 hy PZ lo k) k 0 E s ∧ n5 = E.length) := ⟨HD.out.2.1.trans ho5, ho5, own_vw hown5, hB5, hn5⟩
            have hn5k : n5 ≤ k := by rw [hn5]; have := Ds.Row.length hB5.row; omega
            clear ho5 hown5 hB5 hn5
            obtain ⟨⟨r0, r1⟩, k0, k1, k2, k3, k4, k5⟩ := HPC.out w5 H5.out.1
            obtain ⟨l5, l6⟩ := HLT.out w5 H5.out.1
            obtain ⟨d0, d1, d2, d3, d4, d5⟩ := HD.out.1 w5 H5.out.2.1
            have ld := HD.out.2.2 w5 H5.out.2.1
            go_wp2_with fail
            refine Calls.mono (HB2.out _ H5.out.1) ?_
            clear r0 r1 k0 k1 k2 k3 k4 k5 l5 l6 d0 d1 d2 d3 d4 d5 ld
            rintro e w6 (⟨F, t, a6, n6, c6, hB6, hn6, rfl, hown6, ho6⟩ | ⟨hN6, rfl, ho6⟩)
            · have hn6k : n6 ≤ k := by rw [hn6]; have := Ds.Row.length hB6.row; omega
              obtain ⟨qE, hqE⟩ : ∃ x, x = hyL (mkL C O T1 0 E) := ⟨_, rfl⟩
              obtain ⟨qF, hqF⟩ : ∃ x, x = hyL (mkL C O T1 0 F) := ⟨_, rfl⟩
              have hqq : (qF : Int) ≤ (qE : Int) := by
                have := Ds.best_hyph (by rw [← HM1.out]; exact H5.out.2.2.2.1) (by rw [← HM2.out]; exact hB6)
                rw [hqE, hqF, hyL_mk, hyL_mk]
                omega
              have HCF2 : Hid (∀ W', Only (fun _ => False) w6 W' → Calls Try.prog 21 #[.slice a6 n6 c6] W' fun e w' => e = .returned (.int .i64 (qF : Int)) ∧ Only (fun _ => False) W' w') := fun W' ho => by rw [hqF]; exact count_any (mkL C O T1 0 F) n6 a6 c6 W' (by rw [mkL_len]; exact hn6) ((own_vw hown6).keep ho) (by omega) (mkL_e HO4.out 0 F)
              have HCE2 : Hid (∀ W', Only (fun _ => False) w6 W' → Calls Try.prog 21 #[.slice a5 n5 c5] W' fun e w' => e = .returned (.int .i64 (qE : Int)) ∧ Only (fun _ => False) W' w') := fun W' ho => by rw [hqE]; exact count_any (mkL C O T1 0 E) n5 a5 c5 W' (by rw [mkL_len]; exact H5.out.2.2.2.2) ((H5.out.2.2.1.keep ho6).keep ho) (by omega) (mkL_e HO4.out 0 E)
              have H6 : Hid (Only (fun _ => False) Y w6) := H5.out.1.trans ho6
              clear hqE hqF hown6 hB6 hn6 ho6
              go_wp2_with fail
              refine Calls.mono (HCF2.out _ (Only.refl _ _)) ?_
              rintro e w7 ⟨rfl, ho7⟩
              have H7 : Hid (Only (fun _ => False) w6 w7) := ho7
              clear ho7
              go_wp2_with fail
              refine Calls.mono (HCE2.out _ H7.out) ?_
              rintro e w8 ⟨rfl, ho8⟩
              have H8 : Hid (Only (fun _ => False) Y w8) := (H6.out.trans H7.out).trans ho8
              clear ho8
              go_wp2_with fail
              go_ret
              exact ⟨rfl, HWX.out.1.trans H8.out⟩
            · exact (Ds.Best.no (by rw [← HM1.out]; exact H5.out.2.2.2.1) (Ds.no_more (h := hy + 1 + mq) (by rw [← HM2.out]; exact hN6))).elim
          · have H5 : Hid (Only (fun _ => False) Y w5 ∧ Only (fun _ => False) D w5 ∧ Ds.No (bsF C O T1 W1 hy PZ lo k) k 0) := ⟨HD.out.2.1.trans ho5, ho5, hN5⟩
            clear ho5 hN5
            obtain ⟨⟨r0, r1⟩, k0, k1, k2, k3, k4, k5⟩ := HPC.out w5 H5.out.1
            obtain ⟨l5, l6⟩ := HLT.out w5 H5.out.1
            obtain ⟨d0, d1, d2, d3, d4, d5⟩ := HD.out.1 w5 H5.out.2.1
            have ld := HD.out.2.2 w5 H5.out.2.1
            go_wp2_with fail
            refine Calls.mono (HB2.out _ H5.out.1) ?_
            clear r0 r1 k0 k1 k2 k3 k4 k5 l5 l6 d0 d1 d2 d3 d4 d5 ld
            rintro e w6 (⟨F, t, a6, n6, c6, hB6, hn6, rfl, hown6, ho6⟩ | ⟨hN6, rfl, ho6⟩)
            · exact (Ds.Best.no (by rw [← HM2.out]; exact hB6) (Ds.no_more (h := hy) (by rw [← HM1.out]; exact H5.out.2.2))).elim
            · have HC0 : Hid (∀ W', Calls Try.prog 21 #[.slice none 0 0] W' fun e w' => e = .returned (.int .i64 0) ∧ Only (fun _ => False) W' w') := fun W' => count_any [] 0 none 0 W' rfl (Or.inl rfl) (by omega) (fun x hx => by simp at hx)
              have H6 : Hid (Only (fun _ => False) Y w6) := H5.out.1.trans ho6
              clear ho6 hN6
              go_wp2_with fail
              refine Calls.mono (HC0.out _) ?_
              rintro e w7 ⟨rfl, ho7⟩
              have H7 : Hid (Only (fun _ => False) w6 w7) := ho7
              clear ho7
              go_wp2_with fail
              refine Calls.mono (HC0.out _) ?_
              rintro e w8 ⟨rfl, ho8⟩
              have H8 : Hid (Only (fun _ => False) Y w8) := (H6.out.trans H7.out).trans ho8
              clear ho8
              go_wp2_with fail
              go_ret
              exact ⟨rfl, HWX.out.1.trans H8.out⟩
end Go.Proofs.Ythckdomljfdmpaa.bestHyphens

