/-
  DrawCells' walk.
-/
import Derived.Test.YtegoadhnilmchaaDz
import Derived.Test.YtegoadhnilmchaaFx
import Derived.Test.YtegoadhnilmchaaVh
import Derived.Test.YtegoadhnilmchaaVc
namespace Go.Proofs.Ytegoadhnilmchaa.drawCells
open Go.RowKit Go.Maps
set_option linter.unusedVariables false
set_option linter.unusedSimpArgs false
/-- a bit of one byte and one cell. -/
def gx1 (b : Bt) : Bt := ⟨1, b.kind, 0, b.opp⟩
def gx (M : List Bt) (i : Nat) : List Bt := (M.take i).map gx1 ++ M.drop i
theorem gx_zero (M : List Bt) : gx M 0 = M := by simp [gx]
theorem gx_len (M : List Bt) (i : Nat) : (gx M i).length = M.length := by
  unfold gx
  rw [List.length_append, List.length_map, List.length_take, List.length_drop]
  omega
theorem gx_all {M : List Bt} : gx M M.length = M.map gx1 := by simp [gx]
theorem gx_at {M : List Bt} {i : Nat} {x : Bt} (h : M[i]? = some x) : (gx M i)[i]? = some x := by
  have hi := (List.getElem?_eq_some_iff.1 h).1
  unfold gx
  rw [List.getElem?_append_right (by rw [List.length_map, List.length_take]; omega), List.length_map, List.length_take, show i - min i M.length = 0 by omega, List.getElem?_drop]
  exact h
theorem gx_next {M : List Bt} {i : Nat} {x : Bt} (h : M[i]? = some x) : gx M (i + 1) = (gx M i).set i (gx1 x) := by
  obtain ⟨hi, e⟩ := List.getElem?_eq_some_iff.1 h
  unfold gx
  rw [List.set_append_right _ _ (by rw [List.length_map, List.length_take]; omega), List.length_map, List.length_take, show i - min i M.length = 0 by omega, List.drop_eq_getElem_cons hi, List.set_cons_zero, List.take_succ_eq_append_getElem hi, List.map_append, e]
  simp
theorem btC_set2 : ∀ (M : List Bt) (i : Nat) (x : Bt), M[i]? = some x → ((btC M).set (i * 4 + 2) (.int .u8 0)).set (i * 4) (.int .u8 1) = btC (M.set i (gx1 x))
  | [], i, x, h => by simp at h
  | y :: M, 0, x, h => by
    simp at h
    subst h
    rfl
  | y :: M, i + 1, x, h => by
    have ih := btC_set2 M i x (by simpa using h)
    rw [List.set_cons_succ, show (i + 1) * 4 + 2 = 4 + (i * 4 + 2) by omega, show (i + 1) * 4 = 4 + i * 4 by omega]
    show ((btV y ++ btC M).set (4 + (i * 4 + 2)) _).set (4 + i * 4) _ = btV y ++ btC (M.set i _)
    rw [List.set_append_right _ _ (by simp [btV]), List.set_append_right _ _ (by simp [btV]), ← ih]
    simp [btV]
theorem gx_ok {M : List Bt} (h : ∀ b ∈ M, b.cells < 256 ∧ b.kind < 256 ∧ b.len < 256 ∧ b.opp < 256) : ∀ b ∈ M.map gx1, b.cells < 256 ∧ b.kind < 256 ∧ b.len < 256 ∧ b.opp < 256 := fun b hb => by
  obtain ⟨x, hx, rfl⟩ := List.mem_map.1 hb
  have := h x hx
  exact ⟨by show 1 < 256; decide, this.2.1, by show 0 < 256; decide, this.2.2.2⟩
/-- then each cluster has one byte and one cell. -/
theorem one_one {M : List Bt} {w : World} {C : List Ct} {T : List Nat} {nT cT : Nat} {aT : Option Addr} (hT : Txt w C T nT aT cT) (h : ∀ z ∈ C, ∃ b ∈ M.map gx1, z.len = 1 + b.len % 4 ∧ z.cells = ((b.cells % 3 : Nat) : Int)) {j : Nat} (hj : j < C.length) : ((T.drop (Sp.at' C j).pl).take (Sp.at' C j).len).length = (Sp.at' C j).cells.toNat := by
  have e : Sp.at' C j ∈ C := by rw [at_some (List.getElem?_eq_getElem hj)]; exact List.getElem_mem hj
  obtain ⟨b, hb, h1, h2⟩ := h _ e
  obtain ⟨x, _, rfl⟩ := List.mem_map.1 hb
  have h1' : (Sp.at' C j).len = 1 := h1
  have h2' : (Sp.at' C j).cells = 1 := h2
  have hf := hT.fit _ e
  have hn := hT.hn
  rw [List.length_take, List.length_drop, h1', h2']
  rw [h1'] at hf
  show min 1 (T.length - (Sp.at' C j).pl) = 1
  omega
set_option maxRecDepth 100000 in
set_option maxHeartbeats 8000000 in
theorem walk (L0 : List Bt) (a0 : Option Addr) (c0 : Nat) (K : Wy) (w : World) (hV : Vw w a0 (btC L0)) (hB : ∀ b ∈ L0, b.cells < 256 ∧ b.kind < 256 ∧ b.len < 256 ∧ b.opp < 256) (hc : L0.length ≤ c0) (hm : c0 ≤ maxLen) (hK : K.Ok) :
    Calls Try.prog 4 #[.slice a0 L0.length c0, K.val] w fun e w' => e = .returned (.bool true) ∧ Only (fun _ => False) w w' := by
  obtain ⟨nm, hnm⟩ : ∃ n, n = min L0.length 100 := ⟨_, rfl⟩
  obtain ⟨M, hMM⟩ : ∃ M, M = L0.take nm := ⟨_, rfl⟩
  have HML : Hid (nm = M.length) := by rw [hMM, List.length_take]; show nm = min nm L0.length; omega
  have HMB : Hid (∀ b ∈ M, b.cells < 256 ∧ b.kind < 256 ∧ b.len < 256 ∧ b.opp < 256) := fun b hb => hB b (by rw [hMM] at hb; exact List.mem_of_mem_take hb)
  have HVM : Hid (∀ W', Only (fun _ => False) w W' → Vw W' a0 (btC M)) := fun W' ho => by rw [hMM]; exact (hV.keep ho).btTake nm
  obtain ⟨LG, hLG⟩ : ∃ x, x = M.map gx1 := ⟨_, rfl⟩
  have HMA : Hid (∀ W g1 cap1, W.ownsRow 0 48 4 (.slice (some ⟨g1, 0, none⟩) nm cap1) nm (btC (gx M nm)) → Calls Try.prog 8 #[.slice (some ⟨g1, 0, none⟩) nm cap1, K.val] W fun e w' => ∃ (C : List Ct) (O : List Nat) (k : Nat) (aC aO : Option Addr) (cC cO : Nat) (A : List Ln) (nA : Nat) (aA : Option Addr) (cA W1 t hy pr lo : Nat) (T : List Nat) (nT : Nat) (aT : Option Addr) (cT : Nat), e = .returned (.tuple #[.agg #[.slice aC k cC, .slice aO (k + 1) cO], .slice aA nA cA, .agg #[.int .i64 (W1 : Int), .int .i64 (t : Int), .int .u8 0, .int .i64 (hy : Int), .int .i64 (pr : Int), .float .f64 lo], .slice aT nT cT]) ∧ Ld w' C O k aC aO cC cO A nA aA W1 t ∧ Ld2 w' LG C T nT aT cT ∧ Only (fun _ => False) W w') := fun W g1 cap1 hown => by
    have hL : nm = LG.length := by rw [hLG, List.length_map]; exact HML.out
    refine lined22_any LG nm (some ⟨g1, 0, none⟩) cap1 K W ?_ (by rw [hLG]; exact gx_ok HMB.out) hL (own_le hown) (own_capm hown) hK
    have h := own_vw hown
    rw [show gx M nm = LG by rw [hLG, HML.out, gx_all]] at h
    exact h
  have HLG : Hid (LG = M.map gx1) := hLG
  have hnm1 : nm ≤ 100 := by omega
  have hnmc : nm ≤ c0 := by omega
  have hcm : c0 ≤ 9223372036854775807 := by unfold maxLen at hm; exact hm
  have hmn : (L0.length ≤ 100 ∧ nm = L0.length) ∨ (100 < L0.length ∧ nm = 100) := by omega
  clear hnm hMM hLG
  obtain ⟨nL, hnL⟩ : ∃ x, x = L0.length := ⟨_, rfl⟩
  rw [← hnL] at hmn ⊢
  have hcap : nL ≤ c0 := by omega
  obtain ⟨wi, tb, mo, hy0, pr0, lo0⟩ := K
  unfold Wy.val at HMA ⊢
  simp only at HMA ⊢
  clear hV hB hc hm hK hnL
  have HMN : Hid ((nL ≤ 100 ∧ nm = nL) ∨ (100 < nL ∧ nm = 100)) := hmn
  clear hmn
  go_enter Try.func4, Try.ntmps4
  go_wp2_with fail
  obtain ⟨R, w0, hw0', hR, H0, lR⟩ := box6 w (.int .u8 (wi : Int)) (.int .u8 (tb : Int)) (.int .u8 (mo : Int)) (.int .u16 (hy0 : Int)) (.int .u16 (pr0 : Int)) (.float .f64 lo0) 26
  rw [hw0', hR]
  clear hw0' hR
  refine Calls.mono (awake22_any _) ?_
  rintro e w2 ⟨rfl, ho2⟩
  have H2 : Hid (w2.heap[R]? = some (.cells #[.int .u8 (wi : Int), .int .u8 (tb : Int), .int .u8 (mo : Int), .int .u16 (hy0 : Int), .int .u16 (pr0 : Int), .float .f64 lo0] 26 (0, 0)) ∧ Only (fun _ => False) w w2) := ⟨blk_keep ho2 H0.out.1, H0.out.2.1.trans ho2⟩
  have HKS : Hid (∀ W', Only (fun _ => False) w2 W' → (W'.cell? ⟨R, 0, none⟩ = some (.int .u8 (wi : Int)) ∧ W'.cell? ⟨R, 1, none⟩ = some (.int .u8 (tb : Int)) ∧ W'.cell? ⟨R, 2, none⟩ = some (.int .u8 (mo : Int)) ∧ W'.cell? ⟨R, 3, none⟩ = some (.int .u16 (hy0 : Int)) ∧ W'.cell? ⟨R, 4, none⟩ = some (.int .u16 (pr0 : Int)) ∧ W'.cell? ⟨R, 5, none⟩ = some (.float .f64 lo0)) ∧ R < W'.heap.size) := fun W' ho => by
    have e := blk_keep (ho2.trans ho) H0.out.1
    exact ⟨blk_six e, (Array.getElem?_eq_some_iff.1 e).1⟩
  clear ho2 lR H0
  go_upto_region 3 with fail
  go_cut [0] from 18 to 24 (fun v0 wr => ∃ (g1 cap1 : Nat) (Y : World), Y = wr ∧ v0 = .slice (some ⟨g1, 0, none⟩) nm cap1 ∧ Only (fun _ => False) w2 Y ∧ Y.ownsRow w2.heap.size 48 4 (.slice (some ⟨g1, 0, none⟩) nm cap1) nm (btC M))
  case first =>
    rcases HMN.out with ⟨hn2, hnn⟩ | ⟨hn2, hnn⟩
    · have t1 : (nL : Int) ≤ 100 := by omega
      have f1 : nL ≤ c0 := hcap
      have f1' : ¬ c0 < nL := by omega
      subst hnn
      rcases a0 with _ | ad
      all_goals
        go_wp2_with (first | (refine wpList_appB rfl (.tmp 18) (.tmp 23) rfl w2 ((Only.refl _ _).alloc _) w2.heap.size 0 0 [] rfl (own_e0B (heap_alloc_new w2 _) (Nat.le_refl _)) _ _ _ M rfl HML.out (HVM.out _ (H2.out.2.alloc _)) nm (by omega) (by omega) ?_; intro g1 cap1 y3 hown1 ho3; have H3 : Hid (Only (fun _ => False) w2 y3 ∧ y3.ownsRow w2.heap.size 48 4 (.slice (some ⟨g1, 0, none⟩) nm cap1) nm (btC ([] ++ M))) := ⟨ho3, hown1⟩; clear ho3 hown1) | fail)
        go_meet
        exact ⟨g1, cap1, _, rfl, rfl, H3.out.1, H3.out.2⟩
    · have t1 : ¬ (nL : Int) ≤ 100 := by omega
      have t2 : 100 < nL := by omega
      have f1 : 100 ≤ c0 := by omega
      have f1' : ¬ c0 < 100 := by omega
      subst hnn
      rcases a0 with _ | ad
      all_goals
        go_wp2_with (first | (refine wpList_appB rfl (.tmp 18) (.tmp 23) rfl w2 ((Only.refl _ _).alloc _) w2.heap.size 0 0 [] rfl (own_e0B (heap_alloc_new w2 _) (Nat.le_refl _)) _ _ _ M rfl HML.out (HVM.out _ (H2.out.2.alloc _)) 100 (by omega) (by omega) ?_; intro g1 cap1 y3 hown1 ho3; have H3 : Hid (Only (fun _ => False) w2 y3 ∧ y3.ownsRow w2.heap.size 48 4 (.slice (some ⟨g1, 0, none⟩) 100 cap1) 100 (btC ([] ++ M))) := ⟨ho3, hown1⟩; clear ho3 hown1) | fail)
        go_meet
        exact ⟨g1, cap1, _, rfl, rfl, H3.out.1, H3.out.2⟩
  obtain ⟨g1, cap1, Y, hY, rfl, hoY, hownY⟩ := hcut
  subst hY
  have HY : Hid (Only (fun _ => False) w2 Y ∧ Y.ownsRow w2.heap.size 48 4 (.slice (some ⟨g1, 0, none⟩) nm cap1) nm (btC M)) := ⟨hoY, hownY⟩
  clear hoY hownY
  go_wp2_with fail
  go_loopg [27] nm (fun gh v wr => ∃ (i : Nat) (Z : World), Z = wr ∧ gh = nm - i ∧ i ≤ nm ∧ v = .int .i64 (i : Int) ∧ Z.ownsRow w2.heap.size 48 4 (.slice (some ⟨g1, 0, none⟩) nm cap1) nm (btC (gx M i)) ∧ Only (fun g => w2.heap.size ≤ g) w2 Z)
  case atStart => exact ⟨0, _, rfl, rfl, Nat.zero_le _, rfl, by rw [gx_zero]; exact HY.out.2, HY.out.1.mono (fun _ h => h.elim)⟩
  case round =>
    obtain ⟨i, w3, hZ, rfl, hi, rfl, hownZ, hoZ⟩ := hrel
    subst hZ
    have HZ : Hid (w3.ownsRow w2.heap.size 48 4 (.slice (some ⟨g1, 0, none⟩) nm cap1) nm (btC (gx M i)) ∧ Only (fun g => w2.heap.size ≤ g) w2 w3 ∧ Only (fun _ => False) w2 w3) := ⟨hownZ, hoZ, hoZ.old (fun b hb => Or.inl hb)⟩
    clear hownZ hoZ
    by_cases hlt : i < nm
    · have t1 : (i : Int) < (nm : Int) := by omega
      obtain ⟨x, hx⟩ : ∃ x, M[i]? = some x := ⟨_, List.getElem?_eq_getElem (by rw [← HML.out]; exact hlt)⟩
      have hq2 := (btC_at _ i x (gx_at hx)).2.2.1
      have hq0 := (btC_at _ i x (gx_at hx)).1
      obtain ⟨c3, z3, gb, gl⟩ := own_cell HZ.out.1 hq2
      have hN1 := own_set HZ.out.1 (i * 4 + 2) (by omega) (.int .u8 0)
      obtain ⟨c0', z0, -, gl'⟩ := own_cell (i := i * 4) (u := .int .u8 (x.cells : Int)) hN1 (by rw [List.getElem?_set_ne (by omega)]; exact hq0)
      have HN3 : Hid (((w3.setCell ⟨g1, i * 4 + 2, none⟩ (.int .u8 0)).setCell ⟨g1, i * 4, none⟩ (.int .u8 1)).ownsRow w2.heap.size 48 4 (.slice (some ⟨g1, 0, none⟩) nm cap1) nm (btC (gx M (i + 1)))) := by
        have h := own_set hN1 (i * 4) (by omega) (.int .u8 1)
        rw [btC_set2 _ i x (gx_at hx), ← gx_next hx] at h
        exact h
      have HOZ : Hid (Only (fun g => w2.heap.size ≤ g) w2 ((w3.setCell ⟨g1, i * 4 + 2, none⟩ (.int .u8 0)).setCell ⟨g1, i * 4, none⟩ (.int .u8 1))) := (HZ.out.2.1.setCell (p := ⟨g1, i * 4 + 2, none⟩) gb _).setCell (p := ⟨g1, i * 4, none⟩) gb _
      clear hx hq2 hq0 hN1
      go_wp2_with fail
      go_roundg (nm - (i + 1))
      case measure => omega
      case rel => exact ⟨i + 1, _, rfl, rfl, by omega, by go_num, HN3.out, HOZ.out⟩
    · have t1 : decide ((i : Int) < (nm : Int)) = false := decide_eq_false (by omega)
      have hin : i = nm := by omega
      have HG1 : Hid (w3.ownsRow 0 48 4 (.slice (some ⟨g1, 0, none⟩) nm cap1) nm (btC (gx M nm))) := by have h := HZ.out.1; rw [hin] at h; exact own_base2 h (Nat.zero_le _)
      have H2' : Hid (True ∧ Only (fun _ => False) w w3) := ⟨trivial, H2.out.2.trans HZ.out.2.2⟩
      obtain ⟨⟨r0, r1, r2, r3, r4, r5⟩, lR⟩ := HKS.out w3 HZ.out.2.2
      have hnot : ¬ i < nm := hlt
      clear hin hi H2 HY HKS HMN hcap hnmc hcm
      go_wp2_with fail
      refine Calls.mono (HMA.out _ _ _ HG1.out) ?_
      rintro e X ⟨C, O, k, aC, aO, cC, cO, A, nA, aA, cA, W1, t, hy, pr, lo, T, nT, aT, cT, rfl, hld, hld2, hoX⟩
      have HX : Hid (Ld X C O k aC aO cC cO A nA aA W1 t ∧ Only (fun _ => False) w X ∧ Ld2 X LG C T nT aT cT) := ⟨hld, H2'.out.2.trans hoX, hld2⟩
      have hk : k ≤ 100 := hld.few
      have hnA : nA ≤ k := by have := hld.chn.len; rw [hld.hA]; omega
      have hw1 : W1 ≤ 256 := hld.w1
      have ht0 : 0 < t := hld.t0
      have ht1 : t ≤ 64 := hld.t1
      have hnT : nT ≤ 400 := hld2.few
      have hTc : nT ≤ cT := hld2.txt.cap
      have hTm : cT ≤ 9223372036854775807 := by have := hld2.txt.capm; unfold maxLen at this; exact this
      have HOK : Hid (∀ full, ∀ l ∈ A, Okl C T k t W1 full l ∧ (Dw.row C T t W1 l.a l.b l.e full).length ≤ 10000) := fun full => okl_any hld hld2 full
      clear hld hld2 hoX r0 r1 r2 r3 r4 r5 lR HMA
      go_upto_region 11 with fail
      obtain ⟨B5, B6, Y0, hY0, hB6, hB5, HY0, l56, l6, l7⟩ := box26 X (.slice aC k cC) (.slice aO (k + 1) cO) (.int .i64 (W1 : Int)) (.int .i64 (t : Int)) (.int .u8 0) (.int .i64 (hy : Int)) (.int .i64 (pr : Int)) (.float .f64 0) 31 35
      rw [hY0, hB6, hB5]
      have HBL : Hid (B5 ≠ B6 ∧ X.heap.size ≤ B6) := ⟨by omega, l6⟩
      clear hY0 hB6 hB5 l56 l6
      have fd := fz_blk HY0.out.2.1 5
      obtain ⟨q0, q1, q2, q3, q4, q5⟩ := blk_six HY0.out.2.1
      rw [run_store _ _ _ _ _ rfl]
      go_simp
      go_upto_region 11 with fail
      obtain ⟨Y, hY⟩ : ∃ Y, Y = Y0.setCell ⟨B6, 5, none⟩ (.float .f64 lo) := ⟨_, rfl⟩
      rw [← hY]
      have e1 : Y = Y0.setRow B6 #[.int .i64 (W1 : Int), .int .i64 (t : Int), .int .u8 0, .int .i64 (hy : Int), .int .i64 (pr : Int), .float .f64 lo] := by rw [hY, setCell_eq_setRow _ _ _ _ _ _ _ HY0.out.2.1]; rfl
      have HY : Hid (Y.heap[B5]? = some (.cells #[.slice aC k cC, .slice aO (k + 1) cO] 31 (0, 0)) ∧ Y.heap[B6]? = some (.cells #[.int .i64 (W1 : Int), .int .i64 (t : Int), .int .u8 0, .int .i64 (hy : Int), .int .i64 (pr : Int), .float .f64 lo] 35 (0, 0)) ∧ Only (fun _ => False) X Y) := by
        rw [e1]
        exact ⟨far_blk (Only.setRow _ _ _) HY0.out.1 HBL.out.1, setRow_heap _ _ _ _ _ _ HY0.out.2.1, HY0.out.2.2.setRowNew HBL.out.2 _⟩
      clear hY e1 q0 q1 q2 q3 q4 q5 fd l7 HY0 HBL
      have HLD : Hid (∀ W', Only (fun _ => False) Y W' → Ld W' C O k aC aO cC cO A nA aA W1 t) := fun W' ho => HX.out.1.keep (HY.out.2.2.trans ho)
      have HTX : Hid (∀ W', Only (fun _ => False) Y W' → Txt W' C T nT aT cT) := fun W' ho => HX.out.2.2.txt.keep (HY.out.2.2.trans ho)
      have HTB : Hid ((∀ x ∈ T, 97 ≤ x ∧ x ≤ 122) ∧ ∀ z ∈ C, ∃ b ∈ LG, z.len = 1 + b.len % 4 ∧ z.cells = ((b.cells % 3 : Nat) : Int)) := ⟨HX.out.2.2.big, HX.out.2.2.of⟩
      have HOY : Hid (∀ W', Only (fun _ => False) Y W' → Only (fun _ => False) w W') := fun W' ho => HX.out.2.1.trans (HY.out.2.2.trans ho)
      have HS : Hid (∀ W', Only (fun _ => False) Y W' → ((W'.cell? ⟨B5, 0, none⟩ = some (.slice aC k cC) ∧ W'.cell? ⟨B5, 1, none⟩ = some (.slice aO (k + 1) cO)) ∧ (W'.cell? ⟨B6, 0, none⟩ = some (.int .i64 (W1 : Int)) ∧ W'.cell? ⟨B6, 1, none⟩ = some (.int .i64 (t : Int)) ∧ W'.cell? ⟨B6, 2, none⟩ = some (.int .u8 0) ∧ W'.cell? ⟨B6, 3, none⟩ = some (.int .i64 (hy : Int)) ∧ W'.cell? ⟨B6, 4, none⟩ = some (.int .i64 (pr : Int)) ∧ W'.cell? ⟨B6, 5, none⟩ = some (.float .f64 lo))) ∧ B5 < W'.heap.size ∧ B6 < W'.heap.size) := fun W' ho => by
        have e5 := blk_keep ho HY.out.1
        have e6 := blk_keep ho HY.out.2.1
        exact ⟨⟨⟨(blk_two e5).1, (blk_two e5).2.1⟩, blk_six e6⟩, (blk_two e5).2.2, (Array.getElem?_eq_some_iff.1 e6).1⟩
      clear HX HY H2'
      have HAF : Hid (∀ W', Only (fun _ => False) Y W' → Calls Try.prog 9 #[.slice aT nT cT, .agg #[.slice aC k cC, .slice aO (k + 1) cO], .slice aA nA cA, .agg #[.int .i64 (W1 : Int), .int .i64 (t : Int), .int .u8 0, .int .i64 (hy : Int), .int .i64 (pr : Int), .float .f64 lo], .bool false] W' fun e w' => ∃ b, e = .returned (.slice (some ⟨b, 0, none⟩) nA nA) ∧ Rws w' b (A.map fun l => Dw.row C T t W1 l.a l.b l.e false) ∧ Only (fun _ => False) W' w') := fun W' ho => by
        have h := HLD.out W' ho
        exact all_any C O T A k (k + 1) nT cT nA cA aC aO aT aA cC cO W1 t 0 hy pr lo _ W' h.pv (HTX.out W' ho) h.hA h.vA (by omega) (fun l hl => (HOK.out _ l hl).1) (by omega) ht0 (by omega)
      have HAT : Hid (∀ W', Only (fun _ => False) Y W' → Calls Try.prog 9 #[.slice aT nT cT, .agg #[.slice aC k cC, .slice aO (k + 1) cO], .slice aA nA cA, .agg #[.int .i64 (W1 : Int), .int .i64 (t : Int), .int .u8 0, .int .i64 (hy : Int), .int .i64 (pr : Int), .float .f64 lo], .bool true] W' fun e w' => ∃ b, e = .returned (.slice (some ⟨b, 0, none⟩) nA nA) ∧ Rws w' b (A.map fun l => Dw.row C T t W1 l.a l.b l.e true) ∧ Only (fun _ => False) W' w') := fun W' ho => by
        have h := HLD.out W' ho
        exact all_any C O T A k (k + 1) nT cT nA cA aC aO aT aA cC cO W1 t 0 hy pr lo _ W' h.pv (HTX.out W' ho) h.hA h.vA (by omega) (fun l hl => (HOK.out _ l hl).1) (by omega) ht0 (by omega)
      obtain ⟨⟨⟨r0, r1⟩, k0, k1, k2, k3, k4, k5⟩, l5, l6⟩ := HS.out Y (Only.refl _ _)
      go_region_held3 (fun W' => ((W'.cell? ⟨B5, 0, none⟩ = some (.slice aC k cC) ∧ W'.cell? ⟨B5, 1, none⟩ = some (.slice aO (k + 1) cO)) ∧ (W'.cell? ⟨B6, 0, none⟩ = some (.int .i64 (W1 : Int)) ∧ W'.cell? ⟨B6, 1, none⟩ = some (.int .i64 (t : Int)) ∧ W'.cell? ⟨B6, 2, none⟩ = some (.int .u8 0) ∧ W'.cell? ⟨B6, 3, none⟩ = some (.int .i64 (hy : Int)) ∧ W'.cell? ⟨B6, 4, none⟩ = some (.int .i64 (pr : Int)) ∧ W'.cell? ⟨B6, 5, none⟩ = some (.float .f64 lo))) ∧ B5 < W'.heap.size ∧ B6 < W'.heap.size ∧ Hid (Only (fun _ => False) Y W')) ((first | exact ⟨(HS.out _ (Only.refl _ _).drew).1, (HS.out _ (Only.refl _ _).drew).2.1, (HS.out _ (Only.refl _ _).drew).2.2, (Only.refl _ _).drew⟩ | exact ⟨(HS.out _ H4.out.2.2.1).1, (HS.out _ H4.out.2.2.1).2.1, (HS.out _ H4.out.2.2.1).2.2, H4.out.2.2.1⟩ | exact ⟨(HS.out _ H3.out.2).1, (HS.out _ H3.out.2).2.1, (HS.out _ H3.out.2).2.2, H3.out.2⟩)) ((first | (have hgd := H3.out; go_at_call 9; refine Calls.mono (HAT.out _ (Hid.out (And.right (And.right (And.right (by assumption)))))) ?_; rintro e w4 ⟨b2, rfl, hR2, ho4⟩; have H4 : Hid (Rws w4 b1 (A.map fun l => Dw.row C T t W1 l.a l.b l.e false) ∧ Rws w4 b2 (A.map fun l => Dw.row C T t W1 l.a l.b l.e true) ∧ Only (fun _ => False) Y w4 ∧ True) := ⟨H3.out.1.keep ho4, hR2, H3.out.2.trans ho4, trivial⟩; clear hR2 ho4) | (go_at_call 9; refine Calls.mono (HAF.out _ (Hid.out (And.right (And.right (And.right (by assumption)))))) ?_; rintro e w3 ⟨b1, rfl, hR1, ho3⟩; have H3 : Hid (Rws w3 b1 (A.map fun l => Dw.row C T t W1 l.a l.b l.e false) ∧ Only (fun _ => False) Y w3) := ⟨hR1, Only.trans (Hid.out (And.right (And.right (And.right (by assumption))))) ho3⟩; clear hR1 ho3)))
      have HB0 : Hid (Only (fun _ => False) Y w4) := H4.out.2.2.1
      have HRS : Hid (∀ W', Only (fun _ => False) w4 W' → Rws W' b1 (A.map fun l => Dw.row C T t W1 l.a l.b l.e false) ∧ Rws W' b2 (A.map fun l => Dw.row C T t W1 l.a l.b l.e true)) := fun W' ho => ⟨H4.out.1.keep ho, H4.out.2.1.keep ho⟩
      have HGA : Hid (∀ W' (la lb : Nat), Only (fun _ => False) Y W' → la ≤ lb → lb ≤ k → Calls Try.prog 12 #[.agg #[.slice aC k cC, .slice aO (k + 1) cO], .int .i64 (la : Int), .int .i64 (lb : Int)] W' fun e w' => e = .returned (.int .i64 (Sp.gp C la (lb - la) : Nat)) ∧ Only (fun _ => False) W' w') := fun W' la lb ho h1 h2 => refGaps_any C O k (k + 1) aC aO cC cO la lb W' (HLD.out W' ho).pv h1 h2
      clear H3 H4
      go_wp2_with fail
      clear r0 r1 k0 k1 k2 k3 k4 k5 l5 l6
      go_loopg [71] nA (fun gh vi wr => ∃ (i : Nat) (W : World), W = wr ∧ gh = nA - i ∧ i ≤ nA ∧ vi = .int .i64 (i : Int) ∧ Only (fun _ => False) w4 W)
      case atStart => exact ⟨0, _, rfl, rfl, Nat.zero_le _, rfl, Only.refl _ _⟩
      case round =>
        obtain ⟨i, W, hW, rfl, hi, rfl, hoW⟩ := hrel
        subst hW
        have HG : Hid (Only (fun _ => False) w4 W ∧ Only (fun _ => False) Y W) := ⟨hoW, HB0.out.trans hoW⟩
        clear hoW
        by_cases hlt : i < nA
        · have t1 : (i : Int) < (nA : Int) := by omega
          have hld := HLD.out W HG.out.2
          obtain ⟨z, hz⟩ : ∃ z, A[i]? = some z := ⟨_, List.getElem?_eq_getElem (by rw [← hld.hA]; exact hlt)⟩
          obtain ⟨g, off, eg, hg, d0, d1, d2, d3⟩ := hld.vA.line (k := i) hz
          have hz1 := hld.chn.line hz
          have hz2 := hld.lnk z (List.mem_of_getElem? hz)
          have HZO : Hid (∀ full, Okl C T k t W1 full z ∧ (Dw.row C T t W1 z.a z.b z.e full).length ≤ 10000) := fun full => HOK.out full z (List.mem_of_getElem? hz)
          have HMP : Hid (∀ full, (A.map fun l => Dw.row C T t W1 l.a l.b l.e full)[i]? = some (Dw.row C T t W1 z.a z.b z.e full)) := fun full => by rw [List.getElem?_map, hz]; rfl
          unfold Lv.Lnk at hz2
          obtain ⟨la, lb, lc, le⟩ := z
          simp only at d0 d1 d2 d3 hz1 hz2 HZO HMP
          have hab : la < lb := hz1.1
          have hbk : lb ≤ k := hz1.2
          have hle : le < 256 := hz2.2
          have HLC : Hid (lc = Sp.wde C t la lb le) := hz2.1
          subst eg
          clear hz hz1 hz2 hld
          go_upto_region 17 with fail
          obtain ⟨B9, w3, hw3, hB9, H3, l9⟩ := box4 W (.int .i64 (la : Int)) (.int .i64 (lb : Int)) (.int .i64 (lc : Int)) (.int .u8 (le : Int)) 43
          rw [hw3, hB9]
          clear hw3 hB9 l9 d0 d1 d2 d3 hg
          have H3' : Hid (Only (fun _ => False) Y w3 ∧ Only (fun _ => False) w4 w3) := ⟨HG.out.2.trans H3.out.2.1, HG.out.1.trans H3.out.2.1⟩
          have HL9 : Hid (∀ W', Only (fun _ => False) w3 W' → (W'.cell? ⟨B9, 0, none⟩ = some (.int .i64 (la : Int)) ∧ W'.cell? ⟨B9, 1, none⟩ = some (.int .i64 (lb : Int)) ∧ W'.cell? ⟨B9, 2, none⟩ = some (.int .i64 (lc : Int)) ∧ W'.cell? ⟨B9, 3, none⟩ = some (.int .u8 (le : Int))) ∧ B9 < W'.heap.size) := fun W' ho => by
            have e := blk_keep ho H3.out.1
            exact ⟨blk_four e, (Array.getElem?_eq_some_iff.1 e).1⟩
          obtain ⟨⟨⟨r0, r1⟩, k0, k1, k2, k3, k4, k5⟩, l5, l6⟩ := HS.out w3 H3'.out.1
          obtain ⟨⟨x0, x1, x2, x3⟩, l9⟩ := HL9.out w3 (Only.refl _ _)
          obtain ⟨ga, hga⟩ : ∃ x, x = Sp.gp C la (lb - la) := ⟨_, rfl⟩
          have HGC : Hid (Calls Try.prog 12 #[.agg #[.slice aC k cC, .slice aO (k + 1) cO], .int .i64 (la : Int), .int .i64 (lb : Int)] w3 fun e w' => e = .returned (.int .i64 (ga : Int)) ∧ Only (fun _ => False) w3 w') := by
            rw [hga]
            exact HGA.out w3 la lb H3'.out.1 (by omega) hbk
          have hK : Sp.tr C la (lb - la) - la ≤ 100 := by have h := Sp.tr_ge C la (lb - la); omega
          have hOO : ∀ j, (Sp.at' C (la + j)).kind = 0 → j < Sp.tr C la (lb - la) - la → ((T.drop (Sp.at' C (la + j)).pl).take (Sp.at' C (la + j)).len).length = (Sp.at' C (la + j)).cells.toNat := fun j _ hj => one_one (HTX.out W HG.out.2) (by rw [← HLG.out]; exact HTB.out.2) (by have h := Sp.tr_ge C la (lb - la); have h2 := (HLD.out W HG.out.2).pv.hn; omega)
          have HP1 : Hid ((Dw.row C T t W1 la lb le false).length = lc) := by rw [Dw.row_plain C T ht0 hOO]; exact HLC.out.symm
          have HP2 : Hid ((Dw.row C T t W1 la lb le true).length = if le ≠ 2 ∧ le ≠ 4 ∧ 0 < ga ∧ lc ≤ W1 then W1 else lc) := by
            rw [Dw.row_full C T ht0 (by omega) (by have h : Sp.gp C la (lb - la) ≤ Sp.tr C la (lb - la) - la := sps_le C la _; omega) hOO, hga, HLC.out]; exact rfl
          clear hga hK hOO HGA
          go_wp2_with fail
          refine Calls.mono HGC.out ?_
          rintro e w5 ⟨rfl, ho5⟩
          have HO5 : Hid (Only (fun _ => False) w4 w5) := H3'.out.2.trans ho5
          have HO5' : Hid (Only (fun _ => False) w3 w5 ∧ Only (fun _ => False) Y w5) := ⟨ho5, H3'.out.1.trans ho5⟩
          clear ho5 x0 x1 x2 x3 l9 r0 r1 k0 k1 k2 k3 k4 k5 l5 l6 HGC
          obtain ⟨⟨⟨r0, r1⟩, k0, k1, k2, k3, k4, k5⟩, l5, l6⟩ := HS.out w5 HO5'.out.2
          obtain ⟨⟨x0, x1, x2, x3⟩, l9⟩ := HL9.out w5 HO5'.out.1
          obtain ⟨a1, e1, hc1, -, -, -⟩ := (HRS.out w5 HO5.out).1 i _ (HMP.out false)
          obtain ⟨a2, e2, hc2, -, -, -⟩ := (HRS.out w5 HO5.out).2 i _ (HMP.out true)
          have lb1 : b1 < w5.heap.size := World.block_lt_of_cell? w5 ⟨b1, i, none⟩ hc1
          have lb2 : b2 < w5.heap.size := World.block_lt_of_cell? w5 ⟨b2, i, none⟩ hc2
          rw [HP1.out] at hc1
          have hp2 := HP2.out
          by_cases h2 : le = 2
          · rw [if_neg (by omega)] at hp2
            rw [hp2] at hc2
            have v2 : ((le : Int) != 2) = false := by simp; omega
            clear h2 hp2
            go_wp2_with fail
            go_quiet (fail)
            go_wp2_with fail
            go_roundg (nA - (i + 1))
            case measure => omega
            case rel => exact ⟨i + 1, _, rfl, rfl, by omega, by go_num, HO5.out.drewN _⟩
          · have v2 : ((le : Int) != 2) = true := by simp; omega
            by_cases h4 : le = 4
            · rw [if_neg (by omega)] at hp2
              rw [hp2] at hc2
              have v3 : ((le : Int) != 4) = false := by simp; omega
              clear h2 h4 hp2
              go_wp2_with fail
              go_quiet (fail)
              go_wp2_with fail
              go_roundg (nA - (i + 1))
              case measure => omega
              case rel => exact ⟨i + 1, _, rfl, rfl, by omega, by go_num, HO5.out.drewN _⟩
            · have v3 : ((le : Int) != 4) = true := by simp; omega
              by_cases hs0 : 0 < ga
              · have v6 : decide ((ga : Int) > 0) = true := decide_eq_true (by omega)
                have v6' : (0 : Int) < (ga : Int) := by omega
                by_cases hlw : lc ≤ W1
                · have v7 : (lc : Int) ≤ (W1 : Int) := by omega
                  rw [if_pos ⟨h2, h4, hs0, hlw⟩] at hp2
                  rw [hp2] at hc2
                  clear h2 h4 hp2
                  go_wp2_with fail
                  go_quiet (fail)
                  go_wp2_with fail
                  go_roundg (nA - (i + 1))
                  case measure => omega
                  case rel => exact ⟨i + 1, _, rfl, rfl, by omega, by go_num, HO5.out.drewN _⟩
                · have v7 : decide ((lc : Int) ≤ (W1 : Int)) = false := decide_eq_false (by omega)
                  have v7' : decide (lc ≤ W1) = false := decide_eq_false (by omega)
                  rw [if_neg (fun h => hlw h.2.2.2)] at hp2
                  rw [hp2] at hc2
                  clear h2 h4 hp2
                  go_wp2_with fail
                  go_quiet (fail)
                  go_wp2_with fail
                  go_roundg (nA - (i + 1))
                  case measure => omega
                  case rel => exact ⟨i + 1, _, rfl, rfl, by omega, by go_num, HO5.out.drewN _⟩
              · have v6 : decide ((0 : Int) < (ga : Int)) = false := decide_eq_false (by omega)
                have v6' : decide (0 < ga) = false := decide_eq_false (by omega)
                rw [if_neg (fun h => hs0 h.2.2.1)] at hp2
                rw [hp2] at hc2
                clear h2 h4 hp2
                go_wp2_with fail
                go_quiet (fail)
                go_wp2_with fail
                go_roundg (nA - (i + 1))
                case measure => omega
                case rel => exact ⟨i + 1, _, rfl, rfl, by omega, by go_num, HO5.out.drewN _⟩
        · have t1 : decide ((i : Int) < (nA : Int)) = false := decide_eq_false (by omega)
          go_wp2_with fail
          go_ret
          exact ⟨rfl, HOY.out _ HG.out.2⟩
end Go.Proofs.Ytegoadhnilmchaa.drawCells
