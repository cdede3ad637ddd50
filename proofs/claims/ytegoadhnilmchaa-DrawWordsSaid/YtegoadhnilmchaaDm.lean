/-
  DrawWords' walk.
-/
import Derived.Test.YtegoadhnilmchaaDz
import Derived.Test.YtegoadhnilmchaaVh
import Derived.Test.YtegoadhnilmchaaVc
namespace Go.Proofs.Ytegoadhnilmchaa.drawWords
open Go.RowKit Go.Maps
set_option linter.unusedVariables false
set_option linter.unusedSimpArgs false
theorem wrd_few (C : List Ct) (T : List Nat) (a : Nat) (h : ∀ i, (Sp.at' C i).len ≤ 4) : ∀ k, (Dw.wrd C T a k).length ≤ 4 * k
  | 0 => Nat.le_refl _
  | k + 1 => by
    have ih := wrd_few C T a h k
    have h1 := h (a + k)
    have e : Dw.wrd C T a (k + 1) = Dw.wrd C T a k ++ (if (Sp.at' C (a + k)).kind = 0 then (T.drop (Sp.at' C (a + k)).pl).take (Sp.at' C (a + k)).len else []) := rfl
    rw [e, List.length_append]
    have h2 : (if (Sp.at' C (a + k)).kind = 0 then (T.drop (Sp.at' C (a + k)).pl).take (Sp.at' C (a + k)).len else []).length ≤ 4 := by
      split
      · rw [List.length_take]
        have := Nat.min_le_left (Sp.at' C (a + k)).len (T.drop (Sp.at' C (a + k)).pl).length
        omega
      · exact Nat.zero_le _
    omega
/-- what is no blank and no hyphen. -/
def ltr (y : Nat) : Bool := y != 32 && y != 45
theorem flt_yes {L : List Nat} {q y : Nat} (h : L[q]? = some y) (h1 : y ≠ 32) (h2 : y ≠ 45) : (L.take (q + 1)).filter ltr = (L.take q).filter ltr ++ [y] := by
  rw [take_snoc h, List.filter_append]
  have e : ltr y = true := by unfold ltr; simp [h1, h2]
  simp [List.filter, e]
theorem flt_no {L : List Nat} {q y : Nat} (h : L[q]? = some y) (h1 : y = 32 ∨ y = 45) : (L.take (q + 1)).filter ltr = (L.take q).filter ltr := by
  rw [take_snoc h, List.filter_append]
  have e : ltr y = false := by unfold ltr; rcases h1 with h1 | h1 <;> simp [h1]
  simp [List.filter, e]
theorem flt_le (L : List Nat) (q : Nat) : ((L.take q).filter ltr).length ≤ L.length := by
  refine Nat.le_trans (List.length_filter_le _ _) ?_
  rw [List.length_take]
  exact Nat.min_le_right _ _
set_option maxRecDepth 100000 in
set_option maxHeartbeats 8000000 in
theorem walk (L0 : List Bt) (a0 : Option Addr) (c0 : Nat) (K : Wy) (full : Bool) (w : World) (hV : Vw w a0 (btC L0)) (hB : ∀ b ∈ L0, b.cells < 256 ∧ b.kind < 256 ∧ b.len < 256 ∧ b.opp < 256) (hc : L0.length ≤ c0) (hm : c0 ≤ maxLen) (hK : K.Ok) :
    Calls Try.prog 5 #[.slice a0 L0.length c0, K.val, .bool full] w fun e w' => e = .returned (.bool true) ∧ Only (fun _ => False) w w' := by
  have HMA : Hid (∀ W, Only (fun _ => False) w W → Calls Try.prog 8 #[.slice a0 L0.length c0, K.val] W fun e w' => ∃ (C : List Ct) (O : List Nat) (k : Nat) (aC aO : Option Addr) (cC cO : Nat) (A : List Ln) (nA : Nat) (aA : Option Addr) (cA W1 t hy pr lo : Nat) (T : List Nat) (nT : Nat) (aT : Option Addr) (cT : Nat), e = .returned (.tuple #[.agg #[.slice aC k cC, .slice aO (k + 1) cO], .slice aA nA cA, .agg #[.int .i64 (W1 : Int), .int .i64 (t : Int), .int .u8 0, .int .i64 (hy : Int), .int .i64 (pr : Int), .float .f64 lo], .slice aT nT cT]) ∧ Ld w' C O k aC aO cC cO A nA aA W1 t ∧ Ld2 w' L0 C T nT aT cT ∧ Only (fun _ => False) W w') := fun W ho => lined22_any L0 _ a0 c0 K W (hV.keep ho) hB rfl hc hm hK
  obtain ⟨nL, hnL⟩ : ∃ x, x = L0.length := ⟨_, rfl⟩
  rw [← hnL] at HMA ⊢
  obtain ⟨wi, tb, mo, hy0, pr0, lo0⟩ := K
  unfold Wy.val at HMA ⊢
  simp only at HMA ⊢
  clear hV hB hc hm hK hnL
  go_enter Try.func5, Try.ntmps5
  go_wp2_with fail
  obtain ⟨R, w0, hw0', hR, H0, lR⟩ := box6 w (.int .u8 (wi : Int)) (.int .u8 (tb : Int)) (.int .u8 (mo : Int)) (.int .u16 (hy0 : Int)) (.int .u16 (pr0 : Int)) (.float .f64 lo0) 26
  rw [hw0', hR]
  clear hw0' hR
  refine Calls.mono (awake22_any _) ?_
  rintro e w2 ⟨rfl, ho2⟩
  have H2 : Hid (w2.heap[R]? = some (.cells #[.int .u8 (wi : Int), .int .u8 (tb : Int), .int .u8 (mo : Int), .int .u16 (hy0 : Int), .int .u16 (pr0 : Int), .float .f64 lo0] 26 (0, 0)) ∧ Only (fun _ => False) w w2) := ⟨blk_keep ho2 H0.out.1, H0.out.2.1.trans ho2⟩
  clear ho2 lR H0
  obtain ⟨r0, r1, r2, r3, r4, r5⟩ := blk_six H2.out.1
  have lR : R < w2.heap.size := (Array.getElem?_eq_some_iff.1 H2.out.1).1
  go_wp2_with fail
  refine Calls.mono (HMA.out _ H2.out.2) ?_
  rintro e X ⟨C, O, k, aC, aO, cC, cO, A, nA, aA, cA, W1, t, hy, pr, lo, T, nT, aT, cT, rfl, hld, hld2, hoX⟩
  have HX : Hid (Ld X C O k aC aO cC cO A nA aA W1 t ∧ Only (fun _ => False) w X ∧ Ld2 X L0 C T nT aT cT) := ⟨hld, H2.out.2.trans hoX, hld2⟩
  have hk : k ≤ 100 := hld.few
  have hnA : nA ≤ k := by have := hld.chn.len; rw [hld.hA]; omega
  have hw1 : W1 ≤ 256 := hld.w1
  have ht0 : 0 < t := hld.t0
  have ht1 : t ≤ 64 := hld.t1
  have hnT : nT ≤ 400 := hld2.few
  have hTc : nT ≤ cT := hld2.txt.cap
  have hTm : cT ≤ 9223372036854775807 := by have := hld2.txt.capm; unfold maxLen at this; exact this
  have HOK : Hid (∀ full, ∀ l ∈ A, Okl C T k t W1 full l ∧ (Dw.row C T t W1 l.a l.b l.e full).length ≤ 10000) := fun full => okl_any hld hld2 full
  clear hld hld2 hoX r0 r1 r2 r3 r4 r5 lR HMA
  go_upto_region 4 with fail
  obtain ⟨B5, B6, Y0, hY0, hB6, hB5, HY0, l56, l6, l7⟩ := box26 X (.slice aC k cC) (.slice aO (k + 1) cO) (.int .i64 (W1 : Int)) (.int .i64 (t : Int)) (.int .u8 0) (.int .i64 (hy : Int)) (.int .i64 (pr : Int)) (.float .f64 0) 31 35
  rw [hY0, hB6, hB5]
  have HBL : Hid (B5 ≠ B6 ∧ X.heap.size ≤ B6) := ⟨by omega, l6⟩
  clear hY0 hB6 hB5 l56 l6
  have fd := fz_blk HY0.out.2.1 5
  obtain ⟨q0, q1, q2, q3, q4, q5⟩ := blk_six HY0.out.2.1
  rw [run_store _ _ _ _ _ rfl]
  go_simp
  go_upto_region 4 with fail
  obtain ⟨Y, hY⟩ : ∃ Y, Y = Y0.setCell ⟨B6, 5, none⟩ (.float .f64 lo) := ⟨_, rfl⟩
  rw [← hY]
  have e1 : Y = Y0.setRow B6 #[.int .i64 (W1 : Int), .int .i64 (t : Int), .int .u8 0, .int .i64 (hy : Int), .int .i64 (pr : Int), .float .f64 lo] := by rw [hY, setCell_eq_setRow _ _ _ _ _ _ _ HY0.out.2.1]; rfl
  have HY : Hid (Y.heap[B5]? = some (.cells #[.slice aC k cC, .slice aO (k + 1) cO] 31 (0, 0)) ∧ Y.heap[B6]? = some (.cells #[.int .i64 (W1 : Int), .int .i64 (t : Int), .int .u8 0, .int .i64 (hy : Int), .int .i64 (pr : Int), .float .f64 lo] 35 (0, 0)) ∧ Only (fun _ => False) X Y) := by
    rw [e1]
    exact ⟨far_blk (Only.setRow _ _ _) HY0.out.1 HBL.out.1, setRow_heap _ _ _ _ _ _ HY0.out.2.1, HY0.out.2.2.setRowNew HBL.out.2 _⟩
  clear hY e1 q0 q1 q2 q3 q4 q5 fd l7 HY0 HBL
  have HLD : Hid (∀ W', Only (fun _ => False) Y W' → Ld W' C O k aC aO cC cO A nA aA W1 t) := fun W' ho => HX.out.1.keep (HY.out.2.2.trans ho)
  have HTX : Hid (∀ W', Only (fun _ => False) Y W' → Txt W' C T nT aT cT) := fun W' ho => HX.out.2.2.txt.keep (HY.out.2.2.trans ho)
  have HTB : Hid ((∀ x ∈ T, 97 ≤ x ∧ x ≤ 122) ∧ ∀ z ∈ C, ∃ b ∈ L0, z.len = 1 + b.len % 4 ∧ z.cells = ((b.cells % 3 : Nat) : Int)) := ⟨HX.out.2.2.big, HX.out.2.2.of⟩
  have HOY : Hid (∀ W', Only (fun _ => False) Y W' → Only (fun _ => False) w W') := fun W' ho => HX.out.2.1.trans (HY.out.2.2.trans ho)
  have HS : Hid (∀ W', Only (fun _ => False) Y W' → ((W'.cell? ⟨B5, 0, none⟩ = some (.slice aC k cC) ∧ W'.cell? ⟨B5, 1, none⟩ = some (.slice aO (k + 1) cO)) ∧ (W'.cell? ⟨B6, 0, none⟩ = some (.int .i64 (W1 : Int)) ∧ W'.cell? ⟨B6, 1, none⟩ = some (.int .i64 (t : Int)) ∧ W'.cell? ⟨B6, 2, none⟩ = some (.int .u8 0) ∧ W'.cell? ⟨B6, 3, none⟩ = some (.int .i64 (hy : Int)) ∧ W'.cell? ⟨B6, 4, none⟩ = some (.int .i64 (pr : Int)) ∧ W'.cell? ⟨B6, 5, none⟩ = some (.float .f64 lo))) ∧ B5 < W'.heap.size ∧ B6 < W'.heap.size) := fun W' ho => by
    have e5 := blk_keep ho HY.out.1
    have e6 := blk_keep ho HY.out.2.1
    exact ⟨⟨⟨(blk_two e5).1, (blk_two e5).2.1⟩, blk_six e6⟩, (blk_two e5).2.2, (Array.getElem?_eq_some_iff.1 e6).1⟩
  clear HX HY H2
  have HAL : Hid (∀ W', Only (fun _ => False) Y W' → Calls Try.prog 9 #[.slice aT nT cT, .agg #[.slice aC k cC, .slice aO (k + 1) cO], .slice aA nA cA, .agg #[.int .i64 (W1 : Int), .int .i64 (t : Int), .int .u8 0, .int .i64 (hy : Int), .int .i64 (pr : Int), .float .f64 lo], .bool full] W' fun e w' => ∃ b, e = .returned (.slice (some ⟨b, 0, none⟩) nA nA) ∧ Rws w' b (A.map fun l => Dw.row C T t W1 l.a l.b l.e full) ∧ Only (fun _ => False) W' w') := fun W' ho => by
    have h := HLD.out W' ho
    exact all_any C O T A k (k + 1) nT cT nA cA aC aO aT aA cC cO W1 t 0 hy pr lo _ W' h.pv (HTX.out W' ho) h.hA h.vA (by omega) (fun l hl => (HOK.out _ l hl).1) (by omega) ht0 (by omega)
  have HTR : Hid (∀ W' (la lb : Nat), Only (fun _ => False) Y W' → la ≤ lb → lb ≤ k → Calls Try.prog 13 #[.agg #[.slice aC k cC, .slice aO (k + 1) cO], .int .i64 (la : Int), .int .i64 (lb : Int)] W' fun e w' => e = .returned (.int .i64 (Sp.tr C la (lb - la) : Nat)) ∧ Only (fun _ => False) W' w') := fun W' la lb ho h1 h2 => refTrim_any C O k (k + 1) aC aO cC cO la lb W' (HLD.out W' ho).pv h1 h2
  have HL4 : Hid (∀ i, (Sp.at' C i).len ≤ 4) := Dw.at_len (Dw.of_len HTB.out.2)
  obtain ⟨⟨⟨r0, r1⟩, k0, k1, k2, k3, k4, k5⟩, l5, l6⟩ := HS.out Y (Only.refl _ _)
  go_wp2_with fail
  refine Calls.mono (HAL.out _ (Only.refl _ _)) ?_
  rintro e V ⟨b, rfl, hRw, hoV⟩
  have HB0 : Hid (Only (fun _ => False) Y V) := hoV
  have HRS : Hid (∀ W', Only (fun _ => False) V W' → Rws W' b (A.map fun l => Dw.row C T t W1 l.a l.b l.e full)) := fun W' ho => hRw.keep ho
  clear hRw hoV
  go_wp2_with fail
  clear r0 r1 k0 k1 k2 k3 k4 k5 l5 l6
  go_loopg [37] nA (fun gh vi wr => ∃ (i : Nat) (W : World), W = wr ∧ gh = nA - i ∧ i ≤ nA ∧ vi = .int .i64 (i : Int) ∧ Only (fun _ => False) V W)
  case atStart => exact ⟨0, _, rfl, rfl, Nat.zero_le _, rfl, Only.refl _ _⟩
  case round =>
    obtain ⟨i, W, hW, rfl, hi, rfl, hoW⟩ := hrel
    subst hW
    have HG : Hid (Only (fun _ => False) V W ∧ Only (fun _ => False) Y W) := ⟨hoW, HB0.out.trans hoW⟩
    clear hoW
    by_cases hlt : i < nA
    · have t1 : (i : Int) < (nA : Int) := by omega
      have hld := HLD.out W HG.out.2
      obtain ⟨z, hz⟩ : ∃ z, A[i]? = some z := ⟨_, List.getElem?_eq_getElem (by rw [← hld.hA]; exact hlt)⟩
      obtain ⟨g, off, eg, hg, d0, d1, d2, d3⟩ := hld.vA.line (k := i) hz
      have hz1 := hld.chn.line hz
      have hz2 := hld.lnk z (List.mem_of_getElem? hz)
      have HZO : Hid (∀ full, Okl C T k t W1 full z ∧ (Dw.row C T t W1 z.a z.b z.e full).length ≤ 10000) := fun full => HOK.out full z (List.mem_of_getElem? hz)
      have HMP : Hid (∀ full, (A.map fun l => Dw.row C T t W1 l.a l.b l.e full)[i]? = some (Dw.row C T t W1 z.a z.b z.e full)) := fun full => by rw [List.getElem?_map, hz]; rfl
      unfold Lv.Lnk at hz2
      obtain ⟨la, lb, lc, le⟩ := z
      simp only at d0 d1 d2 d3 hz1 hz2 HZO HMP
      have hab : la < lb := hz1.1
      have hbk : lb ≤ k := hz1.2
      have hle : le < 256 := hz2.2
      have HLC : Hid (lc = Sp.wde C t la lb le) := hz2.1
      subst eg
      clear hz hz1 hz2 hld
      obtain ⟨L, hL⟩ : ∃ L, L = Dw.row C T t W1 la lb le full := ⟨_, rfl⟩
      obtain ⟨ai, ci, hci, hcl, hcm, hVi⟩ := HRS.out W HG.out.1 i _ (HMP.out full)
      rw [← hL] at hci hcl hVi
      obtain ⟨N, hN⟩ : ∃ N, N = L.length := ⟨_, rfl⟩
      rw [← hN] at hci hcl
      have HVI : Hid (∀ W', Only (fun _ => False) W W' → Vw W' ai (u8s L)) := fun W' ho => hVi.keep ho
      have hNl : N ≤ 10000 := by rw [hN, hL]; exact (HZO.out full).2
      have HLL : Hid (N = L.length ∧ L.filter ltr = Dw.wrd C T la (Sp.tr C la (lb - la) - la) ∧ (le = 3 → ∃ F, L = F ++ [45])) := by
        refine ⟨hN, ?_, fun h => ?_⟩
        · rw [hL]
          exact Dw.row_words C T t W1 la lb le full (fun x hx => by have := HTB.out.1 x hx; omega)
        · refine ⟨Dw.pic C T la (Dw.wds C t W1 la lb le full) (Sp.tr C la (lb - la) - la), ?_⟩
          rw [hL]
          unfold Dw.row
          rw [if_pos h]
      have lb9 : b < W.heap.size := World.block_lt_of_cell? W ⟨b, i, none⟩ hci
      clear hL hN hVi
      go_upto_region 8 with fail
      obtain ⟨B9, w3, hw3, hB9, H3, l9⟩ := box4 W (.int .i64 (la : Int)) (.int .i64 (lb : Int)) (.int .i64 (lc : Int)) (.int .u8 (le : Int)) 43
      rw [hw3, hB9]
      clear hw3 hB9 l9 d0 d1 d2 d3 hg
      have H3' : Hid (Only (fun _ => False) Y w3 ∧ Only (fun _ => False) V w3) := ⟨HG.out.2.trans H3.out.2.1, HG.out.1.trans H3.out.2.1⟩
      have HL9 : Hid (∀ W', Only (fun _ => False) w3 W' → (W'.cell? ⟨B9, 0, none⟩ = some (.int .i64 (la : Int)) ∧ W'.cell? ⟨B9, 1, none⟩ = some (.int .i64 (lb : Int)) ∧ W'.cell? ⟨B9, 2, none⟩ = some (.int .i64 (lc : Int)) ∧ W'.cell? ⟨B9, 3, none⟩ = some (.int .u8 (le : Int))) ∧ B9 < W'.heap.size) := fun W' ho => by
        have e := blk_keep ho H3.out.1
        exact ⟨blk_four e, (Array.getElem?_eq_some_iff.1 e).1⟩
      obtain ⟨⟨⟨r0, r1⟩, k0, k1, k2, k3, k4, k5⟩, l5, l6⟩ := HS.out w3 H3'.out.1
      obtain ⟨⟨x0, x1, x2, x3⟩, l9⟩ := HL9.out w3 (Only.refl _ _)
      clear hci lb9
      obtain ⟨te, hte⟩ : ∃ x, x = Sp.tr C la (lb - la) := ⟨_, rfl⟩
      have htr := Sp.tr_ge C la (lb - la)
      rw [← hte] at htr
      have HTC : Hid (∀ W', Only (fun _ => False) Y W' → Calls Try.prog 13 #[.agg #[.slice aC k cC, .slice aO (k + 1) cO], .int .i64 (la : Int), .int .i64 (lb : Int)] W' fun e w' => e = .returned (.int .i64 (te : Int)) ∧ Only (fun _ => False) W' w') := fun W' ho => by
        rw [hte]
        exact HTR.out W' la lb ho (by omega) hbk
      have HTE : Hid (te = Sp.tr C la (lb - la)) := hte
      have htl : la ≤ te := htr.1
      have htu : te ≤ k := by omega
      have hPw := (HLD.out W HG.out.2).pv
      have hcC := hPw.cap
      have hcCm := hPw.capm
      unfold maxLen at hcCm
      obtain ⟨gC, oC, eC, -, -⟩ := hPw.vC.cells (by rw [ctC_len, ← hPw.hn]; omega)
      have n1 : ¬ cC = la := by omega
      have t5 : (la : Int) ≤ (te : Int) := by omega
      have t6 : (te : Int) ≤ (cC : Int) := by omega
      subst eC
      have HSW : Hid (∀ W', Only (fun _ => False) w3 W' → (((W'.cell? ⟨B5, 0, none⟩ = some (.slice (some ⟨gC, oC, none⟩) k cC) ∧ W'.cell? ⟨B5, 1, none⟩ = some (.slice aO (k + 1) cO)) ∧ (W'.cell? ⟨B6, 0, none⟩ = some (.int .i64 (W1 : Int)) ∧ W'.cell? ⟨B6, 1, none⟩ = some (.int .i64 (t : Int)) ∧ W'.cell? ⟨B6, 2, none⟩ = some (.int .u8 0) ∧ W'.cell? ⟨B6, 3, none⟩ = some (.int .i64 (hy : Int)) ∧ W'.cell? ⟨B6, 4, none⟩ = some (.int .i64 (pr : Int)) ∧ W'.cell? ⟨B6, 5, none⟩ = some (.float .f64 lo))) ∧ (W'.cell? ⟨B9, 0, none⟩ = some (.int .i64 (la : Int)) ∧ W'.cell? ⟨B9, 1, none⟩ = some (.int .i64 (lb : Int)) ∧ W'.cell? ⟨B9, 2, none⟩ = some (.int .i64 (lc : Int)) ∧ W'.cell? ⟨B9, 3, none⟩ = some (.int .u8 (le : Int)))) ∧ Hid (Only (fun _ => False) Y W')) := fun W' ho => ⟨⟨(HS.out W' (H3'.out.1.trans ho)).1, (HL9.out W' ho).1⟩, H3'.out.1.trans ho⟩
      clear hte htr hPw
      go_upto_region 9 with fail
      go_region_held3 (fun W' => (((W'.cell? ⟨B5, 0, none⟩ = some (.slice (some ⟨gC, oC, none⟩) k cC) ∧ W'.cell? ⟨B5, 1, none⟩ = some (.slice aO (k + 1) cO)) ∧ (W'.cell? ⟨B6, 0, none⟩ = some (.int .i64 (W1 : Int)) ∧ W'.cell? ⟨B6, 1, none⟩ = some (.int .i64 (t : Int)) ∧ W'.cell? ⟨B6, 2, none⟩ = some (.int .u8 0) ∧ W'.cell? ⟨B6, 3, none⟩ = some (.int .i64 (hy : Int)) ∧ W'.cell? ⟨B6, 4, none⟩ = some (.int .i64 (pr : Int)) ∧ W'.cell? ⟨B6, 5, none⟩ = some (.float .f64 lo))) ∧ (W'.cell? ⟨B9, 0, none⟩ = some (.int .i64 (la : Int)) ∧ W'.cell? ⟨B9, 1, none⟩ = some (.int .i64 (lb : Int)) ∧ W'.cell? ⟨B9, 2, none⟩ = some (.int .i64 (lc : Int)) ∧ W'.cell? ⟨B9, 3, none⟩ = some (.int .u8 (le : Int)))) ∧ Hid (Only (fun _ => False) Y W')) ((first | exact HSW.out _ (Only.refl _ _).drew | exact HSW.out _ H5.out)) ((go_at_call 13; refine Calls.mono (HTC.out _ (Hid.out (And.right (by assumption)))) ?_; rintro e w5 ⟨rfl, ho5⟩; have H5 : Hid (Only (fun _ => False) w3 w5) := ((Only.refl _ _).drew).trans ho5; clear ho5))
      have H5' : Hid (Only (fun _ => False) Y w5 ∧ Only (fun _ => False) W w5 ∧ Only (fun _ => False) V w5) := ⟨H3'.out.1.trans H5.out, H3.out.2.1.trans H5.out, H3'.out.2.trans H5.out⟩
      clear x0 x1 x2 x3 l9 r0 r1 k0 k1 k2 k3 k4 k5 l5 l6 t5 t6 n1
      obtain ⟨K, hK⟩ : ∃ K, K = te - la := ⟨_, rfl⟩
      rw [← hK]
      have hKk : la + K ≤ k := by omega
      have HKE : Hid (K = Sp.tr C la (lb - la) - la) := by rw [← HTE.out]; exact hK
      clear hK htl htu
      go_wp2_with fail
      go_loopg [14, 58] K (fun gh v14 v58 wr => ∃ (q s : Nat) (a : Option Addr) (cc : Nat) (V2 : World), V2 = wr ∧ gh = K - q ∧ q ≤ K ∧ v14 = .slice a s cc ∧ v58 = .int .i64 (q : Int) ∧ s = (Dw.wrd C T la q).length ∧ V2.ownsRow w5.heap.size 5 1 (.slice a s cc) s (u8s (Dw.wrd C T la q)) ∧ Only (fun g => w5.heap.size ≤ g) w5 V2)
      case atStart => exact ⟨0, 0, none, 0, _, rfl, rfl, Nat.zero_le _, rfl, rfl, rfl, own_nilY _ _, Only.refl _ _⟩
      case round =>
        obtain ⟨q, s, a, cc, V2, hV2, rfl, hq, rfl, rfl, hs, hownV, hoV⟩ := hrel
        subst hV2
        have HV : Hid (V2.ownsRow w5.heap.size 5 1 (.slice a s cc) s (u8s (Dw.wrd C T la q)) ∧ Only (fun g => w5.heap.size ≤ g) w5 V2 ∧ Only (fun _ => False) w5 V2 ∧ s = (Dw.wrd C T la q).length) := ⟨hownV, hoV, hoV.old (fun g hg => Or.inl hg), hs⟩
        have hsl : s ≤ 4 * q := by rw [hs]; exact wrd_few C T la HL4.out q
        clear hownV hoV hs
        by_cases hlq : q < K
        · have u1 : (q : Int) < (K : Int) := by omega
          have hPv := (HLD.out V2 (H5'.out.1.trans HV.out.2.2.1)).pv
          have hTv := HTX.out V2 (H5'.out.1.trans HV.out.2.2.1)
          obtain ⟨z, hz⟩ : ∃ z, C[la + q]? = some z := ⟨_, List.getElem?_eq_getElem (by have := hPv.hn; omega)⟩
          obtain ⟨xp, xl, xc, xk, rfl, hxc, hxk⟩ := hPv.ok.nat hz
          have hfit := hTv.fit _ (List.mem_of_getElem? hz)
          simp only at hfit
          have HA : Hid (Sp.at' C (la + q) = ⟨xp, xl, (xc : Int), xk⟩) := at_some hz
          obtain ⟨gC', oC', eC, hg, c0, c1, c2, c3⟩ := hPv.vC.cluster (k := la + q) hz
          simp only at c0 c1 c2 c3
          injection eC with eC
          injection eC with eC3 eC4
          subst eC3 eC4
          rw [Nat.add_mul, ← Nat.add_assoc] at c0 c1 c2 c3
          clear hPv hz
          go_upto_region 12 with fail
          obtain ⟨B17, w6, hw6, hB17, H6, l17⟩ := box4 V2 (.int .i64 (xp : Int)) (.int .i64 (xl : Int)) (.int .i64 (xc : Int)) (.int .u8 (xk : Int)) 53
          rw [hw6, hB17]
          clear hw6 hB17 l17 c0 c1 c2 c3 hg
          obtain ⟨x0, x1, x2, x3⟩ := blk_four H6.out.1
          have l17 : B17 < w6.heap.size := (Array.getElem?_eq_some_iff.1 H6.out.1).1
          have HO6 : Hid (w6.ownsRow w5.heap.size 5 1 (.slice a s cc) s (u8s (Dw.wrd C T la q)) ∧ Only (fun g => w5.heap.size ≤ g) w5 w6 ∧ w5.heap.size ≤ w6.heap.size) := ⟨own_only HV.out.1 H6.out.2.1 (fun _ _ h => h), HV.out.2.1.trans (H6.out.2.1.mono (fun _ h => h.elim)), (HV.out.2.1.trans (H6.out.2.1.mono (fun _ h => h.elim))).size⟩
          have HWQ : Hid (Dw.wrd C T la (q + 1) = Dw.wrd C T la q ++ (if xk = 0 then (T.drop xp).take xl else [])) := by
            show Dw.wrd C T la q ++ (if (Sp.at' C (la + q)).kind = 0 then (T.drop (Sp.at' C (la + q)).pl).take (Sp.at' C (la + q)).len else []) = _
            rw [HA.out]
          by_cases hk0 : xk = 0
          · have u2 : ((xk : Int) == 0) = true := by rw [beq_iff_eq]; omega
            obtain ⟨M, hM⟩ : ∃ M, M = (T.drop xp).take xl := ⟨_, rfl⟩
            have hMl : xl = M.length := by rw [hM, List.length_take, List.length_drop, ← hTv.hn]; omega
            have hl4 : xl ≤ 4 := by have h := HL4.out (la + q); rw [HA.out] at h; exact h
            have HPM : Hid (Dw.wrd C T la (q + 1) = Dw.wrd C T la q ++ M) := by rw [HWQ.out, if_pos hk0, hM]; exact rfl
            obtain ⟨ye, hye⟩ : ∃ y, y = xp + xl := ⟨_, rfl⟩
            have m2 : IntKind.i64.wrap ((xp : Int) + (xl : Int)) = (ye : Int) := by rw [IntKind.wrap_i64]; omega
            have t5 : (xp : Int) ≤ (ye : Int) := by omega
            have t6 : (ye : Int) ≤ (cT : Int) := by omega
            obtain ⟨aS, haS⟩ : ∃ aS, (if cT = xp then aT else aT.map (fun x => x.add xp)) = aS := ⟨_, rfl⟩
            obtain ⟨s1, hs1⟩ : ∃ x, x = s + xl := ⟨_, rfl⟩
            have hs1l : s1 ≤ 1000000 := by omega
            have HVS : Hid (Vw w6 aS (u8s M) ∧ ye - xp = M.length ∧ s + (ye - xp) = s1) := by
              have hVT := (HTX.out w6 (H5'.out.1.trans (HV.out.2.2.1.trans H6.out.2.1))).vT
              refine ⟨?_, by omega, by omega⟩
              rw [← haS, hM]
              split
              · rename_i e
                have e0 : xl = 0 := by omega
                rw [e0, List.take_zero]
                exact Vw.nil _ _
              · exact vw_cutY hVT xp xl
            clear hM hMl hye hTv hs1 hk0 hfit hl4
            go_wp2_with (at_builtin; (refine wpList_appY rfl _ _ rfl w5.heap.size HO6.out.2.2 a s cc (Dw.wrd C T la q) rfl HO6.out.1 aS (ye - xp) (cT - xp) M rfl HVS.out.2.1 HVS.out.1 s1 HVS.out.2.2 hs1l ?_; intro a7 c7 w7 hown7 ho7; have H7 : Hid (w7.ownsRow w5.heap.size 5 1 (.slice a7 s1 c7) s1 (u8s (Dw.wrd C T la (q + 1))) ∧ Only (fun g => w5.heap.size ≤ g) w5 w7) := ⟨by rw [HPM.out]; exact hown7, HO6.out.2.1.trans (ho7.mono (fun g hg => (own_own HO6.out.1 hg).1))⟩; clear hown7 ho7))
            go_roundg (K - (q + 1))
            case measure => omega
            case rel => exact ⟨q + 1, s1, _, _, _, rfl, rfl, by omega, rfl, by go_num, own_len5 H7.out.1, H7.out.1, H7.out.2⟩
          · have u2 : ((xk : Int) == 0) = false := by rw [beq_eq_false_iff_ne]; omega
            have HPM : Hid (Dw.wrd C T la (q + 1) = Dw.wrd C T la q) := by rw [HWQ.out, if_neg hk0, List.append_nil]; exact rfl
            clear hTv hk0 hfit
            go_wp2_with fail
            go_roundg (K - (q + 1))
            case measure => omega
            case rel => exact ⟨q + 1, s, _, _, _, rfl, rfl, by omega, rfl, by go_num, by rw [HPM.out]; exact HV.out.2.2.2, by rw [HPM.out]; exact HO6.out.1, HO6.out.2.1⟩
        · have u1 : decide ((q : Int) < (K : Int)) = false := decide_eq_false (by omega)
          have hqK : q = K := by omega
          have HWA : Hid (∀ W', Only (fun _ => False) V2 W' → W'.ownsRow w5.heap.size 5 1 (.slice a s cc) s (u8s (L.filter ltr))) := fun W' ho => by
            have h := HV.out.1
            rw [hqK, HKE.out, ← HLL.out.2.1] at h
            exact own_only h ho (fun _ _ h => h)
          have HWL : Hid (s = (L.filter ltr).length) := own_len5 (HWA.out V2 (Only.refl _ _))
          have HV2 : Hid (Only (fun _ => False) W V2 ∧ Only (fun _ => False) V V2 ∧ Only (fun _ => False) Y V2 ∧ Only (fun _ => False) w3 V2) := ⟨H5'.out.2.1.trans HV.out.2.2.1, H5'.out.2.2.trans HV.out.2.2.1, H5'.out.1.trans HV.out.2.2.1, H5.out.trans HV.out.2.2.1⟩
          have hnot : ¬ q < K := hlq
          clear hqK hq HV hsl
          go_wp2_with fail
          go_loopg [15, 79] N (fun gh v15 v79 wr => ∃ (r s2 : Nat) (a2 : Option Addr) (cc2 : Nat) (V3 : World), V3 = wr ∧ gh = N - r ∧ r ≤ N ∧ v15 = .slice a2 s2 cc2 ∧ v79 = .int .i64 (r : Int) ∧ s2 = ((L.take r).filter ltr).length ∧ V3.ownsRow V2.heap.size 5 1 (.slice a2 s2 cc2) s2 (u8s ((L.take r).filter ltr)) ∧ Only (fun g => V2.heap.size ≤ g) V2 V3)
          case atStart => exact ⟨0, 0, none, 0, _, rfl, rfl, Nat.zero_le _, rfl, rfl, rfl, own_nilY _ _, Only.refl _ _⟩
          case round =>
            obtain ⟨r, s2, a2, cc2, V3, hV3, rfl, hr, rfl, rfl, hs2, hownV, hoV⟩ := hrel
            subst hV3
            have HU : Hid (V3.ownsRow V2.heap.size 5 1 (.slice a2 s2 cc2) s2 (u8s ((L.take r).filter ltr)) ∧ Only (fun g => V2.heap.size ≤ g) V2 V3 ∧ Only (fun _ => False) V2 V3 ∧ s2 = ((L.take r).filter ltr).length) := ⟨hownV, hoV, hoV.old (fun g hg => Or.inl hg), hs2⟩
            have hs2l : s2 ≤ N := by rw [hs2, HLL.out.1]; exact flt_le L r
            clear hownV hoV hs2
            by_cases hlr : r < N
            · have v1 : (r : Int) < (N : Int) := by omega
              obtain ⟨y, hy⟩ : ∃ y, L[r]? = some y := ⟨_, List.getElem?_eq_getElem (by rw [← HLL.out.1]; exact hlr)⟩
              obtain ⟨gr, or', er, hgr, hcr⟩ := vw_byte (HVI.out V3 (HV2.out.1.trans HU.out.2.2.1)) hy
              have HYL : Hid (L[r]? = some y) := hy
              subst er
              clear hy
              by_cases h32 : y = 32
              · have v2 : ((y : Int) != 32) = false := by simp; omega
                have HFL : Hid ((L.take (r + 1)).filter ltr = (L.take r).filter ltr) := flt_no HYL.out (Or.inl h32)
                clear h32
                go_wp2_with fail
                go_roundg (N - (r + 1))
                case measure => omega
                case rel => exact ⟨r + 1, s2, _, _, _, rfl, rfl, by omega, rfl, by go_num, by rw [HFL.out]; exact HU.out.2.2.2, by rw [HFL.out]; exact HU.out.1, HU.out.2.1⟩
              · have v2 : ((y : Int) != 32) = true := by simp; omega
                by_cases h45 : y = 45
                · have v3 : ((y : Int) != 45) = false := by simp; omega
                  have HFL : Hid ((L.take (r + 1)).filter ltr = (L.take r).filter ltr) := flt_no HYL.out (Or.inr h45)
                  clear h32 h45
                  go_wp2_with fail
                  go_roundg (N - (r + 1))
                  case measure => omega
                  case rel => exact ⟨r + 1, s2, _, _, _, rfl, rfl, by omega, rfl, by go_num, by rw [HFL.out]; exact HU.out.2.2.2, by rw [HFL.out]; exact HU.out.1, HU.out.2.1⟩
                · have v3 : ((y : Int) != 45) = true := by simp; omega
                  have HFL : Hid ((L.take (r + 1)).filter ltr = (L.take r).filter ltr ++ [y]) := flt_yes HYL.out h32 h45
                  obtain ⟨s3, hs3⟩ : ∃ s3, s2 + 1 = s3 := ⟨_, rfl⟩
                  have hs3l : s3 ≤ 1000000 := by omega
                  have HS3 : Hid (s2 + 1 = s3) := hs3
                  have HX : Hid ((V3.alloc (.cells #[.int .u8 (y : Int)] 5)).ownsRow V2.heap.size 5 1 (.slice a2 s2 cc2) s2 (u8s ((L.take r).filter ltr)) ∧ Only (fun g => V2.heap.size ≤ g) V2 (V3.alloc (.cells #[.int .u8 (y : Int)] 5)) ∧ V2.heap.size ≤ (V3.alloc (.cells #[.int .u8 (y : Int)] 5)).heap.size ∧ Vw (V3.alloc (.cells #[.int .u8 (y : Int)] 5)) (some ⟨V3.heap.size, 0, none⟩) (u8s [y])) := ⟨HU.out.1.alloc _, HU.out.2.1.alloc _, Nat.le_trans HU.out.2.1.size ((Only.refl (fun _ => False) V3).alloc _).size, vw_sign V3 y y rfl⟩
                  clear hs3 h32 h45
                  go_wp2_with (at_builtin; (refine wpList_appY rfl _ _ rfl V2.heap.size HX.out.2.2.1 a2 s2 cc2 ((L.take r).filter ltr) rfl HX.out.1 (some ⟨V3.heap.size, 0, none⟩) 1 1 [y] rfl rfl HX.out.2.2.2 s3 HS3.out hs3l ?_; intro a7 c7 w7 hown7 ho7; have H7 : Hid (w7.ownsRow V2.heap.size 5 1 (.slice a7 s3 c7) s3 (u8s ((L.take (r + 1)).filter ltr)) ∧ Only (fun g => V2.heap.size ≤ g) V2 w7) := ⟨by rw [HFL.out]; exact hown7, HX.out.2.1.trans (ho7.mono (fun g hg => (own_own HX.out.1 hg).1))⟩; clear hown7 ho7))
                  go_roundg (N - (r + 1))
                  case measure => omega
                  case rel => exact ⟨r + 1, s3, _, _, _, rfl, rfl, by omega, rfl, by go_num, own_len5 H7.out.1, H7.out.1, H7.out.2⟩
            · have v1 : decide ((r : Int) < (N : Int)) = false := decide_eq_false (by omega)
              have hrN : r = N := by omega
              obtain ⟨S, hSt⟩ : ∃ S, S = stY (L.filter ltr) := ⟨_, rfl⟩
              have cv1 : (convert 36 9 (.slice a2 s2 cc2)).run Try.prog V3 = .ok (.string S) V3 := by
                rw [hSt]
                have h := HU.out.1
                rw [hrN, HLL.out.1, List.take_length] at h
                exact str_any _ s2 cc2 a2 V3 (own_len5 h) (own_vw h)
              have cv2 : (convert 36 9 (.slice a s cc)).run Try.prog V3 = .ok (.string S) V3 := by
                rw [hSt]
                exact str_any _ s cc a V3 HWL.out (own_vw (HWA.out V3 HU.out.2.2.1))
              obtain ⟨⟨x0, x1, x2, x3⟩, l9⟩ := HL9.out V3 (HV2.out.2.2.2.trans HU.out.2.2.1)
              have HVV : Hid (Only (fun _ => False) V V3) := HV2.out.2.1.trans HU.out.2.2.1
              have hnot2 : ¬ r < N := hlr
              clear hrN hr hSt hs2l
              by_cases h3 : le = 3
              · have y1 : ((le : Int) == 3) = true := by rw [beq_iff_eq]; omega
                obtain ⟨F, hF⟩ := HLL.out.2.2 h3
                have hNF : N = F.length + 1 := by rw [HLL.out.1, hF, List.length_append]; rfl
                obtain ⟨n1, hn1⟩ : ∃ x, x = F.length := ⟨_, rfl⟩
                have y2 : ((N : Int) == 0) = false := by rw [beq_eq_false_iff_ne]; omega
                have y3 : IntKind.i64.wrap ((N : Int) - 1) = (n1 : Int) := by rw [IntKind.wrap_i64]; omega
                have y4 : (n1 : Int) < (N : Int) := by omega
                obtain ⟨gr, or', er, hgr, hcr⟩ := vw_byte (k := n1) (x := 45) (HVI.out V3 (HV2.out.1.trans HU.out.2.2.1)) (by rw [hF, hn1, List.getElem?_append_right (Nat.le_refl _), Nat.sub_self]; rfl)
                subst er
                clear hF hNF hn1 h3
                go_wp2_with fail
                go_roundg (nA - (i + 1))
                case measure => omega
                case rel => exact ⟨i + 1, _, rfl, rfl, by omega, by go_num, HVV.out⟩
              · have y1 : ((le : Int) == 3) = false := by rw [beq_eq_false_iff_ne]; omega
                clear h3
                go_wp2_with fail
                go_roundg (nA - (i + 1))
                case measure => omega
                case rel => exact ⟨i + 1, _, rfl, rfl, by omega, by go_num, HVV.out⟩
    · have t1 : decide ((i : Int) < (nA : Int)) = false := decide_eq_false (by omega)
      go_wp2_with fail
      go_ret
      exact ⟨rfl, HOY.out _ HG.out.2⟩
end Go.Proofs.Ytegoadhnilmchaa.drawWords
