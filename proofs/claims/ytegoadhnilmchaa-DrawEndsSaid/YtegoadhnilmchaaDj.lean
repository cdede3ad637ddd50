/-
  DrawEnds' walk.
-/
import Derived.Test.YtegoadhnilmchaaDz
import Derived.Test.YtegoadhnilmchaaVh
import Derived.Test.YtegoadhnilmchaaVc
namespace Go.Proofs.Ytegoadhnilmchaa.drawEnds
open Go.RowKit Go.Maps
set_option linter.unusedVariables false
set_option linter.unusedSimpArgs false
set_option maxRecDepth 100000 in
set_option maxHeartbeats 8000000 in
theorem walk (L0 : List Bt) (a0 : Option Addr) (c0 : Nat) (K : Wy) (w : World) (hV : Vw w a0 (btC L0)) (hB : ∀ b ∈ L0, b.cells < 256 ∧ b.kind < 256 ∧ b.len < 256 ∧ b.opp < 256) (hc : L0.length ≤ c0) (hm : c0 ≤ maxLen) (hK : K.Ok) :
    Calls Try.prog 6 #[.slice a0 L0.length c0, K.val] w fun e w' => e = .returned (.bool true) ∧ Only (fun _ => False) w w' := by
  have HMA : Hid (∀ W, Only (fun _ => False) w W → Calls Try.prog 8 #[.slice a0 L0.length c0, K.val] W fun e w' => ∃ (C : List Ct) (O : List Nat) (k : Nat) (aC aO : Option Addr) (cC cO : Nat) (A : List Ln) (nA : Nat) (aA : Option Addr) (cA W1 t hy pr lo : Nat) (T : List Nat) (nT : Nat) (aT : Option Addr) (cT : Nat), e = .returned (.tuple #[.agg #[.slice aC k cC, .slice aO (k + 1) cO], .slice aA nA cA, .agg #[.int .i64 (W1 : Int), .int .i64 (t : Int), .int .u8 0, .int .i64 (hy : Int), .int .i64 (pr : Int), .float .f64 lo], .slice aT nT cT]) ∧ Ld w' C O k aC aO cC cO A nA aA W1 t ∧ Ld2 w' L0 C T nT aT cT ∧ Only (fun _ => False) W w') := fun W ho => lined22_any L0 _ a0 c0 K W (hV.keep ho) hB rfl hc hm hK
  obtain ⟨nL, hnL⟩ : ∃ x, x = L0.length := ⟨_, rfl⟩
  rw [← hnL] at HMA ⊢
  obtain ⟨wi, tb, mo, hy0, pr0, lo0⟩ := K
  unfold Wy.val at HMA ⊢
  simp only at HMA ⊢
  clear hV hB hc hm hK hnL
  go_enter Try.func6, Try.ntmps6
  go_wp2_with fail
  obtain ⟨R, w0, hw0', hR, H0, lR⟩ := box6 w (.int .u8 (wi : Int)) (.int .u8 (tb : Int)) (.int .u8 (mo : Int)) (.int .u16 (hy0 : Int)) (.int .u16 (pr0 : Int)) (.float .f64 lo0) 26
  rw [hw0', hR]
  clear hw0' hR
  refine Calls.mono (awake22_any _) ?_
  rintro e w2 ⟨rfl, ho2⟩
  have H2 : Hid (w2.heap[R]? = some (.cells #[.int .u8 (wi : Int), .int .u8 (tb : Int), .int .u8 (mo : Int), .int .u16 (hy0 : Int), .int .u16 (pr0 : Int), .float .f64 lo0] 26 (0, 0)) ∧ Only (fun _ => False) w w2) := ⟨blk_keep ho2 H0.out.1, H0.out.2.1.trans ho2⟩
  clear ho2 lR H0
  obtain ⟨r0, r1, r2, r3, r4, r5⟩ := blk_six H2.out.1
  have lR : R < w2.heap.size := (Array.getElem?_eq_some_iff.1 H2.out.1).1
  go_wp2_with fail
  refine Calls.mono (HMA.out _ H2.out.2) ?_
  rintro e X ⟨C, O, k, aC, aO, cC, cO, A, nA, aA, cA, W1, t, hy, pr, lo, T, nT, aT, cT, rfl, hld, hld2, hoX⟩
  have HX : Hid (Ld X C O k aC aO cC cO A nA aA W1 t ∧ Only (fun _ => False) w X ∧ Ld2 X L0 C T nT aT cT) := ⟨hld, H2.out.2.trans hoX, hld2⟩
  have hk : k ≤ 100 := hld.few
  have hnA : nA ≤ k := by have := hld.chn.len; rw [hld.hA]; omega
  have hw1 : W1 ≤ 256 := hld.w1
  have ht0 : 0 < t := hld.t0
  have ht1 : t ≤ 64 := hld.t1
  have hnT : nT ≤ 400 := hld2.few
  have hTc : nT ≤ cT := hld2.txt.cap
  have hTm : cT ≤ 9223372036854775807 := by have := hld2.txt.capm; unfold maxLen at this; exact this
  have HOK : Hid (∀ full, ∀ l ∈ A, Okl C T k t W1 full l ∧ (Dw.row C T t W1 l.a l.b l.e full).length ≤ 10000) := fun full => okl_any hld hld2 full
  clear hld hld2 hoX r0 r1 r2 r3 r4 r5 lR HMA
  go_upto_region 4 with fail
  obtain ⟨B5, B6, Y0, hY0, hB6, hB5, HY0, l56, l6, l7⟩ := box26 X (.slice aC k cC) (.slice aO (k + 1) cO) (.int .i64 (W1 : Int)) (.int .i64 (t : Int)) (.int .u8 0) (.int .i64 (hy : Int)) (.int .i64 (pr : Int)) (.float .f64 0) 31 35
  rw [hY0, hB6, hB5]
  have HBL : Hid (B5 ≠ B6 ∧ X.heap.size ≤ B6) := ⟨by omega, l6⟩
  clear hY0 hB6 hB5 l56 l6
  have fd := fz_blk HY0.out.2.1 5
  obtain ⟨q0, q1, q2, q3, q4, q5⟩ := blk_six HY0.out.2.1
  rw [run_store _ _ _ _ _ rfl]
  go_simp
  go_upto_region 4 with fail
  obtain ⟨Y, hY⟩ : ∃ Y, Y = Y0.setCell ⟨B6, 5, none⟩ (.float .f64 lo) := ⟨_, rfl⟩
  rw [← hY]
  have e1 : Y = Y0.setRow B6 #[.int .i64 (W1 : Int), .int .i64 (t : Int), .int .u8 0, .int .i64 (hy : Int), .int .i64 (pr : Int), .float .f64 lo] := by rw [hY, setCell_eq_setRow _ _ _ _ _ _ _ HY0.out.2.1]; rfl
  have HY : Hid (Y.heap[B5]? = some (.cells #[.slice aC k cC, .slice aO (k + 1) cO] 31 (0, 0)) ∧ Y.heap[B6]? = some (.cells #[.int .i64 (W1 : Int), .int .i64 (t : Int), .int .u8 0, .int .i64 (hy : Int), .int .i64 (pr : Int), .float .f64 lo] 35 (0, 0)) ∧ Only (fun _ => False) X Y) := by
    rw [e1]
    exact ⟨far_blk (Only.setRow _ _ _) HY0.out.1 HBL.out.1, setRow_heap _ _ _ _ _ _ HY0.out.2.1, HY0.out.2.2.setRowNew HBL.out.2 _⟩
  clear hY e1 q0 q1 q2 q3 q4 q5 fd l7 HY0 HBL
  have HLD : Hid (∀ W', Only (fun _ => False) Y W' → Ld W' C O k aC aO cC cO A nA aA W1 t) := fun W' ho => HX.out.1.keep (HY.out.2.2.trans ho)
  have HTX : Hid (∀ W', Only (fun _ => False) Y W' → Txt W' C T nT aT cT) := fun W' ho => HX.out.2.2.txt.keep (HY.out.2.2.trans ho)
  have HTB : Hid ((∀ x ∈ T, 97 ≤ x ∧ x ≤ 122) ∧ ∀ z ∈ C, ∃ b ∈ L0, z.len = 1 + b.len % 4 ∧ z.cells = ((b.cells % 3 : Nat) : Int)) := ⟨HX.out.2.2.big, HX.out.2.2.of⟩
  have HOY : Hid (∀ W', Only (fun _ => False) Y W' → Only (fun _ => False) w W') := fun W' ho => HX.out.2.1.trans (HY.out.2.2.trans ho)
  have HS : Hid (∀ W', Only (fun _ => False) Y W' → ((W'.cell? ⟨B5, 0, none⟩ = some (.slice aC k cC) ∧ W'.cell? ⟨B5, 1, none⟩ = some (.slice aO (k + 1) cO)) ∧ (W'.cell? ⟨B6, 0, none⟩ = some (.int .i64 (W1 : Int)) ∧ W'.cell? ⟨B6, 1, none⟩ = some (.int .i64 (t : Int)) ∧ W'.cell? ⟨B6, 2, none⟩ = some (.int .u8 0) ∧ W'.cell? ⟨B6, 3, none⟩ = some (.int .i64 (hy : Int)) ∧ W'.cell? ⟨B6, 4, none⟩ = some (.int .i64 (pr : Int)) ∧ W'.cell? ⟨B6, 5, none⟩ = some (.float .f64 lo))) ∧ B5 < W'.heap.size ∧ B6 < W'.heap.size) := fun W' ho => by
    have e5 := blk_keep ho HY.out.1
    have e6 := blk_keep ho HY.out.2.1
    exact ⟨⟨⟨(blk_two e5).1, (blk_two e5).2.1⟩, blk_six e6⟩, (blk_two e5).2.2, (Array.getElem?_eq_some_iff.1 e6).1⟩
  clear HX HY H2
  have HAF : Hid (∀ W', Only (fun _ => False) Y W' → Calls Try.prog 9 #[.slice aT nT cT, .agg #[.slice aC k cC, .slice aO (k + 1) cO], .slice aA nA cA, .agg #[.int .i64 (W1 : Int), .int .i64 (t : Int), .int .u8 0, .int .i64 (hy : Int), .int .i64 (pr : Int), .float .f64 lo], .bool false] W' fun e w' => ∃ b, e = .returned (.slice (some ⟨b, 0, none⟩) nA nA) ∧ Rws w' b (A.map fun l => Dw.row C T t W1 l.a l.b l.e false) ∧ Only (fun _ => False) W' w') := fun W' ho => by
    have h := HLD.out W' ho
    exact all_any C O T A k (k + 1) nT cT nA cA aC aO aT aA cC cO W1 t 0 hy pr lo _ W' h.pv (HTX.out W' ho) h.hA h.vA (by omega) (fun l hl => (HOK.out _ l hl).1) (by omega) ht0 (by omega)
  have HAT : Hid (∀ W', Only (fun _ => False) Y W' → Calls Try.prog 9 #[.slice aT nT cT, .agg #[.slice aC k cC, .slice aO (k + 1) cO], .slice aA nA cA, .agg #[.int .i64 (W1 : Int), .int .i64 (t : Int), .int .u8 0, .int .i64 (hy : Int), .int .i64 (pr : Int), .float .f64 lo], .bool true] W' fun e w' => ∃ b, e = .returned (.slice (some ⟨b, 0, none⟩) nA nA) ∧ Rws w' b (A.map fun l => Dw.row C T t W1 l.a l.b l.e true) ∧ Only (fun _ => False) W' w') := fun W' ho => by
    have h := HLD.out W' ho
    exact all_any C O T A k (k + 1) nT cT nA cA aC aO aT aA cC cO W1 t 0 hy pr lo _ W' h.pv (HTX.out W' ho) h.hA h.vA (by omega) (fun l hl => (HOK.out _ l hl).1) (by omega) ht0 (by omega)
  obtain ⟨⟨⟨r0, r1⟩, k0, k1, k2, k3, k4, k5⟩, l5, l6⟩ := HS.out Y (Only.refl _ _)
  go_region_held3 (fun W' => ((W'.cell? ⟨B5, 0, none⟩ = some (.slice aC k cC) ∧ W'.cell? ⟨B5, 1, none⟩ = some (.slice aO (k + 1) cO)) ∧ (W'.cell? ⟨B6, 0, none⟩ = some (.int .i64 (W1 : Int)) ∧ W'.cell? ⟨B6, 1, none⟩ = some (.int .i64 (t : Int)) ∧ W'.cell? ⟨B6, 2, none⟩ = some (.int .u8 0) ∧ W'.cell? ⟨B6, 3, none⟩ = some (.int .i64 (hy : Int)) ∧ W'.cell? ⟨B6, 4, none⟩ = some (.int .i64 (pr : Int)) ∧ W'.cell? ⟨B6, 5, none⟩ = some (.float .f64 lo))) ∧ B5 < W'.heap.size ∧ B6 < W'.heap.size ∧ Hid (Only (fun _ => False) Y W')) ((first | exact ⟨(HS.out _ (Only.refl _ _).drew).1, (HS.out _ (Only.refl _ _).drew).2.1, (HS.out _ (Only.refl _ _).drew).2.2, (Only.refl _ _).drew⟩ | exact ⟨(HS.out _ H4.out.2.2.1).1, (HS.out _ H4.out.2.2.1).2.1, (HS.out _ H4.out.2.2.1).2.2, H4.out.2.2.1⟩ | exact ⟨(HS.out _ H3.out.2).1, (HS.out _ H3.out.2).2.1, (HS.out _ H3.out.2).2.2, H3.out.2⟩)) ((first | (have hgd := H3.out; go_at_call 9; refine Calls.mono (HAT.out _ (Hid.out (And.right (And.right (And.right (by assumption)))))) ?_; rintro e w4 ⟨b2, rfl, hR2, ho4⟩; have H4 : Hid (Rws w4 b1 (A.map fun l => Dw.row C T t W1 l.a l.b l.e false) ∧ Rws w4 b2 (A.map fun l => Dw.row C T t W1 l.a l.b l.e true) ∧ Only (fun _ => False) Y w4 ∧ True) := ⟨H3.out.1.keep ho4, hR2, H3.out.2.trans ho4, trivial⟩; clear hR2 ho4) | (go_at_call 9; refine Calls.mono (HAF.out _ (Hid.out (And.right (And.right (And.right (by assumption)))))) ?_; rintro e w3 ⟨b1, rfl, hR1, ho3⟩; have H3 : Hid (Rws w3 b1 (A.map fun l => Dw.row C T t W1 l.a l.b l.e false) ∧ Only (fun _ => False) Y w3) := ⟨hR1, Only.trans (Hid.out (And.right (And.right (And.right (by assumption))))) ho3⟩; clear hR1 ho3)))
  have HB0 : Hid (Only (fun _ => False) Y w4) := H4.out.2.2.1
  have HRS : Hid (∀ W', Only (fun _ => False) w4 W' → Rws W' b1 (A.map fun l => Dw.row C T t W1 l.a l.b l.e false) ∧ Rws W' b2 (A.map fun l => Dw.row C T t W1 l.a l.b l.e true)) := fun W' ho => ⟨H4.out.1.keep ho, H4.out.2.1.keep ho⟩
  clear H3 H4
  go_wp2_with fail
  clear r0 r1 k0 k1 k2 k3 k4 k5 l5 l6
  go_loopg [48] nA (fun gh vi wr => ∃ (i : Nat) (W : World), W = wr ∧ gh = nA - i ∧ i ≤ nA ∧ vi = .int .i64 (i : Int) ∧ Only (fun _ => False) w4 W)
  case atStart => exact ⟨0, _, rfl, rfl, Nat.zero_le _, rfl, Only.refl _ _⟩
  case round =>
    obtain ⟨i, W, hW, rfl, hi, rfl, hoW⟩ := hrel
    subst hW
    have HG : Hid (Only (fun _ => False) w4 W ∧ Only (fun _ => False) Y W) := ⟨hoW, HB0.out.trans hoW⟩
    clear hoW
    by_cases hlt : i < nA
    · have t1 : (i : Int) < (nA : Int) := by omega
      have hld := HLD.out W HG.out.2
      obtain ⟨z, hz⟩ : ∃ z, A[i]? = some z := ⟨_, List.getElem?_eq_getElem (by rw [← hld.hA]; exact hlt)⟩
      obtain ⟨g, off, eg, hg, d0, d1, d2, d3⟩ := hld.vA.line (k := i) hz
      have hz1 := hld.chn.line hz
      have hz2 := hld.lnk z (List.mem_of_getElem? hz)
      have HZO : Hid (∀ full, Okl C T k t W1 full z ∧ (Dw.row C T t W1 z.a z.b z.e full).length ≤ 10000) := fun full => HOK.out full z (List.mem_of_getElem? hz)
      have HMP : Hid (∀ full, (A.map fun l => Dw.row C T t W1 l.a l.b l.e full)[i]? = some (Dw.row C T t W1 z.a z.b z.e full)) := fun full => by rw [List.getElem?_map, hz]; rfl
      unfold Lv.Lnk at hz2
      obtain ⟨la, lb, lc, le⟩ := z
      simp only at d0 d1 d2 d3 hz1 hz2 HZO HMP
      have hab : la < lb := hz1.1
      have hbk : lb ≤ k := hz1.2
      have hle : le < 256 := hz2.2
      have HLC : Hid (lc = Sp.wde C t la lb le) := hz2.1
      subst eg
      clear hz hz1 hz2 hld
      go_upto_region 10 with fail
      obtain ⟨B9, w3, hw3, hB9, H3, l9⟩ := box4 W (.int .i64 (la : Int)) (.int .i64 (lb : Int)) (.int .i64 (lc : Int)) (.int .u8 (le : Int)) 43
      rw [hw3, hB9]
      clear hw3 hB9 l9 d0 d1 d2 d3 hg
      have H3' : Hid (Only (fun _ => False) Y w3 ∧ Only (fun _ => False) w4 w3) := ⟨HG.out.2.trans H3.out.2.1, HG.out.1.trans H3.out.2.1⟩
      have HL9 : Hid (∀ W', Only (fun _ => False) w3 W' → (W'.cell? ⟨B9, 0, none⟩ = some (.int .i64 (la : Int)) ∧ W'.cell? ⟨B9, 1, none⟩ = some (.int .i64 (lb : Int)) ∧ W'.cell? ⟨B9, 2, none⟩ = some (.int .i64 (lc : Int)) ∧ W'.cell? ⟨B9, 3, none⟩ = some (.int .u8 (le : Int))) ∧ B9 < W'.heap.size) := fun W' ho => by
        have e := blk_keep ho H3.out.1
        exact ⟨blk_four e, (Array.getElem?_eq_some_iff.1 e).1⟩
      obtain ⟨⟨⟨r0, r1⟩, k0, k1, k2, k3, k4, k5⟩, l5, l6⟩ := HS.out w3 H3'.out.1
      obtain ⟨⟨x0, x1, x2, x3⟩, l9⟩ := HL9.out w3 (Only.refl _ _)
      obtain ⟨a1, e1, hc1, -, -, hV1⟩ := (HRS.out w3 H3'.out.2).1 i _ (HMP.out false)
      obtain ⟨a2, e2, hc2, -, -, hV2⟩ := (HRS.out w3 H3'.out.2).2 i _ (HMP.out true)
      have lb1 : b1 < w3.heap.size := World.block_lt_of_cell? w3 ⟨b1, i, none⟩ hc1
      have lb2 : b2 < w3.heap.size := World.block_lt_of_cell? w3 ⟨b2, i, none⟩ hc2
      have hLE := Dw.row_le C T t W1 la lb le
      obtain ⟨L1, hL1⟩ : ∃ L, L = Dw.row C T t W1 la lb le false := ⟨_, rfl⟩
      obtain ⟨L2, hL2⟩ : ∃ L, L = Dw.row C T t W1 la lb le true := ⟨_, rfl⟩
      have HEQ : Hid (le = 2 ∨ le = 4 → L2 = L1) := fun h => by rw [hL1, hL2]; exact Dw.row_same C T t W1 la lb le h
      rw [← hL1] at hc1 hV1 hLE
      rw [← hL2] at hc2 hV2 hLE
      obtain ⟨N1, hN1⟩ : ∃ N, N = L1.length := ⟨_, rfl⟩
      obtain ⟨N2, hN2⟩ : ∃ N, N = L2.length := ⟨_, rfl⟩
      rw [← hN1] at hc1 hLE
      rw [← hN2] at hc2 hLE
      have HCV : Hid ((∀ m, (convert 36 9 (.slice a1 N1 e1)).run Try.prog (w3.drewN m) = .ok (.string (stY L1)) (w3.drewN m)) ∧ (∀ m, (convert 36 9 (.slice a2 N2 e2)).run Try.prog (w3.drewN m) = .ok (.string (stY L2)) (w3.drewN m))) := ⟨fun m => str_any _ N1 e1 a1 _ hN1 (hV1.keep ((Only.refl _ _).drewN m)), fun m => str_any _ N2 e2 a2 _ hN2 (hV2.keep ((Only.refl _ _).drewN m))⟩
      have v1 : decide ((N2 : Int) < (N1 : Int)) = false := decide_eq_false (by omega)
      have v1n : decide (N2 < N1) = false := decide_eq_false (by omega)
      clear hV1 hV2 hL1 hL2 hN1 hN2
      have HO3 : Hid (Only (fun _ => False) w4 w3) := H3'.out.2
      by_cases hs : le = 2 ∨ le = 4
      · have e12 : L2 = L1 := HEQ.out hs
        obtain ⟨S, hS⟩ : ∃ S, S = stY L1 := ⟨_, rfl⟩
        have cv1 : ∀ m, (convert 36 9 (.slice a1 N1 e1)).run Try.prog (w3.drewN m) = .ok (.string S) (w3.drewN m) := fun m => by rw [hS]; exact HCV.out.1 m
        have cv2 : ∀ m, (convert 36 9 (.slice a2 N2 e2)).run Try.prog (w3.drewN m) = .ok (.string S) (w3.drewN m) := fun m => by rw [hS, ← e12]; exact HCV.out.2 m
        clear e12 hS
        rcases hs with hs | hs
        · subst hs
          go_wp2_with fail
          go_quiet (fail)
          go_wp2_with fail
          go_roundg (nA - (i + 1))
          case measure => omega
          case rel => exact ⟨i + 1, _, rfl, rfl, by omega, by go_num, HO3.out.drewN _⟩
        · subst hs
          go_wp2_with fail
          go_quiet (fail)
          go_wp2_with fail
          go_roundg (nA - (i + 1))
          case measure => omega
          case rel => exact ⟨i + 1, _, rfl, rfl, by omega, by go_num, HO3.out.drewN _⟩
      · have u2 : ((le : Int) == 2) = false := by rw [beq_eq_false_iff_ne]; omega
        have u4 : ((le : Int) == 4) = false := by rw [beq_eq_false_iff_ne]; omega
        clear hs
        go_wp2_with fail
        go_quiet (fail)
        go_wp2_with fail
        go_roundg (nA - (i + 1))
        case measure => omega
        case rel => exact ⟨i + 1, _, rfl, rfl, by omega, by go_num, HO3.out.drewN _⟩
    · have t1 : decide ((i : Int) < (nA : Int)) = false := decide_eq_false (by omega)
      go_wp2_with fail
      go_ret
      exact ⟨rfl, HOY.out _ HG.out.2⟩
end Go.Proofs.Ytegoadhnilmchaa.drawEnds
