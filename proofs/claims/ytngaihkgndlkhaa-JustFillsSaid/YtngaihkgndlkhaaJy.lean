/-
  stanzalaw18.JustFills: its walk.
-/
import Derived.Test.YtngaihkgndlkhaaJl
import Derived.Test.YtngaihkgndlkhaaJi
namespace Go.Proofs.Ytngaihkgndlkhaa.justFills
open Go.RowKit Go.Maps
set_option linter.unusedVariables false
set_option linter.unusedSimpArgs false
theorem sum_take_le (L : List Nat) (j : Nat) : Sd.sum (L.take j) ≤ Sd.sum L := by
  have h := Sd.sum_append (L.take j) (L.drop j)
  rw [List.take_append_drop] at h
  omega
theorem wid_at (C : List Ct) (t W a b e j : Nat) (h : j < Sp.tr C a (b - a) - a) : (Sd.wid C t W a b e).getD j 0 = Sd.wj C t a (Sd.mre C t W a b e) j := by
  unfold Sd.wid
  rw [List.getD_eq_getElem?_getD, List.getElem?_map, List.getElem?_range h]
  rfl
theorem wid_kind (C : List Ct) (t W a b e j : Nat) (h : j < Sp.tr C a (b - a) - a) (xp xl xc xk : Nat) (hz : Sp.at' C (a + j) = ⟨xp, xl, (xc : Int), xk⟩) : (xk = 1 → xc ≤ (Sd.wid C t W a b e).getD j 0) ∧ (xk = 0 → (Sd.wid C t W a b e).getD j 0 = xc) := by
  rw [wid_at C t W a b e j h]
  have hp := fun h2 => Sd.wj_plain C t a (Sd.mre C t W a b e) j h2
  rw [hz] at hp
  simp only at hp
  refine ⟨fun h1 => ?_, fun h1 => ?_⟩
  · have := hp (by omega)
    rw [this]
    exact Nat.le_add_right _ _
  · have := hp (by omega)
    rw [this, if_neg (by omega)]
    exact rfl
set_option maxRecDepth 100000 in
set_option maxHeartbeats 8000000 in
theorem walk (L0 : List Bt) (a0 : Option Addr) (c0 : Nat) (K : Wy) (w : World) (hV : Vw w a0 (btC L0)) (hB : ∀ b ∈ L0, b.cells < 256 ∧ b.kind < 256 ∧ b.len < 256 ∧ b.opp < 256) (hc : L0.length ≤ c0) (hm : c0 ≤ maxLen) (hK : K.Ok) :
    Calls Try.prog 6 #[.slice a0 L0.length c0, K.val] w fun e w' => e = .returned (.bool true) ∧ Only (fun _ => False) w w' := by
  have HMA : Hid (∀ W, Only (fun _ => False) w W → Calls Try.prog 12 #[.slice a0 L0.length c0, K.val] W fun e w' => ∃ (C : List Ct) (O : List Nat) (k : Nat) (aC aO : Option Addr) (cC cO : Nat) (A : List Ln) (nA : Nat) (aA : Option Addr) (cA W1 t hy pr lo : Nat), e = .returned (.tuple #[.agg #[.slice aC k cC, .slice aO (k + 1) cO], .slice aA nA cA, .agg #[.int .i64 (W1 : Int), .int .i64 (t : Int), .int .u8 0, .int .i64 (hy : Int), .int .i64 (pr : Int), .float .f64 lo]]) ∧ Ld w' C O k aC aO cC cO A nA aA W1 t ∧ Only (fun _ => False) W w') := fun W ho => lined18_any L0 _ a0 c0 K W (hV.keep ho) hB rfl hc hm hK
  obtain ⟨nL, hnL⟩ : ∃ x, x = L0.length := ⟨_, rfl⟩
  rw [← hnL] at HMA ⊢
  obtain ⟨wi, tb, mo, hy0, pr0, lo0⟩ := K
  unfold Wy.val at HMA ⊢
  simp only at HMA ⊢
  clear hV hB hc hm hK hnL
  go_enter Try.func6, Try.ntmps6
  go_wp2_with fail
  obtain ⟨R, w0, hw0', hR, H0, lR⟩ := box6 w (.int .u8 (wi : Int)) (.int .u8 (tb : Int)) (.int .u8 (mo : Int)) (.int .u16 (hy0 : Int)) (.int .u16 (pr0 : Int)) (.float .f64 lo0) 33
  rw [hw0', hR]
  clear hw0' hR
  refine Calls.mono (awake18_any _) ?_
  rintro e w2 ⟨rfl, ho2⟩
  have H2 : Hid (w2.heap[R]? = some (.cells #[.int .u8 (wi : Int), .int .u8 (tb : Int), .int .u8 (mo : Int), .int .u16 (hy0 : Int), .int .u16 (pr0 : Int), .float .f64 lo0] 33 (0, 0)) ∧ Only (fun _ => False) w w2) := ⟨blk_keep ho2 H0.out.1, H0.out.2.1.trans ho2⟩
  clear ho2 lR H0
  obtain ⟨r0, r1, r2, r3, r4, r5⟩ := blk_six H2.out.1
  have lR : R < w2.heap.size := (Array.getElem?_eq_some_iff.1 H2.out.1).1
  go_wp2_with fail
  refine Calls.mono (HMA.out _ H2.out.2) ?_
  rintro e X ⟨C, O, k, aC, aO, cC, cO, A, nA, aA, cA, W1, t, hy, pr, lo, rfl, hld, hoX⟩
  have HX : Hid (Ld X C O k aC aO cC cO A nA aA W1 t ∧ Only (fun _ => False) w X) := ⟨hld, H2.out.2.trans hoX⟩
  have hk : k ≤ 100 := hld.few
  have hnA : nA ≤ k := by have := hld.chn.len; rw [hld.hA]; omega
  have hw1 : W1 ≤ 256 := hld.w1
  have ht0 : 0 < t := hld.t0
  have ht1 : t ≤ 64 := hld.t1
  clear hld hoX r0 r1 r2 r3 r4 r5 lR HMA
  go_upto_region 4 with fail
  obtain ⟨B5, B6, Y0, hY0, hB6, hB5, HY0, l56, l6, l7⟩ := box26 X (.slice aC k cC) (.slice aO (k + 1) cO) (.int .i64 (W1 : Int)) (.int .i64 (t : Int)) (.int .u8 0) (.int .i64 (hy : Int)) (.int .i64 (pr : Int)) (.float .f64 0) 37 41
  rw [hY0, hB6, hB5]
  have HBL : Hid (B5 ≠ B6 ∧ X.heap.size ≤ B6) := ⟨by omega, l6⟩
  clear hY0 hB6 hB5 l56 l6
  have fd := fz_blk HY0.out.2.1 5
  obtain ⟨q0, q1, q2, q3, q4, q5⟩ := blk_six HY0.out.2.1
  rw [run_store _ _ _ _ _ rfl]
  go_simp
  go_upto_region 4 with fail
  obtain ⟨Y, hY⟩ : ∃ Y, Y = Y0.setCell ⟨B6, 5, none⟩ (.float .f64 lo) := ⟨_, rfl⟩
  rw [← hY]
  have e1 : Y = Y0.setRow B6 #[.int .i64 (W1 : Int), .int .i64 (t : Int), .int .u8 0, .int .i64 (hy : Int), .int .i64 (pr : Int), .float .f64 lo] := by rw [hY, setCell_eq_setRow _ _ _ _ _ _ _ HY0.out.2.1]; rfl
  have HY : Hid (Y.heap[B5]? = some (.cells #[.slice aC k cC, .slice aO (k + 1) cO] 37 (0, 0)) ∧ Y.heap[B6]? = some (.cells #[.int .i64 (W1 : Int), .int .i64 (t : Int), .int .u8 0, .int .i64 (hy : Int), .int .i64 (pr : Int), .float .f64 lo] 41 (0, 0)) ∧ Only (fun _ => False) X Y) := by
    rw [e1]
    exact ⟨far_blk (Only.setRow _ _ _) HY0.out.1 HBL.out.1, setRow_heap _ _ _ _ _ _ HY0.out.2.1, HY0.out.2.2.setRowNew HBL.out.2 _⟩
  clear hY e1 q0 q1 q2 q3 q4 q5 fd l7 HY0 HBL
  have HLD : Hid (∀ W', Only (fun _ => False) Y W' → Ld W' C O k aC aO cC cO A nA aA W1 t) := fun W' ho => HX.out.1.keep (HY.out.2.2.trans ho)
  have HOY : Hid (∀ W', Only (fun _ => False) Y W' → Only (fun _ => False) w W') := fun W' ho => HX.out.2.trans (HY.out.2.2.trans ho)
  have HS : Hid (∀ W', Only (fun _ => False) Y W' → ((W'.cell? ⟨B5, 0, none⟩ = some (.slice aC k cC) ∧ W'.cell? ⟨B5, 1, none⟩ = some (.slice aO (k + 1) cO)) ∧ (W'.cell? ⟨B6, 0, none⟩ = some (.int .i64 (W1 : Int)) ∧ W'.cell? ⟨B6, 1, none⟩ = some (.int .i64 (t : Int)) ∧ W'.cell? ⟨B6, 2, none⟩ = some (.int .u8 0) ∧ W'.cell? ⟨B6, 3, none⟩ = some (.int .i64 (hy : Int)) ∧ W'.cell? ⟨B6, 4, none⟩ = some (.int .i64 (pr : Int)) ∧ W'.cell? ⟨B6, 5, none⟩ = some (.float .f64 lo))) ∧ B5 < W'.heap.size ∧ B6 < W'.heap.size) := fun W' ho => by
    have e5 := blk_keep ho HY.out.1
    have e6 := blk_keep ho HY.out.2.1
    exact ⟨⟨⟨(blk_two e5).1, (blk_two e5).2.1⟩, blk_six e6⟩, (blk_two e5).2.2, (Array.getElem?_eq_some_iff.1 e6).1⟩
  clear HX HY H2
  have HLI : Hid (∀ W' (la lb lc le : Nat), Only (fun _ => False) Y W' → la < lb → lb ≤ k → le < 256 → Calls Try.prog 13 #[.agg #[.slice aC k cC, .slice aO (k + 1) cO], .agg #[.int .i64 (la : Int), .int .i64 (lb : Int), .int .i64 (lc : Int), .int .u8 (le : Int)], .agg #[.int .i64 (W1 : Int), .int .i64 (t : Int), .int .u8 0, .int .i64 (hy : Int), .int .i64 (pr : Int), .float .f64 lo]] W' (nlN (Sd.wid C t W1 la lb le) (Sp.tr C la (lb - la) - la) W')) := fun W' la lb lc le ho h1 h2 h3 => line_any C O k (k + 1) aC aO cC cO la lb lc le W1 t 0 hy pr lo W' (HLD.out W' ho).pv h1 h2 h3 (by omega) ht0 (by omega)
  unfold nlN at HLI
  go_wp2_with fail
  go_loopg [28] nA (fun gh vi wr => ∃ (i : Nat) (W : World), W = wr ∧ gh = nA - i ∧ i ≤ nA ∧ vi = .int .i64 (i : Int) ∧ Only (fun _ => False) Y W)
  case atStart => exact ⟨0, _, rfl, rfl, Nat.zero_le _, rfl, Only.refl _ _⟩
  case round =>
    obtain ⟨i, W, hW, rfl, hi, rfl, hoW⟩ := hrel
    subst hW
    have HG : Hid (Only (fun _ => False) Y W) := hoW
    clear hoW
    by_cases hlt : i < nA
    · have t1 : (i : Int) < (nA : Int) := by omega
      have hld := HLD.out W HG.out
      obtain ⟨z, hz⟩ : ∃ z, A[i]? = some z := ⟨_, List.getElem?_eq_getElem (by rw [← hld.hA]; exact hlt)⟩
      obtain ⟨g, off, eg, hg, d0, d1, d2, d3⟩ := hld.vA.line (k := i) hz
      have hz1 := hld.chn.line hz
      have hz2 := hld.lnk z (List.mem_of_getElem? hz)
      unfold Lv.Lnk at hz2
      obtain ⟨la, lb, lc, le⟩ := z
      simp only at d0 d1 d2 d3 hz1 hz2
      have hab : la < lb := hz1.1
      have hbk : lb ≤ k := hz1.2
      have hle : le < 256 := hz2.2
      have HLC : Hid (lc = Sp.wde C t la lb le) := hz2.1
      subst eg
      clear hz hz1 hz2 hld
      go_upto_region 7 with fail
      obtain ⟨B9, w3, hw3, hB9, H3, l9⟩ := box4 W (.int .i64 (la : Int)) (.int .i64 (lb : Int)) (.int .i64 (lc : Int)) (.int .u8 (le : Int)) 46
      rw [hw3, hB9]
      clear hw3 hB9 l9 d0 d1 d2 d3 hg
      have H3' : Hid (Only (fun _ => False) Y w3) := HG.out.trans H3.out.2.1
      have HL9 : Hid (∀ W', Only (fun _ => False) w3 W' → (W'.cell? ⟨B9, 0, none⟩ = some (.int .i64 (la : Int)) ∧ W'.cell? ⟨B9, 1, none⟩ = some (.int .i64 (lb : Int)) ∧ W'.cell? ⟨B9, 2, none⟩ = some (.int .i64 (lc : Int)) ∧ W'.cell? ⟨B9, 3, none⟩ = some (.int .u8 (le : Int))) ∧ B9 < W'.heap.size) := fun W' ho => by
        have e := blk_keep ho H3.out.1
        exact ⟨blk_four e, (Array.getElem?_eq_some_iff.1 e).1⟩
      have HSL : Hid (∀ W', Only (fun _ => False) w3 W' → ((W'.cell? ⟨B5, 0, none⟩ = some (.slice aC k cC) ∧ W'.cell? ⟨B5, 1, none⟩ = some (.slice aO (k + 1) cO)) ∧ (W'.cell? ⟨B6, 0, none⟩ = some (.int .i64 (W1 : Int)) ∧ W'.cell? ⟨B6, 1, none⟩ = some (.int .i64 (t : Int)) ∧ W'.cell? ⟨B6, 2, none⟩ = some (.int .u8 0) ∧ W'.cell? ⟨B6, 3, none⟩ = some (.int .i64 (hy : Int)) ∧ W'.cell? ⟨B6, 4, none⟩ = some (.int .i64 (pr : Int)) ∧ W'.cell? ⟨B6, 5, none⟩ = some (.float .f64 lo))) ∧ (W'.cell? ⟨B9, 0, none⟩ = some (.int .i64 (la : Int)) ∧ W'.cell? ⟨B9, 1, none⟩ = some (.int .i64 (lb : Int)) ∧ W'.cell? ⟨B9, 2, none⟩ = some (.int .i64 (lc : Int)) ∧ W'.cell? ⟨B9, 3, none⟩ = some (.int .u8 (le : Int)))) := fun W' ho => ⟨(HS.out W' (H3'.out.trans ho)).1, (HL9.out W' ho).1⟩
      obtain ⟨⟨⟨r0, r1⟩, k0, k1, k2, k3, k4, k5⟩, l5, l6⟩ := HS.out w3 H3'.out
      obtain ⟨⟨x0, x1, x2, x3⟩, l9⟩ := HL9.out w3 (Only.refl _ _)
      obtain ⟨nq, hnq⟩ : ∃ x, x = Sp.tr C la (lb - la) - la := ⟨_, rfl⟩
      obtain ⟨D, hD⟩ : ∃ x, x = Sd.wid C t W1 la lb le := ⟨_, rfl⟩
      have hDl : nq = D.length := by rw [hnq, hD, Sd.wid_len]
      have hnq2 : la + nq ≤ k := by have := Sp.tr_ge C la (lb - la); omega
      have HDL : Hid (nq = D.length) := hDl
      have HDK : Hid (∀ j (xp xl xc xk : Nat), j < nq → Sp.at' C (la + j) = ⟨xp, xl, (xc : Int), xk⟩ → (xk = 1 → xc ≤ D.getD j 0) ∧ (xk = 0 → D.getD j 0 = xc)) := fun j xp xl xc xk h1 h2 => by
        rw [hD]
        exact wid_kind C t W1 la lb le j (by omega) xp xl xc xk h2
      obtain ⟨sg, hsg⟩ : ∃ x, x = Sp.sps C la nq := ⟨_, rfl⟩
      have hgs : Sp.gp C la (lb - la) = sg := by rw [hsg, hnq]; rfl
      have hsgl : sg ≤ nq := by rw [hsg]; exact sps_le C la nq
      have HSG : Hid (sg = Sp.sps C la nq) := hsg
      have HFI : Hid (Sd.sum D + (if le = 3 then 1 else 0) = if le ≠ 2 ∧ le ≠ 4 ∧ 0 < sg ∧ lc ≤ W1 then W1 else lc) := by
        have h := Sd.wid_fills C ht0 (W := W1) (a := la) (b := lb) (e := le) (by omega) (by rw [hgs]; omega)
        rw [hD, HLC.out, ← hgs]
        exact h
      have hlcl : lc ≤ 100200001 := by
        have h := col_small (HLD.out W HG.out).pv.ok ht0 (by omega) (a := la) (k := Sp.tr C la (lb - la) - la) (by have := (HLD.out W HG.out).pv.few; omega)
        rw [HLC.out]
        unfold Sp.wde Sp.wd
        split <;> omega
      obtain ⟨sD, hsD⟩ : ∃ x, x = Sd.sum D := ⟨_, rfl⟩
      have hsDl : sD ≤ 100200001 := by
        have h := HFI.out
        rw [← hsD] at h
        split at h <;> split at h <;> omega
      have HSD : Hid (sD = Sd.sum D) := hsD
      have HA1 : Hid (∀ W', Only (fun _ => False) w3 W' → Calls Try.prog 13 #[.agg #[.slice aC k cC, .slice aO (k + 1) cO], .agg #[.int .i64 (la : Int), .int .i64 (lb : Int), .int .i64 (lc : Int), .int .u8 (le : Int)], .agg #[.int .i64 (W1 : Int), .int .i64 (t : Int), .int .u8 0, .int .i64 (hy : Int), .int .i64 (pr : Int), .float .f64 lo]] W' fun e w' => ∃ (a : Option Addr) (c : Nat), e = .returned (.slice a nq c) ∧ w'.ownsRow W'.heap.size 3 1 (.slice a nq c) nq (natI D) ∧ Only (fun _ => False) W' w') := fun W' ho => by
        rw [hD, hnq]
        exact HLI.out W' la lb lc le (H3'.out.trans ho) hab hbk hle
      clear hnq hD hDl hgs hsg hsD
      go_wp2_with fail
      refine Calls.mono (HA1.out _ (Only.refl _ _)) ?_
      rintro e w4 ⟨a4, c4, rfl, hown4, ho4⟩
      have H4 : Hid (w4.ownsRow w3.heap.size 3 1 (.slice a4 nq c4) nq (natI D) ∧ Only (fun _ => False) w3 w4) := ⟨hown4, ho4⟩
      clear hown4 ho4 r0 r1 k0 k1 k2 k3 k4 k5 l5 l6 x0 x1 x2 x3 l9
      go_wp2_with fail
      go_loopg [11, 12, 38] nq (fun gh v11 v12 v38 wr => ∃ (j s sp : Nat) (V : World), V = wr ∧ gh = nq - j ∧ j ≤ nq ∧ v11 = .int .i64 (s : Int) ∧ v12 = .int .i64 (sp : Int) ∧ v38 = .int .i64 (j : Int) ∧ s = Sd.sum (D.take j) ∧ sp = Sp.sps C la j ∧ Only (fun _ => False) w4 V)
      case atStart => exact ⟨0, 0, 0, _, rfl, rfl, Nat.zero_le _, rfl, rfl, rfl, rfl, rfl, Only.refl _ _⟩
      case round =>
        obtain ⟨j, s, sp, V, hV, rfl, hj, rfl, rfl, rfl, hs, hsp, hoV⟩ := hrel
        subst hV
        have HI : Hid (s = Sd.sum (D.take j) ∧ sp = Sp.sps C la j ∧ Only (fun _ => False) w4 V ∧ Only (fun _ => False) w3 V) := ⟨hs, hsp, hoV, H4.out.2.trans hoV⟩
        have hsl : s ≤ 100200001 := by have h1 := sum_take_le D j; have h2 := HSD.out; omega
        have hspl : sp ≤ j := by rw [hsp]; exact sps_le C la j
        clear hs hsp hoV
        obtain ⟨⟨⟨r0, r1⟩, k0, k1, k2, k3, k4, k5⟩, l5, l6⟩ := HS.out V (H3'.out.trans HI.out.2.2.2)
        obtain ⟨⟨x0, x1, x2, x3⟩, l9⟩ := HL9.out V HI.out.2.2.2
        by_cases hlt2 : j < nq
        · have u1 : (j : Int) < (nq : Int) := by omega
          obtain ⟨y, hy'⟩ : ∃ y, D[j]? = some y := ⟨_, List.getElem?_eq_getElem (by rw [← HDL.out]; exact hlt2)⟩
          have hyd : D.getD j 0 = y := by rw [List.getD_eq_getElem?_getD, hy']; rfl
          obtain ⟨gM, capM, hvM, hcM⟩ := natI_at (own_only H4.out.1 HI.out.2.2.1 (fun _ _ h => h)) HDL.out hy'
          have eM : a4 = some ⟨gM, 0, none⟩ := by injection hvM
          subst eM
          obtain ⟨s1, hs1⟩ : ∃ x, x = s + y := ⟨_, rfl⟩
          have HS1 : Hid (s1 = Sd.sum (D.take (j + 1))) := by rw [hs1, Sd.take_next, hyd, HI.out.1]; exact rfl
          have hs1l : s1 ≤ 100200001 := by have h1 := sum_take_le D (j + 1); have h2 := HSD.out; have h3 := HS1.out; omega
          have u2 : IntKind.i64.wrap ((s : Int) + (y : Int)) = (s1 : Int) := by rw [IntKind.wrap_i64]; omega
          obtain ⟨q, hq⟩ : ∃ q, q = la + j := ⟨_, rfl⟩
          have u3 : IntKind.i64.wrap ((la : Int) + (j : Int)) = (q : Int) := by rw [IntKind.wrap_i64]; omega
          have u4 : (q : Int) < (k : Int) := by omega
          have hPw := (HLD.out V (H3'.out.trans HI.out.2.2.2)).pv
          obtain ⟨z, hz⟩ : ∃ z, C[q]? = some z := ⟨_, List.getElem?_eq_getElem (by have := hPw.hn; omega)⟩
          obtain ⟨xp, xl, xc, xk, rfl, hxc, hxk⟩ := hPw.ok.nat hz
          have HA : Hid (Sp.at' C (la + j) = ⟨xp, xl, (xc : Int), xk⟩) := by rw [← hq]; exact at_some hz
          obtain ⟨gC, oC, eC, hg, c0', c1', c2', c3'⟩ := hPw.vC.cluster (k := q) hz
          simp only at c0' c1' c2' c3'
          have hdk := HDK.out j xp xl xc xk hlt2 HA.out
          rw [hyd] at hdk
          have HY' : Hid (s1 = s + y ∧ q = la + j) := ⟨hs1, hq⟩
          have hyl : y ≤ 100200001 := by omega
          subst eC
          clear hy' hyd hvM hz hPw hs1 hq
          go_upto_region 14 with fail
          obtain ⟨B15, V2, hV2, hB15, H15, l15⟩ := box4 V (.int .i64 (xp : Int)) (.int .i64 (xl : Int)) (.int .i64 (xc : Int)) (.int .u8 (xk : Int)) 51
          rw [hV2, hB15]
          clear hV2 hB15 l15
          obtain ⟨z0, z1, z2, z3⟩ := blk_four H15.out.1
          have l15 : B15 < V2.heap.size := (Array.getElem?_eq_some_iff.1 H15.out.1).1
          have HV2 : Hid (Only (fun _ => False) w4 V2) := HI.out.2.2.1.trans H15.out.2.1
          clear r0 r1 k0 k1 k2 k3 k4 k5 l5 l6 x0 x1 x2 x3 l9 c0' c1' c2' c3' hcM hg
          by_cases hk1 : xk = 1
          · have u5 : ((xk : Int) == 1) = true := by rw [beq_iff_eq]; omega
            have hle2 := hdk.1 hk1
            have u6 : decide ((y : Int) < (xc : Int)) = false := decide_eq_false (by omega)
            have u7 : decide (y < xc) = false := decide_eq_false (by omega)
            have HSP : Hid (sp + 1 = Sp.sps C la (j + 1)) := by
              have h := sps_yes (C := C) (x := la) (k := j) (by rw [HA.out]; exact hk1)
              rw [h, HI.out.2.1]
              exact rfl
            clear hk1 hdk hle2
            go_wp2_with fail
            go_roundg (nq - (j + 1))
            case measure => omega
            case rel => exact ⟨j + 1, s1, sp + 1, _, rfl, rfl, by omega, by go_num, by go_num, by go_num, HS1.out, HSP.out, HV2.out⟩
          · have u5 : ((xk : Int) == 1) = false := by rw [beq_eq_false_iff_ne]; omega
            have HSP : Hid (sp = Sp.sps C la (j + 1)) := by
              have h := sps_no (C := C) (x := la) (k := j) (by rw [HA.out]; exact hk1)
              rw [h, HI.out.2.1]
              exact rfl
            by_cases hk0 : xk = 0
            · have u6 : ((xk : Int) == 0) = true := by rw [beq_iff_eq]; omega
              have hyc := hdk.2 hk0
              have u7 : ((y : Int) != (xc : Int)) = false := by simp; omega
              clear hk1 hdk hk0 hyc
              go_wp2_with fail
              go_roundg (nq - (j + 1))
              case measure => omega
              case rel => exact ⟨j + 1, s1, sp, _, rfl, rfl, by omega, by go_num, by go_num, by go_num, HS1.out, HSP.out, HV2.out⟩
            · have u6 : ((xk : Int) == 0) = false := by rw [beq_eq_false_iff_ne]; omega
              clear hk1 hdk hk0
              go_wp2_with fail
              go_roundg (nq - (j + 1))
              case measure => omega
              case rel => exact ⟨j + 1, s1, sp, _, rfl, rfl, by omega, by go_num, by go_num, by go_num, HS1.out, HSP.out, HV2.out⟩
        · have u1 : decide ((j : Int) < (nq : Int)) = false := decide_eq_false (by omega)
          have hjn : j = nq := by omega
          have hse : s = sD := by rw [HI.out.1, hjn, HDL.out, List.take_length, HSD.out]
          have hspe : sp = sg := by rw [HI.out.2.1, hjn, HSG.out]
          have hfi := HFI.out
          rw [← HSD.out] at hfi
          have HOV : Hid (Only (fun _ => False) Y V) := H3'.out.trans HI.out.2.2.2
          subst hse hspe
          clear hjn HI HSD HSG
          by_cases h3 : le = 3
          · have v1 : ((le : Int) == 3) = true := by rw [beq_iff_eq]; omega
            have v2 : ((le : Int) != 2) = true := by simp; omega
            have v3 : ((le : Int) != 4) = true := by simp; omega
            obtain ⟨s1, hs1⟩ : ∃ x, x = s + 1 := ⟨_, rfl⟩
            have v4 : IntKind.i64.wrap ((s : Int) + 1) = (s1 : Int) := by rw [IntKind.wrap_i64]; omega
            rw [if_pos h3, ← hs1] at hfi
            by_cases hs0 : 0 < sp
            · have v6 : decide ((sp : Int) > 0) = true := decide_eq_true (by omega)
              have v6' : (0 : Int) < (sp : Int) := by omega
              by_cases hlw : lc ≤ W1
              · have v7 : (lc : Int) ≤ (W1 : Int) := by omega
                have v5 : ((s1 : Int) != (W1 : Int)) = false := by simp; rw [if_pos ⟨by omega, by omega, hs0, hlw⟩] at hfi; omega
                clear hfi hs0 hlw h3 hs1
                go_wp2_with fail
                go_roundg (nA - (i + 1))
                case measure => omega
                case rel => exact ⟨i + 1, _, rfl, rfl, by omega, by go_num, HOV.out⟩
              · have v7 : decide ((lc : Int) ≤ (W1 : Int)) = false := decide_eq_false (by omega)
                have v7' : decide (lc ≤ W1) = false := decide_eq_false (by omega)
                have v5 : ((s1 : Int) != (lc : Int)) = false := by simp; rw [if_neg (by omega)] at hfi; omega
                clear hfi hs0 hlw h3 hs1
                go_wp2_with fail
                go_roundg (nA - (i + 1))
                case measure => omega
                case rel => exact ⟨i + 1, _, rfl, rfl, by omega, by go_num, HOV.out⟩
            · have v6 : decide ((0 : Int) < (sp : Int)) = false := decide_eq_false (by omega)
              have v6' : decide (0 < sp) = false := decide_eq_false (by omega)
              have v5 : ((s1 : Int) != (lc : Int)) = false := by simp; rw [if_neg (by omega)] at hfi; omega
              clear hfi hs0 h3 hs1
              go_wp2_with fail
              go_roundg (nA - (i + 1))
              case measure => omega
              case rel => exact ⟨i + 1, _, rfl, rfl, by omega, by go_num, HOV.out⟩
          · have v1 : ((le : Int) == 3) = false := by rw [beq_eq_false_iff_ne]; omega
            rw [if_neg h3] at hfi
            simp only [Nat.add_zero] at hfi
            by_cases h2 : le = 2
            · have v2 : ((le : Int) != 2) = false := by simp; omega
              have v5 : ((s : Int) != (lc : Int)) = false := by simp; rw [if_neg (by omega)] at hfi; omega
              clear h3 h2 hfi
              go_wp2_with fail
              go_roundg (nA - (i + 1))
              case measure => omega
              case rel => exact ⟨i + 1, _, rfl, rfl, by omega, by go_num, HOV.out⟩
            · have v2 : ((le : Int) != 2) = true := by simp; omega
              by_cases h4 : le = 4
              · have v3 : ((le : Int) != 4) = false := by simp; omega
                have v5 : ((s : Int) != (lc : Int)) = false := by simp; rw [if_neg (by omega)] at hfi; omega
                clear h3 h2 h4 hfi
                go_wp2_with fail
                go_roundg (nA - (i + 1))
                case measure => omega
                case rel => exact ⟨i + 1, _, rfl, rfl, by omega, by go_num, HOV.out⟩
              · have v3 : ((le : Int) != 4) = true := by simp; omega
                by_cases hs0 : 0 < sp
                · have v6 : decide ((sp : Int) > 0) = true := decide_eq_true (by omega)
                  have v6' : (0 : Int) < (sp : Int) := by omega
                  by_cases hlw : lc ≤ W1
                  · have v7 : (lc : Int) ≤ (W1 : Int) := by omega
                    have v5 : ((s : Int) != (W1 : Int)) = false := by simp; rw [if_pos ⟨by omega, by omega, hs0, hlw⟩] at hfi; omega
                    clear hfi hs0 hlw h3 h2 h4
                    go_wp2_with fail
                    go_roundg (nA - (i + 1))
                    case measure => omega
                    case rel => exact ⟨i + 1, _, rfl, rfl, by omega, by go_num, HOV.out⟩
                  · have v7 : decide ((lc : Int) ≤ (W1 : Int)) = false := decide_eq_false (by omega)
                    have v7' : decide (lc ≤ W1) = false := decide_eq_false (by omega)
                    have v5 : ((s : Int) != (lc : Int)) = false := by simp; rw [if_neg (by omega)] at hfi; omega
                    clear hfi hs0 hlw h3 h2 h4
                    go_wp2_with fail
                    go_roundg (nA - (i + 1))
                    case measure => omega
                    case rel => exact ⟨i + 1, _, rfl, rfl, by omega, by go_num, HOV.out⟩
                · have v6 : decide ((0 : Int) < (sp : Int)) = false := decide_eq_false (by omega)
                  have v6' : decide (0 < sp) = false := decide_eq_false (by omega)
                  have v5 : ((s : Int) != (lc : Int)) = false := by simp; rw [if_neg (by omega)] at hfi; omega
                  clear hfi hs0 h3 h2 h4
                  go_wp2_with fail
                  go_roundg (nA - (i + 1))
                  case measure => omega
                  case rel => exact ⟨i + 1, _, rfl, rfl, by omega, by go_num, HOV.out⟩
    · have t1 : decide ((i : Int) < (nA : Int)) = false := decide_eq_false (by omega)
      go_wp2_with fail
      go_ret
      exact ⟨rfl, HOY.out _ HG.out⟩
end Go.Proofs.Ytngaihkgndlkhaa.justFills
