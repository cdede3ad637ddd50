/-
  stanzalaw18.JustLines: its walk.
-/
import Derived.Test.YtngaihkgndlkhaaJl
import Derived.Test.YtngaihkgndlkhaaJw
namespace Go.Proofs.Ytngaihkgndlkhaa.justLines
open Go.RowKit Go.Maps
set_option linter.unusedVariables false
set_option linter.unusedSimpArgs false
set_option maxRecDepth 100000 in
set_option maxHeartbeats 8000000 in
theorem walk (L0 : List Bt) (a0 : Option Addr) (c0 : Nat) (K : Wy) (w : World) (hV : Vw w a0 (btC L0)) (hB : ∀ b ∈ L0, b.cells < 256 ∧ b.kind < 256 ∧ b.len < 256 ∧ b.opp < 256) (hc : L0.length ≤ c0) (hm : c0 ≤ maxLen) (hK : K.Ok) :
    Calls Try.prog 5 #[.slice a0 L0.length c0, K.val] w fun e w' => e = .returned (.bool true) ∧ Only (fun _ => False) w w' := by
  have HMA : Hid (∀ W, Only (fun _ => False) w W → Calls Try.prog 12 #[.slice a0 L0.length c0, K.val] W fun e w' => ∃ (C : List Ct) (O : List Nat) (k : Nat) (aC aO : Option Addr) (cC cO : Nat) (A : List Ln) (nA : Nat) (aA : Option Addr) (cA W1 t hy pr lo : Nat), e = .returned (.tuple #[.agg #[.slice aC k cC, .slice aO (k + 1) cO], .slice aA nA cA, .agg #[.int .i64 (W1 : Int), .int .i64 (t : Int), .int .u8 0, .int .i64 (hy : Int), .int .i64 (pr : Int), .float .f64 lo]]) ∧ Ld w' C O k aC aO cC cO A nA aA W1 t ∧ Only (fun _ => False) W w') := fun W ho => lined18_any L0 _ a0 c0 K W (hV.keep ho) hB rfl hc hm hK
  obtain ⟨nL, hnL⟩ : ∃ x, x = L0.length := ⟨_, rfl⟩
  rw [← hnL] at HMA ⊢
  obtain ⟨wi, tb, mo, hy0, pr0, lo0⟩ := K
  unfold Wy.val at HMA ⊢
  simp only at HMA ⊢
  clear hV hB hc hm hK hnL
  go_enter Try.func5, Try.ntmps5
  go_wp2_with fail
  obtain ⟨R, w0, hw0', hR, H0, lR⟩ := box6 w (.int .u8 (wi : Int)) (.int .u8 (tb : Int)) (.int .u8 (mo : Int)) (.int .u16 (hy0 : Int)) (.int .u16 (pr0 : Int)) (.float .f64 lo0) 33
  rw [hw0', hR]
  clear hw0' hR
  refine Calls.mono (awake18_any _) ?_
  rintro e w2 ⟨rfl, ho2⟩
  have H2 : Hid (w2.heap[R]? = some (.cells #[.int .u8 (wi : Int), .int .u8 (tb : Int), .int .u8 (mo : Int), .int .u16 (hy0 : Int), .int .u16 (pr0 : Int), .float .f64 lo0] 33 (0, 0)) ∧ Only (fun _ => False) w w2) := ⟨blk_keep ho2 H0.out.1, H0.out.2.1.trans ho2⟩
  clear ho2 lR H0
  obtain ⟨r0, r1, r2, r3, r4, r5⟩ := blk_six H2.out.1
  have lR : R < w2.heap.size := (Array.getElem?_eq_some_iff.1 H2.out.1).1
  go_wp2_with fail
  refine Calls.mono (HMA.out _ H2.out.2) ?_
  rintro e X ⟨C, O, k, aC, aO, cC, cO, A, nA, aA, cA, W1, t, hy, pr, lo, rfl, hld, hoX⟩
  have HX : Hid (Ld X C O k aC aO cC cO A nA aA W1 t ∧ Only (fun _ => False) w X) := ⟨hld, H2.out.2.trans hoX⟩
  have hk : k ≤ 100 := hld.few
  have hnA : nA ≤ k := by have := hld.chn.len; rw [hld.hA]; omega
  have hw1 : W1 ≤ 256 := hld.w1
  have ht0 : 0 < t := hld.t0
  have ht1 : t ≤ 64 := hld.t1
  clear hld hoX r0 r1 r2 r3 r4 r5 lR HMA
  go_upto_region 4 with fail
  obtain ⟨B5, B6, Y0, hY0, hB6, hB5, HY0, l56, l6, l7⟩ := box26 X (.slice aC k cC) (.slice aO (k + 1) cO) (.int .i64 (W1 : Int)) (.int .i64 (t : Int)) (.int .u8 0) (.int .i64 (hy : Int)) (.int .i64 (pr : Int)) (.float .f64 0) 37 41
  rw [hY0, hB6, hB5]
  have HBL : Hid (B5 ≠ B6 ∧ X.heap.size ≤ B6) := ⟨by omega, l6⟩
  clear hY0 hB6 hB5 l56 l6
  have fd := fz_blk HY0.out.2.1 5
  obtain ⟨q0, q1, q2, q3, q4, q5⟩ := blk_six HY0.out.2.1
  rw [run_store _ _ _ _ _ rfl]
  go_simp
  go_upto_region 4 with fail
  obtain ⟨Y, hY⟩ : ∃ Y, Y = Y0.setCell ⟨B6, 5, none⟩ (.float .f64 lo) := ⟨_, rfl⟩
  rw [← hY]
  have e1 : Y = Y0.setRow B6 #[.int .i64 (W1 : Int), .int .i64 (t : Int), .int .u8 0, .int .i64 (hy : Int), .int .i64 (pr : Int), .float .f64 lo] := by rw [hY, setCell_eq_setRow _ _ _ _ _ _ _ HY0.out.2.1]; rfl
  have HY : Hid (Y.heap[B5]? = some (.cells #[.slice aC k cC, .slice aO (k + 1) cO] 37 (0, 0)) ∧ Y.heap[B6]? = some (.cells #[.int .i64 (W1 : Int), .int .i64 (t : Int), .int .u8 0, .int .i64 (hy : Int), .int .i64 (pr : Int), .float .f64 lo] 41 (0, 0)) ∧ Only (fun _ => False) X Y) := by
    rw [e1]
    exact ⟨far_blk (Only.setRow _ _ _) HY0.out.1 HBL.out.1, setRow_heap _ _ _ _ _ _ HY0.out.2.1, HY0.out.2.2.setRowNew HBL.out.2 _⟩
  clear hY e1 q0 q1 q2 q3 q4 q5 fd l7 HY0 HBL
  have HLD : Hid (∀ W', Only (fun _ => False) Y W' → Ld W' C O k aC aO cC cO A nA aA W1 t) := fun W' ho => HX.out.1.keep (HY.out.2.2.trans ho)
  have HOY : Hid (∀ W', Only (fun _ => False) Y W' → Only (fun _ => False) w W') := fun W' ho => HX.out.2.trans (HY.out.2.2.trans ho)
  have HS : Hid (∀ W', Only (fun _ => False) Y W' → ((W'.cell? ⟨B5, 0, none⟩ = some (.slice aC k cC) ∧ W'.cell? ⟨B5, 1, none⟩ = some (.slice aO (k + 1) cO)) ∧ (W'.cell? ⟨B6, 0, none⟩ = some (.int .i64 (W1 : Int)) ∧ W'.cell? ⟨B6, 1, none⟩ = some (.int .i64 (t : Int)) ∧ W'.cell? ⟨B6, 2, none⟩ = some (.int .u8 0) ∧ W'.cell? ⟨B6, 3, none⟩ = some (.int .i64 (hy : Int)) ∧ W'.cell? ⟨B6, 4, none⟩ = some (.int .i64 (pr : Int)) ∧ W'.cell? ⟨B6, 5, none⟩ = some (.float .f64 lo))) ∧ B5 < W'.heap.size ∧ B6 < W'.heap.size) := fun W' ho => by
    have e5 := blk_keep ho HY.out.1
    have e6 := blk_keep ho HY.out.2.1
    exact ⟨⟨⟨(blk_two e5).1, (blk_two e5).2.1⟩, blk_six e6⟩, (blk_two e5).2.2, (Array.getElem?_eq_some_iff.1 e6).1⟩
  clear HX HY H2
  have HLI : Hid (∀ W' (la lb lc le : Nat), Only (fun _ => False) Y W' → la < lb → lb ≤ k → le < 256 → Calls Try.prog 13 #[.agg #[.slice aC k cC, .slice aO (k + 1) cO], .agg #[.int .i64 (la : Int), .int .i64 (lb : Int), .int .i64 (lc : Int), .int .u8 (le : Int)], .agg #[.int .i64 (W1 : Int), .int .i64 (t : Int), .int .u8 0, .int .i64 (hy : Int), .int .i64 (pr : Int), .float .f64 lo]] W' (nlN (Sd.wid C t W1 la lb le) (Sp.tr C la (lb - la) - la) W')) := fun W' la lb lc le ho h1 h2 h3 => line_any C O k (k + 1) aC aO cC cO la lb lc le W1 t 0 hy pr lo W' (HLD.out W' ho).pv h1 h2 h3 (by omega) ht0 (by omega)
  have HWI : Hid (∀ W' (la lb lc le : Nat), Only (fun _ => False) Y W' → la < lb → lb ≤ k → le < 256 → Calls Try.prog 14 #[.agg #[.slice aC k cC, .slice aO (k + 1) cO], .agg #[.int .i64 (la : Int), .int .i64 (lb : Int), .int .i64 (lc : Int), .int .u8 (le : Int)], .agg #[.int .i64 (W1 : Int), .int .i64 (t : Int), .int .u8 0, .int .i64 (hy : Int), .int .i64 (pr : Int), .float .f64 lo]] W' (nlN (Sd.wid C t W1 la lb le) (Sp.tr C la (lb - la) - la) W')) := fun W' la lb lc le ho h1 h2 h3 => refWide_any C O k (k + 1) aC aO cC cO la lb lc le W1 t 0 hy pr lo W' (HLD.out W' ho).pv h1 h2 h3 (by omega) ht0 (by omega)
  unfold nlN at HLI HWI
  go_wp2_with fail
  go_loopg [21] nA (fun gh vi wr => ∃ (i : Nat) (W : World), W = wr ∧ gh = nA - i ∧ i ≤ nA ∧ vi = .int .i64 (i : Int) ∧ Only (fun _ => False) Y W)
  case atStart => exact ⟨0, _, rfl, rfl, Nat.zero_le _, rfl, Only.refl _ _⟩
  case round =>
    obtain ⟨i, W, hW, rfl, hi, rfl, hoW⟩ := hrel
    subst hW
    have HG : Hid (Only (fun _ => False) Y W) := hoW
    clear hoW
    by_cases hlt : i < nA
    · have t1 : (i : Int) < (nA : Int) := by omega
      have hld := HLD.out W HG.out
      obtain ⟨z, hz⟩ : ∃ z, A[i]? = some z := ⟨_, List.getElem?_eq_getElem (by rw [← hld.hA]; exact hlt)⟩
      obtain ⟨g, off, eg, hg, d0, d1, d2, d3⟩ := hld.vA.line (k := i) hz
      have hz1 := hld.chn.line hz
      have hz2 := hld.lnk z (List.mem_of_getElem? hz)
      unfold Lv.Lnk at hz2
      obtain ⟨la, lb, lc, le⟩ := z
      simp only at d0 d1 d2 d3 hz1 hz2
      have hab : la < lb := hz1.1
      have hbk : lb ≤ k := hz1.2
      have hle : le < 256 := hz2.2
      have HLC : Hid (lc = Sp.wde C t la lb le) := hz2.1
      subst eg
      clear hz hz1 hz2 hld
      go_upto_region 7 with fail
      obtain ⟨B9, w3, hw3, hB9, H3, l9⟩ := box4 W (.int .i64 (la : Int)) (.int .i64 (lb : Int)) (.int .i64 (lc : Int)) (.int .u8 (le : Int)) 46
      rw [hw3, hB9]
      clear hw3 hB9 l9 d0 d1 d2 d3 hg
      have H3' : Hid (Only (fun _ => False) Y w3) := HG.out.trans H3.out.2.1
      have HL9 : Hid (∀ W', Only (fun _ => False) w3 W' → (W'.cell? ⟨B9, 0, none⟩ = some (.int .i64 (la : Int)) ∧ W'.cell? ⟨B9, 1, none⟩ = some (.int .i64 (lb : Int)) ∧ W'.cell? ⟨B9, 2, none⟩ = some (.int .i64 (lc : Int)) ∧ W'.cell? ⟨B9, 3, none⟩ = some (.int .u8 (le : Int))) ∧ B9 < W'.heap.size) := fun W' ho => by
        have e := blk_keep ho H3.out.1
        exact ⟨blk_four e, (Array.getElem?_eq_some_iff.1 e).1⟩
      have HSL : Hid (∀ W', Only (fun _ => False) w3 W' → ((W'.cell? ⟨B5, 0, none⟩ = some (.slice aC k cC) ∧ W'.cell? ⟨B5, 1, none⟩ = some (.slice aO (k + 1) cO)) ∧ (W'.cell? ⟨B6, 0, none⟩ = some (.int .i64 (W1 : Int)) ∧ W'.cell? ⟨B6, 1, none⟩ = some (.int .i64 (t : Int)) ∧ W'.cell? ⟨B6, 2, none⟩ = some (.int .u8 0) ∧ W'.cell? ⟨B6, 3, none⟩ = some (.int .i64 (hy : Int)) ∧ W'.cell? ⟨B6, 4, none⟩ = some (.int .i64 (pr : Int)) ∧ W'.cell? ⟨B6, 5, none⟩ = some (.float .f64 lo))) ∧ (W'.cell? ⟨B9, 0, none⟩ = some (.int .i64 (la : Int)) ∧ W'.cell? ⟨B9, 1, none⟩ = some (.int .i64 (lb : Int)) ∧ W'.cell? ⟨B9, 2, none⟩ = some (.int .i64 (lc : Int)) ∧ W'.cell? ⟨B9, 3, none⟩ = some (.int .u8 (le : Int)))) := fun W' ho => ⟨(HS.out W' (H3'.out.trans ho)).1, (HL9.out W' ho).1⟩
      obtain ⟨⟨⟨r0, r1⟩, k0, k1, k2, k3, k4, k5⟩, l5, l6⟩ := HS.out w3 H3'.out
      obtain ⟨⟨x0, x1, x2, x3⟩, l9⟩ := HL9.out w3 (Only.refl _ _)
      obtain ⟨nq, hnq⟩ : ∃ x, x = Sp.tr C la (lb - la) - la := ⟨_, rfl⟩
      obtain ⟨D, hD⟩ : ∃ x, x = Sd.wid C t W1 la lb le := ⟨_, rfl⟩
      have hDl : nq = D.length := by rw [hnq, hD, Sd.wid_len]
      have hnq2 : nq ≤ k := by have := Sp.tr_ge C la (lb - la); omega
      have HA1 : Hid (∀ W', Only (fun _ => False) w3 W' → Calls Try.prog 13 #[.agg #[.slice aC k cC, .slice aO (k + 1) cO], .agg #[.int .i64 (la : Int), .int .i64 (lb : Int), .int .i64 (lc : Int), .int .u8 (le : Int)], .agg #[.int .i64 (W1 : Int), .int .i64 (t : Int), .int .u8 0, .int .i64 (hy : Int), .int .i64 (pr : Int), .float .f64 lo]] W' fun e w' => ∃ (a : Option Addr) (c : Nat), e = .returned (.slice a nq c) ∧ w'.ownsRow W'.heap.size 3 1 (.slice a nq c) nq (natI D) ∧ Only (fun _ => False) W' w') := fun W' ho => by
        rw [hD, hnq]
        exact HLI.out W' la lb lc le (H3'.out.trans ho) hab hbk hle
      have HA2 : Hid (∀ W', Only (fun _ => False) w3 W' → Calls Try.prog 14 #[.agg #[.slice aC k cC, .slice aO (k + 1) cO], .agg #[.int .i64 (la : Int), .int .i64 (lb : Int), .int .i64 (lc : Int), .int .u8 (le : Int)], .agg #[.int .i64 (W1 : Int), .int .i64 (t : Int), .int .u8 0, .int .i64 (hy : Int), .int .i64 (pr : Int), .float .f64 lo]] W' fun e w' => ∃ (a : Option Addr) (c : Nat), e = .returned (.slice a nq c) ∧ w'.ownsRow W'.heap.size 3 1 (.slice a nq c) nq (natI D) ∧ Only (fun _ => False) W' w') := fun W' ho => by
        rw [hD, hnq]
        exact HWI.out W' la lb lc le (H3'.out.trans ho) hab hbk hle
      have HSI : Hid (∀ W B B' a a' c c', W.ownsRow B 3 1 (.slice a nq c) nq (natI D) → W.ownsRow B' 3 1 (.slice a' nq c') nq (natI D) → Calls Try.prog 9 #[.slice a nq c, .slice a' nq c'] W fun e w' => e = .returned (.bool true) ∧ ∃ n, w' = W.drewN n) := fun W B B' a a' c c' h1 h2 => by
        have hd := sameNats_any D B B' a a' c c' W (by rw [← hDl]; exact h1) (by rw [← hDl]; exact h2) (by omega)
        rw [← hDl] at hd
        exact hd
      clear hnq hD hDl hnq2
      go_region_held3 (fun W' => ((W'.cell? ⟨B5, 0, none⟩ = some (.slice aC k cC) ∧ W'.cell? ⟨B5, 1, none⟩ = some (.slice aO (k + 1) cO)) ∧ (W'.cell? ⟨B6, 0, none⟩ = some (.int .i64 (W1 : Int)) ∧ W'.cell? ⟨B6, 1, none⟩ = some (.int .i64 (t : Int)) ∧ W'.cell? ⟨B6, 2, none⟩ = some (.int .u8 0) ∧ W'.cell? ⟨B6, 3, none⟩ = some (.int .i64 (hy : Int)) ∧ W'.cell? ⟨B6, 4, none⟩ = some (.int .i64 (pr : Int)) ∧ W'.cell? ⟨B6, 5, none⟩ = some (.float .f64 lo))) ∧ (W'.cell? ⟨B9, 0, none⟩ = some (.int .i64 (la : Int)) ∧ W'.cell? ⟨B9, 1, none⟩ = some (.int .i64 (lb : Int)) ∧ W'.cell? ⟨B9, 2, none⟩ = some (.int .i64 (lc : Int)) ∧ W'.cell? ⟨B9, 3, none⟩ = some (.int .u8 (le : Int)))) ((first | exact HSL.out _ (Only.refl _ _).drew | exact HSL.out _ H6.out | exact HSL.out _ H5.out.2.2 | exact HSL.out _ H4.out.2)) ((first | (go_at_call 13; refine Calls.mono (HA1.out _ (Only.refl _ _).drew) ?_; rintro e w4 ⟨a4, c4, rfl, hown4, ho4⟩; have H4 : Hid (w4.ownsRow w3.drew.heap.size 3 1 (.slice a4 nq c4) nq (natI D) ∧ Only (fun _ => False) w3 w4) := ⟨hown4, ((Only.refl _ _).drew).trans ho4⟩; clear hown4 ho4) | (go_at_call 14; refine Calls.mono (HA2.out _ H4.out.2) ?_; rintro e w5 ⟨a5, c5, rfl, hown5, ho5⟩; have H5 : Hid (w5.ownsRow w3.drew.heap.size 3 1 (.slice a4 nq c4) nq (natI D) ∧ w5.ownsRow w4.heap.size 3 1 (.slice a5 nq c5) nq (natI D) ∧ Only (fun _ => False) w3 w5) := ⟨own_only H4.out.1 ho5 (fun _ _ h => h), hown5, H4.out.2.trans ho5⟩; clear hown5 ho5) | (go_at_call 9; refine Calls.mono (HSI.out _ _ _ _ _ _ _ H5.out.1 H5.out.2.1) ?_; rintro e w6 ⟨rfl, nr, rfl⟩; have H6 : Hid (Only (fun _ => False) w3 (w5.drewN nr)) := H5.out.2.2.drewN _)))
      go_wp2_with fail
      go_roundg (nA - (i + 1))
      case measure => omega
      case rel => exact ⟨i + 1, _, rfl, rfl, by omega, by go_num, H3'.out.trans H6.out⟩
    · have t1 : decide ((i : Int) < (nA : Int)) = false := decide_eq_false (by omega)
      go_wp2_with fail
      go_ret
      exact ⟨rfl, HOY.out _ HG.out⟩
end Go.Proofs.Ytngaihkgndlkhaa.justLines
