/-
  stanzalaw17.PlaceBytes: its walk.
-/
import Derived.Test.YteejgjapghccnaaYn
import Derived.Test.YteejgjapghccnaaYl
namespace Go.Proofs.Yteejgjapghccnaa.placeBytes
open Go.RowKit Go.Maps
set_option linter.unusedVariables false
set_option linter.unusedSimpArgs false
set_option maxRecDepth 100000 in
set_option maxHeartbeats 8000000 in
theorem walk (L0 : List Bt) (a0 : Option Addr) (c0 : Nat) (K : Wy) (rs cs : Int) (w : World) (hV : Vw w a0 (btC L0)) (hB : ∀ b ∈ L0, b.cells < 256 ∧ b.kind < 256 ∧ b.len < 256 ∧ b.opp < 256) (hc : L0.length ≤ c0) (hm : c0 ≤ maxLen) (hK : K.Ok) (hrs : -9223372036854775808 ≤ rs ∧ rs ≤ 9223372036854775807) (hcs : -9223372036854775808 ≤ cs ∧ cs ≤ 9223372036854775807) :
    Calls Try.prog 4 #[.slice a0 L0.length c0, K.val, .agg #[.int .i64 rs, .int .i64 cs]] w fun e w' => e = .returned (.bool true) ∧ Only (fun _ => False) w w' := by
  have HMA : Hid (∀ W, Only (fun _ => False) w W → Calls Try.prog 11 #[.slice a0 L0.length c0, K.val] W fun e w' => ∃ (C : List Ct) (O : List Nat) (k : Nat) (aC aO : Option Addr) (cC cO : Nat) (A : List Ln) (nA : Nat) (aA : Option Addr) (cA M s t : Nat), e = .returned (.tuple #[.agg #[.slice aC k cC, .slice aO (k + 1) cO], .slice aA nA cA, .pointer (some ⟨M, 0, none⟩), .int .i64 (s : Int), .int .i64 (t : Int)]) ∧ Md w' C O k aC aO cC cO A nA aA M s t ∧ Only (fun _ => False) W w') := fun W ho => made17_any L0 _ a0 c0 K W (hV.keep ho) hB rfl hc hm hK
  obtain ⟨nL, hnL⟩ : ∃ x, x = L0.length := ⟨_, rfl⟩
  rw [← hnL] at HMA ⊢
  obtain ⟨wi, tb, mo, hy, pr, lo⟩ := K
  unfold Wy.val at HMA ⊢
  simp only at HMA ⊢
  clear hV hB hc hm hK hnL
  go_enter Try.func4, Try.ntmps4
  go_wp2_with fail
  obtain ⟨R, RS, w0, hw0', hRS, hR, H0⟩ := box62 w (.int .u8 (wi : Int)) (.int .u8 (tb : Int)) (.int .u8 (mo : Int)) (.int .u16 (hy : Int)) (.int .u16 (pr : Int)) (.float .f64 lo) (.int .i64 rs) (.int .i64 cs) 26 39
  rw [hw0', hRS, hR]
  clear hw0' hRS hR
  refine Calls.mono (awake17_any _) ?_
  rintro e w2 ⟨rfl, ho2⟩
  have H2 : Hid (w2.heap[R]? = some (.cells #[.int .u8 (wi : Int), .int .u8 (tb : Int), .int .u8 (mo : Int), .int .u16 (hy : Int), .int .u16 (pr : Int), .float .f64 lo] 26 (0, 0)) ∧ Only (fun _ => False) w w2) := ⟨blk_keep ho2 H0.out.1, H0.out.2.2.1.trans ho2⟩
  have HRS0 : Hid (w2.heap[RS]? = some (.cells #[.int .i64 rs, .int .i64 cs] 39 (0, 0))) := blk_keep ho2 H0.out.2.1
  clear ho2 H0
  obtain ⟨r0, r1, r2, r3, r4, r5⟩ := blk_six H2.out.1
  have lR : R < w2.heap.size := (Array.getElem?_eq_some_iff.1 H2.out.1).1
  go_wp2_with fail
  refine Calls.mono (HMA.out _ H2.out.2) ?_
  rintro e X ⟨C, O, k, aC, aO, cC, cO, A, nA, aA, cA, M, s, t, rfl, hmd, hoX⟩
  have HX : Hid (Md X C O k aC aO cC cO A nA aA M s t ∧ Only (fun _ => False) w X) := ⟨hmd, H2.out.2.trans hoX⟩
  have HRS : Hid (X.heap[RS]? = some (.cells #[.int .i64 rs, .int .i64 cs] 39 (0, 0))) := blk_keep hoX HRS0.out
  have hk : k ≤ 100 := hmd.few
  have hs : s ≤ 400 := by rw [hmd.hs]; exact hmd.sum
  have hnA : nA ≤ k := by have := hmd.chn.len; rw [hmd.hA]; omega
  have ht0 : 0 < t := hmd.t0
  have ht1 : t ≤ 64 := hmd.t1
  clear hmd hoX r0 r1 r2 r3 r4 r5 lR HMA
  go_upto_region 4 with fail
  obtain ⟨B5, Y, hY, hB5, HY, -, -, -⟩ := box2 X (.slice aC k cC) (.slice aO (k + 1) cO) 31
  rw [hY, hB5]
  clear hY hB5
  have HMD : Hid (∀ W', Only (fun _ => False) Y W' → Md W' C O k aC aO cC cO A nA aA M s t) := fun W' ho => HX.out.1.keep (HY.out.2.trans ho)
  have HC5 : Hid (∀ W', Only (fun _ => False) Y W' → W'.cell? ⟨B5, 0, none⟩ = some (.slice aC k cC) ∧ W'.cell? ⟨B5, 1, none⟩ = some (.slice aO (k + 1) cO) ∧ B5 < W'.heap.size) := fun W' ho => blk_two (blk_keep ho HY.out.1)
  have HOY : Hid (∀ W', Only (fun _ => False) Y W' → Only (fun _ => False) w W') := fun W' ho => HX.out.2.trans (HY.out.2.trans ho)
  obtain ⟨N, hN⟩ : ∃ x, x = (Lv.rof A).length := ⟨_, rfl⟩
  have hNm : N = max nA 1 := by rw [hN, Lv.rof_len, HX.out.1.hA]
  have HBI : Hid (∀ W' (r c : Nat) (l : Ln), Only (fun _ => False) Y W' → (Lv.rof A)[r]? = some l → Calls Try.prog 15 #[.pointer (some ⟨M, 0, none⟩), .agg #[.int .i64 (r : Int), .int .i64 (c : Int)]] W' fun e w' => e = .returned (.tuple #[.int .i64 ((It.sum (C.take (Lv.byt C t l c)) : Nat) : Int), .int .i64 0]) ∧ Only (fun _ => False) W' w') := fun W' r c l ho hl => byte_any M k C t (Lv.rof A) r c l W' (HMD.out W' ho).map hl
  have HBO : Hid (∀ W' (r c : Int), Only (fun _ => False) Y W' → (r < 0 ∨ (N : Int) ≤ r ∨ c < 0) → Calls Try.prog 15 #[.pointer (some ⟨M, 0, none⟩), .agg #[.int .i64 r, .int .i64 c]] W' fun e w' => e = .returned (.tuple #[.int .i64 0, .int .i64 2]) ∧ Only (fun _ => False) W' w') := fun W' r c ho hx => byte_out M k C t (Lv.rof A) r c W' (HMD.out W' ho).map (by rw [← hN]; exact hx)
  have HRI : Hid (∀ W' (r c : Nat) (l : Ln), Only (fun _ => False) Y W' → (Lv.rof A)[r]? = some l → Calls Try.prog 16 #[.agg #[.slice aC k cC, .slice aO (k + 1) cO], .slice aA nA cA, .int .i64 (t : Int), .agg #[.int .i64 (r : Int), .int .i64 (c : Int)]] W' fun e w' => e = .returned (.tuple #[.int .i64 ((It.sum (C.take (Lv.byt C t l c)) : Nat) : Int), .int .i64 0]) ∧ Only (fun _ => False) W' w') := fun W' r c l ho hl => by
    have h := HMD.out W' ho
    exact refByte_any C O k (k + 1) aC aO cC cO t A nA aA cA r c l W' h.pv h.ctg (Nat.le_trans h.sum (by decide)) h.chn h.vA h.hA (by omega) ht0 (by omega) hl
  have HRO : Hid (∀ W' (r c : Int), Only (fun _ => False) Y W' → (r < 0 ∨ (N : Int) ≤ r ∨ c < 0) → Calls Try.prog 16 #[.agg #[.slice aC k cC, .slice aO (k + 1) cO], .slice aA nA cA, .int .i64 (t : Int), .agg #[.int .i64 r, .int .i64 c]] W' fun e w' => e = .returned (.tuple #[.int .i64 0, .int .i64 2]) ∧ Only (fun _ => False) W' w') := fun W' r c ho hx => by
    have h := HMD.out W' ho
    exact refByte_out C O k (k + 1) aC aO cC cO t A nA aA cA r c W' h.pv h.ctg (Nat.le_trans h.sum (by decide)) h.chn h.vA h.hA (by omega) ht0 (by omega) (by rw [← hN]; exact hx)
  have HNR : Hid (N = (Lv.rof A).length) := hN
  have HRS2 : Hid (∀ W', Only (fun _ => False) Y W' → W'.cell? ⟨RS, 0, none⟩ = some (.int .i64 rs) ∧ W'.cell? ⟨RS, 1, none⟩ = some (.int .i64 cs)) := fun W' ho => ⟨(blk_two (blk_keep (HY.out.2.trans ho) HRS.out)).1, (blk_two (blk_keep (HY.out.2.trans ho) HRS.out)).2.1⟩
  have hN1 : 1 ≤ N := by omega
  have hN2 : N ≤ 101 := by omega
  have hmx : (if (nA : Int) < 1 then (1 : Int) else (nA : Int)) = (N : Int) := by split <;> omega
  have lRS : RS < Y.heap.size := (blk_two (blk_keep HY.out.2 HRS.out)).2.2
  clear HX HY H2 hN hNm HRS HRS0
  obtain ⟨ur, hur⟩ : ∃ x : Nat, x = (rs % 18446744073709551616).toNat := ⟨_, rfl⟩
  have hurI : (ur : Int) = rs % 18446744073709551616 := by omega
  have hur2 : ur < 18446744073709551616 := by omega
  have eur : IntKind.u64.wrap rs = (ur : Int) := by rw [hurI]; rfl
  obtain ⟨uc, huc⟩ : ∃ x : Nat, x = (cs % 18446744073709551616).toNat := ⟨_, rfl⟩
  have hucI : (uc : Int) = cs % 18446744073709551616 := by omega
  have huc2 : uc < 18446744073709551616 := by omega
  have euc : IntKind.u64.wrap cs = (uc : Int) := by rw [hucI]; rfl
  obtain ⟨mr, hmr⟩ : ∃ x : Nat, x = ur % N := ⟨_, rfl⟩
  have hmrN : mr < N := by rw [hmr]; exact Nat.mod_lt _ (by omega)
  have emr : (ur : Int).tmod (N : Int) = (mr : Int) := by
    rw [Int.tmod_eq_emod_of_nonneg (by omega), hmr]
    exact (by push_cast; rfl)
  obtain ⟨mc, hmc⟩ : ∃ x : Nat, x = uc % 40 := ⟨_, rfl⟩
  have hmc40 : mc < 40 := by omega
  have emc : (uc : Int).tmod 40 = (mc : Int) := by
    rw [Int.tmod_eq_emod_of_nonneg (by omega), hmc]
    exact (by push_cast; rfl)
  have hNz : ((N : Int) == 0) = false := by rw [beq_eq_false_iff_ne]; omega
  have hNz2 : ¬ (N : Int) = 0 := by omega
  have hNz3 : ¬ N = 0 := by omega
  have wmr : IntKind.i64.wrap (mr : Int) = (mr : Int) := wrap_sm _ (by omega) (by omega)
  have wmc : IntKind.i64.wrap (mc : Int) = (mc : Int) := wrap_sm _ (by omega) (by omega)
  have wN : IntKind.u64.wrap (N : Int) = (N : Int) := by show (N : Int) % 18446744073709551616 = _; omega
  clear hur hurI huc hucI hmr hmc
  obtain ⟨x0, x1⟩ := HRS2.out Y (Only.refl _ _)
  go_upto_region 5 with fail
  go_region_held3 (fun W' => W'.cell? ⟨RS, 0, none⟩ = some (.int .i64 rs) ∧ W'.cell? ⟨RS, 1, none⟩ = some (.int .i64 cs)) ((first | exact HRS2.out _ (Only.refl _ _).drew | exact HRS2.out _ ((Only.refl _ _).alloc _).drew | trace_state)) (fail)
  obtain ⟨G, Z, hZ, hG, HZ⟩ : ∃ G Z, Z = (Y.alloc (.cells #[.int .i64 rs, .int .i64 cs, .int .i64 (mr : Int), .int .i64 cs, .int .i64 (mr : Int), .int .i64 (mc : Int), .int .i64 (N : Int), .int .i64 0] 39)).drew ∧ G = Y.heap.size ∧ Hid (Z.heap[G]? = some (.cells #[.int .i64 rs, .int .i64 cs, .int .i64 (mr : Int), .int .i64 cs, .int .i64 (mr : Int), .int .i64 (mc : Int), .int .i64 (N : Int), .int .i64 0] 39 (0, 0)) ∧ Only (fun _ => False) Y Z) := ⟨_, _, rfl, rfl, ⟨heap_alloc_new Y _, ((Only.refl _ _).alloc _).drew⟩⟩
  rw [← hZ, ← hG]
  clear hZ hG x0 x1 lRS hmx eur euc emr emc
  go_wp2_with fail
  go_loopg [61] 4 (fun gh v61 wr => ∃ (i : Nat) (W : World), W = wr ∧ gh = 4 - i ∧ i ≤ 4 ∧ v61 = .int .i64 (i : Int) ∧ Only (fun _ => False) Z W)
  case atStart => exact ⟨0, _, rfl, rfl, Nat.zero_le _, rfl, Only.refl _ _⟩
  case round =>
    obtain ⟨i, W, hW, rfl, hi, rfl, hoW⟩ := hrel
    subst hW
    have HG : Hid (Only (fun _ => False) Y W ∧ Only (fun _ => False) Z W) := ⟨HZ.out.2.trans hoW, hoW⟩
    clear hoW
    by_cases hlt : i < 4
    · have t1 : (i : Int) < 4 := by omega
      obtain ⟨xr, xc, c1, c2⟩ : ∃ xr xc : Int, W.cell? ⟨G, i * 2, none⟩ = some (.int .i64 xr) ∧ W.cell? ⟨G, i * 2 + 1, none⟩ = some (.int .i64 xc) := by
        have hb := blk_keep HG.out.2 HZ.out.1
        rcases (show i = 0 ∨ i = 1 ∨ i = 2 ∨ i = 3 by omega) with rfl | rfl | rfl | rfl
        · exact ⟨_, _, cell_blk hb, cell_blk hb⟩
        · exact ⟨_, _, cell_blk hb, cell_blk hb⟩
        · exact ⟨_, _, cell_blk hb, cell_blk hb⟩
        · exact ⟨_, _, cell_blk hb, cell_blk hb⟩
      have lG := World.block_lt_of_cell? W _ c1
      go_upto_region 8 with fail
      by_cases hx : 0 ≤ xr ∧ xr < (N : Int) ∧ 0 ≤ xc
      · obtain ⟨rn, hrn⟩ : ∃ n : Nat, (n : Int) = xr := ⟨xr.toNat, by omega⟩
        obtain ⟨cn, hcn⟩ : ∃ n : Nat, (n : Int) = xc := ⟨xc.toNat, by omega⟩
        subst hrn hcn
        obtain ⟨l, hl⟩ : ∃ l, (Lv.rof A)[rn]? = some l := ⟨_, List.getElem?_eq_getElem (by rw [← HNR.out]; omega)⟩
        obtain ⟨sm, hsm⟩ : ∃ x, x = It.sum (C.take (Lv.byt C t l cn)) := ⟨_, rfl⟩
        have HBI2 : Hid (∀ W', Only (fun _ => False) Y W' → Calls Try.prog 15 #[.pointer (some ⟨M, 0, none⟩), .agg #[.int .i64 (rn : Int), .int .i64 (cn : Int)]] W' fun e w' => e = .returned (.tuple #[.int .i64 (sm : Int), .int .i64 0]) ∧ Only (fun _ => False) W' w') := fun W' ho => by rw [hsm]; exact HBI.out W' rn cn l ho hl
        have HRI2 : Hid (∀ W', Only (fun _ => False) Y W' → Calls Try.prog 16 #[.agg #[.slice aC k cC, .slice aO (k + 1) cO], .slice aA nA cA, .int .i64 (t : Int), .agg #[.int .i64 (rn : Int), .int .i64 (cn : Int)]] W' fun e w' => e = .returned (.tuple #[.int .i64 (sm : Int), .int .i64 0]) ∧ Only (fun _ => False) W' w') := fun W' ho => by rw [hsm]; exact HRI.out W' rn cn l ho hl
        clear hx hl hsm
        obtain ⟨E1, w3, hw3, hE1, H3, -, -, -⟩ := box2 W (.int .i64 (rn : Int)) (.int .i64 (cn : Int)) 39
        rw [hw3, hE1]
        clear hw3 hE1 c1 c2 lG
        have H3' : Hid (Only (fun _ => False) Z w3 ∧ Only (fun _ => False) Y w3) := ⟨HG.out.2.trans H3.out.2, HG.out.1.trans H3.out.2⟩
        obtain ⟨y0, y1, ly⟩ := blk_two H3.out.1
        go_wp2_with fail
        refine Calls.mono (HBI2.out w3 H3'.out.2) ?_
        rintro e w4 ⟨rfl, ho4⟩
        have H4 : Hid (Only (fun _ => False) Z w4 ∧ Only (fun _ => False) Y w4 ∧ w4.heap[E1]? = some (.cells #[.int .i64 (rn : Int), .int .i64 (cn : Int)] 39 (0, 0))) := ⟨H3'.out.1.trans ho4, H3'.out.2.trans ho4, blk_keep ho4 H3.out.1⟩
        clear ho4 y0 y1 ly
        obtain ⟨y0, y1, ly⟩ := blk_two H4.out.2.2
        obtain ⟨b0, b1, lb⟩ := HC5.out w4 H4.out.2.1
        go_wp2_with fail
        refine Calls.mono (HRI2.out w4 H4.out.2.1) ?_
        rintro e w5 ⟨rfl, ho5⟩
        have H5 : Hid (Only (fun _ => False) Z w5) := H4.out.1.trans ho5
        clear ho5 y0 y1 ly b0 b1 lb
        go_wp2_with fail
        go_roundg (4 - (i + 1))
        case measure => omega
        case rel => exact ⟨i + 1, _, rfl, rfl, by omega, by go_num, H5.out⟩
      · have hxo : xr < 0 ∨ (N : Int) ≤ xr ∨ xc < 0 := by omega
        clear hx
        obtain ⟨E1, w3, hw3, hE1, H3, -, -, -⟩ := box2 W (.int .i64 xr) (.int .i64 xc) 39
        rw [hw3, hE1]
        clear hw3 hE1 c1 c2 lG
        have H3' : Hid (Only (fun _ => False) Z w3 ∧ Only (fun _ => False) Y w3) := ⟨HG.out.2.trans H3.out.2, HG.out.1.trans H3.out.2⟩
        obtain ⟨y0, y1, ly⟩ := blk_two H3.out.1
        go_wp2_with fail
        refine Calls.mono (HBO.out w3 xr xc H3'.out.2 hxo) ?_
        rintro e w4 ⟨rfl, ho4⟩
        have H4 : Hid (Only (fun _ => False) Z w4 ∧ Only (fun _ => False) Y w4 ∧ w4.heap[E1]? = some (.cells #[.int .i64 xr, .int .i64 xc] 39 (0, 0))) := ⟨H3'.out.1.trans ho4, H3'.out.2.trans ho4, blk_keep ho4 H3.out.1⟩
        clear ho4 y0 y1 ly
        obtain ⟨y0, y1, ly⟩ := blk_two H4.out.2.2
        obtain ⟨b0, b1, lb⟩ := HC5.out w4 H4.out.2.1
        go_wp2_with fail
        refine Calls.mono (HRO.out w4 xr xc H4.out.2.1 hxo) ?_
        rintro e w5 ⟨rfl, ho5⟩
        have H5 : Hid (Only (fun _ => False) Z w5) := H4.out.1.trans ho5
        clear ho5 y0 y1 ly b0 b1 lb
        go_wp2_with fail
        go_roundg (4 - (i + 1))
        case measure => omega
        case rel => exact ⟨i + 1, _, rfl, rfl, by omega, by go_num, H5.out⟩
    · have t1 : decide ((i : Int) < 4) = false := decide_eq_false (by omega)
      go_wp2_with fail
      go_ret
      exact ⟨rfl, HOY.out _ HG.out.1⟩
end Go.Proofs.Yteejgjapghccnaa.placeBytes
