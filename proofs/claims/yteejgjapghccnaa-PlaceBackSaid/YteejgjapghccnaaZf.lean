/-
  stanzalaw17.PlaceBack: its walk.
-/
import Derived.Test.YteejgjapghccnaaYn
namespace Go.Proofs.Yteejgjapghccnaa.placeBack
open Go.RowKit Go.Maps
set_option linter.unusedVariables false
set_option linter.unusedSimpArgs false
theorem take_rise {C : List Ct} (hC : Lv.Ctg C) {a b : Nat} (h : a ≤ b) (hb : b ≤ C.length) : It.sum (C.take a) ≤ It.sum (C.take b) := Lv.sum_mono hC h hb
theorem at_kind {C : List Ct} {i : Nat} {c : Ct} (h : C[i]? = some c) : Sp.at' C i = c := by
  unfold Sp.at'
  rw [List.getD_eq_getElem?_getD, h]
  rfl
set_option maxRecDepth 100000 in
set_option maxHeartbeats 8000000 in
theorem walk (L0 : List Bt) (a0 : Option Addr) (c0 : Nat) (K : Wy) (w : World) (hV : Vw w a0 (btC L0)) (hB : ∀ b ∈ L0, b.cells < 256 ∧ b.kind < 256 ∧ b.len < 256 ∧ b.opp < 256) (hc : L0.length ≤ c0) (hm : c0 ≤ maxLen) (hK : K.Ok) :
    Calls Try.prog 6 #[.slice a0 L0.length c0, K.val] w fun e w' => e = .returned (.bool true) ∧ Only (fun _ => False) w w' := by
  have HMA : Hid (∀ W, Only (fun _ => False) w W → Calls Try.prog 11 #[.slice a0 L0.length c0, K.val] W fun e w' => ∃ (C : List Ct) (O : List Nat) (k : Nat) (aC aO : Option Addr) (cC cO : Nat) (A : List Ln) (nA : Nat) (aA : Option Addr) (cA M s t : Nat), e = .returned (.tuple #[.agg #[.slice aC k cC, .slice aO (k + 1) cO], .slice aA nA cA, .pointer (some ⟨M, 0, none⟩), .int .i64 (s : Int), .int .i64 (t : Int)]) ∧ Md w' C O k aC aO cC cO A nA aA M s t ∧ Only (fun _ => False) W w') := fun W ho => made17_any L0 _ a0 c0 K W (hV.keep ho) hB rfl hc hm hK
  obtain ⟨nL, hnL⟩ : ∃ x, x = L0.length := ⟨_, rfl⟩
  rw [← hnL] at HMA ⊢
  obtain ⟨wi, tb, mo, hy, pr, lo⟩ := K
  unfold Wy.val at HMA ⊢
  simp only at HMA ⊢
  clear hV hB hc hm hK hnL
  go_enter Try.func6, Try.ntmps6
  go_wp2_with fail
  obtain ⟨R, w0, hw0', hR, H0, lR⟩ := box6 w (.int .u8 (wi : Int)) (.int .u8 (tb : Int)) (.int .u8 (mo : Int)) (.int .u16 (hy : Int)) (.int .u16 (pr : Int)) (.float .f64 lo) 26
  rw [hw0', hR]
  clear hw0' hR
  refine Calls.mono (awake17_any _) ?_
  rintro e w2 ⟨rfl, ho2⟩
  have H2 : Hid (w2.heap[R]? = some (.cells #[.int .u8 (wi : Int), .int .u8 (tb : Int), .int .u8 (mo : Int), .int .u16 (hy : Int), .int .u16 (pr : Int), .float .f64 lo] 26 (0, 0)) ∧ Only (fun _ => False) w w2) := ⟨blk_keep ho2 H0.out.1, H0.out.2.1.trans ho2⟩
  clear ho2 lR H0
  obtain ⟨r0, r1, r2, r3, r4, r5⟩ := blk_six H2.out.1
  have lR : R < w2.heap.size := (Array.getElem?_eq_some_iff.1 H2.out.1).1
  go_wp2_with fail
  refine Calls.mono (HMA.out _ H2.out.2) ?_
  rintro e X ⟨C, O, k, aC, aO, cC, cO, A, nA, aA, cA, M, s, t, rfl, hmd, hoX⟩
  have HX : Hid (Md X C O k aC aO cC cO A nA aA M s t ∧ Only (fun _ => False) w X) := ⟨hmd, H2.out.2.trans hoX⟩
  have hk : k ≤ 100 := hmd.few
  have hs : s ≤ 400 := by rw [hmd.hs]; exact hmd.sum
  have hnA : nA ≤ k := by have := hmd.chn.len; rw [hmd.hA]; omega
  have ht0 : 0 < t := hmd.t0
  have ht1 : t ≤ 64 := hmd.t1
  clear hmd hoX r0 r1 r2 r3 r4 r5 lR HMA
  go_upto_region 4 with fail
  obtain ⟨B5, Y, hY, hB5, HY, -, -, -⟩ := box2 X (.slice aC k cC) (.slice aO (k + 1) cO) 31
  rw [hY, hB5]
  clear hY hB5
  have HMD : Hid (∀ W', Only (fun _ => False) Y W' → Md W' C O k aC aO cC cO A nA aA M s t) := fun W' ho => HX.out.1.keep (HY.out.2.trans ho)
  have HC5 : Hid (∀ W', Only (fun _ => False) Y W' → W'.cell? ⟨B5, 0, none⟩ = some (.slice aC k cC) ∧ W'.cell? ⟨B5, 1, none⟩ = some (.slice aO (k + 1) cO) ∧ B5 < W'.heap.size) := fun W' ho => blk_two (blk_keep ho HY.out.1)
  have HOY : Hid (∀ W', Only (fun _ => False) Y W' → Only (fun _ => False) w W') := fun W' ho => HX.out.2.trans (HY.out.2.trans ho)
  have HSP : Hid (∀ W' (q : Nat) back, Only (fun _ => False) Y W' → q ≤ s → Calls Try.prog 12 #[.pointer (some ⟨M, 0, none⟩), .int .i64 (q : Int), .bool back] W' fun e w' => ∃ r c : Nat, Lv.spt C t (Lv.rof A) back (Lv.clu C q k) = (r, c) ∧ e = .returned (.tuple #[.agg #[.int .i64 (r : Int), .int .i64 (c : Int)], .int .i64 0]) ∧ Only (fun _ => False) W' w') := fun W' q back ho hq => spot_any M k C t (Lv.rof A) q back W' (HMD.out W' ho).map (by rw [← (HMD.out W' ho).hs]; exact hq)
  have HBY : Hid (∀ W' (r c : Nat) (l : Ln), Only (fun _ => False) Y W' → (Lv.rof A)[r]? = some l → Calls Try.prog 15 #[.pointer (some ⟨M, 0, none⟩), .agg #[.int .i64 (r : Int), .int .i64 (c : Int)]] W' fun e w' => e = .returned (.tuple #[.int .i64 ((It.sum (C.take (Lv.byt C t l c)) : Nat) : Int), .int .i64 0]) ∧ Only (fun _ => False) W' w') := fun W' r c l ho hl => byte_any M k C t (Lv.rof A) r c l W' (HMD.out W' ho).map hl
  have HMA2 : Hid (Lv.Rws k (Lv.rof A) ∧ Lv.Ctg C ∧ k = C.length ∧ s = It.sum C ∧ Lv.Chn 0 k A ∧ nA = A.length) := ⟨Lv.rws_rof HX.out.1.chn, HX.out.1.ctg, HX.out.1.pv.hn, HX.out.1.hs, HX.out.1.chn, HX.out.1.hA⟩
  clear HX HY H2
  obtain ⟨b0, b1, lB⟩ := HC5.out Y (Only.refl _ _)
  go_wp2_with fail
  go_loopg [10, 39] k (fun gh v10 v39 wr => ∃ (i : Nat) (th : Bool) (W : World), W = wr ∧ gh = k - i ∧ i ≤ k ∧ v10 = .bool th ∧ v39 = .int .i64 (i : Int) ∧ (th = false → ∀ j, j < i → (Sp.at' C j).kind = 2 ∨ 1 ≤ (Sp.at' C j).cells) ∧ Only (fun _ => False) Y W)
  case atStart => exact ⟨0, false, _, rfl, rfl, Nat.zero_le _, rfl, rfl, fun _ j h => absurd h (Nat.not_lt_zero _), Only.refl _ _⟩
  case round =>
    obtain ⟨i, th, W, hW, rfl, hi, rfl, rfl, hth, hoW⟩ := hrel
    subst hW
    have HG : Hid ((th = false → ∀ j, j < i → (Sp.at' C j).kind = 2 ∨ 1 ≤ (Sp.at' C j).cells) ∧ Only (fun _ => False) Y W) := ⟨hth, hoW⟩
    clear hth hoW b0 b1 lB
    obtain ⟨b0, b1, lB⟩ := HC5.out W HG.out.2
    by_cases hlt : i < k
    · have t1 : (i : Int) < (k : Int) := by omega
      obtain ⟨z, hz⟩ : ∃ z, C[i]? = some z := ⟨_, List.getElem?_eq_getElem (by rw [← HMA2.out.2.2.1]; exact hlt)⟩
      have hPw := (HMD.out W HG.out.2).pv
      obtain ⟨xp, xl, xc, xk, rfl, hxc, hxk⟩ := hPw.ok.nat hz
      obtain ⟨g, off, eg, hg, d0, d1, d2, d3⟩ := hPw.vC.cluster (k := i) hz
      simp only at d0 d1 d2 d3
      have HAT : Hid (Sp.at' C i = ⟨xp, xl, (xc : Int), xk⟩) := at_kind hz
      subst eg
      clear hz hPw
      cases th with
      | true =>
        go_wp2_with fail
        go_roundg (k - (i + 1))
        case measure => omega
        case rel => exact ⟨i + 1, true, _, rfl, rfl, by omega, rfl, by go_num, fun h => (by cases h), HG.out.2.alloc _⟩
      | false =>
        by_cases q1 : xc = 0
        · have v1 : ((xc : Int) == 0) = true := by rw [beq_iff_eq]; omega
          have HQ1 : Hid (xc = 0) := q1
          clear q1
          by_cases q2 : xk = 2
          · have v2 : ((xk : Int) == 2) = true := by rw [beq_iff_eq]; omega
            have HN : Hid (∀ j, j < i + 1 → (Sp.at' C j).kind = 2 ∨ 1 ≤ (Sp.at' C j).cells) := fun j hj => by
              by_cases e : j = i
              · rw [e, HAT.out]; exact Or.inl q2
              · exact HG.out.1 rfl j (by omega)
            have HQ2 : Hid (xk = 2) := q2
            clear q2
            go_wp2_with fail
            go_roundg (k - (i + 1))
            case measure => omega
            case rel => exact ⟨i + 1, false, _, rfl, rfl, by omega, by have h9 := HQ2.out; first | rfl | (simp; omega), by go_num, fun _ => HN.out, HG.out.2.alloc _⟩
          · have v2 : ((xk : Int) == 2) = false := by rw [beq_eq_false_iff_ne]; omega
            have HQ2 : Hid (¬ xk = 2) := q2
            clear q2
            go_wp2_with fail
            go_roundg (k - (i + 1))
            case measure => omega
            case rel => exact ⟨i + 1, true, _, rfl, rfl, by omega, by have h9 := HQ2.out; first | rfl | (simp; omega), by go_num, fun h => (by cases h), HG.out.2.alloc _⟩
        · have v1 : ((xc : Int) == 0) = false := by rw [beq_eq_false_iff_ne]; omega
          have HN : Hid (∀ j, j < i + 1 → (Sp.at' C j).kind = 2 ∨ 1 ≤ (Sp.at' C j).cells) := fun j hj => by
            by_cases e : j = i
            · rw [e, HAT.out]; exact Or.inr (by show (1 : Int) ≤ (xc : Int); omega)
            · exact HG.out.1 rfl j (by omega)
          clear q1
          go_wp2_with fail
          go_roundg (k - (i + 1))
          case measure => omega
          case rel => exact ⟨i + 1, false, _, rfl, rfl, by omega, by first | rfl | simp, by go_num, fun _ => HN.out, HG.out.2.alloc _⟩
    · have t1 : decide ((i : Int) < (k : Int)) = false := decide_eq_false (by omega)
      have HTH : Hid (th = false → ∀ j, j < k → (Sp.at' C j).kind = 2 ∨ 1 ≤ (Sp.at' C j).cells) := fun h j hj => HG.out.1 h j (by omega)
      have HOW : Hid (Only (fun _ => False) Y W) := HG.out.2
      clear HG
      -- what a cluster's own spot leads back to
      have HKEY : Hid (∀ x, x ≤ k → ∃ (l : Ln) (sc bt : Nat), (Lv.rof A)[Lv.rwF (Lv.rof A) x]? = some l ∧ l.a ≤ x ∧ x ≤ l.b ∧ l.b ≤ k ∧ Lv.spt C t (Lv.rof A) false x = (Lv.rwF (Lv.rof A) x, sc) ∧ sc = Sp.col C t l.a (x - l.a) ∧ bt = Lv.byt C t l sc ∧ l.a ≤ bt ∧ bt ≤ x ∧ Sp.col C t l.a (bt - l.a) = sc ∧ (th = false → bt = x)) := fun x hx => by
        obtain ⟨l, h1, h2, h3⟩ := HMA2.out.1.spec hx
        have h4 := HMA2.out.1.at h1
        have h5 := Lv.byt_own C ht0 l h2 h3
        have h6 := Lv.byt_in C ht0 l h4.1 (Sp.col C t l.a (x - l.a))
        refine ⟨l, _, _, h1, h2, h3, h4.2.1, Lv.spt_plain h1, rfl, rfl, h6.1, h5.1, h5.2, fun h => ?_⟩
        exact Lv.byt_self C ht0 l (by rw [← HMA2.out.2.2.1]; exact h4.2.1) (fun j _ hj => HTH.out h j (by rw [HMA2.out.2.2.1]; exact hj)) h2 h3
      go_wp2_with fail
      clear hlt t1
      go_loopg [58] k (fun gh v58 wr => ∃ (j : Nat) (Z : World), Z = wr ∧ gh = k - j ∧ j ≤ k ∧ v58 = .int .i64 (j : Int) ∧ Only (fun _ => False) Y Z)
      case atStart => exact ⟨0, _, rfl, rfl, Nat.zero_le _, rfl, HOW.out⟩
      case round =>
        obtain ⟨j, Z, hZ, rfl, hj, rfl, hoZ⟩ := hrel
        subst hZ
        have HZ : Hid (Only (fun _ => False) Y Z) := hoZ
        clear hoZ b0 b1 lB
        obtain ⟨b0, b1, lB⟩ := HC5.out Z HZ.out
        by_cases hlt : j < k
        · have t2 : (j : Int) < (k : Int) := by omega
          obtain ⟨z, hz⟩ : ∃ z, C[j]? = some z := ⟨_, List.getElem?_eq_getElem (by rw [← HMA2.out.2.2.1]; exact hlt)⟩
          have hPw := (HMD.out Z HZ.out).pv
          obtain ⟨xp, xl, xc, xk, rfl, hxc, hxk⟩ := hPw.ok.nat hz
          have hce := Lv.ctg_end HMA2.out.2.1 hz
          simp only at hce
          obtain ⟨g, off, eg, hg, d0, d1, d2, d3⟩ := hPw.vC.cluster (k := j) hz
          simp only at d0 d1 d2 d3
          have hxs : xp ≤ s := by rw [hce.1, HMA2.out.2.2.2.1]; exact It.sum_le _
          have hcl : Lv.clu C xp k = j := by
            rw [hce.1]
            have := Lv.clu_own HMA2.out.2.1 (show j ≤ C.length by rw [← HMA2.out.2.2.1]; omega)
            rw [← HMA2.out.2.2.1] at this
            exact this
          -- the row
          have hne : A ≠ [] := fun e => by
            have h := HMA2.out.2.2.2.2.1
            rw [e] at h
            have : (0 : Nat) = k := h
            omega
          have hrof := Lv.rof_self hne
          obtain ⟨l, sc, bt, k1, k2, k3, k4, k5, k6, k7, k8, k9, k10, k11⟩ := HKEY.out j (by omega)
          obtain ⟨r, hr⟩ : ∃ r, r = Lv.rwF (Lv.rof A) j := ⟨_, rfl⟩
          rw [← hr] at k1 k5
          have hjb : j < l.b := by
            obtain ⟨l', q1, q2, q3, q4⟩ := Lv.rw_spec (k := j) HMA2.out.2.2.2.2.1 hne (Nat.zero_le _) (by omega)
            rw [← hrof, ← hr, k1] at q1
            injection q1 with q1
            subst q1
            rcases q4 with q4 | ⟨q4, _, _⟩ <;> omega
          have hrA : A[r]? = some l := by rw [← hrof]; exact k1
          have hrn : r < nA := by rw [HMA2.out.2.2.2.2.2]; exact (List.getElem?_eq_some_iff.1 hrA).1
          obtain ⟨bl, ol, e0, hbl, c0, c1, c2, c3⟩ := (HMD.out Z HZ.out).vA.line hrA
          obtain ⟨la, lb, lc, le⟩ := l
          simp only at c0 c1 c2 c3 k2 k3 k4 k5 k6 k7 k8 k10 hjb
          obtain ⟨za, hza⟩ : ∃ z, C[la]? = some z := ⟨_, List.getElem?_eq_getElem (by rw [← HMA2.out.2.2.1]; omega)⟩
          have hPw2 := (HMD.out Z HZ.out).pv
          obtain ⟨yp, yl, yc, yk, rfl, hyc, hyk⟩ := hPw2.ok.nat hza
          have hca := (Lv.ctg_end HMA2.out.2.1 hza).1
          obtain ⟨g2, off2, eg2, hg2, f0, f1, f2, f3⟩ := hPw2.vC.cluster (k := la) hza
          simp only at f0 f1 f2 f3 hca
          rw [eg] at eg2
          injection eg2 with eg2
          injection eg2 with eg3 eg4
          subst eg3 eg4
          obtain ⟨kb, hkb⟩ : ∃ x, x = It.sum (C.take bt) := ⟨_, rfl⟩
          have hkx : kb ≤ xp := by rw [hkb, hce.1]; exact take_rise HMA2.out.2.1 k9 (by rw [← HMA2.out.2.2.1]; omega)
          have hky : yp ≤ kb := by rw [hkb, hca]; exact take_rise HMA2.out.2.1 k8 (by rw [← HMA2.out.2.2.1]; omega)
          have hcb : Lv.clu C kb k = bt := by
            rw [hkb]
            have := Lv.clu_own HMA2.out.2.1 (show bt ≤ C.length by rw [← HMA2.out.2.2.1]; omega)
            rw [← HMA2.out.2.2.1] at this
            exact this
          have hts : th = false → kb = xp := fun h => by rw [hkb, hce.1, k11 h]
          have HS1 : Hid (Lv.spt C t (Lv.rof A) false (Lv.clu C xp k) = (r, sc)) := by rw [hcl]; exact k5
          have HS2 : Hid (Lv.spt C t (Lv.rof A) false (Lv.clu C kb k) = (r, sc)) := by
            rw [hcb, hrof]
            have h := Lv.spt_in (C := C) (t := t) (k := bt) HMA2.out.2.2.2.2.1 hrA k8 (by show bt < lb; omega)
            rw [h]
            show (r, Sp.col C t la (bt - la)) = (r, sc)
            rw [k10]
          have HB1 : Hid (∀ W', Only (fun _ => False) Y W' → Calls Try.prog 15 #[.pointer (some ⟨M, 0, none⟩), .agg #[.int .i64 (r : Int), .int .i64 (sc : Int)]] W' fun e w' => e = .returned (.tuple #[.int .i64 (kb : Int), .int .i64 0]) ∧ Only (fun _ => False) W' w') := fun W' ho => by
            rw [hkb, k7]
            exact HBY.out W' r sc _ ho k1
          have HCL : Hid (Z.cell? ⟨bl, ol + r * 4, none⟩ = some (.int .i64 (la : Int)) ∧ Z.cell? ⟨bl, ol + r * 4 + 1, none⟩ = some (.int .i64 (lb : Int)) ∧ Z.cell? ⟨g, off + la * 4, none⟩ = some (.int .i64 (yp : Int)) ∧ aA = some ⟨bl, ol, none⟩ ∧ aC = some ⟨g, off, none⟩) := ⟨c0, c1, f0, e0, eg⟩
          subst e0 eg
          clear hz hPw hce hcl hne hrof k1 k5 k6 k7 k10 k11 hrA hza hPw2 hca hcb hkb hr c2 c3 f1 f2 f3 c0 c1 f0
          go_upto_region 13 with fail
          obtain ⟨cb, w3, hw3, hcb, H3, -⟩ := box4 Z (.int .i64 (xp : Int)) (.int .i64 (xl : Int)) (.int .i64 (xc : Int)) (.int .u8 (xk : Int)) 55
          rw [hw3, hcb]
          clear hw3 hcb d0 d1 d2 d3 hg hg2 hbl
          have HB3 : Hid (∀ W', Only (fun _ => False) w3 W' → W'.cell? ⟨cb, 0, none⟩ = some (.int .i64 (xp : Int)) ∧ cb < W'.heap.size ∧ Only (fun _ => False) Y W') := fun W' ho => ⟨(blk_four (blk_keep ho H3.out.1)).1, (Array.getElem?_eq_some_iff.1 (blk_keep ho H3.out.1)).1, HZ.out.trans (H3.out.2.1.trans ho)⟩
          obtain ⟨x0, lx, -⟩ := HB3.out w3 (Only.refl _ _)
          go_wp2_with fail
          refine Calls.mono (HSP.out w3 xp false (HB3.out w3 (Only.refl _ _)).2.2 hxs) ?_
          rintro e w4 ⟨r', c', hrc, rfl, ho4⟩
          rw [HS1.out] at hrc
          injection hrc with e1 e2
          subst e1 e2
          have H4 : Hid (Only (fun _ => False) w3 w4) := ho4
          clear ho4 x0 lx
          go_upto_region 14 with fail
          obtain ⟨E1, w5, hw5, hE1, H5, y0, y1, ly⟩ := box2 w4 (.int .i64 (r : Int)) (.int .i64 (sc : Int)) 39
          rw [hw5, hE1]
          clear hw5 hE1
          go_wp2_with fail
          refine Calls.mono (HB1.out w5 (HB3.out w5 (H4.out.trans H5.out.2)).2.2) ?_
          rintro e w6 ⟨rfl, ho6⟩
          have H6 : Hid (Only (fun _ => False) w3 w6 ∧ w6.heap[E1]? = some (.cells #[.int .i64 (r : Int), .int .i64 (sc : Int)] 39 (0, 0)) ∧ Only (fun _ => False) Z w6) := ⟨H4.out.trans (H5.out.2.trans ho6), blk_keep ho6 H5.out.1, H3.out.2.1.trans (H4.out.trans (H5.out.2.trans ho6))⟩
          clear ho6 y0 y1 ly b0 b1 lB
          obtain ⟨x0, lx, -⟩ := HB3.out w6 H6.out.1
          obtain ⟨y0, y1, ly⟩ := blk_two H6.out.2.1
          obtain ⟨b0, b1, lB⟩ := HC5.out w6 (HB3.out w6 H6.out.1).2.2
          have c0 := keep0 H6.out.2.2 HCL.out.1
          have c1 := keep0 H6.out.2.2 HCL.out.2.1
          have f0 := keep0 H6.out.2.2 HCL.out.2.2.1
          have lbl := World.block_lt_of_cell? w6 _ c0
          have lg := World.block_lt_of_cell? w6 _ f0
          have u1 : decide ((xp : Int) < (kb : Int)) = false := decide_eq_false (by omega)
          have u1n : decide (xp < kb) = false := decide_eq_false (by omega)
          have u2 : decide ((nA : Int) ≤ (r : Int)) = false := decide_eq_false (by omega)
          have u2n : decide (nA ≤ r) = false := decide_eq_false (by omega)
          have hrI : (r : Int) < (nA : Int) := by omega
          have u3 : decide ((kb : Int) < (yp : Int)) = false := decide_eq_false (by omega)
          have u3n : decide (kb < yp) = false := decide_eq_false (by omega)
          have u4 : decide ((j : Int) < (la : Int)) = false := decide_eq_false (by omega)
          have u4n : decide (j < la) = false := decide_eq_false (by omega)
          have u5 : decide ((lb : Int) ≤ (j : Int)) = false := decide_eq_false (by omega)
          have u5n : decide (lb ≤ j) = false := decide_eq_false (by omega)
          have hlaI : (la : Int) < (k : Int) := by omega
          have hlan : la < k := by omega
          go_upto_region 15 with fail
          go_cut [139] from 76 to 139 (fun v139 wr => v139 = .bool false ∧ ∃ W9, W9 = wr ∧ Only (fun _ => False) w6 W9)
          case first =>
            cases th with
            | true =>
              go_quiet (fail)
              go_wp2_with fail
              go_meet
              exact ⟨rfl, _, rfl, (Only.refl _ _).drewN _⟩
            | false =>
              have hts' := hts rfl
              subst hts'
              clear hts u1 u1n
              go_quiet (fail)
              go_wp2_with fail
              go_meet
              exact ⟨by first | rfl | simp, _, rfl, (Only.refl _ _).drewN _⟩
          case rest =>
            obtain ⟨rfl, W9, hW9, hoW9⟩ := hcut
            subst hW9
            have H9 : Hid (Only (fun _ => False) w3 W9 ∧ W9.heap[E1]? = some (.cells #[.int .i64 (r : Int), .int .i64 (sc : Int)] 39 (0, 0))) := ⟨H6.out.1.trans hoW9, blk_keep hoW9 H6.out.2.1⟩
            clear hoW9 x0 lx y0 y1 ly b0 b1 lB c0 c1 f0 lbl lg u1 u1n u2 u2n hrI u3 u3n u4 u4n u5 u5n hlaI hlan hts
            go_wp2_with fail
            refine Calls.mono (HSP.out W9 kb false (HB3.out W9 H9.out.1).2.2 (by omega)) ?_
            rintro e w10 ⟨r', c', hrc, rfl, ho10⟩
            rw [HS2.out] at hrc
            injection hrc with e1 e2
            subst e1 e2
            have H10 : Hid (Only (fun _ => False) w3 w10 ∧ w10.heap[E1]? = some (.cells #[.int .i64 (r : Int), .int .i64 (sc : Int)] 39 (0, 0))) := ⟨H9.out.1.trans ho10, blk_keep ho10 H9.out.2⟩
            clear ho10
            go_upto_region 18 with fail
            obtain ⟨E2, w11, hw11, hE2, H11, y0, y1, ly⟩ := box2 w10 (.int .i64 (r : Int)) (.int .i64 (sc : Int)) 39
            rw [hw11, hE2]
            clear hw11 hE2
            obtain ⟨z0, z1, lz⟩ := blk_two (blk_keep H11.out.2 H10.out.2)
            go_wp2_with fail
            go_roundg (k - (j + 1))
            case measure => omega
            case rel => exact ⟨j + 1, _, rfl, rfl, by omega, by go_num, (HB3.out _ (H10.out.1.trans H11.out.2)).2.2⟩
        · have t2 : decide ((j : Int) < (k : Int)) = false := decide_eq_false (by omega)
          obtain ⟨l, sc, bt, k1, k2, k3, k4, k5, k6, k7, k8, k9, k10, k11⟩ := HKEY.out k (Nat.le_refl _)
          obtain ⟨r, hr⟩ : ∃ r, r = Lv.rwF (Lv.rof A) k := ⟨_, rfl⟩
          rw [← hr] at k1 k5
          have hcl : Lv.clu C s k = k := by
            have := Lv.clu_own HMA2.out.2.1 (show k ≤ C.length by rw [← HMA2.out.2.2.1]; exact Nat.le_refl _)
            rw [HMA2.out.2.2.1, List.take_length, ← HMA2.out.2.2.2.1] at this
            rw [← HMA2.out.2.2.1] at this
            exact this
          have HS1 : Hid (Lv.spt C t (Lv.rof A) false (Lv.clu C s k) = (r, sc)) := by rw [hcl]; exact k5
          obtain ⟨kb, hkb⟩ : ∃ x, x = It.sum (C.take bt) := ⟨_, rfl⟩
          have hks : kb ≤ s := by rw [hkb, HMA2.out.2.2.2.1]; exact It.sum_le _
          have hts : th = false → kb = s := fun h => by rw [hkb, HMA2.out.2.2.2.1, k11 h, HMA2.out.2.2.1, List.take_length]
          have HB1 : Hid (∀ W', Only (fun _ => False) Y W' → Calls Try.prog 15 #[.pointer (some ⟨M, 0, none⟩), .agg #[.int .i64 (r : Int), .int .i64 (sc : Int)]] W' fun e w' => e = .returned (.tuple #[.int .i64 (kb : Int), .int .i64 0]) ∧ Only (fun _ => False) W' w') := fun W' ho => by
            rw [hkb, k7]
            exact HBY.out W' r sc _ ho k1
          clear k1 k2 k3 k4 k5 k6 k7 k8 k9 k10 k11 hr hcl hkb
          go_wp2_with fail
          refine Calls.mono (HSP.out Z s false HZ.out (Nat.le_refl _)) ?_
          rintro e w4 ⟨r', c', hrc, rfl, ho4⟩
          rw [HS1.out] at hrc
          injection hrc with e1 e2
          subst e1 e2
          have H4 : Hid (Only (fun _ => False) Y w4) := HZ.out.trans ho4
          clear ho4
          go_upto_region 22 with fail
          obtain ⟨E1, w5, hw5, hE1, H5, y0, y1, ly⟩ := box2 w4 (.int .i64 (r : Int)) (.int .i64 (sc : Int)) 39
          rw [hw5, hE1]
          clear hw5 hE1
          go_wp2_with fail
          refine Calls.mono (HB1.out w5 (H4.out.trans H5.out.2)) ?_
          rintro e w6 ⟨rfl, ho6⟩
          have H6 : Hid (Only (fun _ => False) Y w6) := H4.out.trans (H5.out.2.trans ho6)
          clear ho6 y0 y1 ly
          have u1 : (kb : Int) ≤ (s : Int) := by omega
          cases th with
          | true =>
            go_wp2_with fail
            go_ret
            exact ⟨by first | rfl | simp, HOY.out _ H6.out⟩
          | false =>
            have hts' := hts rfl
            have u2 : ((kb : Int) == (s : Int)) = true := by rw [beq_iff_eq]; omega
            clear hts hts'
            go_wp2_with fail
            go_ret
            exact ⟨by first | rfl | simp, HOY.out _ H6.out⟩
end Go.Proofs.Yteejgjapghccnaa.placeBack
