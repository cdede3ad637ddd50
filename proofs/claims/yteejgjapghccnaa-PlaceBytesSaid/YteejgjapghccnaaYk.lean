/-
  The document's Spot: a byte's row and column.
-/
import Derived.Test.YteejgjapghccnaaYg
import Derived.Test.YteejgjapghccnaaYz
import Derived.Test.YteejgjapghccnaaPt
import Derived.Test.YteejgjapghccnaaSa3
namespace Go.Proofs.Yteejgjapghccnaa
open Go.RowKit Go.Maps
set_option linter.unusedVariables false
set_option linter.unusedSimpArgs false
theorem box22 (w : World) (v0 v1 u0 u1 : Value) (t t' : TypeId) : ∃ R b w1, (w.alloc (.cells #[v0, v1] t)).alloc (.cells #[u0, u1] t') = w1 ∧ w.heap.size + 1 = b ∧ w.heap.size = R ∧ Hid (w1.heap[R]? = some (.cells #[v0, v1] t (0, 0)) ∧ w1.heap[b]? = some (.cells #[u0, u1] t' (0, 0)) ∧ Only (fun _ => False) w w1 ∧ w.heap.size ≤ b) ∧ R < b :=
  ⟨_, _, _, rfl, rfl, rfl, ⟨bx_made w _ _, heap_alloc2_new w _ _, ((Only.refl _ _).alloc _).alloc _, Nat.le_succ _⟩, Nat.lt_succ_self _⟩
set_option maxRecDepth 100000 in
set_option maxHeartbeats 8000000 in
theorem refSpot_out (C : List Ct) (O : List Nat) (n m : Nat) (aC aO : Option Addr) (cC cO t : Nat) (L : List Ln) (nl : Nat) (al : Option Addr) (cl : Nat) (q : Int) (back : Bool) (w : World) (hP : Pv w C O n m aC aO cC cO) (hC : Lv.Ctg C) (hs : It.sum C ≤ 1000000) (hR : Lv.Chn 0 n L) (hV : Vw w al (lnC L)) (hnl : nl = L.length) (hfew : n ≤ 1000) (h0 : 0 < t) (ht : t ≤ 1000) (hq : q < 0 ∨ (It.sum C : Int) < q) :
    Calls Try.prog 13 #[.agg #[.slice aC n cC, .slice aO m cO], .slice al nl cl, .int .i64 (t : Int), .int .i64 q, .bool back] w fun e w' => e = .returned (.tuple #[.agg #[.int .i64 0, .int .i64 0], .int .i64 2]) ∧ Only (fun _ => False) w w' := by
  have hrws := Lv.rws_rof hR
  obtain ⟨L', hL'⟩ : ∃ x, x = Lv.rof L := ⟨_, rfl⟩
  obtain ⟨N, hN⟩ : ∃ x, x = L'.length := ⟨_, rfl⟩
  rw [← hL'] at hrws
  have hNl := rlen hrws
  rw [← hN] at hNl
  obtain ⟨hN0, hN1⟩ := hNl
  have HCO : Hid (∀ W la lb, Only (fun _ => False) w W → la ≤ lb → lb ≤ n → Calls Try.prog 17 #[.agg #[.slice aC n cC, .slice aO m cO], .int .i64 ((la : Nat) : Int), .int .i64 ((lb : Nat) : Int), .int .i64 (t : Int)] W fun e w' => ∃ al k c, e = .returned (.slice al k c) ∧ k = lb - la + 1 ∧ Vw w' al (natI (Sp.cols C t la (lb - la))) ∧ Only (fun _ => False) W w') := fun W la lb ho h1 h2 => by
    refine (refColumns_any C O n m aC aO cC cO la lb t W (hP.keep ho) h1 h2 h0 ht).mono ?_
    rintro e w' ⟨al, c, he, hown, ho'⟩
    rw [Lv.cols_len] at he hown
    exact ⟨al, _, c, he, rfl, own_vw hown, ho'⟩
  have HP : Hid (Pv w C O n m aC aO cC cO ∧ Lv.Ctg C ∧ n = C.length) := ⟨hP, hC, hP.hn⟩
  have HL : Hid (L' = Lv.rof L ∧ N = L'.length ∧ Lv.Rws n L' ∧ nl = L.length) := ⟨hL', hN, hrws, hnl⟩
  have HV : Hid (Vw w al (lnC L)) := hV
  obtain ⟨s, hs'⟩ : ∃ s, s = It.sum C := ⟨_, rfl⟩
  rw [← hs'] at hs hq
  have HSM : Hid (s = It.sum C ∧ (∀ i, It.sum (C.drop i) ≤ It.sum C)) := ⟨hs', fun i => by
    have h := It.sum_append (C.take i) (C.drop i)
    rw [List.take_append_drop] at h
    omega⟩
  have hnlk : nl ≤ n := by have := hR.len; omega
  clear hP hC hR hV hL' hN hrws hnl hs'
  go_enter Try.func13, Try.ntmps13
  go_upto_region 1 with fail
  obtain ⟨R, B, w0, hw0, hB, hR, H0, lRB⟩ := box22 w (.slice aC n cC) (.slice aO m cO) (.int .i64 0) (.int .i64 0) 31 39
  rw [hw0, hB, hR]
  clear hw0 hB hR
  have HS : Hid (∀ W', Only (fun _ => False) w0 W' → W'.cell? ⟨R, 0, none⟩ = some (.slice aC n cC) ∧ W'.cell? ⟨R, 1, none⟩ = some (.slice aO m cO) ∧ R < W'.heap.size ∧ W'.heap[B]? = some (.cells #[.int .i64 0, .int .i64 0] 39 (0, 0)) ∧ Only (fun _ => False) w W') := fun W' ho => by
    have e1 := blk_keep ho H0.out.1
    have e2 := blk_keep ho H0.out.2.1
    exact ⟨(blk_two e1).1, (blk_two e1).2.1, (blk_two e1).2.2, e2, H0.out.2.2.1.trans ho⟩
  have HB : Hid (w.heap.size ≤ B) := H0.out.2.2.2
  have hNm : N ≤ 1001 := by omega
  by_cases hz : nl = 0
  · have t1 : ((nl : Int) == 0) = true := by rw [beq_iff_eq]; omega
    have hL0 : L = [] := List.eq_nil_of_length_eq_zero (by rw [← HL.out.2.2.2]; exact hz)
    have HL1 : Hid (L' = [⟨0, 0, 0, 0⟩] ∧ N = 1) := by
      have e := HL.out.1
      rw [hL0] at e
      exact ⟨e, by rw [HL.out.2.1, e]; rfl⟩
    clear hz hL0
    go_upto_region 3 with fail
    obtain ⟨bA, W, hW, hbA, HA, -⟩ := box4 w0 (.int .i64 0) (.int .i64 0) (.int .i64 0) (.int .u8 0) 59
    rw [hW, hbA]
    clear hW hbA
    obtain ⟨a1, ha1⟩ : ∃ x, x = some (⟨bA, 0, none⟩ : Addr) := ⟨_, rfl⟩
    obtain ⟨c1, hc1⟩ : ∃ x, x = N := ⟨_, rfl⟩
    have H1 : Hid (Vw W a1 (lnC L') ∧ Only (fun _ => False) w0 W) := by
      refine ⟨?_, HA.out.2.1⟩
      rw [HL1.out.1, ha1]
      exact vw_blk HA.out.1
    rw [show Value.slice (some ⟨bA, 0, none⟩) 1 1 = .slice a1 N c1 by rw [ha1, hc1, HL1.out.2]]
    clear ha1 hc1 HL1 HA
    obtain ⟨r0, r1, lR, -, -⟩ := HS.out W H1.out.2
    go_wp2_with fail
    go_loopg [13, 14, 15] n (fun gh v13 v14 v15 wr => ∃ (i k1 s1 : Nat) (X : World), X = wr ∧ gh = i ∧ i ≤ n ∧ v13 = .int .i64 (s1 : Int) ∧ v14 = .int .i64 (k1 : Int) ∧ v15 = .int .i64 ((i : Int) - 1) ∧ s1 = It.sum (C.drop i) ∧ Only (fun _ => False) W X)
    case atStart => exact ⟨n, n, 0, _, rfl, rfl, Nat.le_refl _, rfl, rfl, by go_num, by rw [HP.out.2.2, List.drop_length]; rfl, Only.refl _ _⟩
    case round =>
      obtain ⟨i, k1, s1, X, hX, hgh, hi, rfl, rfl, rfl, hs1, hoX⟩ := hrel
      subst hX
      have hgl := Nat.le_of_eq hgh.symm
      clear hgh
      have HI : Hid (s1 = It.sum (C.drop i) ∧ Only (fun _ => False) W X) := ⟨hs1, hoX⟩
      have hs1l : s1 ≤ 1000000 := by rw [hs1]; exact Nat.le_trans (HSM.out.2 i) (by rw [← HSM.out.1]; exact hs)
      clear hs1 hoX r0 r1 lR
      obtain ⟨r0, r1, lR, -, -⟩ := HS.out X (H1.out.2.trans HI.out.2)
      by_cases hlt : 0 < i
      · obtain ⟨j, hj⟩ : ∃ j, i = j + 1 := ⟨i - 1, by omega⟩
        subst hj
        rw [show ((j + 1 : Nat) : Int) - 1 = (j : Int) by omega]
        have t2 : (0 : Int) ≤ (j : Int) := by omega
        have hjn : j < n := by omega
        have hjI : (j : Int) < (n : Int) := by omega
        obtain ⟨z, hz⟩ : ∃ z, C[j]? = some z := ⟨_, List.getElem?_eq_getElem (by rw [← HP.out.2.2]; exact hjn)⟩
        obtain ⟨xp, xl, xc, xk, rfl, hxc, hxk⟩ := HP.out.1.ok.nat hz
        have hce := Lv.ctg_end HP.out.2.1 hz
        simp only at hce
        obtain ⟨g, off, eg, hg, c0, c1', c2, c3⟩ := (HP.out.1.vC.keep (HS.out X (H1.out.2.trans HI.out.2)).2.2.2.2).cluster (k := j) hz
        simp only at c0 c1' c2 c3
        obtain ⟨s2, hs2⟩ : ∃ z, z = s1 + xl := ⟨_, rfl⟩
        have HE : Hid (s2 = It.sum (C.drop j) ∧ xp + xl = It.sum (C.take (j + 1))) := ⟨by rw [hs2, HI.out.1, hce.2.2]; omega, hce.2.1⟩
        have hs2l : s2 ≤ 1000000 := by rw [HE.out.1]; exact Nat.le_trans (HSM.out.2 j) (by rw [← HSM.out.1]; exact hs)
        have hxpl : xp + xl ≤ 1000000 := by rw [HE.out.2]; exact Nat.le_trans (It.sum_le _) (by rw [← HSM.out.1]; exact hs)
        have es : (s1 : Int) + (xl : Int) = (s2 : Int) := by omega
        clear hs2 hce hz
        subst eg
        by_cases hqt : q < (xp : Int) + (xl : Int)
        · have HT : Hid True := trivial
          go_upto_region 10 with fail
          go_quiet (fail)
          go_wp2_with fail
          go_roundg j
          case measure => omega
          case rel => exact ⟨j, j, s2, _, rfl, rfl, by omega, by go_num, rfl, by go_num, HE.out.1, HI.out.2.drewN _⟩
        · have t3 : decide (q < (xp : Int) + (xl : Int)) = false := decide_eq_false hqt
          go_upto_region 10 with fail
          go_quiet (fail)
          go_wp2_with fail
          go_roundg j
          case measure => omega
          case rel => exact ⟨j, k1, s2, _, rfl, rfl, by omega, by go_num, rfl, by go_num, HE.out.1, HI.out.2.drewN _⟩
      · have t2 : decide ((1 : Int) ≤ (i : Int)) = false := decide_eq_false (by omega)
        have t2n : decide (1 ≤ i) = false := decide_eq_false (by omega)
        have hi0 : i = 0 := by omega
        have hs1s : s1 = s := by rw [HI.out.1, HSM.out.1, hi0]; rfl
        have HO : Hid (Only (fun _ => False) W X) := HI.out.2
        subst hs1s
        clear hi0 hlt HI
        have HOB : Hid (X.heap[B]? = some (.cells #[.int .i64 0, .int .i64 0] 39 (0, 0)) ∧ Only (fun _ => False) w X) := ⟨(HS.out X (H1.out.2.trans HO.out)).2.2.2.1, (HS.out X (H1.out.2.trans HO.out)).2.2.2.2⟩
        by_cases hq0 : q < 0
        · go_wp2_with (refine wpList_store_row rfl 39 _ _ rfl B #[.int .i64 0, .int .i64 0] rfl rfl 39 _ HOB.out.1 (by kernel_rfl) rfl (two_ints _ _) ?_)
          refine bodyPost_ret (v := .tuple #[.agg #[.int .i64 0, .int .i64 0], .int .i64 2]) (results_row_tmp rfl _ _ B 39 #[.int .i64 0, .int .i64 0] (0, 0) _ rfl (setRow_heap _ _ _ _ _ _ HOB.out.1) Try.underlying39 rfl (by kernel_rfl) _ rfl) rfl ⟨rfl, HOB.out.2.setRowNew HB.out _⟩
        · have u1 : decide (q < 0) = false := decide_eq_false hq0
          have u2 : (s1 : Int) < q := by omega
          have u3 : decide ((s1 : Int) < q) = true := decide_eq_true u2
          go_wp2_with (refine wpList_store_row rfl 39 _ _ rfl B #[.int .i64 0, .int .i64 0] rfl rfl 39 _ HOB.out.1 (by kernel_rfl) rfl (two_ints _ _) ?_)
          refine bodyPost_ret (v := .tuple #[.agg #[.int .i64 0, .int .i64 0], .int .i64 2]) (results_row_tmp rfl _ _ B 39 #[.int .i64 0, .int .i64 0] (0, 0) _ rfl (setRow_heap _ _ _ _ _ _ HOB.out.1) Try.underlying39 rfl (by kernel_rfl) _ rfl) rfl ⟨rfl, HOB.out.2.setRowNew HB.out _⟩
  · have t1 : ((nl : Int) == 0) = false := by rw [beq_eq_false_iff_ne]; omega
    have HL1 : Hid (L' = L ∧ nl = N) := by
      have hne : L ≠ [] := fun e => hz (by rw [HL.out.2.2.2, e]; rfl)
      have e := HL.out.1.trans (Lv.rof_self hne)
      exact ⟨e, by rw [HL.out.2.1, HL.out.2.2.2, e]⟩
    clear hz
    go_upto_region 3 with fail
    obtain ⟨a1, ha1⟩ : ∃ x, x = al := ⟨_, rfl⟩
    obtain ⟨c1, hc1⟩ : ∃ x, x = cl := ⟨_, rfl⟩
    obtain ⟨W, hW⟩ : ∃ x, x = w0 := ⟨_, rfl⟩
    have H1 : Hid (Vw W a1 (lnC L') ∧ Only (fun _ => False) w0 W) := by
      rw [hW, ha1]
      exact ⟨by rw [HL1.out.1]; exact HV.out.keep (HS.out w0 (Only.refl _ _)).2.2.2.2, Only.refl _ _⟩
    rw [HL1.out.2, ← hW, ← ha1, ← hc1]
    clear hW ha1 hc1 HL1
    obtain ⟨r0, r1, lR, -, -⟩ := HS.out W H1.out.2
    go_wp2_with fail
    go_loopg [13, 14, 15] n (fun gh v13 v14 v15 wr => ∃ (i k1 s1 : Nat) (X : World), X = wr ∧ gh = i ∧ i ≤ n ∧ v13 = .int .i64 (s1 : Int) ∧ v14 = .int .i64 (k1 : Int) ∧ v15 = .int .i64 ((i : Int) - 1) ∧ s1 = It.sum (C.drop i) ∧ Only (fun _ => False) W X)
    case atStart => exact ⟨n, n, 0, _, rfl, rfl, Nat.le_refl _, rfl, rfl, by go_num, by rw [HP.out.2.2, List.drop_length]; rfl, Only.refl _ _⟩
    case round =>
      obtain ⟨i, k1, s1, X, hX, hgh, hi, rfl, rfl, rfl, hs1, hoX⟩ := hrel
      subst hX
      have hgl := Nat.le_of_eq hgh.symm
      clear hgh
      have HI : Hid (s1 = It.sum (C.drop i) ∧ Only (fun _ => False) W X) := ⟨hs1, hoX⟩
      have hs1l : s1 ≤ 1000000 := by rw [hs1]; exact Nat.le_trans (HSM.out.2 i) (by rw [← HSM.out.1]; exact hs)
      clear hs1 hoX r0 r1 lR
      obtain ⟨r0, r1, lR, -, -⟩ := HS.out X (H1.out.2.trans HI.out.2)
      by_cases hlt : 0 < i
      · obtain ⟨j, hj⟩ : ∃ j, i = j + 1 := ⟨i - 1, by omega⟩
        subst hj
        rw [show ((j + 1 : Nat) : Int) - 1 = (j : Int) by omega]
        have t2 : (0 : Int) ≤ (j : Int) := by omega
        have hjn : j < n := by omega
        have hjI : (j : Int) < (n : Int) := by omega
        obtain ⟨z, hz⟩ : ∃ z, C[j]? = some z := ⟨_, List.getElem?_eq_getElem (by rw [← HP.out.2.2]; exact hjn)⟩
        obtain ⟨xp, xl, xc, xk, rfl, hxc, hxk⟩ := HP.out.1.ok.nat hz
        have hce := Lv.ctg_end HP.out.2.1 hz
        simp only at hce
        obtain ⟨g, off, eg, hg, c0, c1', c2, c3⟩ := (HP.out.1.vC.keep (HS.out X (H1.out.2.trans HI.out.2)).2.2.2.2).cluster (k := j) hz
        simp only at c0 c1' c2 c3
        obtain ⟨s2, hs2⟩ : ∃ z, z = s1 + xl := ⟨_, rfl⟩
        have HE : Hid (s2 = It.sum (C.drop j) ∧ xp + xl = It.sum (C.take (j + 1))) := ⟨by rw [hs2, HI.out.1, hce.2.2]; omega, hce.2.1⟩
        have hs2l : s2 ≤ 1000000 := by rw [HE.out.1]; exact Nat.le_trans (HSM.out.2 j) (by rw [← HSM.out.1]; exact hs)
        have hxpl : xp + xl ≤ 1000000 := by rw [HE.out.2]; exact Nat.le_trans (It.sum_le _) (by rw [← HSM.out.1]; exact hs)
        have es : (s1 : Int) + (xl : Int) = (s2 : Int) := by omega
        clear hs2 hce hz
        subst eg
        by_cases hqt : q < (xp : Int) + (xl : Int)
        · have HT : Hid True := trivial
          go_upto_region 10 with fail
          go_quiet (fail)
          go_wp2_with fail
          go_roundg j
          case measure => omega
          case rel => exact ⟨j, j, s2, _, rfl, rfl, by omega, by go_num, rfl, by go_num, HE.out.1, HI.out.2.drewN _⟩
        · have t3 : decide (q < (xp : Int) + (xl : Int)) = false := decide_eq_false hqt
          go_upto_region 10 with fail
          go_quiet (fail)
          go_wp2_with fail
          go_roundg j
          case measure => omega
          case rel => exact ⟨j, k1, s2, _, rfl, rfl, by omega, by go_num, rfl, by go_num, HE.out.1, HI.out.2.drewN _⟩
      · have t2 : decide ((1 : Int) ≤ (i : Int)) = false := decide_eq_false (by omega)
        have t2n : decide (1 ≤ i) = false := decide_eq_false (by omega)
        have hi0 : i = 0 := by omega
        have hs1s : s1 = s := by rw [HI.out.1, HSM.out.1, hi0]; rfl
        have HO : Hid (Only (fun _ => False) W X) := HI.out.2
        subst hs1s
        clear hi0 hlt HI
        have HOB : Hid (X.heap[B]? = some (.cells #[.int .i64 0, .int .i64 0] 39 (0, 0)) ∧ Only (fun _ => False) w X) := ⟨(HS.out X (H1.out.2.trans HO.out)).2.2.2.1, (HS.out X (H1.out.2.trans HO.out)).2.2.2.2⟩
        by_cases hq0 : q < 0
        · go_wp2_with (refine wpList_store_row rfl 39 _ _ rfl B #[.int .i64 0, .int .i64 0] rfl rfl 39 _ HOB.out.1 (by kernel_rfl) rfl (two_ints _ _) ?_)
          refine bodyPost_ret (v := .tuple #[.agg #[.int .i64 0, .int .i64 0], .int .i64 2]) (results_row_tmp rfl _ _ B 39 #[.int .i64 0, .int .i64 0] (0, 0) _ rfl (setRow_heap _ _ _ _ _ _ HOB.out.1) Try.underlying39 rfl (by kernel_rfl) _ rfl) rfl ⟨rfl, HOB.out.2.setRowNew HB.out _⟩
        · have u1 : decide (q < 0) = false := decide_eq_false hq0
          have u2 : (s1 : Int) < q := by omega
          have u3 : decide ((s1 : Int) < q) = true := decide_eq_true u2
          go_wp2_with (refine wpList_store_row rfl 39 _ _ rfl B #[.int .i64 0, .int .i64 0] rfl rfl 39 _ HOB.out.1 (by kernel_rfl) rfl (two_ints _ _) ?_)
          refine bodyPost_ret (v := .tuple #[.agg #[.int .i64 0, .int .i64 0], .int .i64 2]) (results_row_tmp rfl _ _ B 39 #[.int .i64 0, .int .i64 0] (0, 0) _ rfl (setRow_heap _ _ _ _ _ _ HOB.out.1) Try.underlying39 rfl (by kernel_rfl) _ rfl) rfl ⟨rfl, HOB.out.2.setRowNew HB.out _⟩
set_option maxRecDepth 100000 in
set_option maxHeartbeats 8000000 in
theorem refSpot_any (C : List Ct) (O : List Nat) (n m : Nat) (aC aO : Option Addr) (cC cO t : Nat) (L : List Ln) (nl : Nat) (al : Option Addr) (cl : Nat) (q : Nat) (back : Bool) (w : World) (hP : Pv w C O n m aC aO cC cO) (hC : Lv.Ctg C) (hs : It.sum C ≤ 1000000) (hR : Lv.Chn 0 n L) (hV : Vw w al (lnC L)) (hnl : nl = L.length) (hfew : n ≤ 1000) (h0 : 0 < t) (ht : t ≤ 1000) (hq : q ≤ It.sum C) :
    Calls Try.prog 13 #[.agg #[.slice aC n cC, .slice aO m cO], .slice al nl cl, .int .i64 (t : Int), .int .i64 (q : Int), .bool back] w fun e w' => ∃ r c : Nat, Lv.spt C t (Lv.rof L) back (Lv.clu C q n) = (r, c) ∧ e = .returned (.tuple #[.agg #[.int .i64 (r : Int), .int .i64 (c : Int)], .int .i64 0]) ∧ Only (fun _ => False) w w' := by
  have hrws := Lv.rws_rof hR
  obtain ⟨L', hL'⟩ : ∃ x, x = Lv.rof L := ⟨_, rfl⟩
  obtain ⟨N, hN⟩ : ∃ x, x = L'.length := ⟨_, rfl⟩
  rw [← hL'] at hrws
  have hNl := rlen hrws
  rw [← hN] at hNl
  obtain ⟨hN0, hN1⟩ := hNl
  have HCO : Hid (∀ W la lb, Only (fun _ => False) w W → la ≤ lb → lb ≤ n → Calls Try.prog 17 #[.agg #[.slice aC n cC, .slice aO m cO], .int .i64 ((la : Nat) : Int), .int .i64 ((lb : Nat) : Int), .int .i64 (t : Int)] W fun e w' => ∃ al k c, e = .returned (.slice al k c) ∧ k = lb - la + 1 ∧ Vw w' al (natI (Sp.cols C t la (lb - la))) ∧ Only (fun _ => False) W w') := fun W la lb ho h1 h2 => by
    refine (refColumns_any C O n m aC aO cC cO la lb t W (hP.keep ho) h1 h2 h0 ht).mono ?_
    rintro e w' ⟨al, c, he, hown, ho'⟩
    rw [Lv.cols_len] at he hown
    exact ⟨al, _, c, he, rfl, own_vw hown, ho'⟩
  have HP : Hid (Pv w C O n m aC aO cC cO ∧ Lv.Ctg C ∧ n = C.length) := ⟨hP, hC, hP.hn⟩
  have HL : Hid (L' = Lv.rof L ∧ N = L'.length ∧ Lv.Rws n L' ∧ nl = L.length) := ⟨hL', hN, hrws, hnl⟩
  have HV : Hid (Vw w al (lnC L)) := hV
  obtain ⟨s, hs'⟩ : ∃ s, s = It.sum C := ⟨_, rfl⟩
  rw [← hs'] at hs hq
  obtain ⟨k, hk⟩ : ∃ x, x = Lv.clu C q n := ⟨_, rfl⟩
  have hkn : k ≤ n := by
    have := (Lv.clu_at hC q).1
    rw [← hP.hn, ← hk] at this
    exact this
  rw [← hL', ← hk]
  have HK : Hid (k = Lv.clu C q n) := hk
  have HSM : Hid (s = It.sum C ∧ (∀ i, It.sum (C.drop i) ≤ It.sum C)) := ⟨hs', fun i => by
    have h := It.sum_append (C.take i) (C.drop i)
    rw [List.take_append_drop] at h
    omega⟩
  have hnlk : nl ≤ n := by have := hR.len; omega
  clear hP hC hR hV hL' hN hrws hnl hs' hk
  go_enter Try.func13, Try.ntmps13
  go_upto_region 1 with fail
  obtain ⟨R, B, w0, hw0, hB, hR, H0, lRB⟩ := box22 w (.slice aC n cC) (.slice aO m cO) (.int .i64 0) (.int .i64 0) 31 39
  rw [hw0, hB, hR]
  clear hw0 hB hR
  have HS : Hid (∀ W', Only (fun _ => False) w0 W' → W'.cell? ⟨R, 0, none⟩ = some (.slice aC n cC) ∧ W'.cell? ⟨R, 1, none⟩ = some (.slice aO m cO) ∧ R < W'.heap.size ∧ W'.heap[B]? = some (.cells #[.int .i64 0, .int .i64 0] 39 (0, 0)) ∧ Only (fun _ => False) w W') := fun W' ho => by
    have e1 := blk_keep ho H0.out.1
    have e2 := blk_keep ho H0.out.2.1
    exact ⟨(blk_two e1).1, (blk_two e1).2.1, (blk_two e1).2.2, e2, H0.out.2.2.1.trans ho⟩
  have HB : Hid (w.heap.size ≤ B) := H0.out.2.2.2
  have hNm : N ≤ 1001 := by omega
  by_cases hz : nl = 0
  · have t1 : ((nl : Int) == 0) = true := by rw [beq_iff_eq]; omega
    have hL0 : L = [] := List.eq_nil_of_length_eq_zero (by rw [← HL.out.2.2.2]; exact hz)
    have HL1 : Hid (L' = [⟨0, 0, 0, 0⟩] ∧ N = 1) := by
      have e := HL.out.1
      rw [hL0] at e
      exact ⟨e, by rw [HL.out.2.1, e]; rfl⟩
    clear hz hL0
    go_upto_region 3 with fail
    obtain ⟨bA, W, hW, hbA, HA, -⟩ := box4 w0 (.int .i64 0) (.int .i64 0) (.int .i64 0) (.int .u8 0) 59
    rw [hW, hbA]
    clear hW hbA
    obtain ⟨a1, ha1⟩ : ∃ x, x = some (⟨bA, 0, none⟩ : Addr) := ⟨_, rfl⟩
    obtain ⟨c1, hc1⟩ : ∃ x, x = N := ⟨_, rfl⟩
    have H1 : Hid (Vw W a1 (lnC L') ∧ Only (fun _ => False) w0 W) := by
      refine ⟨?_, HA.out.2.1⟩
      rw [HL1.out.1, ha1]
      exact vw_blk HA.out.1
    rw [show Value.slice (some ⟨bA, 0, none⟩) 1 1 = .slice a1 N c1 by rw [ha1, hc1, HL1.out.2]]
    clear ha1 hc1 HL1 HA
    obtain ⟨r0, r1, lR, -, -⟩ := HS.out W H1.out.2
    go_wp2_with fail
    go_loopg [13, 14, 15] n (fun gh v13 v14 v15 wr => ∃ (i k1 s1 : Nat) (X : World), X = wr ∧ gh = i ∧ i ≤ n ∧ v13 = .int .i64 (s1 : Int) ∧ v14 = .int .i64 (k1 : Int) ∧ v15 = .int .i64 ((i : Int) - 1) ∧ s1 = It.sum (C.drop i) ∧ k1 = Lv.clu C q (n - i) ∧ Only (fun _ => False) W X)
    case atStart => exact ⟨n, n, 0, _, rfl, rfl, Nat.le_refl _, rfl, rfl, by go_num, by rw [HP.out.2.2, List.drop_length]; rfl, by rw [Nat.sub_self]; exact HP.out.2.2, Only.refl _ _⟩
    case round =>
      obtain ⟨i, k1, s1, X, hX, hgh, hi, rfl, rfl, rfl, hs1, hk1, hoX⟩ := hrel
      subst hX
      have hgl := Nat.le_of_eq hgh.symm
      clear hgh
      have HI : Hid (s1 = It.sum (C.drop i) ∧ k1 = Lv.clu C q (n - i) ∧ Only (fun _ => False) W X) := ⟨hs1, hk1, hoX⟩
      have hs1l : s1 ≤ 1000000 := by rw [hs1]; exact Nat.le_trans (HSM.out.2 i) (by rw [← HSM.out.1]; exact hs)
      clear hs1 hoX hk1 r0 r1 lR
      obtain ⟨r0, r1, lR, -, -⟩ := HS.out X (H1.out.2.trans HI.out.2.2)
      by_cases hlt : 0 < i
      · obtain ⟨j, hj⟩ : ∃ j, i = j + 1 := ⟨i - 1, by omega⟩
        subst hj
        rw [show ((j + 1 : Nat) : Int) - 1 = (j : Int) by omega]
        have t2 : (0 : Int) ≤ (j : Int) := by omega
        have hjn : j < n := by omega
        have hjI : (j : Int) < (n : Int) := by omega
        obtain ⟨z, hz⟩ : ∃ z, C[j]? = some z := ⟨_, List.getElem?_eq_getElem (by rw [← HP.out.2.2]; exact hjn)⟩
        obtain ⟨xp, xl, xc, xk, rfl, hxc, hxk⟩ := HP.out.1.ok.nat hz
        have hce := Lv.ctg_end HP.out.2.1 hz
        simp only at hce
        obtain ⟨g, off, eg, hg, c0, c1', c2, c3⟩ := (HP.out.1.vC.keep (HS.out X (H1.out.2.trans HI.out.2.2)).2.2.2.2).cluster (k := j) hz
        simp only at c0 c1' c2 c3
        obtain ⟨s2, hs2⟩ : ∃ z, z = s1 + xl := ⟨_, rfl⟩
        have HE : Hid (s2 = It.sum (C.drop j) ∧ xp + xl = It.sum (C.take (j + 1))) := ⟨by rw [hs2, HI.out.1, hce.2.2]; omega, hce.2.1⟩
        have hs2l : s2 ≤ 1000000 := by rw [HE.out.1]; exact Nat.le_trans (HSM.out.2 j) (by rw [← HSM.out.1]; exact hs)
        have hxpl : xp + xl ≤ 1000000 := by rw [HE.out.2]; exact Nat.le_trans (It.sum_le _) (by rw [← HSM.out.1]; exact hs)
        have es : (s1 : Int) + (xl : Int) = (s2 : Int) := by omega
        clear hs2 hce hz
        subst eg
        by_cases hqt : (q : Int) < (xp : Int) + (xl : Int)
        · have HT : Hid (q < It.sum (C.take (j + 1))) := by rw [← HE.out.2]; exact (by omega : q < xp + xl)
          have hqn : q < xp + xl := by omega
          go_upto_region 10 with fail
          go_quiet (fail)
          go_wp2_with fail
          go_roundg j
          case measure => omega
          case rel => exact ⟨j, j, s2, _, rfl, rfl, by omega, by go_num, rfl, by go_num, HE.out.1, by rw [Lv.clu_down HP.out.2.2 hjn, if_pos HT.out], HI.out.2.2.drewN _⟩
        · have t3 : decide ((q : Int) < (xp : Int) + (xl : Int)) = false := decide_eq_false hqt
          have t3n : decide (q < xp + xl) = false := decide_eq_false (by omega)
          have HT : Hid (¬ q < It.sum (C.take (j + 1))) := by rw [← HE.out.2]; exact (by omega : ¬ q < xp + xl)
          go_upto_region 10 with fail
          go_quiet (fail)
          go_wp2_with fail
          go_roundg j
          case measure => omega
          case rel => exact ⟨j, k1, s2, _, rfl, rfl, by omega, by go_num, rfl, by go_num, HE.out.1, by rw [Lv.clu_down HP.out.2.2 hjn, if_neg HT.out]; exact HI.out.2.1, HI.out.2.2.drewN _⟩
      · have t2 : decide ((1 : Int) ≤ (i : Int)) = false := decide_eq_false (by omega)
        have t2n : decide (1 ≤ i) = false := decide_eq_false (by omega)
        have hi0 : i = 0 := by omega
        have hs1s : s1 = s := by rw [HI.out.1, HSM.out.1, hi0]; rfl
        have hk1k : k1 = k := by rw [HI.out.2.1, HK.out, hi0]; rfl
        have HO : Hid (Only (fun _ => False) W X) := HI.out.2.2
        subst hs1s hk1k
        clear hi0 hlt HI
        have t3 : decide ((q : Int) < 0) = false := decide_eq_false (by omega)
        have t4 : decide ((s1 : Int) < (q : Int)) = false := decide_eq_false (by omega)
        have t4n : decide (s1 < q) = false := decide_eq_false (by omega)
        go_wp2_with fail
        go_loopg [16, 17] N (fun gh v16 v17 wr => ∃ (i r : Nat), X = wr ∧ gh = i ∧ i ≤ N ∧ v16 = .int .i64 (r : Int) ∧ v17 = .int .i64 ((i : Int) - 1) ∧ (r = Lv.rwF L' k1 ∨ (r + 1 = N ∧ ∀ (j : Nat) (l : Ln), i ≤ j → L'[j]? = some l → ¬ (l.a ≤ k1 ∧ k1 < l.b))))
        case atStart =>
          refine ⟨N, N - 1, rfl, rfl, Nat.le_refl _, by go_num, by go_num, Or.inr ⟨by omega, fun j l hj hl => ?_⟩⟩
          have := (List.getElem?_eq_some_iff.1 hl).1
          rw [← HL.out.2.1] at this
          omega
        case round =>
          obtain ⟨i, r, hX2, hgh, hi, rfl, rfl, hinv⟩ := hrel
          subst hX2
          have hgl := Nat.le_of_eq hgh.symm
          clear hgh
          have HI : Hid (r = Lv.rwF L' k1 ∨ (r + 1 = N ∧ ∀ (j : Nat) (l : Ln), i ≤ j → L'[j]? = some l → ¬ (l.a ≤ k1 ∧ k1 < l.b))) := hinv
          clear hinv
          by_cases hlt : 0 < i
          · obtain ⟨j, hj⟩ : ∃ j, i = j + 1 := ⟨i - 1, by omega⟩
            subst hj
            rw [show ((j + 1 : Nat) : Int) - 1 = (j : Int) by omega]
            have t5 : (0 : Int) ≤ (j : Int) := by omega
            have hjn : j < N := by omega
            have hjI : (j : Int) < (N : Int) := by omega
            obtain ⟨l, hl⟩ : ∃ l, L'[j]? = some l := ⟨_, List.getElem?_eq_getElem (by rw [← HL.out.2.1]; exact hjn)⟩
            obtain ⟨g, off, eg, hg, c0, c1', c2, c3⟩ := (H1.out.1.keep HO.out).line hl
            obtain ⟨la, lb, lc, le⟩ := l
            simp only at c0 c1' c2 c3
            have HLN : Hid (L'[j]? = some ⟨la, lb, lc, le⟩) := hl
            subst eg
            clear hl
            by_cases q1 : k1 < lb
            · have s1' : (k1 : Int) < (lb : Int) := by omega
              by_cases q2 : la ≤ k1
              · have s2' : (la : Int) ≤ (k1 : Int) := by omega
                have HU : Hid (Lv.rwF L' k1 = j) := HL.out.2.2.1.uniq HLN.out q2 q1
                go_wp2_with fail
                go_roundg j
                case measure => omega
                case rel => exact ⟨j, j, rfl, rfl, by omega, rfl, by go_num, Or.inl HU.out.symm⟩
              · have s2' : decide ((la : Int) ≤ (k1 : Int)) = false := decide_eq_false (by omega)
                have s2n : decide (la ≤ k1) = false := decide_eq_false (by omega)
                have HN2 : Hid (¬ (la ≤ k1 ∧ k1 < lb)) := fun h => q2 h.1
                go_wp2_with fail
                go_roundg j
                case measure => omega
                case rel => exact ⟨j, r, rfl, rfl, by omega, rfl, by go_num, HI.out.imp id (fun h => ⟨h.1, fun x l hx hl => by
                  by_cases e : x = j
                  · subst e
                    rw [HLN.out] at hl
                    injection hl with hl
                    rw [← hl]
                    exact HN2.out
                  · exact h.2 x l (by omega) hl⟩)⟩
            · have s1' : decide ((k1 : Int) < (lb : Int)) = false := decide_eq_false (by omega)
              have s1n : decide (k1 < lb) = false := decide_eq_false (by omega)
              have HN2 : Hid (¬ (la ≤ k1 ∧ k1 < lb)) := fun h => q1 h.2
              go_wp2_with fail
              go_roundg j
              case measure => omega
              case rel => exact ⟨j, r, rfl, rfl, by omega, rfl, by go_num, HI.out.imp id (fun h => ⟨h.1, fun x l hx hl => by
                by_cases e : x = j
                · subst e
                  rw [HLN.out] at hl
                  injection hl with hl
                  rw [← hl]
                  exact HN2.out
                · exact h.2 x l (by omega) hl⟩)⟩
          · have t5 : decide ((1 : Int) ≤ (i : Int)) = false := decide_eq_false (by omega)
            have t5n : decide (1 ≤ i) = false := decide_eq_false (by omega)
            have hr : Lv.rwF L' k1 = r := by
              rcases HI.out with h | ⟨h1, h2⟩
              · exact h.symm
              · have := HL.out.2.2.1.last hkn (fun j l hl => h2 j l (by omega) hl)
                rw [← HL.out.2.1] at this
                omega
            obtain ⟨l, hl1, hl2, hl3⟩ := HL.out.2.2.1.spec hkn
            rw [hr] at hl1
            have HRW : Hid (Lv.rwF L' k1 = r ∧ L'[r]? = some l ∧ l.a ≤ k1 ∧ k1 ≤ l.b ∧ l.b ≤ n) := ⟨hr, hl1, hl2, hl3, (HL.out.2.2.1.at hl1).2.1⟩
            have hrN : r < N := by rw [HL.out.2.1]; exact (List.getElem?_eq_some_iff.1 hl1).1
            have hrI : (r : Int) < (N : Int) := by omega
            obtain ⟨g, off, eg, hg, c0, c1', c2, c3⟩ := (H1.out.1.keep HO.out).line hl1
            obtain ⟨la, lb, lc, le⟩ := l
            simp only at c0 c1' c2 c3 hl2 hl3
            subst eg
            clear hr hl1 hlt HI
            by_cases hc : back = true ∧ 0 < r ∧ la = k1
            · obtain ⟨hc1, hc2, hc3⟩ := hc
              subst hc1
              have u3 : (0 : Int) < (r : Int) := by omega
              have u4 : ((la : Int) == (k1 : Int)) = true := by rw [beq_iff_eq]; omega
              obtain ⟨j, hj⟩ : ∃ j, r = j + 1 := ⟨r - 1, by omega⟩
              subst hj
              obtain ⟨mm, hm⟩ : ∃ m, L'[j]? = some m := ⟨_, List.getElem?_eq_getElem (by rw [← HL.out.2.1]; omega)⟩
              have hmk := HL.out.2.2.1.next hm HRW.out.2.1
              have hmat := HL.out.2.2.1.at hm
              obtain ⟨g2, off2, eg, hg2, f0, f1, -, -⟩ := (H1.out.1.keep HO.out).line hm
              injection eg with eg
              injection eg with eg1 eg2
              subst eg1 eg2
              have HSP : Hid (Lv.spt C t L' true k1 = (j, Sp.col C t mm.a (k1 - mm.a))) := Lv.spt_step HRW.out.1 HRW.out.2.1 hc3 hm
              obtain ⟨ma, mb, mc, me⟩ := mm
              simp only at f0 f1 hmk hmat HSP
              have HAT : Hid (ma ≤ mb ∧ mb ≤ n) := ⟨hmat.1, hmat.2.1⟩
              have HKL : Hid (ma ≤ k1 ∧ k1 ≤ mb) := ⟨by omega, by omega⟩
              have ej : ((j + 1 : Nat) : Int) - 1 = (j : Int) := by omega
              have hjN : j < N := by omega
              have hjI : (j : Int) < (N : Int) := by omega
              have HKE : Hid (∀ W', Only (fun _ => False) X W' → (W'.cell? ⟨R, 0, none⟩ = some (.slice aC n cC) ∧ W'.cell? ⟨R, 1, none⟩ = some (.slice aO m cO)) ∧ (W'.cell? ⟨g, off + j * 4, none⟩ = some (.int .i64 (ma : Int)) ∧ W'.cell? ⟨g, off + j * 4 + 1, none⟩ = some (.int .i64 (mb : Int)))) := fun W' ho => ⟨⟨(HS.out W' (H1.out.2.trans (HO.out.trans ho))).1, (HS.out W' (H1.out.2.trans (HO.out.trans ho))).2.1⟩, keep0 ho f0, keep0 ho f1⟩
              have HWX : Hid (Only (fun _ => False) w X) := (HS.out X (H1.out.2.trans HO.out)).2.2.2.2
              clear hmk hmat hm hc2 hc3 hg2
              go_upto_region 22 with fail
              go_region_held3 (fun W' => (W'.cell? ⟨R, 0, none⟩ = some (.slice aC n cC) ∧ W'.cell? ⟨R, 1, none⟩ = some (.slice aO m cO)) ∧ (W'.cell? ⟨g, off + j * 4, none⟩ = some (.int .i64 (ma : Int)) ∧ W'.cell? ⟨g, off + j * 4 + 1, none⟩ = some (.int .i64 (mb : Int)))) ((first | exact HKE.out _ (Only.refl _ _).drew | exact HKE.out _ HQ.out.2.2.1 | trace_state)) ((go_at_call 17; refine Calls.mono (HCO.out _ ma mb HWX.out.drew HAT.out.1 HAT.out.2) ?_; rintro e y ⟨al2, kn2, c2', rfl, hk2, hvw2, ho2'⟩; have HQ : Hid (kn2 = mb - ma + 1 ∧ Vw y al2 (natI (Sp.cols C t ma (mb - ma))) ∧ Only (fun _ => False) X y ∧ y.heap[B]? = some (.cells #[.int .i64 0, .int .i64 0] 39 (0, 0)) ∧ Only (fun _ => False) w y) := ⟨hk2, hvw2, (Only.refl _ _).drew.trans ho2', (HS.out y (H1.out.2.trans (HO.out.trans ((Only.refl _ _).drew.trans ho2')))).2.2.2.1, (HS.out y (H1.out.2.trans (HO.out.trans ((Only.refl _ _).drew.trans ho2')))).2.2.2.2⟩; clear hk2 hvw2 ho2'))
              obtain ⟨x, hx⟩ : ∃ x, x = Sp.col C t ma (k1 - ma) := ⟨_, rfl⟩
              obtain ⟨d, hd⟩ : ∃ d, d = k1 - ma := ⟨_, rfl⟩
              have hak := HKL.out
              have hkd : kn2 = mb - ma + 1 := HQ.out.1
              obtain ⟨bq, oq, eq1, hbq, hcq⟩ := HQ.out.2.1.cells (by rw [natI_len, Lv.cols_len]; omega)
              subst eq1
              have cx := hcq d _ (natI_get (Lv.cols_at C t ma (k := mb - ma) (i := d) (by omega)))
              have HX : Hid (x = Sp.col C t ma (k1 - ma)) := hx
              rw [hd, ← hx, ← hd] at cx
              have hd1 : ma + d ≤ k1 := by omega
              have hd2 : k1 ≤ ma + d := by omega
              have hdk : d < kn2 := by omega
              have hdI : (d : Int) < (kn2 : Int) := by omega
              have ed : (k1 : Int) - (ma : Int) = (d : Int) := by omega
              obtain ⟨⟨r0, r1⟩, f0, f1⟩ := HKE.out y HQ.out.2.2.1
              have lg := World.block_lt_of_cell? y _ f0
              have lbq := World.block_lt_of_cell? y _ cx
              clear hx hd hcq hbq hkd hak
              go_wp2_with (refine wpList_store_row rfl 39 _ _ rfl B #[.int .i64 (j : Int), .int .i64 (x : Int)] rfl rfl 39 _ HQ.out.2.2.2.1 (by kernel_rfl) rfl (two_ints _ _) ?_)
              refine bodyPost_ret (v := .tuple #[.agg #[.int .i64 (j : Int), .int .i64 (x : Int)], .int .i64 0]) (results_row_tmp rfl _ _ B 39 #[.int .i64 (j : Int), .int .i64 (x : Int)] (0, 0) _ rfl (setRow_heap _ _ _ _ _ _ HQ.out.2.2.2.1) Try.underlying39 rfl (by kernel_rfl) _ rfl) rfl ⟨j, x, ?_, rfl, HQ.out.2.2.2.2.setRowNew HB.out _⟩
              rw [HSP.out, HX.out]
            · have HSP : Hid (Lv.spt C t L' back k1 = (r, Sp.col C t la (k1 - la))) := Lv.spt_stay HRW.out.1 HRW.out.2.1 hc
              cases back with
              | false =>
                clear hc
                have HAT : Hid (la ≤ lb ∧ lb ≤ n) := ⟨Nat.le_trans hl2 hl3, HRW.out.2.2.2.2⟩
                have HKL : Hid (la ≤ k1 ∧ k1 ≤ lb) := ⟨hl2, hl3⟩
                have HKE : Hid (∀ W', Only (fun _ => False) X W' → (W'.cell? ⟨R, 0, none⟩ = some (.slice aC n cC) ∧ W'.cell? ⟨R, 1, none⟩ = some (.slice aO m cO)) ∧ (W'.cell? ⟨g, off + r * 4, none⟩ = some (.int .i64 (la : Int)) ∧ W'.cell? ⟨g, off + r * 4 + 1, none⟩ = some (.int .i64 (lb : Int)))) := fun W' ho => ⟨⟨(HS.out W' (H1.out.2.trans (HO.out.trans ho))).1, (HS.out W' (H1.out.2.trans (HO.out.trans ho))).2.1⟩, keep0 ho c0, keep0 ho c1'⟩
                have HWX : Hid (Only (fun _ => False) w X) := (HS.out X (H1.out.2.trans HO.out)).2.2.2.2
                go_upto_region 22 with fail
                go_region_held3 (fun W' => (W'.cell? ⟨R, 0, none⟩ = some (.slice aC n cC) ∧ W'.cell? ⟨R, 1, none⟩ = some (.slice aO m cO)) ∧ (W'.cell? ⟨g, off + r * 4, none⟩ = some (.int .i64 (la : Int)) ∧ W'.cell? ⟨g, off + r * 4 + 1, none⟩ = some (.int .i64 (lb : Int)))) ((first | exact HKE.out _ (Only.refl _ _).drew | exact HKE.out _ HQ.out.2.2.1 | trace_state)) ((go_at_call 17; refine Calls.mono (HCO.out _ la lb HWX.out.drew HAT.out.1 HAT.out.2) ?_; rintro e y ⟨al2, kn2, c2', rfl, hk2, hvw2, ho2'⟩; have HQ : Hid (kn2 = lb - la + 1 ∧ Vw y al2 (natI (Sp.cols C t la (lb - la))) ∧ Only (fun _ => False) X y ∧ y.heap[B]? = some (.cells #[.int .i64 0, .int .i64 0] 39 (0, 0)) ∧ Only (fun _ => False) w y) := ⟨hk2, hvw2, (Only.refl _ _).drew.trans ho2', (HS.out y (H1.out.2.trans (HO.out.trans ((Only.refl _ _).drew.trans ho2')))).2.2.2.1, (HS.out y (H1.out.2.trans (HO.out.trans ((Only.refl _ _).drew.trans ho2')))).2.2.2.2⟩; clear hk2 hvw2 ho2'))
                obtain ⟨x, hx⟩ : ∃ x, x = Sp.col C t la (k1 - la) := ⟨_, rfl⟩
                obtain ⟨d, hd⟩ : ∃ d, d = k1 - la := ⟨_, rfl⟩
                have hak := HKL.out
                have hkd : kn2 = lb - la + 1 := HQ.out.1
                obtain ⟨bq, oq, eq1, hbq, hcq⟩ := HQ.out.2.1.cells (by rw [natI_len, Lv.cols_len]; omega)
                subst eq1
                have cx := hcq d _ (natI_get (Lv.cols_at C t la (k := lb - la) (i := d) (by omega)))
                have HX : Hid (x = Sp.col C t la (k1 - la)) := hx
                rw [hd, ← hx, ← hd] at cx
                have hd1 : la + d ≤ k1 := by omega
                have hd2 : k1 ≤ la + d := by omega
                have hdk : d < kn2 := by omega
                have hdI : (d : Int) < (kn2 : Int) := by omega
                have ed : (k1 : Int) - (la : Int) = (d : Int) := by omega
                obtain ⟨⟨r0, r1⟩, f0, f1⟩ := HKE.out y HQ.out.2.2.1
                have lg := World.block_lt_of_cell? y _ f0
                have lbq := World.block_lt_of_cell? y _ cx
                clear hx hd hcq hbq hkd hak
                go_wp2_with (refine wpList_store_row rfl 39 _ _ rfl B #[.int .i64 (r : Int), .int .i64 (x : Int)] rfl rfl 39 _ HQ.out.2.2.2.1 (by kernel_rfl) rfl (two_ints _ _) ?_)
                refine bodyPost_ret (v := .tuple #[.agg #[.int .i64 (r : Int), .int .i64 (x : Int)], .int .i64 0]) (results_row_tmp rfl _ _ B 39 #[.int .i64 (r : Int), .int .i64 (x : Int)] (0, 0) _ rfl (setRow_heap _ _ _ _ _ _ HQ.out.2.2.2.1) Try.underlying39 rfl (by kernel_rfl) _ rfl) rfl ⟨r, x, ?_, rfl, HQ.out.2.2.2.2.setRowNew HB.out _⟩
                rw [HSP.out, HX.out]
              | true =>
                by_cases hi0 : 0 < r
                · have hne : ¬ la = k1 := fun h => hc ⟨rfl, hi0, h⟩
                  have u3 : (0 : Int) < (r : Int) := by omega
                  have u4 : ((la : Int) == (k1 : Int)) = false := by rw [beq_eq_false_iff_ne]; omega
                  clear hc hne
                  have HAT : Hid (la ≤ lb ∧ lb ≤ n) := ⟨Nat.le_trans hl2 hl3, HRW.out.2.2.2.2⟩
                  have HKL : Hid (la ≤ k1 ∧ k1 ≤ lb) := ⟨hl2, hl3⟩
                  have HKE : Hid (∀ W', Only (fun _ => False) X W' → (W'.cell? ⟨R, 0, none⟩ = some (.slice aC n cC) ∧ W'.cell? ⟨R, 1, none⟩ = some (.slice aO m cO)) ∧ (W'.cell? ⟨g, off + r * 4, none⟩ = some (.int .i64 (la : Int)) ∧ W'.cell? ⟨g, off + r * 4 + 1, none⟩ = some (.int .i64 (lb : Int)))) := fun W' ho => ⟨⟨(HS.out W' (H1.out.2.trans (HO.out.trans ho))).1, (HS.out W' (H1.out.2.trans (HO.out.trans ho))).2.1⟩, keep0 ho c0, keep0 ho c1'⟩
                  have HWX : Hid (Only (fun _ => False) w X) := (HS.out X (H1.out.2.trans HO.out)).2.2.2.2
                  go_upto_region 22 with fail
                  go_region_held3 (fun W' => (W'.cell? ⟨R, 0, none⟩ = some (.slice aC n cC) ∧ W'.cell? ⟨R, 1, none⟩ = some (.slice aO m cO)) ∧ (W'.cell? ⟨g, off + r * 4, none⟩ = some (.int .i64 (la : Int)) ∧ W'.cell? ⟨g, off + r * 4 + 1, none⟩ = some (.int .i64 (lb : Int)))) ((first | exact HKE.out _ (Only.refl _ _).drew | exact HKE.out _ HQ.out.2.2.1 | trace_state)) ((go_at_call 17; refine Calls.mono (HCO.out _ la lb HWX.out.drew HAT.out.1 HAT.out.2) ?_; rintro e y ⟨al2, kn2, c2', rfl, hk2, hvw2, ho2'⟩; have HQ : Hid (kn2 = lb - la + 1 ∧ Vw y al2 (natI (Sp.cols C t la (lb - la))) ∧ Only (fun _ => False) X y ∧ y.heap[B]? = some (.cells #[.int .i64 0, .int .i64 0] 39 (0, 0)) ∧ Only (fun _ => False) w y) := ⟨hk2, hvw2, (Only.refl _ _).drew.trans ho2', (HS.out y (H1.out.2.trans (HO.out.trans ((Only.refl _ _).drew.trans ho2')))).2.2.2.1, (HS.out y (H1.out.2.trans (HO.out.trans ((Only.refl _ _).drew.trans ho2')))).2.2.2.2⟩; clear hk2 hvw2 ho2'))
                  obtain ⟨x, hx⟩ : ∃ x, x = Sp.col C t la (k1 - la) := ⟨_, rfl⟩
                  obtain ⟨d, hd⟩ : ∃ d, d = k1 - la := ⟨_, rfl⟩
                  have hak := HKL.out
                  have hkd : kn2 = lb - la + 1 := HQ.out.1
                  obtain ⟨bq, oq, eq1, hbq, hcq⟩ := HQ.out.2.1.cells (by rw [natI_len, Lv.cols_len]; omega)
                  subst eq1
                  have cx := hcq d _ (natI_get (Lv.cols_at C t la (k := lb - la) (i := d) (by omega)))
                  have HX : Hid (x = Sp.col C t la (k1 - la)) := hx
                  rw [hd, ← hx, ← hd] at cx
                  have hd1 : la + d ≤ k1 := by omega
                  have hd2 : k1 ≤ la + d := by omega
                  have hdk : d < kn2 := by omega
                  have hdI : (d : Int) < (kn2 : Int) := by omega
                  have ed : (k1 : Int) - (la : Int) = (d : Int) := by omega
                  obtain ⟨⟨r0, r1⟩, f0, f1⟩ := HKE.out y HQ.out.2.2.1
                  have lg := World.block_lt_of_cell? y _ f0
                  have lbq := World.block_lt_of_cell? y _ cx
                  clear hx hd hcq hbq hkd hak
                  go_wp2_with (refine wpList_store_row rfl 39 _ _ rfl B #[.int .i64 (r : Int), .int .i64 (x : Int)] rfl rfl 39 _ HQ.out.2.2.2.1 (by kernel_rfl) rfl (two_ints _ _) ?_)
                  refine bodyPost_ret (v := .tuple #[.agg #[.int .i64 (r : Int), .int .i64 (x : Int)], .int .i64 0]) (results_row_tmp rfl _ _ B 39 #[.int .i64 (r : Int), .int .i64 (x : Int)] (0, 0) _ rfl (setRow_heap _ _ _ _ _ _ HQ.out.2.2.2.1) Try.underlying39 rfl (by kernel_rfl) _ rfl) rfl ⟨r, x, ?_, rfl, HQ.out.2.2.2.2.setRowNew HB.out _⟩
                  rw [HSP.out, HX.out]
                · have u3 : decide ((0 : Int) < (r : Int)) = false := decide_eq_false (by omega)
                  have u3n : decide (0 < r) = false := decide_eq_false (by omega)
                  clear hc
                  have HAT : Hid (la ≤ lb ∧ lb ≤ n) := ⟨Nat.le_trans hl2 hl3, HRW.out.2.2.2.2⟩
                  have HKL : Hid (la ≤ k1 ∧ k1 ≤ lb) := ⟨hl2, hl3⟩
                  have HKE : Hid (∀ W', Only (fun _ => False) X W' → (W'.cell? ⟨R, 0, none⟩ = some (.slice aC n cC) ∧ W'.cell? ⟨R, 1, none⟩ = some (.slice aO m cO)) ∧ (W'.cell? ⟨g, off + r * 4, none⟩ = some (.int .i64 (la : Int)) ∧ W'.cell? ⟨g, off + r * 4 + 1, none⟩ = some (.int .i64 (lb : Int)))) := fun W' ho => ⟨⟨(HS.out W' (H1.out.2.trans (HO.out.trans ho))).1, (HS.out W' (H1.out.2.trans (HO.out.trans ho))).2.1⟩, keep0 ho c0, keep0 ho c1'⟩
                  have HWX : Hid (Only (fun _ => False) w X) := (HS.out X (H1.out.2.trans HO.out)).2.2.2.2
                  go_upto_region 22 with fail
                  go_region_held3 (fun W' => (W'.cell? ⟨R, 0, none⟩ = some (.slice aC n cC) ∧ W'.cell? ⟨R, 1, none⟩ = some (.slice aO m cO)) ∧ (W'.cell? ⟨g, off + r * 4, none⟩ = some (.int .i64 (la : Int)) ∧ W'.cell? ⟨g, off + r * 4 + 1, none⟩ = some (.int .i64 (lb : Int)))) ((first | exact HKE.out _ (Only.refl _ _).drew | exact HKE.out _ HQ.out.2.2.1 | trace_state)) ((go_at_call 17; refine Calls.mono (HCO.out _ la lb HWX.out.drew HAT.out.1 HAT.out.2) ?_; rintro e y ⟨al2, kn2, c2', rfl, hk2, hvw2, ho2'⟩; have HQ : Hid (kn2 = lb - la + 1 ∧ Vw y al2 (natI (Sp.cols C t la (lb - la))) ∧ Only (fun _ => False) X y ∧ y.heap[B]? = some (.cells #[.int .i64 0, .int .i64 0] 39 (0, 0)) ∧ Only (fun _ => False) w y) := ⟨hk2, hvw2, (Only.refl _ _).drew.trans ho2', (HS.out y (H1.out.2.trans (HO.out.trans ((Only.refl _ _).drew.trans ho2')))).2.2.2.1, (HS.out y (H1.out.2.trans (HO.out.trans ((Only.refl _ _).drew.trans ho2')))).2.2.2.2⟩; clear hk2 hvw2 ho2'))
                  obtain ⟨x, hx⟩ : ∃ x, x = Sp.col C t la (k1 - la) := ⟨_, rfl⟩
                  obtain ⟨d, hd⟩ : ∃ d, d = k1 - la := ⟨_, rfl⟩
                  have hak := HKL.out
                  have hkd : kn2 = lb - la + 1 := HQ.out.1
                  obtain ⟨bq, oq, eq1, hbq, hcq⟩ := HQ.out.2.1.cells (by rw [natI_len, Lv.cols_len]; omega)
                  subst eq1
                  have cx := hcq d _ (natI_get (Lv.cols_at C t la (k := lb - la) (i := d) (by omega)))
                  have HX : Hid (x = Sp.col C t la (k1 - la)) := hx
                  rw [hd, ← hx, ← hd] at cx
                  have hd1 : la + d ≤ k1 := by omega
                  have hd2 : k1 ≤ la + d := by omega
                  have hdk : d < kn2 := by omega
                  have hdI : (d : Int) < (kn2 : Int) := by omega
                  have ed : (k1 : Int) - (la : Int) = (d : Int) := by omega
                  obtain ⟨⟨r0, r1⟩, f0, f1⟩ := HKE.out y HQ.out.2.2.1
                  have lg := World.block_lt_of_cell? y _ f0
                  have lbq := World.block_lt_of_cell? y _ cx
                  clear hx hd hcq hbq hkd hak
                  go_wp2_with (refine wpList_store_row rfl 39 _ _ rfl B #[.int .i64 (r : Int), .int .i64 (x : Int)] rfl rfl 39 _ HQ.out.2.2.2.1 (by kernel_rfl) rfl (two_ints _ _) ?_)
                  refine bodyPost_ret (v := .tuple #[.agg #[.int .i64 (r : Int), .int .i64 (x : Int)], .int .i64 0]) (results_row_tmp rfl _ _ B 39 #[.int .i64 (r : Int), .int .i64 (x : Int)] (0, 0) _ rfl (setRow_heap _ _ _ _ _ _ HQ.out.2.2.2.1) Try.underlying39 rfl (by kernel_rfl) _ rfl) rfl ⟨r, x, ?_, rfl, HQ.out.2.2.2.2.setRowNew HB.out _⟩
                  rw [HSP.out, HX.out]
  · have t1 : ((nl : Int) == 0) = false := by rw [beq_eq_false_iff_ne]; omega
    have HL1 : Hid (L' = L ∧ nl = N) := by
      have hne : L ≠ [] := fun e => hz (by rw [HL.out.2.2.2, e]; rfl)
      have e := HL.out.1.trans (Lv.rof_self hne)
      exact ⟨e, by rw [HL.out.2.1, HL.out.2.2.2, e]⟩
    clear hz
    go_upto_region 3 with fail
    obtain ⟨a1, ha1⟩ : ∃ x, x = al := ⟨_, rfl⟩
    obtain ⟨c1, hc1⟩ : ∃ x, x = cl := ⟨_, rfl⟩
    obtain ⟨W, hW⟩ : ∃ x, x = w0 := ⟨_, rfl⟩
    have H1 : Hid (Vw W a1 (lnC L') ∧ Only (fun _ => False) w0 W) := by
      rw [hW, ha1]
      exact ⟨by rw [HL1.out.1]; exact HV.out.keep (HS.out w0 (Only.refl _ _)).2.2.2.2, Only.refl _ _⟩
    rw [HL1.out.2, ← hW, ← ha1, ← hc1]
    clear hW ha1 hc1 HL1
    obtain ⟨r0, r1, lR, -, -⟩ := HS.out W H1.out.2
    go_wp2_with fail
    go_loopg [13, 14, 15] n (fun gh v13 v14 v15 wr => ∃ (i k1 s1 : Nat) (X : World), X = wr ∧ gh = i ∧ i ≤ n ∧ v13 = .int .i64 (s1 : Int) ∧ v14 = .int .i64 (k1 : Int) ∧ v15 = .int .i64 ((i : Int) - 1) ∧ s1 = It.sum (C.drop i) ∧ k1 = Lv.clu C q (n - i) ∧ Only (fun _ => False) W X)
    case atStart => exact ⟨n, n, 0, _, rfl, rfl, Nat.le_refl _, rfl, rfl, by go_num, by rw [HP.out.2.2, List.drop_length]; rfl, by rw [Nat.sub_self]; exact HP.out.2.2, Only.refl _ _⟩
    case round =>
      obtain ⟨i, k1, s1, X, hX, hgh, hi, rfl, rfl, rfl, hs1, hk1, hoX⟩ := hrel
      subst hX
      have hgl := Nat.le_of_eq hgh.symm
      clear hgh
      have HI : Hid (s1 = It.sum (C.drop i) ∧ k1 = Lv.clu C q (n - i) ∧ Only (fun _ => False) W X) := ⟨hs1, hk1, hoX⟩
      have hs1l : s1 ≤ 1000000 := by rw [hs1]; exact Nat.le_trans (HSM.out.2 i) (by rw [← HSM.out.1]; exact hs)
      clear hs1 hoX hk1 r0 r1 lR
      obtain ⟨r0, r1, lR, -, -⟩ := HS.out X (H1.out.2.trans HI.out.2.2)
      by_cases hlt : 0 < i
      · obtain ⟨j, hj⟩ : ∃ j, i = j + 1 := ⟨i - 1, by omega⟩
        subst hj
        rw [show ((j + 1 : Nat) : Int) - 1 = (j : Int) by omega]
        have t2 : (0 : Int) ≤ (j : Int) := by omega
        have hjn : j < n := by omega
        have hjI : (j : Int) < (n : Int) := by omega
        obtain ⟨z, hz⟩ : ∃ z, C[j]? = some z := ⟨_, List.getElem?_eq_getElem (by rw [← HP.out.2.2]; exact hjn)⟩
        obtain ⟨xp, xl, xc, xk, rfl, hxc, hxk⟩ := HP.out.1.ok.nat hz
        have hce := Lv.ctg_end HP.out.2.1 hz
        simp only at hce
        obtain ⟨g, off, eg, hg, c0, c1', c2, c3⟩ := (HP.out.1.vC.keep (HS.out X (H1.out.2.trans HI.out.2.2)).2.2.2.2).cluster (k := j) hz
        simp only at c0 c1' c2 c3
        obtain ⟨s2, hs2⟩ : ∃ z, z = s1 + xl := ⟨_, rfl⟩
        have HE : Hid (s2 = It.sum (C.drop j) ∧ xp + xl = It.sum (C.take (j + 1))) := ⟨by rw [hs2, HI.out.1, hce.2.2]; omega, hce.2.1⟩
        have hs2l : s2 ≤ 1000000 := by rw [HE.out.1]; exact Nat.le_trans (HSM.out.2 j) (by rw [← HSM.out.1]; exact hs)
        have hxpl : xp + xl ≤ 1000000 := by rw [HE.out.2]; exact Nat.le_trans (It.sum_le _) (by rw [← HSM.out.1]; exact hs)
        have es : (s1 : Int) + (xl : Int) = (s2 : Int) := by omega
        clear hs2 hce hz
        subst eg
        by_cases hqt : (q : Int) < (xp : Int) + (xl : Int)
        · have HT : Hid (q < It.sum (C.take (j + 1))) := by rw [← HE.out.2]; exact (by omega : q < xp + xl)
          have hqn : q < xp + xl := by omega
          go_upto_region 10 with fail
          go_quiet (fail)
          go_wp2_with fail
          go_roundg j
          case measure => omega
          case rel => exact ⟨j, j, s2, _, rfl, rfl, by omega, by go_num, rfl, by go_num, HE.out.1, by rw [Lv.clu_down HP.out.2.2 hjn, if_pos HT.out], HI.out.2.2.drewN _⟩
        · have t3 : decide ((q : Int) < (xp : Int) + (xl : Int)) = false := decide_eq_false hqt
          have t3n : decide (q < xp + xl) = false := decide_eq_false (by omega)
          have HT : Hid (¬ q < It.sum (C.take (j + 1))) := by rw [← HE.out.2]; exact (by omega : ¬ q < xp + xl)
          go_upto_region 10 with fail
          go_quiet (fail)
          go_wp2_with fail
          go_roundg j
          case measure => omega
          case rel => exact ⟨j, k1, s2, _, rfl, rfl, by omega, by go_num, rfl, by go_num, HE.out.1, by rw [Lv.clu_down HP.out.2.2 hjn, if_neg HT.out]; exact HI.out.2.1, HI.out.2.2.drewN _⟩
      · have t2 : decide ((1 : Int) ≤ (i : Int)) = false := decide_eq_false (by omega)
        have t2n : decide (1 ≤ i) = false := decide_eq_false (by omega)
        have hi0 : i = 0 := by omega
        have hs1s : s1 = s := by rw [HI.out.1, HSM.out.1, hi0]; rfl
        have hk1k : k1 = k := by rw [HI.out.2.1, HK.out, hi0]; rfl
        have HO : Hid (Only (fun _ => False) W X) := HI.out.2.2
        subst hs1s hk1k
        clear hi0 hlt HI
        have t3 : decide ((q : Int) < 0) = false := decide_eq_false (by omega)
        have t4 : decide ((s1 : Int) < (q : Int)) = false := decide_eq_false (by omega)
        have t4n : decide (s1 < q) = false := decide_eq_false (by omega)
        go_wp2_with fail
        go_loopg [16, 17] N (fun gh v16 v17 wr => ∃ (i r : Nat), X = wr ∧ gh = i ∧ i ≤ N ∧ v16 = .int .i64 (r : Int) ∧ v17 = .int .i64 ((i : Int) - 1) ∧ (r = Lv.rwF L' k1 ∨ (r + 1 = N ∧ ∀ (j : Nat) (l : Ln), i ≤ j → L'[j]? = some l → ¬ (l.a ≤ k1 ∧ k1 < l.b))))
        case atStart =>
          refine ⟨N, N - 1, rfl, rfl, Nat.le_refl _, by go_num, by go_num, Or.inr ⟨by omega, fun j l hj hl => ?_⟩⟩
          have := (List.getElem?_eq_some_iff.1 hl).1
          rw [← HL.out.2.1] at this
          omega
        case round =>
          obtain ⟨i, r, hX2, hgh, hi, rfl, rfl, hinv⟩ := hrel
          subst hX2
          have hgl := Nat.le_of_eq hgh.symm
          clear hgh
          have HI : Hid (r = Lv.rwF L' k1 ∨ (r + 1 = N ∧ ∀ (j : Nat) (l : Ln), i ≤ j → L'[j]? = some l → ¬ (l.a ≤ k1 ∧ k1 < l.b))) := hinv
          clear hinv
          by_cases hlt : 0 < i
          · obtain ⟨j, hj⟩ : ∃ j, i = j + 1 := ⟨i - 1, by omega⟩
            subst hj
            rw [show ((j + 1 : Nat) : Int) - 1 = (j : Int) by omega]
            have t5 : (0 : Int) ≤ (j : Int) := by omega
            have hjn : j < N := by omega
            have hjI : (j : Int) < (N : Int) := by omega
            obtain ⟨l, hl⟩ : ∃ l, L'[j]? = some l := ⟨_, List.getElem?_eq_getElem (by rw [← HL.out.2.1]; exact hjn)⟩
            obtain ⟨g, off, eg, hg, c0, c1', c2, c3⟩ := (H1.out.1.keep HO.out).line hl
            obtain ⟨la, lb, lc, le⟩ := l
            simp only at c0 c1' c2 c3
            have HLN : Hid (L'[j]? = some ⟨la, lb, lc, le⟩) := hl
            subst eg
            clear hl
            by_cases q1 : k1 < lb
            · have s1' : (k1 : Int) < (lb : Int) := by omega
              by_cases q2 : la ≤ k1
              · have s2' : (la : Int) ≤ (k1 : Int) := by omega
                have HU : Hid (Lv.rwF L' k1 = j) := HL.out.2.2.1.uniq HLN.out q2 q1
                go_wp2_with fail
                go_roundg j
                case measure => omega
                case rel => exact ⟨j, j, rfl, rfl, by omega, rfl, by go_num, Or.inl HU.out.symm⟩
              · have s2' : decide ((la : Int) ≤ (k1 : Int)) = false := decide_eq_false (by omega)
                have s2n : decide (la ≤ k1) = false := decide_eq_false (by omega)
                have HN2 : Hid (¬ (la ≤ k1 ∧ k1 < lb)) := fun h => q2 h.1
                go_wp2_with fail
                go_roundg j
                case measure => omega
                case rel => exact ⟨j, r, rfl, rfl, by omega, rfl, by go_num, HI.out.imp id (fun h => ⟨h.1, fun x l hx hl => by
                  by_cases e : x = j
                  · subst e
                    rw [HLN.out] at hl
                    injection hl with hl
                    rw [← hl]
                    exact HN2.out
                  · exact h.2 x l (by omega) hl⟩)⟩
            · have s1' : decide ((k1 : Int) < (lb : Int)) = false := decide_eq_false (by omega)
              have s1n : decide (k1 < lb) = false := decide_eq_false (by omega)
              have HN2 : Hid (¬ (la ≤ k1 ∧ k1 < lb)) := fun h => q1 h.2
              go_wp2_with fail
              go_roundg j
              case measure => omega
              case rel => exact ⟨j, r, rfl, rfl, by omega, rfl, by go_num, HI.out.imp id (fun h => ⟨h.1, fun x l hx hl => by
                by_cases e : x = j
                · subst e
                  rw [HLN.out] at hl
                  injection hl with hl
                  rw [← hl]
                  exact HN2.out
                · exact h.2 x l (by omega) hl⟩)⟩
          · have t5 : decide ((1 : Int) ≤ (i : Int)) = false := decide_eq_false (by omega)
            have t5n : decide (1 ≤ i) = false := decide_eq_false (by omega)
            have hr : Lv.rwF L' k1 = r := by
              rcases HI.out with h | ⟨h1, h2⟩
              · exact h.symm
              · have := HL.out.2.2.1.last hkn (fun j l hl => h2 j l (by omega) hl)
                rw [← HL.out.2.1] at this
                omega
            obtain ⟨l, hl1, hl2, hl3⟩ := HL.out.2.2.1.spec hkn
            rw [hr] at hl1
            have HRW : Hid (Lv.rwF L' k1 = r ∧ L'[r]? = some l ∧ l.a ≤ k1 ∧ k1 ≤ l.b ∧ l.b ≤ n) := ⟨hr, hl1, hl2, hl3, (HL.out.2.2.1.at hl1).2.1⟩
            have hrN : r < N := by rw [HL.out.2.1]; exact (List.getElem?_eq_some_iff.1 hl1).1
            have hrI : (r : Int) < (N : Int) := by omega
            obtain ⟨g, off, eg, hg, c0, c1', c2, c3⟩ := (H1.out.1.keep HO.out).line hl1
            obtain ⟨la, lb, lc, le⟩ := l
            simp only at c0 c1' c2 c3 hl2 hl3
            subst eg
            clear hr hl1 hlt HI
            by_cases hc : back = true ∧ 0 < r ∧ la = k1
            · obtain ⟨hc1, hc2, hc3⟩ := hc
              subst hc1
              have u3 : (0 : Int) < (r : Int) := by omega
              have u4 : ((la : Int) == (k1 : Int)) = true := by rw [beq_iff_eq]; omega
              obtain ⟨j, hj⟩ : ∃ j, r = j + 1 := ⟨r - 1, by omega⟩
              subst hj
              obtain ⟨mm, hm⟩ : ∃ m, L'[j]? = some m := ⟨_, List.getElem?_eq_getElem (by rw [← HL.out.2.1]; omega)⟩
              have hmk := HL.out.2.2.1.next hm HRW.out.2.1
              have hmat := HL.out.2.2.1.at hm
              obtain ⟨g2, off2, eg, hg2, f0, f1, -, -⟩ := (H1.out.1.keep HO.out).line hm
              injection eg with eg
              injection eg with eg1 eg2
              subst eg1 eg2
              have HSP : Hid (Lv.spt C t L' true k1 = (j, Sp.col C t mm.a (k1 - mm.a))) := Lv.spt_step HRW.out.1 HRW.out.2.1 hc3 hm
              obtain ⟨ma, mb, mc, me⟩ := mm
              simp only at f0 f1 hmk hmat HSP
              have HAT : Hid (ma ≤ mb ∧ mb ≤ n) := ⟨hmat.1, hmat.2.1⟩
              have HKL : Hid (ma ≤ k1 ∧ k1 ≤ mb) := ⟨by omega, by omega⟩
              have ej : ((j + 1 : Nat) : Int) - 1 = (j : Int) := by omega
              have hjN : j < N := by omega
              have hjI : (j : Int) < (N : Int) := by omega
              have HKE : Hid (∀ W', Only (fun _ => False) X W' → (W'.cell? ⟨R, 0, none⟩ = some (.slice aC n cC) ∧ W'.cell? ⟨R, 1, none⟩ = some (.slice aO m cO)) ∧ (W'.cell? ⟨g, off + j * 4, none⟩ = some (.int .i64 (ma : Int)) ∧ W'.cell? ⟨g, off + j * 4 + 1, none⟩ = some (.int .i64 (mb : Int)))) := fun W' ho => ⟨⟨(HS.out W' (H1.out.2.trans (HO.out.trans ho))).1, (HS.out W' (H1.out.2.trans (HO.out.trans ho))).2.1⟩, keep0 ho f0, keep0 ho f1⟩
              have HWX : Hid (Only (fun _ => False) w X) := (HS.out X (H1.out.2.trans HO.out)).2.2.2.2
              clear hmk hmat hm hc2 hc3 hg2
              go_upto_region 22 with fail
              go_region_held3 (fun W' => (W'.cell? ⟨R, 0, none⟩ = some (.slice aC n cC) ∧ W'.cell? ⟨R, 1, none⟩ = some (.slice aO m cO)) ∧ (W'.cell? ⟨g, off + j * 4, none⟩ = some (.int .i64 (ma : Int)) ∧ W'.cell? ⟨g, off + j * 4 + 1, none⟩ = some (.int .i64 (mb : Int)))) ((first | exact HKE.out _ (Only.refl _ _).drew | exact HKE.out _ HQ.out.2.2.1 | trace_state)) ((go_at_call 17; refine Calls.mono (HCO.out _ ma mb HWX.out.drew HAT.out.1 HAT.out.2) ?_; rintro e y ⟨al2, kn2, c2', rfl, hk2, hvw2, ho2'⟩; have HQ : Hid (kn2 = mb - ma + 1 ∧ Vw y al2 (natI (Sp.cols C t ma (mb - ma))) ∧ Only (fun _ => False) X y ∧ y.heap[B]? = some (.cells #[.int .i64 0, .int .i64 0] 39 (0, 0)) ∧ Only (fun _ => False) w y) := ⟨hk2, hvw2, (Only.refl _ _).drew.trans ho2', (HS.out y (H1.out.2.trans (HO.out.trans ((Only.refl _ _).drew.trans ho2')))).2.2.2.1, (HS.out y (H1.out.2.trans (HO.out.trans ((Only.refl _ _).drew.trans ho2')))).2.2.2.2⟩; clear hk2 hvw2 ho2'))
              obtain ⟨x, hx⟩ : ∃ x, x = Sp.col C t ma (k1 - ma) := ⟨_, rfl⟩
              obtain ⟨d, hd⟩ : ∃ d, d = k1 - ma := ⟨_, rfl⟩
              have hak := HKL.out
              have hkd : kn2 = mb - ma + 1 := HQ.out.1
              obtain ⟨bq, oq, eq1, hbq, hcq⟩ := HQ.out.2.1.cells (by rw [natI_len, Lv.cols_len]; omega)
              subst eq1
              have cx := hcq d _ (natI_get (Lv.cols_at C t ma (k := mb - ma) (i := d) (by omega)))
              have HX : Hid (x = Sp.col C t ma (k1 - ma)) := hx
              rw [hd, ← hx, ← hd] at cx
              have hd1 : ma + d ≤ k1 := by omega
              have hd2 : k1 ≤ ma + d := by omega
              have hdk : d < kn2 := by omega
              have hdI : (d : Int) < (kn2 : Int) := by omega
              have ed : (k1 : Int) - (ma : Int) = (d : Int) := by omega
              obtain ⟨⟨r0, r1⟩, f0, f1⟩ := HKE.out y HQ.out.2.2.1
              have lg := World.block_lt_of_cell? y _ f0
              have lbq := World.block_lt_of_cell? y _ cx
              clear hx hd hcq hbq hkd hak
              go_wp2_with (refine wpList_store_row rfl 39 _ _ rfl B #[.int .i64 (j : Int), .int .i64 (x : Int)] rfl rfl 39 _ HQ.out.2.2.2.1 (by kernel_rfl) rfl (two_ints _ _) ?_)
              refine bodyPost_ret (v := .tuple #[.agg #[.int .i64 (j : Int), .int .i64 (x : Int)], .int .i64 0]) (results_row_tmp rfl _ _ B 39 #[.int .i64 (j : Int), .int .i64 (x : Int)] (0, 0) _ rfl (setRow_heap _ _ _ _ _ _ HQ.out.2.2.2.1) Try.underlying39 rfl (by kernel_rfl) _ rfl) rfl ⟨j, x, ?_, rfl, HQ.out.2.2.2.2.setRowNew HB.out _⟩
              rw [HSP.out, HX.out]
            · have HSP : Hid (Lv.spt C t L' back k1 = (r, Sp.col C t la (k1 - la))) := Lv.spt_stay HRW.out.1 HRW.out.2.1 hc
              cases back with
              | false =>
                clear hc
                have HAT : Hid (la ≤ lb ∧ lb ≤ n) := ⟨Nat.le_trans hl2 hl3, HRW.out.2.2.2.2⟩
                have HKL : Hid (la ≤ k1 ∧ k1 ≤ lb) := ⟨hl2, hl3⟩
                have HKE : Hid (∀ W', Only (fun _ => False) X W' → (W'.cell? ⟨R, 0, none⟩ = some (.slice aC n cC) ∧ W'.cell? ⟨R, 1, none⟩ = some (.slice aO m cO)) ∧ (W'.cell? ⟨g, off + r * 4, none⟩ = some (.int .i64 (la : Int)) ∧ W'.cell? ⟨g, off + r * 4 + 1, none⟩ = some (.int .i64 (lb : Int)))) := fun W' ho => ⟨⟨(HS.out W' (H1.out.2.trans (HO.out.trans ho))).1, (HS.out W' (H1.out.2.trans (HO.out.trans ho))).2.1⟩, keep0 ho c0, keep0 ho c1'⟩
                have HWX : Hid (Only (fun _ => False) w X) := (HS.out X (H1.out.2.trans HO.out)).2.2.2.2
                go_upto_region 22 with fail
                go_region_held3 (fun W' => (W'.cell? ⟨R, 0, none⟩ = some (.slice aC n cC) ∧ W'.cell? ⟨R, 1, none⟩ = some (.slice aO m cO)) ∧ (W'.cell? ⟨g, off + r * 4, none⟩ = some (.int .i64 (la : Int)) ∧ W'.cell? ⟨g, off + r * 4 + 1, none⟩ = some (.int .i64 (lb : Int)))) ((first | exact HKE.out _ (Only.refl _ _).drew | exact HKE.out _ HQ.out.2.2.1 | trace_state)) ((go_at_call 17; refine Calls.mono (HCO.out _ la lb HWX.out.drew HAT.out.1 HAT.out.2) ?_; rintro e y ⟨al2, kn2, c2', rfl, hk2, hvw2, ho2'⟩; have HQ : Hid (kn2 = lb - la + 1 ∧ Vw y al2 (natI (Sp.cols C t la (lb - la))) ∧ Only (fun _ => False) X y ∧ y.heap[B]? = some (.cells #[.int .i64 0, .int .i64 0] 39 (0, 0)) ∧ Only (fun _ => False) w y) := ⟨hk2, hvw2, (Only.refl _ _).drew.trans ho2', (HS.out y (H1.out.2.trans (HO.out.trans ((Only.refl _ _).drew.trans ho2')))).2.2.2.1, (HS.out y (H1.out.2.trans (HO.out.trans ((Only.refl _ _).drew.trans ho2')))).2.2.2.2⟩; clear hk2 hvw2 ho2'))
                obtain ⟨x, hx⟩ : ∃ x, x = Sp.col C t la (k1 - la) := ⟨_, rfl⟩
                obtain ⟨d, hd⟩ : ∃ d, d = k1 - la := ⟨_, rfl⟩
                have hak := HKL.out
                have hkd : kn2 = lb - la + 1 := HQ.out.1
                obtain ⟨bq, oq, eq1, hbq, hcq⟩ := HQ.out.2.1.cells (by rw [natI_len, Lv.cols_len]; omega)
                subst eq1
                have cx := hcq d _ (natI_get (Lv.cols_at C t la (k := lb - la) (i := d) (by omega)))
                have HX : Hid (x = Sp.col C t la (k1 - la)) := hx
                rw [hd, ← hx, ← hd] at cx
                have hd1 : la + d ≤ k1 := by omega
                have hd2 : k1 ≤ la + d := by omega
                have hdk : d < kn2 := by omega
                have hdI : (d : Int) < (kn2 : Int) := by omega
                have ed : (k1 : Int) - (la : Int) = (d : Int) := by omega
                obtain ⟨⟨r0, r1⟩, f0, f1⟩ := HKE.out y HQ.out.2.2.1
                have lg := World.block_lt_of_cell? y _ f0
                have lbq := World.block_lt_of_cell? y _ cx
                clear hx hd hcq hbq hkd hak
                go_wp2_with (refine wpList_store_row rfl 39 _ _ rfl B #[.int .i64 (r : Int), .int .i64 (x : Int)] rfl rfl 39 _ HQ.out.2.2.2.1 (by kernel_rfl) rfl (two_ints _ _) ?_)
                refine bodyPost_ret (v := .tuple #[.agg #[.int .i64 (r : Int), .int .i64 (x : Int)], .int .i64 0]) (results_row_tmp rfl _ _ B 39 #[.int .i64 (r : Int), .int .i64 (x : Int)] (0, 0) _ rfl (setRow_heap _ _ _ _ _ _ HQ.out.2.2.2.1) Try.underlying39 rfl (by kernel_rfl) _ rfl) rfl ⟨r, x, ?_, rfl, HQ.out.2.2.2.2.setRowNew HB.out _⟩
                rw [HSP.out, HX.out]
              | true =>
                by_cases hi0 : 0 < r
                · have hne : ¬ la = k1 := fun h => hc ⟨rfl, hi0, h⟩
                  have u3 : (0 : Int) < (r : Int) := by omega
                  have u4 : ((la : Int) == (k1 : Int)) = false := by rw [beq_eq_false_iff_ne]; omega
                  clear hc hne
                  have HAT : Hid (la ≤ lb ∧ lb ≤ n) := ⟨Nat.le_trans hl2 hl3, HRW.out.2.2.2.2⟩
                  have HKL : Hid (la ≤ k1 ∧ k1 ≤ lb) := ⟨hl2, hl3⟩
                  have HKE : Hid (∀ W', Only (fun _ => False) X W' → (W'.cell? ⟨R, 0, none⟩ = some (.slice aC n cC) ∧ W'.cell? ⟨R, 1, none⟩ = some (.slice aO m cO)) ∧ (W'.cell? ⟨g, off + r * 4, none⟩ = some (.int .i64 (la : Int)) ∧ W'.cell? ⟨g, off + r * 4 + 1, none⟩ = some (.int .i64 (lb : Int)))) := fun W' ho => ⟨⟨(HS.out W' (H1.out.2.trans (HO.out.trans ho))).1, (HS.out W' (H1.out.2.trans (HO.out.trans ho))).2.1⟩, keep0 ho c0, keep0 ho c1'⟩
                  have HWX : Hid (Only (fun _ => False) w X) := (HS.out X (H1.out.2.trans HO.out)).2.2.2.2
                  go_upto_region 22 with fail
                  go_region_held3 (fun W' => (W'.cell? ⟨R, 0, none⟩ = some (.slice aC n cC) ∧ W'.cell? ⟨R, 1, none⟩ = some (.slice aO m cO)) ∧ (W'.cell? ⟨g, off + r * 4, none⟩ = some (.int .i64 (la : Int)) ∧ W'.cell? ⟨g, off + r * 4 + 1, none⟩ = some (.int .i64 (lb : Int)))) ((first | exact HKE.out _ (Only.refl _ _).drew | exact HKE.out _ HQ.out.2.2.1 | trace_state)) ((go_at_call 17; refine Calls.mono (HCO.out _ la lb HWX.out.drew HAT.out.1 HAT.out.2) ?_; rintro e y ⟨al2, kn2, c2', rfl, hk2, hvw2, ho2'⟩; have HQ : Hid (kn2 = lb - la + 1 ∧ Vw y al2 (natI (Sp.cols C t la (lb - la))) ∧ Only (fun _ => False) X y ∧ y.heap[B]? = some (.cells #[.int .i64 0, .int .i64 0] 39 (0, 0)) ∧ Only (fun _ => False) w y) := ⟨hk2, hvw2, (Only.refl _ _).drew.trans ho2', (HS.out y (H1.out.2.trans (HO.out.trans ((Only.refl _ _).drew.trans ho2')))).2.2.2.1, (HS.out y (H1.out.2.trans (HO.out.trans ((Only.refl _ _).drew.trans ho2')))).2.2.2.2⟩; clear hk2 hvw2 ho2'))
                  obtain ⟨x, hx⟩ : ∃ x, x = Sp.col C t la (k1 - la) := ⟨_, rfl⟩
                  obtain ⟨d, hd⟩ : ∃ d, d = k1 - la := ⟨_, rfl⟩
                  have hak := HKL.out
                  have hkd : kn2 = lb - la + 1 := HQ.out.1
                  obtain ⟨bq, oq, eq1, hbq, hcq⟩ := HQ.out.2.1.cells (by rw [natI_len, Lv.cols_len]; omega)
                  subst eq1
                  have cx := hcq d _ (natI_get (Lv.cols_at C t la (k := lb - la) (i := d) (by omega)))
                  have HX : Hid (x = Sp.col C t la (k1 - la)) := hx
                  rw [hd, ← hx, ← hd] at cx
                  have hd1 : la + d ≤ k1 := by omega
                  have hd2 : k1 ≤ la + d := by omega
                  have hdk : d < kn2 := by omega
                  have hdI : (d : Int) < (kn2 : Int) := by omega
                  have ed : (k1 : Int) - (la : Int) = (d : Int) := by omega
                  obtain ⟨⟨r0, r1⟩, f0, f1⟩ := HKE.out y HQ.out.2.2.1
                  have lg := World.block_lt_of_cell? y _ f0
                  have lbq := World.block_lt_of_cell? y _ cx
                  clear hx hd hcq hbq hkd hak
                  go_wp2_with (refine wpList_store_row rfl 39 _ _ rfl B #[.int .i64 (r : Int), .int .i64 (x : Int)] rfl rfl 39 _ HQ.out.2.2.2.1 (by kernel_rfl) rfl (two_ints _ _) ?_)
                  refine bodyPost_ret (v := .tuple #[.agg #[.int .i64 (r : Int), .int .i64 (x : Int)], .int .i64 0]) (results_row_tmp rfl _ _ B 39 #[.int .i64 (r : Int), .int .i64 (x : Int)] (0, 0) _ rfl (setRow_heap _ _ _ _ _ _ HQ.out.2.2.2.1) Try.underlying39 rfl (by kernel_rfl) _ rfl) rfl ⟨r, x, ?_, rfl, HQ.out.2.2.2.2.setRowNew HB.out _⟩
                  rw [HSP.out, HX.out]
                · have u3 : decide ((0 : Int) < (r : Int)) = false := decide_eq_false (by omega)
                  have u3n : decide (0 < r) = false := decide_eq_false (by omega)
                  clear hc
                  have HAT : Hid (la ≤ lb ∧ lb ≤ n) := ⟨Nat.le_trans hl2 hl3, HRW.out.2.2.2.2⟩
                  have HKL : Hid (la ≤ k1 ∧ k1 ≤ lb) := ⟨hl2, hl3⟩
                  have HKE : Hid (∀ W', Only (fun _ => False) X W' → (W'.cell? ⟨R, 0, none⟩ = some (.slice aC n cC) ∧ W'.cell? ⟨R, 1, none⟩ = some (.slice aO m cO)) ∧ (W'.cell? ⟨g, off + r * 4, none⟩ = some (.int .i64 (la : Int)) ∧ W'.cell? ⟨g, off + r * 4 + 1, none⟩ = some (.int .i64 (lb : Int)))) := fun W' ho => ⟨⟨(HS.out W' (H1.out.2.trans (HO.out.trans ho))).1, (HS.out W' (H1.out.2.trans (HO.out.trans ho))).2.1⟩, keep0 ho c0, keep0 ho c1'⟩
                  have HWX : Hid (Only (fun _ => False) w X) := (HS.out X (H1.out.2.trans HO.out)).2.2.2.2
                  go_upto_region 22 with fail
                  go_region_held3 (fun W' => (W'.cell? ⟨R, 0, none⟩ = some (.slice aC n cC) ∧ W'.cell? ⟨R, 1, none⟩ = some (.slice aO m cO)) ∧ (W'.cell? ⟨g, off + r * 4, none⟩ = some (.int .i64 (la : Int)) ∧ W'.cell? ⟨g, off + r * 4 + 1, none⟩ = some (.int .i64 (lb : Int)))) ((first | exact HKE.out _ (Only.refl _ _).drew | exact HKE.out _ HQ.out.2.2.1 | trace_state)) ((go_at_call 17; refine Calls.mono (HCO.out _ la lb HWX.out.drew HAT.out.1 HAT.out.2) ?_; rintro e y ⟨al2, kn2, c2', rfl, hk2, hvw2, ho2'⟩; have HQ : Hid (kn2 = lb - la + 1 ∧ Vw y al2 (natI (Sp.cols C t la (lb - la))) ∧ Only (fun _ => False) X y ∧ y.heap[B]? = some (.cells #[.int .i64 0, .int .i64 0] 39 (0, 0)) ∧ Only (fun _ => False) w y) := ⟨hk2, hvw2, (Only.refl _ _).drew.trans ho2', (HS.out y (H1.out.2.trans (HO.out.trans ((Only.refl _ _).drew.trans ho2')))).2.2.2.1, (HS.out y (H1.out.2.trans (HO.out.trans ((Only.refl _ _).drew.trans ho2')))).2.2.2.2⟩; clear hk2 hvw2 ho2'))
                  obtain ⟨x, hx⟩ : ∃ x, x = Sp.col C t la (k1 - la) := ⟨_, rfl⟩
                  obtain ⟨d, hd⟩ : ∃ d, d = k1 - la := ⟨_, rfl⟩
                  have hak := HKL.out
                  have hkd : kn2 = lb - la + 1 := HQ.out.1
                  obtain ⟨bq, oq, eq1, hbq, hcq⟩ := HQ.out.2.1.cells (by rw [natI_len, Lv.cols_len]; omega)
                  subst eq1
                  have cx := hcq d _ (natI_get (Lv.cols_at C t la (k := lb - la) (i := d) (by omega)))
                  have HX : Hid (x = Sp.col C t la (k1 - la)) := hx
                  rw [hd, ← hx, ← hd] at cx
                  have hd1 : la + d ≤ k1 := by omega
                  have hd2 : k1 ≤ la + d := by omega
                  have hdk : d < kn2 := by omega
                  have hdI : (d : Int) < (kn2 : Int) := by omega
                  have ed : (k1 : Int) - (la : Int) = (d : Int) := by omega
                  obtain ⟨⟨r0, r1⟩, f0, f1⟩ := HKE.out y HQ.out.2.2.1
                  have lg := World.block_lt_of_cell? y _ f0
                  have lbq := World.block_lt_of_cell? y _ cx
                  clear hx hd hcq hbq hkd hak
                  go_wp2_with (refine wpList_store_row rfl 39 _ _ rfl B #[.int .i64 (r : Int), .int .i64 (x : Int)] rfl rfl 39 _ HQ.out.2.2.2.1 (by kernel_rfl) rfl (two_ints _ _) ?_)
                  refine bodyPost_ret (v := .tuple #[.agg #[.int .i64 (r : Int), .int .i64 (x : Int)], .int .i64 0]) (results_row_tmp rfl _ _ B 39 #[.int .i64 (r : Int), .int .i64 (x : Int)] (0, 0) _ rfl (setRow_heap _ _ _ _ _ _ HQ.out.2.2.2.1) Try.underlying39 rfl (by kernel_rfl) _ rfl) rfl ⟨r, x, ?_, rfl, HQ.out.2.2.2.2.setRowNew HB.out _⟩
                  rw [HSP.out, HX.out]
end Go.Proofs.Yteejgjapghccnaa
