/-
  place's Spot: a byte's row and column.
-/
import Derived.Test.YteejgjapghccnaaYf
import Derived.Test.YteejgjapghccnaaCf
namespace Go.Proofs.Yteejgjapghccnaa
open Go.RowKit Go.Maps
set_option linter.unusedVariables false
set_option linter.unusedSimpArgs false
set_option maxRecDepth 100000 in
set_option maxHeartbeats 4000000 in
theorem spot_nil (q : Int) (back : Bool) (w : World) : Calls Try.prog 12 #[.pointer none, .int .i64 q, .bool back] w fun e w' => e = .returned (.tuple #[.agg #[.int .i64 0, .int .i64 0], .int .i64 1]) ∧ Only (fun _ => False) w w' := by
  go_enter Try.func12, Try.ntmps12
  go_upto_region 1 with fail
  obtain ⟨B, w0, hw0, hB, H0, b0, b1, lB⟩ := box2 w (.int .i64 0) (.int .i64 0) 39
  rw [hw0, hB]
  have HB : Hid (w.heap.size ≤ B) := Nat.le_of_eq hB
  clear hw0 hB
  go_wp2_with fail
  refine Calls.mono (nrows_nil _) ?_
  rintro e w1 ⟨rfl, rfl⟩
  go_wp2_with (refine wpList_store_row rfl 39 _ _ rfl B #[.int .i64 0, .int .i64 0] rfl rfl 39 _ H0.out.1 (by kernel_rfl) rfl (two_ints _ _) ?_)
  refine bodyPost_ret (v := .tuple #[.agg #[.int .i64 0, .int .i64 0], .int .i64 1]) (results_row_tmp rfl _ _ B 39 #[.int .i64 0, .int .i64 0] (0, 0) _ rfl (setRow_heap _ _ _ _ _ _ H0.out.1) Try.underlying39 rfl (by kernel_rfl) _ rfl) rfl ⟨rfl, ?_⟩
  exact H0.out.2.setRowNew HB.out _
set_option maxRecDepth 100000 in
set_option maxHeartbeats 4000000 in
theorem spot_any (M n : Nat) (C : List Ct) (t : Nat) (L : List Ln) (q : Nat) (back : Bool) (w : World) (h : Mpp w M n C t L) (hq : q ≤ It.sum C) : Calls Try.prog 12 #[.pointer (some ⟨M, 0, none⟩), .int .i64 (q : Int), .bool back] w fun e w' => ∃ r c : Nat, Lv.spt C t L back (Lv.clu C q n) = (r, c) ∧ e = .returned (.tuple #[.agg #[.int .i64 (r : Int), .int .i64 (c : Int)], .int .i64 0]) ∧ Only (fun _ => False) w w' := by
  obtain ⟨n1, hn1⟩ : ∃ x, x = n + 1 := ⟨_, rfl⟩
  obtain ⟨nl, hnl⟩ : ∃ x, x = L.length := ⟨_, rfl⟩
  obtain ⟨s, hs⟩ : ∃ x, x = It.sum C := ⟨_, rfl⟩
  have HNL : Hid (∀ W, Only (fun _ => False) w W → Calls Try.prog 14 #[.pointer (some ⟨M, 0, none⟩)] W fun e w' => e = .returned (.int .i64 (nl : Int)) ∧ W = w') := fun W ho => nrows_any M n C t L nl W (h.keep ho) hnl
  obtain ⟨aB, aR, cB, cR, b0, o0, e0, hblk, hcs, -, hse, hsr, hrow⟩ := h.open hn1 hnl hs
  subst e0
  obtain ⟨k, hk⟩ : ∃ x, x = Lv.clu C q n := ⟨_, rfl⟩
  have hkn : k ≤ n := by
    have := (Lv.clu_at h.ctg q).1
    rw [← h.hn, ← hk] at this
    exact this
  obtain ⟨i, hi⟩ : ∃ x, x = Lv.rwF L k := ⟨_, rfl⟩
  obtain ⟨l, hl1, hl2, hl3⟩ := h.rws.spec hkn
  rw [← hi] at hl1
  have hin : i < nl := by rw [hnl]; exact (List.getElem?_eq_some_iff.1 hl1).1
  have HSE : Hid (∀ W, Only (fun _ => False) w W → Calls Try.prog 22 #[.slice (some ⟨b0, o0, none⟩) n1 cB, .int .i64 (q : Int), .func (.func 23) #[] #[]] W fun e w' => e = .returned (.int .i64 (k : Int)) ∧ Only (fun _ => False) W w') := fun W ho => by rw [hk]; exact hse W ho q
  have HSR : Hid (∀ W, Only (fun _ => False) w W → Calls Try.prog 24 #[.slice aR nl cR, .int .i64 (k : Int), .func (.func 25) #[] #[]] W fun e w' => e = .returned (.int .i64 (i : Int)) ∧ Only (fun _ => False) W w') := fun W ho => by rw [hi]; exact hsr W ho k hkn
  have HBK : Hid (w.heap[M]? = some (.cells #[.slice (some ⟨b0, o0, none⟩) n1 cB, .slice aR nl cR] 75 (0, 0)) ∧ w.cell? ⟨b0, o0 + n, none⟩ = some (.int .i64 (s : Int))) := ⟨hblk, hcs⟩
  have HRW : Hid (Lv.Rws n L ∧ Lv.rwF L k = i ∧ L[i]? = some l ∧ l.a ≤ k ∧ k ≤ l.b) := ⟨h.rws, hi.symm, hl1, hl2, hl3⟩
  have HR : Hid (∀ i l, L[i]? = some l → ∃ b1 o1 al c, aR = some ⟨b1, o1, none⟩ ∧ b1 < w.heap.size ∧ w.cell? ⟨b1, o1 + i * 2, none⟩ = some (.int .i64 (l.a : Int)) ∧ w.cell? ⟨b1, o1 + i * 2 + 1, none⟩ = some (.slice al (l.b - l.a + 1) c) ∧ (∀ W, Only (fun _ => False) w W → ∀ k, l.a ≤ k → k ≤ l.b → Calls Try.prog 26 #[.agg #[.int .i64 (l.a : Int), .slice al (l.b - l.a + 1) c], .int .i64 (k : Int)] W fun e w' => e = .returned (.int .i64 ((Sp.col C t l.a (k - l.a) : Nat) : Int)) ∧ Only (fun _ => False) W w')) := fun i l hi => by
    obtain ⟨b1, o1, al, c, h1, h2, h3, h4, h5, -⟩ := hrow i l hi
    exact ⟨b1, o1, al, c, h1, h2, h3, h4, h5⟩
  have hfew := h.few
  have hsum := h.sum
  have hnl1 := (rlen h.rws).2
  have hnl0 := (rlen h.rws).1
  rw [← hnl] at hnl1 hnl0
  rw [← hs] at hq hsum
  rw [← hk]
  have e1 : IntKind.i64.wrap ((n1 : Int) - 1) = (n : Int) := by rw [hn1]; exact (wrap_sm _ (by omega) (by omega)).trans (by omega)
  have hn1' : n < n1 := by omega
  have hn1i : (n : Int) < (n1 : Int) := by omega
  have hn1c : n1 ≤ 1001 := by omega
  clear hn1 hnl hs hblk hcs hse hsr hrow hk hi hl1 hl2 hl3 h
  have t0 : ((nl : Int) == 0) = false := by rw [beq_eq_false_iff_ne]; omega
  have t1 : decide ((q : Int) < 0) = false := decide_eq_false (by omega)
  have t2 : decide ((s : Int) < (q : Int)) = false := decide_eq_false (by omega)
  have t2n : decide (s < q) = false := decide_eq_false (by omega)
  go_enter Try.func12, Try.ntmps12
  go_upto_region 1 with fail
  obtain ⟨B, w0, hw0, hB, H0, lb0, lb1, lB⟩ := box2 w (.int .i64 0) (.int .i64 0) 39
  rw [hw0, hB]
  have HB : Hid (w.heap.size ≤ B ∧ Only (fun _ => False) w w0) := ⟨Nat.le_of_eq hB, H0.out.2⟩
  clear hw0 hB lb0 lb1
  have HS : Hid (∀ W, Only (fun _ => False) w0 W → W.heap[B]? = some (.cells #[.int .i64 0, .int .i64 0] 39 (0, 0)) ∧ W.cell? ⟨M, 0, none⟩ = some (.slice (some ⟨b0, o0, none⟩) n1 cB) ∧ W.cell? ⟨M, 1, none⟩ = some (.slice aR nl cR) ∧ W.cell? ⟨b0, o0 + n, none⟩ = some (.int .i64 (s : Int)) ∧ M < W.heap.size ∧ b0 < W.heap.size) := fun W ho => by
    have h2 := HB.out.2.trans ho
    obtain ⟨m0, m1, lM⟩ := blk_two (blk_keep h2 HBK.out.1)
    have hc := keep0 h2 HBK.out.2
    exact ⟨blk_keep ho H0.out.1, m0, m1, hc, lM, World.block_lt_of_cell? W _ hc⟩
  obtain ⟨-, m0, m1, ms, lM, lb⟩ := HS.out w0 (Only.refl _ _)
  go_wp2_with fail
  refine Calls.mono (HNL.out w0 HB.out.2) ?_
  rintro e w1 ⟨rfl, rfl⟩
  go_upto_region 3 with fail
  go_quiet (fail)
  go_wp2_with fail
  refine Calls.mono (HSE.out _ (HB.out.2.drewN _)) ?_
  rintro e w2 ⟨rfl, ho2'⟩
  have ho2 : Only (fun _ => False) w0 w2 := ((Only.refl (fun _ => False) w0).drewN _).trans ho2'
  have H3 : Hid (Only (fun _ => False) w w2 ∧ Only (fun _ => False) w0 w2) := ⟨HB.out.2.trans ho2, ho2⟩
  clear ho2' ho2 m0 m1 ms lM lb
  obtain ⟨-, m0, m1, ms, lM, lb⟩ := HS.out w2 H3.out.2
  go_wp2_with fail
  refine Calls.mono (HSR.out _ H3.out.1) ?_
  rintro e w3 ⟨rfl, ho3⟩
  have H4 : Hid (Only (fun _ => False) w w3 ∧ Only (fun _ => False) w0 w3) := ⟨H3.out.1.trans ho3, H3.out.2.trans ho3⟩
  clear ho3 m0 m1 ms lM lb
  obtain ⟨-, m0, m1, ms, lM, lb⟩ := HS.out w3 H4.out.2
  obtain ⟨bq, oq, al, cq, eq1, hb1, d0, d1, hcol⟩ := HR.out i l HRW.out.2.2.1
  subst eq1
  obtain ⟨la, hla⟩ : ∃ z, z = l.a := ⟨_, rfl⟩
  obtain ⟨ln, hln⟩ : ∃ z, z = l.b - l.a + 1 := ⟨_, rfl⟩
  have HLA : Hid (la = l.a ∧ ln = l.b - l.a + 1) := ⟨hla, hln⟩
  rw [← hla] at d0
  rw [← hln] at d1
  have HD : Hid (∀ W, Only (fun _ => False) w W → W.cell? ⟨bq, oq + i * 2, none⟩ = some (.int .i64 (la : Int)) ∧ W.cell? ⟨bq, oq + i * 2 + 1, none⟩ = some (.slice al ln cq) ∧ bq < W.heap.size) := fun W ho => by
    have h1 := keep0 ho d0
    exact ⟨h1, keep0 ho d1, World.block_lt_of_cell? W _ h1⟩
  have HC : Hid (∀ W, Only (fun _ => False) w W → Calls Try.prog 26 #[.agg #[.int .i64 (la : Int), .slice al ln cq], .int .i64 (k : Int)] W fun e w' => ∃ x : Nat, Sp.col C t l.a (k - l.a) = x ∧ e = .returned (.int .i64 (x : Int)) ∧ Only (fun _ => False) W w') := fun W ho => by
    rw [hla, hln]
    refine (hcol W ho k HRW.out.2.2.2.1 HRW.out.2.2.2.2).mono ?_
    rintro e w' ⟨he, ho'⟩
    exact ⟨_, rfl, he, ho'⟩
  clear hcol d0 d1 hb1 hla hln
  obtain ⟨d0, d1, lq⟩ := HD.out w3 H4.out.1
  have hini : (i : Int) < (nl : Int) := by omega
  by_cases hc : back = true ∧ 0 < i ∧ la = k
  · obtain ⟨hc1, hc2, hc3⟩ := hc
    subst hc1
    have t3 : (0 : Int) < (i : Int) := by omega
    have t4 : ((la : Int) == (k : Int)) = true := by rw [beq_iff_eq]; omega
    obtain ⟨j, hj⟩ : ∃ j, i = j + 1 := ⟨i - 1, by omega⟩
    subst hj
    obtain ⟨m, hm⟩ : ∃ m, L[j]? = some m := ⟨_, List.getElem?_eq_getElem (by have := (List.getElem?_eq_some_iff.1 HRW.out.2.2.1).1; omega)⟩
    have HM : Hid (L[j]? = some m ∧ la = k) := ⟨hm, hc3⟩
    have hmk := HRW.out.1.next hm HRW.out.2.2.1
    have hmat := HRW.out.1.at hm
    obtain ⟨bz, oz, al2, cq2, eq1, hb1, f0, f1, hcol⟩ := HR.out j m hm
    injection eq1 with eq1
    injection eq1 with eq2 eq3
    subst eq2 eq3
    obtain ⟨ma, hma⟩ : ∃ z, z = m.a := ⟨_, rfl⟩
    obtain ⟨mn, hmn⟩ : ∃ z, z = m.b - m.a + 1 := ⟨_, rfl⟩
    rw [← hma] at f0
    rw [← hmn] at f1
    have HC2 : Hid (∀ W, Only (fun _ => False) w W → Calls Try.prog 26 #[.agg #[.int .i64 (ma : Int), .slice al2 mn cq2], .int .i64 (k : Int)] W fun e w' => ∃ x : Nat, Sp.col C t m.a (k - m.a) = x ∧ e = .returned (.int .i64 (x : Int)) ∧ Only (fun _ => False) W w') := fun W ho => by
      rw [hma, hmn]
      have hk1 : k = m.b := by rw [← hmk, ← HLA.out.1]; exact hc3.symm
      refine (hcol W ho k (by omega) (by omega)).mono ?_
      rintro e w' ⟨he, ho'⟩
      exact ⟨_, rfl, he, ho'⟩
    have g0 := keep0 H4.out.1 f0
    have g1 := keep0 H4.out.1 f1
    have ej : ((j + 1 : Nat) : Int) - 1 = (j : Int) := by omega
    have hjn : (j : Int) < (nl : Int) := by omega
    have hjn2 : j < nl := by omega
    clear hcol f0 f1 hb1 hma hmn hmk hmat hm hc2 hc3
    go_wp2_with fail
    refine Calls.mono (HC2.out _ H4.out.1) ?_
    rintro e w4 ⟨x, hx, rfl, ho4⟩
    have HX : Hid (Sp.col C t m.a (k - m.a) = x) := hx
    have H5 : Hid (Only (fun _ => False) w w4 ∧ w4.heap[B]? = some (.cells #[.int .i64 0, .int .i64 0] 39 (0, 0))) := ⟨H4.out.1.trans ho4, (HS.out w4 (H4.out.2.trans ho4)).1⟩
    clear hx ho4 m0 m1 ms lM lb d0 d1 lq g0 g1
    go_wp2_with (refine wpList_store_row rfl 39 _ _ rfl B #[.int .i64 (j : Int), .int .i64 (x : Int)] rfl rfl 39 _ H5.out.2 (by kernel_rfl) rfl (two_ints _ _) ?_)
    refine bodyPost_ret (v := .tuple #[.agg #[.int .i64 (j : Int), .int .i64 (x : Int)], .int .i64 0]) (results_row_tmp rfl _ _ B 39 #[.int .i64 (j : Int), .int .i64 (x : Int)] (0, 0) _ rfl (setRow_heap _ _ _ _ _ _ H5.out.2) Try.underlying39 rfl (by kernel_rfl) _ rfl) rfl ⟨j, x, ?_, rfl, H5.out.1.setRowNew HB.out.1 _⟩
    have hs := Lv.spt_step (C := C) (t := t) HRW.out.2.1 HRW.out.2.2.1 (by rw [← HLA.out.1]; exact HM.out.2) HM.out.1
    rw [hs, HX.out]
  · have HSP : Hid (Lv.spt C t L back k = (i, Sp.col C t l.a (k - l.a))) := Lv.spt_stay HRW.out.2.1 HRW.out.2.2.1 (fun h => hc ⟨h.1, h.2.1, HLA.out.1.trans h.2.2⟩)
    cases back with
    | false =>
      clear hc
      go_wp2_with fail
      refine Calls.mono (HC.out _ H4.out.1) ?_
      rintro e w4 ⟨x, hx, rfl, ho4⟩
      have HX : Hid (Sp.col C t l.a (k - l.a) = x) := hx
      have H5 : Hid (Only (fun _ => False) w w4 ∧ w4.heap[B]? = some (.cells #[.int .i64 0, .int .i64 0] 39 (0, 0))) := ⟨H4.out.1.trans ho4, (HS.out w4 (H4.out.2.trans ho4)).1⟩
      clear hx ho4 m0 m1 ms lM lb d0 d1 lq
      go_wp2_with (refine wpList_store_row rfl 39 _ _ rfl B #[.int .i64 (i : Int), .int .i64 (x : Int)] rfl rfl 39 _ H5.out.2 (by kernel_rfl) rfl (two_ints _ _) ?_)
      refine bodyPost_ret (v := .tuple #[.agg #[.int .i64 (i : Int), .int .i64 (x : Int)], .int .i64 0]) (results_row_tmp rfl _ _ B 39 #[.int .i64 (i : Int), .int .i64 (x : Int)] (0, 0) _ rfl (setRow_heap _ _ _ _ _ _ H5.out.2) Try.underlying39 rfl (by kernel_rfl) _ rfl) rfl ⟨i, x, ?_, rfl, H5.out.1.setRowNew HB.out.1 _⟩
      rw [HSP.out, HX.out]
    | true =>
      by_cases hi0 : 0 < i
      · have hne : ¬ la = k := fun h => hc ⟨rfl, hi0, h⟩
        have t3 : (0 : Int) < (i : Int) := by omega
        have t4 : ((la : Int) == (k : Int)) = false := by rw [beq_eq_false_iff_ne]; omega
        clear hc hne
        go_wp2_with fail
        refine Calls.mono (HC.out _ H4.out.1) ?_
        rintro e w4 ⟨x, hx, rfl, ho4⟩
        have HX : Hid (Sp.col C t l.a (k - l.a) = x) := hx
        have H5 : Hid (Only (fun _ => False) w w4 ∧ w4.heap[B]? = some (.cells #[.int .i64 0, .int .i64 0] 39 (0, 0))) := ⟨H4.out.1.trans ho4, (HS.out w4 (H4.out.2.trans ho4)).1⟩
        clear hx ho4 m0 m1 ms lM lb d0 d1 lq
        go_wp2_with (refine wpList_store_row rfl 39 _ _ rfl B #[.int .i64 (i : Int), .int .i64 (x : Int)] rfl rfl 39 _ H5.out.2 (by kernel_rfl) rfl (two_ints _ _) ?_)
        refine bodyPost_ret (v := .tuple #[.agg #[.int .i64 (i : Int), .int .i64 (x : Int)], .int .i64 0]) (results_row_tmp rfl _ _ B 39 #[.int .i64 (i : Int), .int .i64 (x : Int)] (0, 0) _ rfl (setRow_heap _ _ _ _ _ _ H5.out.2) Try.underlying39 rfl (by kernel_rfl) _ rfl) rfl ⟨i, x, ?_, rfl, H5.out.1.setRowNew HB.out.1 _⟩
        rw [HSP.out, HX.out]
      · have t3 : decide ((0 : Int) < (i : Int)) = false := decide_eq_false (by omega)
        have t3n : decide (0 < i) = false := decide_eq_false (by omega)
        clear hc
        go_wp2_with fail
        refine Calls.mono (HC.out _ H4.out.1) ?_
        rintro e w4 ⟨x, hx, rfl, ho4⟩
        have HX : Hid (Sp.col C t l.a (k - l.a) = x) := hx
        have H5 : Hid (Only (fun _ => False) w w4 ∧ w4.heap[B]? = some (.cells #[.int .i64 0, .int .i64 0] 39 (0, 0))) := ⟨H4.out.1.trans ho4, (HS.out w4 (H4.out.2.trans ho4)).1⟩
        clear hx ho4 m0 m1 ms lM lb d0 d1 lq
        go_wp2_with (refine wpList_store_row rfl 39 _ _ rfl B #[.int .i64 (i : Int), .int .i64 (x : Int)] rfl rfl 39 _ H5.out.2 (by kernel_rfl) rfl (two_ints _ _) ?_)
        refine bodyPost_ret (v := .tuple #[.agg #[.int .i64 (i : Int), .int .i64 (x : Int)], .int .i64 0]) (results_row_tmp rfl _ _ B 39 #[.int .i64 (i : Int), .int .i64 (x : Int)] (0, 0) _ rfl (setRow_heap _ _ _ _ _ _ H5.out.2) Try.underlying39 rfl (by kernel_rfl) _ rfl) rfl ⟨i, x, ?_, rfl, H5.out.1.setRowNew HB.out.1 _⟩
        rw [HSP.out, HX.out]
set_option maxRecDepth 100000 in
set_option maxHeartbeats 4000000 in
theorem spot_out (M n : Nat) (C : List Ct) (t : Nat) (L : List Ln) (q : Int) (back : Bool) (w : World) (h : Mpp w M n C t L) (hq : q < 0 ∨ (It.sum C : Int) < q) : Calls Try.prog 12 #[.pointer (some ⟨M, 0, none⟩), .int .i64 q, .bool back] w fun e w' => e = .returned (.tuple #[.agg #[.int .i64 0, .int .i64 0], .int .i64 2]) ∧ Only (fun _ => False) w w' := by
  obtain ⟨n1, hn1⟩ : ∃ x, x = n + 1 := ⟨_, rfl⟩
  obtain ⟨nl, hnl⟩ : ∃ x, x = L.length := ⟨_, rfl⟩
  obtain ⟨s, hs⟩ : ∃ x, x = It.sum C := ⟨_, rfl⟩
  have HNL : Hid (∀ W, Only (fun _ => False) w W → Calls Try.prog 14 #[.pointer (some ⟨M, 0, none⟩)] W fun e w' => e = .returned (.int .i64 (nl : Int)) ∧ W = w') := fun W ho => nrows_any M n C t L nl W (h.keep ho) hnl
  obtain ⟨aB, aR, cB, cR, b0, o0, e0, hblk, hcs, -, hse, hsr, hrow⟩ := h.open hn1 hnl hs
  subst e0
  have HBK : Hid (w.heap[M]? = some (.cells #[.slice (some ⟨b0, o0, none⟩) n1 cB, .slice aR nl cR] 75 (0, 0)) ∧ w.cell? ⟨b0, o0 + n, none⟩ = some (.int .i64 (s : Int))) := ⟨hblk, hcs⟩
  have hfew := h.few
  have hsum := h.sum
  have hnl1 := (rlen h.rws).2
  have hnl0 := (rlen h.rws).1
  rw [← hnl] at hnl1 hnl0
  rw [← hs] at hq hsum
  have e1 : IntKind.i64.wrap ((n1 : Int) - 1) = (n : Int) := by rw [hn1]; exact (wrap_sm _ (by omega) (by omega)).trans (by omega)
  have hn1' : n < n1 := by omega
  have hn1i : (n : Int) < (n1 : Int) := by omega
  have hn1c : n1 ≤ 1001 := by omega
  clear hn1 hnl hs hblk hcs hse hsr hrow h
  have t0 : ((nl : Int) == 0) = false := by rw [beq_eq_false_iff_ne]; omega
  go_enter Try.func12, Try.ntmps12
  go_upto_region 1 with fail
  obtain ⟨B, w0, hw0, hB, H0, lb0, lb1, lB⟩ := box2 w (.int .i64 0) (.int .i64 0) 39
  rw [hw0, hB]
  have HB : Hid (w.heap.size ≤ B ∧ Only (fun _ => False) w w0) := ⟨Nat.le_of_eq hB, H0.out.2⟩
  clear hw0 hB lb0 lb1
  have HS : Hid (∀ W, Only (fun _ => False) w0 W → W.heap[B]? = some (.cells #[.int .i64 0, .int .i64 0] 39 (0, 0)) ∧ W.cell? ⟨M, 0, none⟩ = some (.slice (some ⟨b0, o0, none⟩) n1 cB) ∧ W.cell? ⟨M, 1, none⟩ = some (.slice aR nl cR) ∧ W.cell? ⟨b0, o0 + n, none⟩ = some (.int .i64 (s : Int)) ∧ M < W.heap.size ∧ b0 < W.heap.size) := fun W ho => by
    have h2 := HB.out.2.trans ho
    obtain ⟨m0, m1, lM⟩ := blk_two (blk_keep h2 HBK.out.1)
    have hc := keep0 h2 HBK.out.2
    exact ⟨blk_keep ho H0.out.1, m0, m1, hc, lM, World.block_lt_of_cell? W _ hc⟩
  obtain ⟨-, m0, m1, ms, lM, lb⟩ := HS.out w0 (Only.refl _ _)
  go_wp2_with fail
  refine Calls.mono (HNL.out w0 HB.out.2) ?_
  rintro e w1 ⟨rfl, rfl⟩
  go_upto_region 3 with fail
  by_cases hq0 : q < 0
  · go_quiet (fail)
    go_wp2_with (refine wpList_store_row rfl 39 _ _ rfl B #[.int .i64 0, .int .i64 0] rfl rfl 39 _ ((HS.out _ ((Only.refl (fun _ => False) w0).drewN _)).1) (by kernel_rfl) rfl (two_ints _ _) ?_)
    refine bodyPost_ret (v := .tuple #[.agg #[.int .i64 0, .int .i64 0], .int .i64 2]) (results_row_tmp rfl _ _ B 39 #[.int .i64 0, .int .i64 0] (0, 0) _ rfl (setRow_heap _ _ _ _ _ _ ((HS.out _ ((Only.refl (fun _ => False) w0).drewN _)).1)) Try.underlying39 rfl (by kernel_rfl) _ rfl) rfl ⟨rfl, (HB.out.2.drewN _).setRowNew HB.out.1 _⟩
  · have t1 : decide (q < 0) = false := decide_eq_false hq0
    have t2 : (s : Int) < q := by omega
    have t3 : decide ((s : Int) < q) = true := decide_eq_true t2
    go_quiet (fail)
    go_wp2_with (refine wpList_store_row rfl 39 _ _ rfl B #[.int .i64 0, .int .i64 0] rfl rfl 39 _ ((HS.out _ ((Only.refl (fun _ => False) w0).drewN _)).1) (by kernel_rfl) rfl (two_ints _ _) ?_)
    refine bodyPost_ret (v := .tuple #[.agg #[.int .i64 0, .int .i64 0], .int .i64 2]) (results_row_tmp rfl _ _ B 39 #[.int .i64 0, .int .i64 0] (0, 0) _ rfl (setRow_heap _ _ _ _ _ _ ((HS.out _ ((Only.refl (fun _ => False) w0).drewN _)).1)) Try.underlying39 rfl (by kernel_rfl) _ rfl) rfl ⟨rfl, (HB.out.2.drewN _).setRowNew HB.out.1 _⟩
end Go.Proofs.Yteejgjapghccnaa
