/-
  place's Byte: the byte of a row's column.
-/
import Derived.Test.YteejgjapghccnaaYg
namespace Go.Proofs.Yteejgjapghccnaa
open Go.RowKit Go.Maps
set_option linter.unusedVariables false
set_option linter.unusedSimpArgs false
set_option maxRecDepth 100000 in
set_option maxHeartbeats 4000000 in
theorem byte_nil (r c : Int) (w : World) : Calls Try.prog 15 #[.pointer none, .agg #[.int .i64 r, .int .i64 c]] w fun e w' => e = .returned (.tuple #[.int .i64 0, .int .i64 1]) ∧ Only (fun _ => False) w w' := by
  go_enter Try.func15, Try.ntmps15
  go_upto_region 1 with fail
  obtain ⟨B, w0, hw0, hB, H0, b0, b1, lB⟩ := box2 w (.int .i64 r) (.int .i64 c) 39
  rw [hw0, hB]
  clear hw0 hB
  go_wp2_with fail
  refine Calls.mono (nrows_nil _) ?_
  rintro e w1 ⟨rfl, rfl⟩
  go_wp2_with fail
  go_ret2
  exact ⟨rfl, H0.out.2⟩
set_option maxRecDepth 100000 in
set_option maxHeartbeats 4000000 in
theorem byte_out (M n : Nat) (C : List Ct) (t : Nat) (L : List Ln) (ri ci : Int) (w : World) (h : Mpp w M n C t L) (hq : ri < 0 ∨ (L.length : Int) ≤ ri ∨ ci < 0) : Calls Try.prog 15 #[.pointer (some ⟨M, 0, none⟩), .agg #[.int .i64 ri, .int .i64 ci]] w fun e w' => e = .returned (.tuple #[.int .i64 0, .int .i64 2]) ∧ Only (fun _ => False) w w' := by
  obtain ⟨n1, hn1⟩ : ∃ x, x = n + 1 := ⟨_, rfl⟩
  obtain ⟨nl, hnl⟩ : ∃ x, x = L.length := ⟨_, rfl⟩
  obtain ⟨s, hs⟩ : ∃ x, x = It.sum C := ⟨_, rfl⟩
  have HNL : Hid (∀ W, Only (fun _ => False) w W → Calls Try.prog 14 #[.pointer (some ⟨M, 0, none⟩)] W fun e w' => e = .returned (.int .i64 (nl : Int)) ∧ W = w') := fun W ho => nrows_any M n C t L nl W (h.keep ho) hnl
  obtain ⟨aB, aR, cB, cR, b0, o0, e0, hblk, hcs, hby, hse, hsr, hrow⟩ := h.open hn1 hnl hs
  subst e0
  have HBK : Hid (w.heap[M]? = some (.cells #[.slice (some ⟨b0, o0, none⟩) n1 cB, .slice aR nl cR] 75 (0, 0)) ∧ ∀ k, k ≤ n → w.cell? ⟨b0, o0 + k, none⟩ = some (.int .i64 ((It.sum (C.take k) : Nat) : Int))) := ⟨hblk, hby⟩
  have hfew := h.few
  have hsum := h.sum
  have hnl1 := (rlen h.rws).2
  have hnl0 := (rlen h.rws).1
  rw [← hnl] at hnl1 hnl0
  have t0 : ((nl : Int) == 0) = false := by rw [beq_eq_false_iff_ne]; omega
  rw [← hnl] at hq
  clear hn1 hnl hs hblk hcs hby hse hsr hrow h
  go_enter Try.func15, Try.ntmps15
  go_upto_region 1 with fail
  obtain ⟨B, w0, hw0, hB, H0, lb0, lb1, lB⟩ := box2 w (.int .i64 ri) (.int .i64 ci) 39
  rw [hw0, hB]
  have HB : Hid (w.heap.size ≤ B ∧ Only (fun _ => False) w w0) := ⟨Nat.le_of_eq hB, H0.out.2⟩
  clear hw0 hB lb0 lb1
  have HS : Hid (∀ W, Only (fun _ => False) w0 W → (W.cell? ⟨B, 0, none⟩ = some (.int .i64 ri) ∧ W.cell? ⟨B, 1, none⟩ = some (.int .i64 ci) ∧ W.cell? ⟨M, 0, none⟩ = some (.slice (some ⟨b0, o0, none⟩) n1 cB) ∧ W.cell? ⟨M, 1, none⟩ = some (.slice aR nl cR)) ∧ B < W.heap.size ∧ M < W.heap.size) := fun W ho => by
    have h2 := HB.out.2.trans ho
    obtain ⟨m0, m1, lM⟩ := blk_two (blk_keep h2 HBK.out.1)
    obtain ⟨x0, x1, lx⟩ := blk_two (blk_keep ho H0.out.1)
    exact ⟨⟨x0, x1, m0, m1⟩, lx, lM⟩
  obtain ⟨⟨x0, x1, m0, m1⟩, lx, lM⟩ := HS.out w0 (Only.refl _ _)
  go_wp2_with fail
  refine Calls.mono (HNL.out w0 HB.out.2) ?_
  rintro e w1 ⟨rfl, rfl⟩
  go_upto_region 3 with fail
  by_cases h1 : ri < 0
  · go_quiet (fail)
    go_wp2_with fail
    go_ret2
    exact ⟨rfl, HB.out.2.drewN _⟩
  · have t1 : decide (ri < 0) = false := decide_eq_false h1
    by_cases h2 : (nl : Int) ≤ ri
    · go_quiet (fail)
      go_wp2_with fail
      go_ret2
      exact ⟨rfl, HB.out.2.drewN _⟩
    · have t2 : decide ((nl : Int) ≤ ri) = false := decide_eq_false h2
      have h3 : ci < 0 := by omega
      go_quiet (fail)
      go_wp2_with fail
      go_ret2
      exact ⟨rfl, HB.out.2.drewN _⟩
set_option maxRecDepth 100000 in
set_option maxHeartbeats 4000000 in
theorem byte_any (M n : Nat) (C : List Ct) (t : Nat) (L : List Ln) (r c : Nat) (l : Ln) (w : World) (h : Mpp w M n C t L) (hl : L[r]? = some l) : Calls Try.prog 15 #[.pointer (some ⟨M, 0, none⟩), .agg #[.int .i64 (r : Int), .int .i64 (c : Int)]] w fun e w' => e = .returned (.tuple #[.int .i64 ((It.sum (C.take (Lv.byt C t l c)) : Nat) : Int), .int .i64 0]) ∧ Only (fun _ => False) w w' := by
  obtain ⟨n1, hn1⟩ : ∃ x, x = n + 1 := ⟨_, rfl⟩
  obtain ⟨nl, hnl⟩ : ∃ x, x = L.length := ⟨_, rfl⟩
  obtain ⟨s, hs⟩ : ∃ x, x = It.sum C := ⟨_, rfl⟩
  have HNL : Hid (∀ W, Only (fun _ => False) w W → Calls Try.prog 14 #[.pointer (some ⟨M, 0, none⟩)] W fun e w' => e = .returned (.int .i64 (nl : Int)) ∧ W = w') := fun W ho => nrows_any M n C t L nl W (h.keep ho) hnl
  obtain ⟨aB, aR, cB, cR, b0, o0, e0, hblk, hcs, hby, hse, hsr, hrow⟩ := h.open hn1 hnl hs
  subst e0
  have HBK : Hid (w.heap[M]? = some (.cells #[.slice (some ⟨b0, o0, none⟩) n1 cB, .slice aR nl cR] 75 (0, 0)) ∧ ∀ k, k ≤ n → w.cell? ⟨b0, o0 + k, none⟩ = some (.int .i64 ((It.sum (C.take k) : Nat) : Int))) := ⟨hblk, hby⟩
  have hfew := h.few
  have hsum := h.sum
  have hnl1 := (rlen h.rws).2
  have hnl0 := (rlen h.rws).1
  rw [← hnl] at hnl1 hnl0
  have t0 : ((nl : Int) == 0) = false := by rw [beq_eq_false_iff_ne]; omega
  have hrn : r < nl := by rw [hnl]; exact (List.getElem?_eq_some_iff.1 hl).1
  obtain ⟨b1, o1, al, cq, eq1, hb1, d0, d1, -, hbi⟩ := hrow r l hl
  subst eq1
  obtain ⟨la, hla⟩ : ∃ z, z = l.a := ⟨_, rfl⟩
  obtain ⟨ln, hln⟩ : ∃ z, z = l.b - l.a + 1 := ⟨_, rfl⟩
  obtain ⟨bj, hbj⟩ : ∃ z, z = Lv.bi C t l.a c (l.b - l.a + 1) := ⟨_, rfl⟩
  obtain ⟨by', hby'⟩ : ∃ z, z = Lv.byt C t l c := ⟨_, rfl⟩
  have hat := h.rws.at hl
  have hin := Lv.byt_in C h.t0 l hat.1 c
  rw [← hby'] at hin
  have hsm : la + bj = by' := by rw [hla, hbj, hby']; rfl
  obtain ⟨sm, hsmm⟩ : ∃ z, z = It.sum (C.take by') := ⟨_, rfl⟩
  rw [← hby', ← hsmm]
  have hcell := hby by' (by omega)
  rw [← hsmm] at hcell
  rw [← hla] at d0
  rw [← hln] at d1
  have HBI : Hid (∀ W, Only (fun _ => False) w W → Calls Try.prog 22 #[.slice al ln cq, .int .i64 (c : Int), .func (.func 23) #[] #[]] W fun e w' => e = .returned (.int .i64 (bj : Int)) ∧ Only (fun _ => False) W w') := fun W ho => by
    rw [hln, hbj]
    exact hbi W ho c
  have HD : Hid (∀ W, Only (fun _ => False) w W → (W.cell? ⟨b1, o1 + r * 2, none⟩ = some (.int .i64 (la : Int)) ∧ W.cell? ⟨b1, o1 + r * 2 + 1, none⟩ = some (.slice al ln cq) ∧ W.cell? ⟨b0, o0 + by', none⟩ = some (.int .i64 (sm : Int))) ∧ b1 < W.heap.size ∧ b0 < W.heap.size) := fun W ho => by
    have h1 := keep0 ho d0
    have h2 := keep0 ho hcell
    exact ⟨⟨h1, keep0 ho d1, h2⟩, World.block_lt_of_cell? W _ h1, World.block_lt_of_cell? W _ h2⟩
  have hby1 : by' < n1 := by omega
  have hby2 : (by' : Int) < (n1 : Int) := by omega
  have hn1c : n1 ≤ 1001 := by omega
  have hrni : (r : Int) < (nl : Int) := by omega
  have ew : IntKind.i64.wrap ((la : Int) + (bj : Int)) = (by' : Int) := (wrap_sm _ (by omega) (by omega)).trans (by omega)
  have hla1 : la ≤ 1000 := by omega
  have hbj1 : bj ≤ 1000 := by omega
  have hsm1 : la + bj ≤ by' := by omega
  have hsm2 : by' ≤ la + bj := by omega
  have t1 : decide ((r : Int) < 0) = false := decide_eq_false (by omega)
  have t2 : decide ((nl : Int) ≤ (r : Int)) = false := decide_eq_false (by omega)
  have t2n : decide (nl ≤ r) = false := decide_eq_false (by omega)
  have t3 : decide ((c : Int) < 0) = false := decide_eq_false (by omega)
  clear hn1 hnl hs hblk hcs hby hse hsr hrow h hl hbi d0 d1 hb1 hla hln hbj hby' hat hin hsm hsmm hcell
  go_enter Try.func15, Try.ntmps15
  go_upto_region 1 with fail
  obtain ⟨B, w0, hw0, hB, H0, lb0, lb1, lB⟩ := box2 w (.int .i64 (r : Int)) (.int .i64 (c : Int)) 39
  rw [hw0, hB]
  have HB : Hid (w.heap.size ≤ B ∧ Only (fun _ => False) w w0) := ⟨Nat.le_of_eq hB, H0.out.2⟩
  clear hw0 hB lb0 lb1
  have HS : Hid (∀ W, Only (fun _ => False) w0 W → (W.cell? ⟨B, 0, none⟩ = some (.int .i64 (r : Int)) ∧ W.cell? ⟨B, 1, none⟩ = some (.int .i64 (c : Int)) ∧ W.cell? ⟨M, 0, none⟩ = some (.slice (some ⟨b0, o0, none⟩) n1 cB) ∧ W.cell? ⟨M, 1, none⟩ = some (.slice (some ⟨b1, o1, none⟩) nl cR)) ∧ B < W.heap.size ∧ M < W.heap.size) := fun W ho => by
    have h2 := HB.out.2.trans ho
    obtain ⟨m0, m1, lM⟩ := blk_two (blk_keep h2 HBK.out.1)
    obtain ⟨x0, x1, lx⟩ := blk_two (blk_keep ho H0.out.1)
    exact ⟨⟨x0, x1, m0, m1⟩, lx, lM⟩
  obtain ⟨⟨x0, x1, m0, m1⟩, lx, lM⟩ := HS.out w0 (Only.refl _ _)
  go_wp2_with fail
  refine Calls.mono (HNL.out w0 HB.out.2) ?_
  rintro e w1 ⟨rfl, rfl⟩
  go_upto_region 3 with fail
  go_quiet (fail)
  obtain ⟨w1, hw1⟩ : ∃ Y, Y = w0.drewN nq := ⟨_, rfl⟩
  have H1 : Hid (Only (fun _ => False) w w1 ∧ Only (fun _ => False) w0 w1) := by rw [hw1]; exact ⟨HB.out.2.drewN _, (Only.refl _ _).drewN _⟩
  rw [← hw1]
  clear hw1 x0 x1 m0 m1 lx lM
  obtain ⟨⟨x0, x1, m0, m1⟩, lx, lM⟩ := HS.out w1 H1.out.2
  obtain ⟨⟨d0, d1, d2⟩, lb1, lb0⟩ := HD.out w1 H1.out.1
  have HK : Hid (∀ W', Only (fun _ => False) w1 W' → (W'.cell? ⟨B, 0, none⟩ = some (.int .i64 (r : Int)) ∧ W'.cell? ⟨B, 1, none⟩ = some (.int .i64 (c : Int)) ∧ W'.cell? ⟨M, 0, none⟩ = some (.slice (some ⟨b0, o0, none⟩) n1 cB) ∧ W'.cell? ⟨M, 1, none⟩ = some (.slice (some ⟨b1, o1, none⟩) nl cR)) ∧ (W'.cell? ⟨b1, o1 + r * 2, none⟩ = some (.int .i64 (la : Int)) ∧ W'.cell? ⟨b1, o1 + r * 2 + 1, none⟩ = some (.slice al ln cq) ∧ W'.cell? ⟨b0, o0 + by', none⟩ = some (.int .i64 (sm : Int)))) := fun W' ho => ⟨(HS.out W' (H1.out.2.trans ho)).1, (HD.out W' (H1.out.1.trans ho)).1⟩
  go_upto_region 5 with fail
  go_region_held3 (fun W' => (W'.cell? ⟨B, 0, none⟩ = some (.int .i64 (r : Int)) ∧ W'.cell? ⟨B, 1, none⟩ = some (.int .i64 (c : Int)) ∧ W'.cell? ⟨M, 0, none⟩ = some (.slice (some ⟨b0, o0, none⟩) n1 cB) ∧ W'.cell? ⟨M, 1, none⟩ = some (.slice (some ⟨b1, o1, none⟩) nl cR)) ∧ (W'.cell? ⟨b1, o1 + r * 2, none⟩ = some (.int .i64 (la : Int)) ∧ W'.cell? ⟨b1, o1 + r * 2 + 1, none⟩ = some (.slice al ln cq) ∧ W'.cell? ⟨b0, o0 + by', none⟩ = some (.int .i64 (sm : Int)))) ((first | exact HK.out _ (Only.refl _ _).drew | exact HK.out _ ((Only.refl _ _).alloc _).drew | exact HK.out _ (((Only.refl _ _).alloc _).drew.setRowNew (Nat.le_refl _) _) | trace_state)) (fail)
  obtain ⟨R, w2, hw2, hR, HR2⟩ : ∃ R w2, w2 = (w1.alloc (.cells #[.int .i64 (la : Int), .slice al ln cq] 80)).drew ∧ R = w1.heap.size ∧ Hid (Only (fun _ => False) w1 w2 ∧ w2.heap[R]? = some (.cells #[.int .i64 (la : Int), .slice al ln cq] 80 (0, 0))) := ⟨_, _, rfl, rfl, ⟨((Only.refl _ _).alloc _).drew, heap_alloc_new w1 _⟩⟩
  rw [← hw2, ← hR]
  clear hw2 hR x0 x1 m0 m1 lx lM d0 d1 d2 lb1 lb0
  have HK2 : Hid (∀ W', Only (fun _ => False) w2 W' → ((W'.cell? ⟨B, 0, none⟩ = some (.int .i64 (r : Int)) ∧ W'.cell? ⟨B, 1, none⟩ = some (.int .i64 (c : Int)) ∧ W'.cell? ⟨M, 0, none⟩ = some (.slice (some ⟨b0, o0, none⟩) n1 cB) ∧ W'.cell? ⟨M, 1, none⟩ = some (.slice (some ⟨b1, o1, none⟩) nl cR)) ∧ (W'.cell? ⟨b1, o1 + r * 2, none⟩ = some (.int .i64 (la : Int)) ∧ W'.cell? ⟨b1, o1 + r * 2 + 1, none⟩ = some (.slice al ln cq) ∧ W'.cell? ⟨b0, o0 + by', none⟩ = some (.int .i64 (sm : Int)))) ∧ (W'.cell? ⟨R, 0, none⟩ = some (.int .i64 (la : Int)) ∧ W'.cell? ⟨R, 1, none⟩ = some (.slice al ln cq))) := fun W' ho => ⟨HK.out W' (HR2.out.1.trans ho), (blk_two (blk_keep ho HR2.out.2)).1, (blk_two (blk_keep ho HR2.out.2)).2.1⟩
  have HL2 : Hid (∀ W', Only (fun _ => False) w2 W' → B < W'.heap.size ∧ M < W'.heap.size ∧ b1 < W'.heap.size ∧ b0 < W'.heap.size ∧ R < W'.heap.size) := fun W' ho => by
    have h1 := HR2.out.1.trans ho
    exact ⟨(HS.out W' (H1.out.2.trans h1)).2.1, (HS.out W' (H1.out.2.trans h1)).2.2, (HD.out W' (H1.out.1.trans h1)).2.1, (HD.out W' (H1.out.1.trans h1)).2.2, (blk_two (blk_keep ho HR2.out.2)).2.2⟩
  have H2 : Hid (Only (fun _ => False) w w2) := H1.out.1.trans HR2.out.1
  obtain ⟨⟨⟨x0, x1, m0, m1⟩, d0, d1, d2⟩, f0, f1⟩ := HK2.out w2 (Only.refl _ _)
  obtain ⟨lx, lM, lb1, lb0, lR⟩ := HL2.out w2 (Only.refl _ _)
  go_wp2_with fail
  go_region_held3 (fun W' => ((W'.cell? ⟨B, 0, none⟩ = some (.int .i64 (r : Int)) ∧ W'.cell? ⟨B, 1, none⟩ = some (.int .i64 (c : Int)) ∧ W'.cell? ⟨M, 0, none⟩ = some (.slice (some ⟨b0, o0, none⟩) n1 cB) ∧ W'.cell? ⟨M, 1, none⟩ = some (.slice (some ⟨b1, o1, none⟩) nl cR)) ∧ (W'.cell? ⟨b1, o1 + r * 2, none⟩ = some (.int .i64 (la : Int)) ∧ W'.cell? ⟨b1, o1 + r * 2 + 1, none⟩ = some (.slice al ln cq) ∧ W'.cell? ⟨b0, o0 + by', none⟩ = some (.int .i64 (sm : Int)))) ∧ (W'.cell? ⟨R, 0, none⟩ = some (.int .i64 (la : Int)) ∧ W'.cell? ⟨R, 1, none⟩ = some (.slice al ln cq))) ((first | exact HK2.out _ (Only.refl _ _).drew | exact HK2.out _ HQ.out | trace_state)) ((go_at_call 22; refine Calls.mono (HBI.out _ H2.out.drew) ?_; rintro e w3 ⟨rfl, ho3'⟩; have HQ : Hid (Only (fun _ => False) w2 w3) := (Only.refl _ _).drew.trans ho3'; clear ho3'; have ⟨lx, lM, lb1, lb0, lR⟩ := HL2.out w3 HQ.out))
  go_wp2_with fail
  go_ret2
  exact ⟨rfl, H2.out.trans HQ.out⟩
end Go.Proofs.Yteejgjapghccnaa
