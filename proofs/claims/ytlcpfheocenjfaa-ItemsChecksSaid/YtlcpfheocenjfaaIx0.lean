/-
  stanzalaw11.ItemsChecks: its walk.
-/
import Derived.Test.YtlcpfheocenjfaaAw1
import Derived.Test.YtlcpfheocenjfaaIr
import Derived.Test.YtlcpfheocenjfaaSm
namespace Go.Proofs.Ytlcpfheocenjfaa.itemsChecks
open Go.RowKit Go.Maps
set_option linter.unusedVariables false
set_option linter.unusedSimpArgs false
theorem wrap_smallu (x : Int) (h0 : 0 ≤ x) (h1 : x < 2 ^ 64) : IntKind.u64.wrap x = x := by
  simp only [IntKind.wrap, IntKind.bits, IntKind.signed]
  simp
  omega
theorem wrap_small (x : Int) (h0 : 0 ≤ x) (h1 : x < 2 ^ 63) : IntKind.i64.wrap x = x := by
  simp only [IntKind.wrap, IntKind.bits, IntKind.signed]
  simp
  omega
theorem wrap_u64_nn (x : Int) : 0 ≤ IntKind.u64.wrap x := by
  simp only [IntKind.wrap, IntKind.bits, IntKind.signed]
  simp
  omega
theorem wrap_u8_nn (x : Int) : 0 ≤ IntKind.u8.wrap x ∧ IntKind.u8.wrap x < 256 := by
  simp only [IntKind.wrap, IntKind.bits, IntKind.signed]
  simp
  omega
theorem ops_lt (L : List Bt) (m : Nat) : ∀ x ∈ Pa.ops L m ++ [2], x < 256 := fun x hx => by
  rw [List.mem_append] at hx
  rcases hx with hx | hx
  · unfold Pa.ops at hx
    obtain ⟨i, _, rfl⟩ := List.mem_map.1 hx
    unfold Pa.op
    by_cases h : i = 0
    · rw [if_pos h]; omega
    · rw [if_neg h]; omega
  · simp at hx; omega
def four (c : Cg) : List Value := [.int .i64 c.pl, .int .i64 c.len, .int .i64 c.cells, .int .u8 (c.kind : Int)]
theorem cgC_cons (x : Cg) (D : List Cg) : cgC (x :: D) = four x ++ cgC D := rfl
theorem cgC_set : ∀ (D : List Cg) (k j : Nat) (x y : Cg) (v : Value), D[k]? = some x → j < 4 → (four x).set j v = four y → (cgC D).set (k * 4 + j) v = cgC (D.set k y)
  | [], k, j, x, y, v, h, _, _ => by simp at h
  | z :: D, 0, j, x, y, v, h, hj, e => by
    simp at h
    subst h
    rw [cgC_cons, Nat.zero_mul, Nat.zero_add, List.set_append_left _ _ (by simpa [four] using hj), e]
    rfl
  | z :: D, k + 1, j, x, y, v, h, hj, e => by
    have h' : D[k]? = some x := by simpa using h
    have ih := cgC_set D k j x y v h' hj e
    have el : (four z).length = 4 := rfl
    rw [cgC_cons, List.set_append_right _ _ (by rw [el]; omega), el]
    have : (k + 1) * 4 + j - 4 = k * 4 + j := by omega
    rw [this, ih]
    rfl
theorem cgC_drop (D : List Cg) : ∀ j u, (cgC (D.drop 1))[j]? = some u → (cgC D)[4 + j]? = some u := by
  intro j u h
  cases D with
  | nil => simp [cgC] at h
  | cons x D =>
    have el : (four x).length = 4 := rfl
    rw [cgC_cons, List.getElem?_append_right (by rw [el]; omega), el]
    have : 4 + j - 4 = j := by omega
    rw [this]
    exact h
theorem u8s_set (L : List Nat) (k y : Nat) : (u8s L).set k (.int .u8 (y : Int)) = u8s (L.set k y) := by
  unfold u8s
  rw [List.map_set]
/-- clusters as a row of one's own, of any numbers. -/
def Good (D : List Cg) : Prop := ∀ c ∈ D, c.kind < 256 ∧ -9223372036854775808 ≤ c.len ∧ c.len ≤ 9223372036854775807
theorem Good.set {D : List Cg} (h : Good D) (k : Nat) {y : Cg} (hy : y.kind < 256 ∧ -9223372036854775808 ≤ y.len ∧ y.len ≤ 9223372036854775807) : Good (D.set k y) := fun c hc => by
  rcases List.mem_or_eq_of_mem_set hc with h1 | h1
  · exact h c h1
  · rw [h1]; exact hy
theorem cts_good : ∀ (Q : List Bt) (p : Nat), (∀ b ∈ Q, b.cells < 256 ∧ b.kind < 256 ∧ b.len < 256 ∧ b.opp < 256) → Good ((Pa.cts Q p).map Ct.g)
  | [], p, h => fun c hc => by simp [Pa.cts] at hc
  | b :: Q, p, h => fun c hc => by
    have e : (Pa.cts (b :: Q) p).map Ct.g = (⟨(p : Int), ((1 + b.len % 4 : Nat) : Int), ((b.cells % 3 : Nat) : Int), b.kind % 3⟩ : Cg) :: (Pa.cts Q (p + (1 + b.len % 4))).map Ct.g := rfl
    rw [e] at hc
    rcases List.mem_cons.1 hc with h1 | h1
    · rw [h1]
      refine ⟨?_, ?_, ?_⟩
      · show b.kind % 3 < 256
        omega
      · show -9223372036854775808 ≤ ((1 + b.len % 4 : Nat) : Int)
        omega
      · show ((1 + b.len % 4 : Nat) : Int) ≤ 9223372036854775807
        omega
    · exact cts_good Q _ (fun x hx => h x (List.mem_cons_of_mem _ hx)) c h1
theorem Good.drop {D : List Cg} (h : Good D) (k : Nat) : Good (D.drop k) := fun c hc => h c (List.mem_of_mem_drop hc)
theorem get_of {α : Type} {D : List α} {k : Nat} (h : k < D.length) : ∃ x, D[k]? = some x := ⟨D[k], List.getElem?_eq_getElem h⟩
theorem lt_set {O : List Nat} (h : ∀ x ∈ O, x < 256) (k : Nat) {y : Nat} (hy : y < 256) : ∀ x ∈ O.set k y, x < 256 := fun x hx => by
  rcases List.mem_or_eq_of_mem_set hx with h1 | h1
  · exact h x h1
  · rw [h1]; exact hy
theorem Vw.front {w : World} {a : Option Addr} {O : List Nat} (h : Vw w a (u8s O)) (m : Nat) : Vw w a (u8s (O.take m)) := by
  rcases h with h | ⟨b, off, e, hc⟩
  · have : O = [] := by
      unfold u8s at h
      simpa using h
    subst this
    simp [Vw, u8s]
  · refine Or.inr ⟨b, off, e, fun j u hj => hc j u ?_⟩
    unfold u8s at hj ⊢
    rw [List.getElem?_map] at hj ⊢
    by_cases hm : j < m
    · rw [List.getElem?_take_of_lt hm] at hj
      exact hj
    · rw [List.getElem?_take_eq_none (by omega)] at hj
      simp at hj
theorem Vw.rest {w : World} {g : Nat} {D : List Cg} (h : Vw w (some ⟨g, 0, none⟩) (cgC D)) : Vw w (some ⟨g, 4, none⟩) (cgC (D.drop 1)) := by
  rcases h with h | ⟨b, off, e, hc⟩
  · have : D = [] := by
      cases D with
      | nil => rfl
      | cons x D => rw [cgC_cons] at h; simp [four] at h
    subst this
    exact Or.inl rfl
  · injection e with e
    injection e with e1 e2
    subst e1 e2
    refine Or.inr ⟨g, 4, rfl, fun j u hj => ?_⟩
    have := hc (4 + j) u (cgC_drop D j u hj)
    rw [Nat.zero_add] at this
    exact this
/-- both checks say the same. -/
theorem both (D : List Cg) (O : List Nat) (aC aO : Option Addr) (cC cO n m : Nat) (V : World) (hn : D.length = n) (hm : O.length = m) (hV : Vw V aC (cgC D)) (hG : Good D) (hVO : Vw V aO (u8s O)) (hO : ∀ x ∈ O, x < 256) (h1 : n ≤ 1000) (h2 : m ≤ 1001) :
    ∃ b, Hid (∀ W', Only (fun _ => False) V W' → Calls Try.prog 30 #[.agg #[.slice aC n cC, .slice aO m cO]] W' fun e w' => e = .returned (.bool b) ∧ Only (fun _ => False) W' w') ∧ Hid (∀ W', Only (fun _ => False) V W' → Calls Try.prog 33 #[.agg #[.slice aC n cC, .slice aO m cO]] W' fun e w' => e = .returned (.bool b) ∧ Only (fun _ => False) W' w') := by
  subst hn hm
  refine ⟨It.chk D O, fun W' ho => ?_, fun W' ho => ?_⟩
  · exact icheck_any D O aC aO cC cO W' (hV.keep ho) (fun c hc => (hG c hc).1) (hVO.keep ho) hO (by omega) (by omega)
  · exact refCheck_any D O aC aO cC cO W' (hV.keep ho) (fun c hc => (hG c hc).1) (fun c hc => (hG c hc).2) (hVO.keep ho) hO (by omega) (by omega)
set_option maxRecDepth 100000 in
set_option maxHeartbeats 16000000 in
theorem walk1 (CL : List Cg) (aCl : Option Addr) (cCl : Nat) (LO : List Nat) (aLO : Option Addr) (cLO : Nat) (L : List Bt) (aL : Option Addr) (cL : Nat) (at_ what nv : Int) (w : World) (hV0 : Vw w aCl (cgC CL)) (hB0 : ∀ c ∈ CL, c.kind < 256 ∧ -9223372036854775808 ≤ c.len ∧ c.len ≤ 9223372036854775807) (hV1 : Vw w aLO (u8s LO)) (hB1 : ∀ x ∈ LO, x < 256) (hV2 : Vw w aL (btC L)) (hB2 : ∀ b ∈ L, b.cells < 256 ∧ b.kind < 256 ∧ b.len < 256 ∧ b.opp < 256)
    (hn : -9223372036854775808 ≤ nv ∧ nv ≤ 9223372036854775807) (h0 : CL.length ≤ 500) (h1 : LO.length ≤ 500) (h2 : L.length ≤ 500) : Calls Try.prog 10 #[.slice aCl CL.length cCl, .slice aLO LO.length cLO, .slice aL L.length cL, .int .i64 at_, .int .i64 what, .int .i64 nv] w fun e w' => e = .returned (.bool true) ∧ Only (fun _ => False) w w' := by
  have HOP : Hid (∀ W, Only (fun _ => False) w W → Calls Try.prog 19 #[.slice aLO LO.length cLO] W (opP LO W)) := fun W ho => opps_any LO aLO cLO W (hV1.keep ho) hB1 (by omega)
  have HPA : Hid (∀ W, Only (fun _ => False) w W → Calls Try.prog 32 #[.slice aL L.length cL] W fun e w' => ∃ m, m ≤ L.length ∧ It.sum (Pa.cts (L.take m) 0) ≤ 4003 ∧ paP (Pa.cts (L.take m) 0) (Pa.ops L m ++ [2]) W e w') := fun W ho => para_any L aL cL W (hV2.keep ho) hB2 (by omega)
  have HCL : Hid (Vw w aCl (cgC CL) ∧ Good CL ∧ (∀ x ∈ LO, x < 256) ∧ (∀ b ∈ L, b.cells < 256 ∧ b.kind < 256 ∧ b.len < 256 ∧ b.opp < 256)) := ⟨hV0, hB0, hB1, hB2⟩
  obtain ⟨nC, hnC⟩ : ∃ n, n = CL.length := ⟨_, rfl⟩
  obtain ⟨nO, hnO⟩ : ∃ n, n = LO.length := ⟨_, rfl⟩
  obtain ⟨nL, hnL⟩ : ∃ n, n = L.length := ⟨_, rfl⟩
  have HNN : Hid (nC = CL.length ∧ nO = LO.length ∧ nL = L.length) := ⟨hnC, hnO, hnL⟩
  have HNV : Hid (-9223372036854775808 ≤ nv ∧ nv ≤ 9223372036854775807) := hn
  unfold opP at HOP
  rw [← hnC] at h0 ⊢
  rw [← hnO] at h1 HOP ⊢
  rw [← hnL] at h2 HPA ⊢
  have s0 : decide ((500 : Int) < (nC : Int)) = false := decide_eq_false (by omega)
  have s1 : decide ((500 : Int) < (nO : Int)) = false := decide_eq_false (by omega)
  have s2 : decide ((500 : Int) < (nL : Int)) = false := decide_eq_false (by omega)
  clear hV0 hB0 hV1 hB1 hV2 hB2 hnC hnO hnL hn
  go_enter Try.func10, Try.ntmps10
  go_wp2_with fail
  refine (awake11_any _).mono ?_
  rintro e w1 ⟨rfl, ho1⟩
  have HO1 : Hid (Only (fun _ => False) w w1) := ho1
  clear ho1
  go_wp2_with fail
  refine Calls.mono (HOP.out _ HO1.out) ?_
  rintro e w2 ⟨aR, cR, rfl, hR, ho2⟩
  have H2 : Hid (Vw w2 aR (u8s LO) ∧ Only (fun _ => False) w w2) := ⟨own_vw hR, HO1.out.trans ho2⟩
  clear hR ho2
  obtain ⟨R, hRR⟩ : ∃ b, b = w2.heap.size := ⟨_, rfl⟩
  obtain ⟨w3, hw3⟩ : ∃ Z, Z = w2.alloc (.cells #[.slice aCl nC cCl, .slice aR nO cR] 62) := ⟨_, rfl⟩
  go_wp2_with fail
  rw [← hw3, ← hRR]
  have H3 : Hid (w3.heap[R]? = some (.cells #[.slice aCl nC cCl, .slice aR nO cR] 62 (0, 0)) ∧ Only (fun _ => False) w2 w3) := by
    rw [hw3, hRR]
    exact ⟨heap_alloc_new w2 _, (Only.refl _ _).alloc _⟩
  clear hw3 hRR
  refine Calls.mono (HPA.out _ (H2.out.2.trans H3.out.2)) ?_
  rintro e w4 ⟨m, hm, hsum, aC, aO, cC, cO, rfl, hC, hO, ho4⟩
  obtain ⟨D, hD⟩ : ∃ D, D = (Pa.cts (L.take m) 0).map Ct.g := ⟨_, rfl⟩
  obtain ⟨O, hOe⟩ : ∃ O, O = Pa.ops L m ++ [2] := ⟨_, rfl⟩
  have hml : m ≤ L.length := by have := HNN.out.2.2; omega
  have HCH : Hid (It.chk D O = true) := by rw [hD, hOe]; exact para_chk hml hsum
  have HDO : Hid (Good D ∧ (∀ x ∈ O, x < 256)) := by
    rw [hD, hOe]
    exact ⟨cts_good _ _ (fun b hb => HCL.out.2.2.2 b (List.mem_of_mem_take hb)), ops_lt L m⟩
  rw [ctC_cgC, ← hD] at hC
  rw [← hOe] at hO ⊢
  have hDl : D.length = m := by rw [hD, List.length_map, Pa.cts_len, List.length_take]; omega
  have hCl : (Pa.cts (L.take m) 0).length = m := by rw [Pa.cts_len, List.length_take]; omega
  have hOl : O.length = m + 1 := by rw [hOe, List.length_append, Pa.ops_len]; rfl
  rw [hCl] at hC ⊢
  rw [hOl] at hO ⊢
  obtain ⟨no, hno⟩ : ∃ no, no = m + 1 := ⟨_, rfl⟩
  rw [← hno] at hO ⊢
  obtain ⟨n, hnm⟩ : ∃ n, n = m := ⟨_, rfl⟩
  rw [← hnm] at hC ⊢
  obtain ⟨b4, hb4⟩ : ∃ b, b = w3.heap.size := ⟨_, rfl⟩
  have hb4w : w.heap.size ≤ b4 := by rw [hb4]; exact (H2.out.2.trans H3.out.2).size
  rw [← hb4] at hC hO
  have H4 : Hid (w4.ownsRow b4 48 4 (.slice aC n cC) n (cgC D) ∧ w4.ownsRow b4 54 1 (.slice aO no cO) no (u8s O) ∧ Only (fun _ => False) w3 w4) := ⟨hC, hO, ho4⟩
  have HLL : Hid (D.length = n ∧ O.length = no ∧ no = n + 1) := ⟨by omega, by omega, by omega⟩
  have hn5 : n ≤ 500 := by omega
  have hno5 : no ≤ 501 := by omega
  have hnn : no ≤ n + 1 := by omega
  have hnn2 : n + 1 ≤ no := by omega
  clear hC hO ho4 hD hOe hm hsum hml hDl hCl hOl hno hnm hb4
  go_wp2_with fail
  obtain ⟨B, hBB⟩ : ∃ b, b = w4.heap.size := ⟨_, rfl⟩
  obtain ⟨w5, hw5⟩ : ∃ Z, Z = w4.alloc (.cells #[.slice aC n cC, .slice aO no cO] 62) := ⟨_, rfl⟩
  rw [← hw5, ← hBB]
  have H5 : Hid (w5.heap[B]? = some (.cells #[.slice aC n cC, .slice aO no cO] 62 (0, 0)) ∧ Only (fun _ => False) w4 w5 ∧ w4.heap.size ≤ B) := by
    rw [hw5, hBB]
    exact ⟨heap_alloc_new w4 _, (Only.refl _ _).alloc _, Nat.le_refl _⟩
  clear hw5 hBB
  have HOW : Hid (Only (fun _ => False) w w5) := ((H2.out.2.trans H3.out.2).trans H4.out.2.2).trans H5.out.2.1
  have HRB : Hid (w5.heap[R]? = some (.cells #[.slice aCl nC cCl, .slice aR nO cR] 62 (0, 0))) := blk_keep H5.out.2.1 (blk_keep H4.out.2.2 H3.out.1)
  have HK : Hid (∀ W', Only (fun _ => False) w5 W' → W'.cell? ⟨B, 0, none⟩ = some (.slice aC n cC) ∧ W'.cell? ⟨B, 1, none⟩ = some (.slice aO no cO) ∧ W'.cell? ⟨R, 0, none⟩ = some (.slice aCl nC cCl) ∧ W'.cell? ⟨R, 1, none⟩ = some (.slice aR nO cR)) := fun W' ho => ⟨(blk_two (blk_keep ho H5.out.1)).1, (blk_two (blk_keep ho H5.out.1)).2.1, (blk_two (blk_keep ho HRB.out)).1, (blk_two (blk_keep ho HRB.out)).2.1⟩
  have HCK : Hid (∀ W', Only (fun _ => False) w5 W' → Calls Try.prog 30 #[.agg #[.slice aC n cC, .slice aO no cO]] W' fun e w' => e = .returned (.bool true) ∧ Only (fun _ => False) W' w') := fun W' ho => by
    have h := icheck_any D O aC aO cC cO W' ((own_vw H4.out.1).keep (H5.out.2.1.trans ho)) (fun c hc => (HDO.out.1 c hc).1) ((own_vw H4.out.2.1).keep (H5.out.2.1.trans ho)) HDO.out.2 (by rw [HLL.out.1]; omega) (by rw [HLL.out.2.1]; omega)
    rw [HLL.out.1, HLL.out.2.1, HCH.out] at h
    exact h
  obtain ⟨rb, HB1, HB2⟩ := both CL LO aCl aR cCl cR nC nO w5 HNN.out.1.symm HNN.out.2.1.symm (HCL.out.1.keep HOW.out) HCL.out.2.1 (H2.out.1.keep ((H3.out.2.trans H4.out.2.2).trans H5.out.2.1)) HCL.out.2.2.1 (by omega) (by omega)
  go_wp2_with fail
  refine wp_region_held_drew (S := (fun W' => W'.cell? ⟨B, 0, none⟩ = some (.slice aC n cC) ∧ W'.cell? ⟨B, 1, none⟩ = some (.slice aO no cO) ∧ W'.cell? ⟨R, 0, none⟩ = some (.slice aCl nC cCl) ∧ W'.cell? ⟨R, 1, none⟩ = some (.slice aR nO cR))) (by kernel_rfl) (HK.out _ ((Only.refl (fun _ => False) w5).drew)) (fun hHeld => ?_)
  refine wpAnyH_take (i := 0) (oi := { dst := some 38, op := _, type := _, pos := _, after := _, guard := _ }) (v := .agg #[.slice aC n cC, .slice aO no cO]) rfl (by kernel_rfl) (by kernel_rfl) (by kernel_rfl) (fun _ _ _ h => h) (Or.inl ⟨by rfl, fun w hSw => by obtain ⟨y0, y1, y2, y3⟩ := hSw; first | (go_simp; done) | go_simp⟩) (by assumption) ?_
  (try simp only [Act.put, List.setIfInBounds_toArray, List.set_cons_zero, List.set_cons_succ])
  refine wpAnyH_ready (rs := [1]) (by kernel_rfl) (by simp) ?_
  refine AllReadyH.cons rfl (fun K hK => ?_) AllReadyH.nil
  rw [if_pos (by rfl)]
  go_simp
  refine Calls.mono (HCK.out _ (Only.refl _ _).drew) ?_
  rintro e v2 ⟨rfl, ho⟩
  have HV2 : Hid (Only (fun _ => False) w5 v2) := ((Only.refl _ _).drew).trans ho
  clear ho
  refine hK.out _ _ (HK.out _ HV2.out) (fun hHeld => ?_)
  clear hK
  (try simp only [Act.put, List.setIfInBounds_toArray, List.set_cons_zero, List.set_cons_succ])
  refine wpAnyH_take (i := 2) (oi := { dst := some 40, op := _, type := _, pos := _, after := _, guard := _ }) (v := .bool false) rfl (by kernel_rfl) (by kernel_rfl) (by kernel_rfl) (fun _ _ _ h => h) (Or.inl ⟨by rfl, fun w hSw => by first | (go_simp; done) | go_simp⟩) (by assumption) ?_
  (try simp only [Act.put, List.setIfInBounds_toArray, List.set_cons_zero, List.set_cons_succ])
  refine wpAnyH_take (i := 3) (oi := { dst := some 41, op := _, type := _, pos := _, after := _, guard := _ }) (v := .bool false) rfl (by kernel_rfl) (by kernel_rfl) (by kernel_rfl) (fun _ _ _ h => h) (Or.inl ⟨by rfl, fun w hSw => by first | (go_simp; done) | go_simp⟩) (by assumption) ?_
  (try simp only [Act.put, List.setIfInBounds_toArray, List.set_cons_zero, List.set_cons_succ])
  refine wpAnyH_take (i := 4) (oi := { dst := some 42, op := _, type := _, pos := _, after := _, guard := _ }) (v := .agg #[.slice aCl nC cCl, .slice aR nO cR]) rfl (by kernel_rfl) (by kernel_rfl) (by kernel_rfl) (fun _ _ _ h => h) (Or.inl ⟨by rfl, fun w hSw => by obtain ⟨y0, y1, y2, y3⟩ := hSw; first | (go_simp; done) | go_simp⟩) (by assumption) ?_
  (try simp only [Act.put, List.setIfInBounds_toArray, List.set_cons_zero, List.set_cons_succ])
  refine wpAnyH_take (i := 6) (oi := { dst := some 44, op := _, type := _, pos := _, after := _, guard := _ }) (v := .agg #[.slice aCl nC cCl, .slice aR nO cR]) rfl (by kernel_rfl) (by kernel_rfl) (by kernel_rfl) (fun _ _ _ h => h) (Or.inl ⟨by rfl, fun w hSw => by obtain ⟨y0, y1, y2, y3⟩ := hSw; first | (go_simp; done) | go_simp⟩) (by assumption) ?_
  (try simp only [Act.put, List.setIfInBounds_toArray, List.set_cons_zero, List.set_cons_succ])
  refine wpAnyH_ready (rs := [5]) (by kernel_rfl) (by simp) ?_
  refine AllReadyH.cons rfl (fun K hK => ?_) AllReadyH.nil
  rw [if_pos (by rfl)]
  go_simp
  refine Calls.mono (HB1.out _ HV2.out) ?_
  rintro e v3 ⟨rfl, ho⟩
  have HV3 : Hid (Only (fun _ => False) w5 v3) := HV2.out.trans ho
  clear ho
  refine hK.out _ _ (HK.out _ HV3.out) (fun hHeld => ?_)
  clear hK
  (try simp only [Act.put, List.setIfInBounds_toArray, List.set_cons_zero, List.set_cons_succ])
  refine wpAnyH_ready (rs := [7]) (by kernel_rfl) (by simp) ?_
  refine AllReadyH.cons rfl (fun K hK => ?_) AllReadyH.nil
  rw [if_pos (by rfl)]
  go_simp
  refine Calls.mono (HB2.out _ HV3.out) ?_
  rintro e V ⟨rfl, ho⟩
  have HV4 : Hid (Only (fun _ => False) w5 V) := HV3.out.trans ho
  clear ho
  refine hK.out _ _ (HK.out _ HV4.out) (fun hHeld => ?_)
  clear hK
  (try simp only [Act.put, List.setIfInBounds_toArray, List.set_cons_zero, List.set_cons_succ])
  refine wpAnyH_take (i := 8) (oi := { dst := some 46, op := _, type := _, pos := _, after := _, guard := _ }) (v := .bool false) rfl (by kernel_rfl) (by kernel_rfl) (by kernel_rfl) (fun _ _ _ h => h) (Or.inl ⟨by rfl, fun w hSw => by first | (go_simp; done) | go_simp⟩) (by assumption) ?_
  (try simp only [Act.put, List.setIfInBounds_toArray, List.set_cons_zero, List.set_cons_succ])
  refine wpAnyH_take (i := 9) (oi := { dst := some 47, op := _, type := _, pos := _, after := _, guard := _ }) (v := .bool false) rfl (by kernel_rfl) (by kernel_rfl) (by kernel_rfl) (fun _ _ _ h => h) (Or.inl ⟨by rfl, fun w hSw => by first | (go_simp; done) | go_simp⟩) (by assumption) ?_
  (try simp only [Act.put, List.setIfInBounds_toArray, List.set_cons_zero, List.set_cons_succ])
  refine wpAnyH_done (by kernel_rfl) ?_ _
  clear hHeld
  have HV : Hid (V.heap[B]? = some (.cells #[.slice aC n cC, .slice aO no cO] 62 (0, 0)) ∧ V.ownsRow b4 48 4 (.slice aC n cC) n (cgC D) ∧ V.ownsRow b4 54 1 (.slice aO no cO) no (u8s O) ∧ Only (fun _ => False) w V ∧ w.heap.size ≤ B) := ⟨blk_keep HV4.out H5.out.1, own_only H4.out.1 (H5.out.2.1.trans HV4.out) (fun _ _ h => h), own_only H4.out.2.1 (H5.out.2.1.trans HV4.out) (fun _ _ h => h), HOW.out.trans HV4.out, Nat.le_trans ((H2.out.2.trans H3.out.2).trans H4.out.2.2).size H5.out.2.2⟩
  clear HV2 HV3 HV4 HB1 HB2 HCK HK HRB HOW H5 H4 H3 H2 HO1 HOP HPA HCH
  obtain ⟨r0, r1, lB⟩ := blk_two HV.out.1
  have rf : ∀ x, V.frozen? ⟨B, x, none⟩ = false := fun x => fz_blk HV.out.1 x
  by_cases hz : n = 0
  · have pz : ((n : Int) == 0) = true := by simp; omega
    go_wp2_with fail
    go_ret
    exact ⟨rfl, HV.out.2.2.2.1⟩
  · obtain ⟨g, cap, ev, hg4, lg, hncap, hcC⟩ := row_form HV.out.2.1 (by omega)
    have eC : aC = some ⟨g, 0, none⟩ := by injection ev
    have eCap : cC = cap := by injection ev
    subst eC
    rw [← eCap] at hncap
    obtain ⟨go, capo, evo, hgo4, lgo, hncapo, hcO⟩ := row_form HV.out.2.2.1 (by omega)
    have eO : aO = some ⟨go, 0, none⟩ := by injection evo
    have eCapO : cO = capo := by injection evo
    subst eO
    rw [← eCapO] at hncapo
    have HNE : Hid (¬ g = B ∧ ¬ go = B ∧ ¬ g = go) := ⟨fun h => own_ne HV.out.2.1 HV.out.1 (by decide) (by rw [← h]; rfl), fun h => own_ne HV.out.2.2.1 HV.out.1 (by decide) (by rw [← h]; rfl), fun h => own_ne2 HV.out.2.1 HV.out.2.2.1 (q := go) (by decide) rfl (by rw [← h]; rfl)⟩
    have fzC : ∀ j, V.frozen? ⟨g, j, none⟩ = false := fun j => HV.out.2.1.frozenAt j
    have fzO : ∀ j, V.frozen? ⟨go, j, none⟩ = false := fun j => HV.out.2.2.1.frozenAt j
    have hcm := own_cap HV.out.2.1
    have hcm2 := own_cap HV.out.2.2.1
    unfold maxLen at hcm hcm2
    have p0 : (0 : Int) < (n : Int) := by omega
    have p1 : ¬ (n : Int) = 0 := by omega
    have p2 : ((n : Int) == 0) = false := by simpa using p1
    have p3 : IntKind.u64.wrap (n : Int) = (n : Int) := wrap_smallu _ (by omega) (by omega)
    obtain ⟨ux, p4, p5⟩ : ∃ ux : Int, IntKind.u64.wrap at_ = ux ∧ 0 ≤ ux := ⟨_, rfl, wrap_u64_nn at_⟩
    obtain ⟨k, p6, p7⟩ : ∃ k : Nat, ux.tmod (n : Int) = (k : Int) ∧ k < n := by
      have a := Int.tmod_nonneg (n : Int) p5
      have b := Int.tmod_lt_of_pos ux p0
      exact ⟨(ux.tmod (n : Int)).toNat, by omega, by omega⟩
    have p9 : IntKind.u64.wrap (k : Int) = (k : Int) := wrap_smallu _ (by omega) (by omega)
    have p10 : IntKind.i64.wrap (k : Int) = (k : Int) := wrap_small _ (by omega) (by omega)
    have p11 : (k : Int) < (n : Int) := by omega
    obtain ⟨uw, q4, q5⟩ : ∃ uw : Int, IntKind.u64.wrap what = uw ∧ 0 ≤ uw := ⟨_, rfl, wrap_u64_nn what⟩
    obtain ⟨m8, q6, q7⟩ : ∃ m8 : Nat, uw.tmod 8 = (m8 : Int) ∧ m8 < 8 := by
      have a := Int.tmod_nonneg (8 : Int) q5
      have b := Int.tmod_lt_of_pos uw (by decide : (0 : Int) < 8)
      exact ⟨(uw.tmod 8).toNat, by omega, by omega⟩
    have q9 : IntKind.u64.wrap (m8 : Int) = (m8 : Int) := wrap_smallu _ (by omega) (by omega)
    obtain ⟨x, hx⟩ := get_of (D := D) (k := k) (by rw [HLL.out.1]; exact p7)
    obtain ⟨c0, c1, c2, c3⟩ := cgC_at D k x hx
    have d0 : V.cell? ⟨g, k * 4, none⟩ = some (.int .i64 x.pl) := by rw [hcC _ (by omega)]; exact c0
    have d1 : V.cell? ⟨g, k * 4 + 1, none⟩ = some (.int .i64 x.len) := by rw [hcC _ (by omega)]; exact c1
    have d2 : V.cell? ⟨g, k * 4 + 2, none⟩ = some (.int .i64 x.cells) := by rw [hcC _ (by omega)]; exact c2
    have d3 : V.cell? ⟨g, k * 4 + 3, none⟩ = some (.int .u8 (x.kind : Int)) := by rw [hcC _ (by omega)]; exact c3
    have HX : Hid (D[k]? = some x ∧ (x.kind < 256 ∧ -9223372036854775808 ≤ x.len ∧ x.len ≤ 9223372036854775807)) := ⟨hx, HDO.out.1 x (List.mem_of_getElem? hx)⟩
    obtain ⟨y8, q10, q11, q12⟩ : ∃ y : Nat, IntKind.u8.wrap nv = (y : Int) ∧ y < 256 ∧ (0 : Int) ≤ (y : Int) := ⟨(IntKind.u8.wrap nv).toNat, by have := wrap_u8_nn nv; omega, by have := wrap_u8_nn nv; omega, by omega⟩
    have HCO : Hid (∀ j, j < no → V.cell? ⟨go, j, none⟩ = (u8s O)[j]?) := fun j hj => hcO j (by omega)
    obtain ⟨xp, xl, xc, xk⟩ := x
    simp only at d0 d1 d2 d3
    clear c0 c1 c2 c3 hcC hcO ev evo eCap eCapO hx p5 q5
    have m9 : m8 = 0 ∨ m8 = 1 ∨ m8 = 2 ∨ m8 = 3 ∨ m8 = 4 ∨ m8 = 5 ∨ m8 = 6 ∨ m8 = 7 := by omega
    rcases m9 with rfl | rfl | rfl | rfl | rfl | rfl | rfl | rfl
    · as_aux_lemma =>
      obtain ⟨U, hU⟩ : ∃ Z, Z = V.setCell ⟨g, k * 4, none⟩ (.int .i64 nv) := ⟨_, rfl⟩
      have HS : V.setCell ⟨g, k * 4, none⟩ (.int .i64 nv) = U := hU.symm
      have HOU : Hid (Only (fun z => z = g) V U) := by rw [hU]; exact (Only.refl (fun z => z = g) V).setCell (p := ⟨g, k * 4, none⟩) rfl _
      have HU : Hid (U.heap[B]? = some (.cells #[.slice (some ⟨g, 0, none⟩) n cC, .slice (some ⟨go, 0, none⟩) no cO] 62 (0, 0)) ∧ Only (fun _ => False) w U) := ⟨(HOU.out.block B lB (fun h => HNE.out.1 h.symm)).trans HV.out.1, by rw [hU]; exact HV.out.2.2.2.1.setNew (p := ⟨g, k * 4, none⟩) (Nat.le_trans hb4w hg4) _⟩
      have HUC : Hid (Vw U (some ⟨g, 0, none⟩) (cgC (D.set k ⟨nv, xl, xc, xk⟩))) := by
        have h := (HV.out.2.1.stored (k * 4 + 0) (.int .i64 nv)).1
        rw [cgC_set D k 0 _ ⟨nv, xl, xc, xk⟩ _ HX.out.1 (by decide) rfl] at h
        rw [hU]
        exact own_vw h
      obtain ⟨bb, HB1, HB2⟩ := both (D.set k ⟨nv, xl, xc, xk⟩) O (some ⟨g, 0, none⟩) (some ⟨go, 0, none⟩) cC cO n no U (by rw [List.length_set]; exact HLL.out.1) HLL.out.2.1 HUC.out (HDO.out.1.set k HX.out.2) (own_vw (own_stay HV.out.2.2.1 HOU.out (fun q hq h => HNE.out.2.2 (by rw [← h]; injection hq with hq; exact hq.symm)))) HDO.out.2 (by omega) (by omega)
      clear hU
      have HKU : Hid (∀ W', Only (fun _ => False) U W' → W'.cell? ⟨B, 0, none⟩ = some (.slice (some ⟨g, 0, none⟩) n cC) ∧ W'.cell? ⟨B, 1, none⟩ = some (.slice (some ⟨go, 0, none⟩) no cO)) := fun W' ho => ⟨(blk_two (blk_keep ho HU.out.1)).1, (blk_two (blk_keep ho HU.out.1)).2.1⟩
      go_wp2_with fail
      refine wp_region_held_drew (S := (fun W' => W'.cell? ⟨B, 0, none⟩ = some (.slice (some ⟨g, 0, none⟩) n cC) ∧ W'.cell? ⟨B, 1, none⟩ = some (.slice (some ⟨go, 0, none⟩) no cO))) (by kernel_rfl) (HKU.out _ ((Only.refl (fun _ => False) U).drew)) (fun hHeld => ?_)
      refine wpAnyH_take (i := 0) (oi := { dst := some 125, op := _, type := _, pos := _, after := _, guard := _ }) (v := .agg #[.slice (some ⟨g, 0, none⟩) n cC, .slice (some ⟨go, 0, none⟩) no cO]) rfl (by kernel_rfl) (by kernel_rfl) (by kernel_rfl) (fun _ _ _ h => h) (Or.inl ⟨by rfl, fun w hSw => by obtain ⟨y0, y1⟩ := hSw; first | (go_simp; done) | go_simp⟩) (by assumption) ?_
      (try simp only [Act.put, List.setIfInBounds_toArray, List.set_cons_zero, List.set_cons_succ])
      refine wpAnyH_take (i := 2) (oi := { dst := some 127, op := _, type := _, pos := _, after := _, guard := _ }) (v := .agg #[.slice (some ⟨g, 0, none⟩) n cC, .slice (some ⟨go, 0, none⟩) no cO]) rfl (by kernel_rfl) (by kernel_rfl) (by kernel_rfl) (fun _ _ _ h => h) (Or.inl ⟨by rfl, fun w hSw => by obtain ⟨y0, y1⟩ := hSw; first | (go_simp; done) | go_simp⟩) (by assumption) ?_
      (try simp only [Act.put, List.setIfInBounds_toArray, List.set_cons_zero, List.set_cons_succ])
      refine wpAnyH_ready (rs := [1]) (by kernel_rfl) (by simp) ?_
      refine AllReadyH.cons rfl (fun K hK => ?_) AllReadyH.nil
      rw [if_pos (by rfl)]
      go_simp
      refine Calls.mono (HB1.out _ (Only.refl _ _).drew) ?_
      rintro e v2 ⟨rfl, ho⟩
      have HV2 : Hid (Only (fun _ => False) U v2) := ((Only.refl _ _).drew).trans ho
      clear ho
      refine hK.out _ _ (HKU.out _ HV2.out) (fun hHeld => ?_)
      clear hK
      (try simp only [Act.put, List.setIfInBounds_toArray, List.set_cons_zero, List.set_cons_succ])
      refine wpAnyH_ready (rs := [3]) (by kernel_rfl) (by simp) ?_
      refine AllReadyH.cons rfl (fun K hK => ?_) AllReadyH.nil
      rw [if_pos (by rfl)]
      go_simp
      refine Calls.mono (HB2.out _ HV2.out) ?_
      rintro e v3 ⟨rfl, ho⟩
      have HV3 : Hid (Only (fun _ => False) U v3) := HV2.out.trans ho
      clear ho
      refine hK.out _ _ (HKU.out _ HV3.out) (fun hHeld => ?_)
      clear hK
      (try simp only [Act.put, List.setIfInBounds_toArray, List.set_cons_zero, List.set_cons_succ])
      refine wpAnyH_take (i := 4) (oi := { dst := some 129, op := _, type := _, pos := _, after := _, guard := _ }) (v := .bool true) rfl (by kernel_rfl) (by kernel_rfl) (by kernel_rfl) (fun _ _ _ h => h) (Or.inl ⟨by rfl, fun w hSw => by first | (go_simp; done) | go_simp⟩) (by assumption) ?_
      (try simp only [Act.put, List.setIfInBounds_toArray, List.set_cons_zero, List.set_cons_succ])
      refine wpAnyH_take (i := 5) (oi := { dst := some 12, op := _, type := _, pos := _, after := _, guard := _ }) (v := .bool true) rfl (by kernel_rfl) (by kernel_rfl) (by kernel_rfl) (fun _ _ _ h => h) (Or.inl ⟨by rfl, fun w hSw => by first | (go_simp; done) | go_simp⟩) (by assumption) ?_
      (try simp only [Act.put, List.setIfInBounds_toArray, List.set_cons_zero, List.set_cons_succ])
      refine wpAnyH_done (by kernel_rfl) ?_ _
      clear hHeld
      go_wp2_with fail
      go_ret
      exact ⟨rfl, HU.out.2.trans HV3.out⟩
    · as_aux_lemma =>
      obtain ⟨U, hU⟩ : ∃ Z, Z = V.setCell ⟨g, k * 4 + 1, none⟩ (.int .i64 nv) := ⟨_, rfl⟩
      have HS : V.setCell ⟨g, k * 4 + 1, none⟩ (.int .i64 nv) = U := hU.symm
      have HOU : Hid (Only (fun z => z = g) V U) := by rw [hU]; exact (Only.refl (fun z => z = g) V).setCell (p := ⟨g, k * 4 + 1, none⟩) rfl _
      have HU : Hid (U.heap[B]? = some (.cells #[.slice (some ⟨g, 0, none⟩) n cC, .slice (some ⟨go, 0, none⟩) no cO] 62 (0, 0)) ∧ Only (fun _ => False) w U) := ⟨(HOU.out.block B lB (fun h => HNE.out.1 h.symm)).trans HV.out.1, by rw [hU]; exact HV.out.2.2.2.1.setNew (p := ⟨g, k * 4 + 1, none⟩) (Nat.le_trans hb4w hg4) _⟩
      have HUC : Hid (Vw U (some ⟨g, 0, none⟩) (cgC (D.set k ⟨xp, nv, xc, xk⟩))) := by
        have h := (HV.out.2.1.stored (k * 4 + 1) (.int .i64 nv)).1
        rw [cgC_set D k 1 _ ⟨xp, nv, xc, xk⟩ _ HX.out.1 (by decide) rfl] at h
        rw [hU]
        exact own_vw h
      obtain ⟨bb, HB1, HB2⟩ := both (D.set k ⟨xp, nv, xc, xk⟩) O (some ⟨g, 0, none⟩) (some ⟨go, 0, none⟩) cC cO n no U (by rw [List.length_set]; exact HLL.out.1) HLL.out.2.1 HUC.out (HDO.out.1.set k ⟨HX.out.2.1, HNV.out⟩) (own_vw (own_stay HV.out.2.2.1 HOU.out (fun q hq h => HNE.out.2.2 (by rw [← h]; injection hq with hq; exact hq.symm)))) HDO.out.2 (by omega) (by omega)
      clear hU
      have HKU : Hid (∀ W', Only (fun _ => False) U W' → W'.cell? ⟨B, 0, none⟩ = some (.slice (some ⟨g, 0, none⟩) n cC) ∧ W'.cell? ⟨B, 1, none⟩ = some (.slice (some ⟨go, 0, none⟩) no cO)) := fun W' ho => ⟨(blk_two (blk_keep ho HU.out.1)).1, (blk_two (blk_keep ho HU.out.1)).2.1⟩
      go_wp2_with fail
      refine wp_region_held_drew (S := (fun W' => W'.cell? ⟨B, 0, none⟩ = some (.slice (some ⟨g, 0, none⟩) n cC) ∧ W'.cell? ⟨B, 1, none⟩ = some (.slice (some ⟨go, 0, none⟩) no cO))) (by kernel_rfl) (HKU.out _ ((Only.refl (fun _ => False) U).drew)) (fun hHeld => ?_)
      refine wpAnyH_take (i := 0) (oi := { dst := some 125, op := _, type := _, pos := _, after := _, guard := _ }) (v := .agg #[.slice (some ⟨g, 0, none⟩) n cC, .slice (some ⟨go, 0, none⟩) no cO]) rfl (by kernel_rfl) (by kernel_rfl) (by kernel_rfl) (fun _ _ _ h => h) (Or.inl ⟨by rfl, fun w hSw => by obtain ⟨y0, y1⟩ := hSw; first | (go_simp; done) | go_simp⟩) (by assumption) ?_
      (try simp only [Act.put, List.setIfInBounds_toArray, List.set_cons_zero, List.set_cons_succ])
      refine wpAnyH_take (i := 2) (oi := { dst := some 127, op := _, type := _, pos := _, after := _, guard := _ }) (v := .agg #[.slice (some ⟨g, 0, none⟩) n cC, .slice (some ⟨go, 0, none⟩) no cO]) rfl (by kernel_rfl) (by kernel_rfl) (by kernel_rfl) (fun _ _ _ h => h) (Or.inl ⟨by rfl, fun w hSw => by obtain ⟨y0, y1⟩ := hSw; first | (go_simp; done) | go_simp⟩) (by assumption) ?_
      (try simp only [Act.put, List.setIfInBounds_toArray, List.set_cons_zero, List.set_cons_succ])
      refine wpAnyH_ready (rs := [1]) (by kernel_rfl) (by simp) ?_
      refine AllReadyH.cons rfl (fun K hK => ?_) AllReadyH.nil
      rw [if_pos (by rfl)]
      go_simp
      refine Calls.mono (HB1.out _ (Only.refl _ _).drew) ?_
      rintro e v2 ⟨rfl, ho⟩
      have HV2 : Hid (Only (fun _ => False) U v2) := ((Only.refl _ _).drew).trans ho
      clear ho
      refine hK.out _ _ (HKU.out _ HV2.out) (fun hHeld => ?_)
      clear hK
      (try simp only [Act.put, List.setIfInBounds_toArray, List.set_cons_zero, List.set_cons_succ])
      refine wpAnyH_ready (rs := [3]) (by kernel_rfl) (by simp) ?_
      refine AllReadyH.cons rfl (fun K hK => ?_) AllReadyH.nil
      rw [if_pos (by rfl)]
      go_simp
      refine Calls.mono (HB2.out _ HV2.out) ?_
      rintro e v3 ⟨rfl, ho⟩
      have HV3 : Hid (Only (fun _ => False) U v3) := HV2.out.trans ho
      clear ho
      refine hK.out _ _ (HKU.out _ HV3.out) (fun hHeld => ?_)
      clear hK
      (try simp only [Act.put, List.setIfInBounds_toArray, List.set_cons_zero, List.set_cons_succ])
      refine wpAnyH_take (i := 4) (oi := { dst := some 129, op := _, type := _, pos := _, after := _, guard := _ }) (v := .bool true) rfl (by kernel_rfl) (by kernel_rfl) (by kernel_rfl) (fun _ _ _ h => h) (Or.inl ⟨by rfl, fun w hSw => by first | (go_simp; done) | go_simp⟩) (by assumption) ?_
      (try simp only [Act.put, List.setIfInBounds_toArray, List.set_cons_zero, List.set_cons_succ])
      refine wpAnyH_take (i := 5) (oi := { dst := some 12, op := _, type := _, pos := _, after := _, guard := _ }) (v := .bool true) rfl (by kernel_rfl) (by kernel_rfl) (by kernel_rfl) (fun _ _ _ h => h) (Or.inl ⟨by rfl, fun w hSw => by first | (go_simp; done) | go_simp⟩) (by assumption) ?_
      (try simp only [Act.put, List.setIfInBounds_toArray, List.set_cons_zero, List.set_cons_succ])
      refine wpAnyH_done (by kernel_rfl) ?_ _
      clear hHeld
      go_wp2_with fail
      go_ret
      exact ⟨rfl, HU.out.2.trans HV3.out⟩
    · as_aux_lemma =>
      obtain ⟨U, hU⟩ : ∃ Z, Z = V.setCell ⟨g, k * 4 + 2, none⟩ (.int .i64 nv) := ⟨_, rfl⟩
      have HS : V.setCell ⟨g, k * 4 + 2, none⟩ (.int .i64 nv) = U := hU.symm
      have HOU : Hid (Only (fun z => z = g) V U) := by rw [hU]; exact (Only.refl (fun z => z = g) V).setCell (p := ⟨g, k * 4 + 2, none⟩) rfl _
      have HU : Hid (U.heap[B]? = some (.cells #[.slice (some ⟨g, 0, none⟩) n cC, .slice (some ⟨go, 0, none⟩) no cO] 62 (0, 0)) ∧ Only (fun _ => False) w U) := ⟨(HOU.out.block B lB (fun h => HNE.out.1 h.symm)).trans HV.out.1, by rw [hU]; exact HV.out.2.2.2.1.setNew (p := ⟨g, k * 4 + 2, none⟩) (Nat.le_trans hb4w hg4) _⟩
      have HUC : Hid (Vw U (some ⟨g, 0, none⟩) (cgC (D.set k ⟨xp, xl, nv, xk⟩))) := by
        have h := (HV.out.2.1.stored (k * 4 + 2) (.int .i64 nv)).1
        rw [cgC_set D k 2 _ ⟨xp, xl, nv, xk⟩ _ HX.out.1 (by decide) rfl] at h
        rw [hU]
        exact own_vw h
      obtain ⟨bb, HB1, HB2⟩ := both (D.set k ⟨xp, xl, nv, xk⟩) O (some ⟨g, 0, none⟩) (some ⟨go, 0, none⟩) cC cO n no U (by rw [List.length_set]; exact HLL.out.1) HLL.out.2.1 HUC.out (HDO.out.1.set k HX.out.2) (own_vw (own_stay HV.out.2.2.1 HOU.out (fun q hq h => HNE.out.2.2 (by rw [← h]; injection hq with hq; exact hq.symm)))) HDO.out.2 (by omega) (by omega)
      clear hU
      have HKU : Hid (∀ W', Only (fun _ => False) U W' → W'.cell? ⟨B, 0, none⟩ = some (.slice (some ⟨g, 0, none⟩) n cC) ∧ W'.cell? ⟨B, 1, none⟩ = some (.slice (some ⟨go, 0, none⟩) no cO)) := fun W' ho => ⟨(blk_two (blk_keep ho HU.out.1)).1, (blk_two (blk_keep ho HU.out.1)).2.1⟩
      go_wp2_with fail
      refine wp_region_held_drew (S := (fun W' => W'.cell? ⟨B, 0, none⟩ = some (.slice (some ⟨g, 0, none⟩) n cC) ∧ W'.cell? ⟨B, 1, none⟩ = some (.slice (some ⟨go, 0, none⟩) no cO))) (by kernel_rfl) (HKU.out _ ((Only.refl (fun _ => False) U).drew)) (fun hHeld => ?_)
      refine wpAnyH_take (i := 0) (oi := { dst := some 125, op := _, type := _, pos := _, after := _, guard := _ }) (v := .agg #[.slice (some ⟨g, 0, none⟩) n cC, .slice (some ⟨go, 0, none⟩) no cO]) rfl (by kernel_rfl) (by kernel_rfl) (by kernel_rfl) (fun _ _ _ h => h) (Or.inl ⟨by rfl, fun w hSw => by obtain ⟨y0, y1⟩ := hSw; first | (go_simp; done) | go_simp⟩) (by assumption) ?_
      (try simp only [Act.put, List.setIfInBounds_toArray, List.set_cons_zero, List.set_cons_succ])
      refine wpAnyH_take (i := 2) (oi := { dst := some 127, op := _, type := _, pos := _, after := _, guard := _ }) (v := .agg #[.slice (some ⟨g, 0, none⟩) n cC, .slice (some ⟨go, 0, none⟩) no cO]) rfl (by kernel_rfl) (by kernel_rfl) (by kernel_rfl) (fun _ _ _ h => h) (Or.inl ⟨by rfl, fun w hSw => by obtain ⟨y0, y1⟩ := hSw; first | (go_simp; done) | go_simp⟩) (by assumption) ?_
      (try simp only [Act.put, List.setIfInBounds_toArray, List.set_cons_zero, List.set_cons_succ])
      refine wpAnyH_ready (rs := [1]) (by kernel_rfl) (by simp) ?_
      refine AllReadyH.cons rfl (fun K hK => ?_) AllReadyH.nil
      rw [if_pos (by rfl)]
      go_simp
      refine Calls.mono (HB1.out _ (Only.refl _ _).drew) ?_
      rintro e v2 ⟨rfl, ho⟩
      have HV2 : Hid (Only (fun _ => False) U v2) := ((Only.refl _ _).drew).trans ho
      clear ho
      refine hK.out _ _ (HKU.out _ HV2.out) (fun hHeld => ?_)
      clear hK
      (try simp only [Act.put, List.setIfInBounds_toArray, List.set_cons_zero, List.set_cons_succ])
      refine wpAnyH_ready (rs := [3]) (by kernel_rfl) (by simp) ?_
      refine AllReadyH.cons rfl (fun K hK => ?_) AllReadyH.nil
      rw [if_pos (by rfl)]
      go_simp
      refine Calls.mono (HB2.out _ HV2.out) ?_
      rintro e v3 ⟨rfl, ho⟩
      have HV3 : Hid (Only (fun _ => False) U v3) := HV2.out.trans ho
      clear ho
      refine hK.out _ _ (HKU.out _ HV3.out) (fun hHeld => ?_)
      clear hK
      (try simp only [Act.put, List.setIfInBounds_toArray, List.set_cons_zero, List.set_cons_succ])
      refine wpAnyH_take (i := 4) (oi := { dst := some 129, op := _, type := _, pos := _, after := _, guard := _ }) (v := .bool true) rfl (by kernel_rfl) (by kernel_rfl) (by kernel_rfl) (fun _ _ _ h => h) (Or.inl ⟨by rfl, fun w hSw => by first | (go_simp; done) | go_simp⟩) (by assumption) ?_
      (try simp only [Act.put, List.setIfInBounds_toArray, List.set_cons_zero, List.set_cons_succ])
      refine wpAnyH_take (i := 5) (oi := { dst := some 12, op := _, type := _, pos := _, after := _, guard := _ }) (v := .bool true) rfl (by kernel_rfl) (by kernel_rfl) (by kernel_rfl) (fun _ _ _ h => h) (Or.inl ⟨by rfl, fun w hSw => by first | (go_simp; done) | go_simp⟩) (by assumption) ?_
      (try simp only [Act.put, List.setIfInBounds_toArray, List.set_cons_zero, List.set_cons_succ])
      refine wpAnyH_done (by kernel_rfl) ?_ _
      clear hHeld
      go_wp2_with fail
      go_ret
      exact ⟨rfl, HU.out.2.trans HV3.out⟩
    · as_aux_lemma =>
      obtain ⟨U, hU⟩ : ∃ Z, Z = V.setCell ⟨g, k * 4 + 3, none⟩ (.int .u8 (y8 : Int)) := ⟨_, rfl⟩
      have HS : V.setCell ⟨g, k * 4 + 3, none⟩ (.int .u8 (y8 : Int)) = U := hU.symm
      have HOU : Hid (Only (fun z => z = g) V U) := by rw [hU]; exact (Only.refl (fun z => z = g) V).setCell (p := ⟨g, k * 4 + 3, none⟩) rfl _
      have HU : Hid (U.heap[B]? = some (.cells #[.slice (some ⟨g, 0, none⟩) n cC, .slice (some ⟨go, 0, none⟩) no cO] 62 (0, 0)) ∧ Only (fun _ => False) w U) := ⟨(HOU.out.block B lB (fun h => HNE.out.1 h.symm)).trans HV.out.1, by rw [hU]; exact HV.out.2.2.2.1.setNew (p := ⟨g, k * 4 + 3, none⟩) (Nat.le_trans hb4w hg4) _⟩
      have HUC : Hid (Vw U (some ⟨g, 0, none⟩) (cgC (D.set k ⟨xp, xl, xc, y8⟩))) := by
        have h := (HV.out.2.1.stored (k * 4 + 3) (.int .u8 (y8 : Int))).1
        rw [cgC_set D k 3 _ ⟨xp, xl, xc, y8⟩ _ HX.out.1 (by decide) rfl] at h
        rw [hU]
        exact own_vw h
      obtain ⟨bb, HB1, HB2⟩ := both (D.set k ⟨xp, xl, xc, y8⟩) O (some ⟨g, 0, none⟩) (some ⟨go, 0, none⟩) cC cO n no U (by rw [List.length_set]; exact HLL.out.1) HLL.out.2.1 HUC.out (HDO.out.1.set k ⟨q11, HX.out.2.2⟩) (own_vw (own_stay HV.out.2.2.1 HOU.out (fun q hq h => HNE.out.2.2 (by rw [← h]; injection hq with hq; exact hq.symm)))) HDO.out.2 (by omega) (by omega)
      clear hU
      have HKU : Hid (∀ W', Only (fun _ => False) U W' → W'.cell? ⟨B, 0, none⟩ = some (.slice (some ⟨g, 0, none⟩) n cC) ∧ W'.cell? ⟨B, 1, none⟩ = some (.slice (some ⟨go, 0, none⟩) no cO)) := fun W' ho => ⟨(blk_two (blk_keep ho HU.out.1)).1, (blk_two (blk_keep ho HU.out.1)).2.1⟩
      go_wp2_with fail
      refine wp_region_held_drew (S := (fun W' => W'.cell? ⟨B, 0, none⟩ = some (.slice (some ⟨g, 0, none⟩) n cC) ∧ W'.cell? ⟨B, 1, none⟩ = some (.slice (some ⟨go, 0, none⟩) no cO))) (by kernel_rfl) (HKU.out _ ((Only.refl (fun _ => False) U).drew)) (fun hHeld => ?_)
      refine wpAnyH_take (i := 0) (oi := { dst := some 125, op := _, type := _, pos := _, after := _, guard := _ }) (v := .agg #[.slice (some ⟨g, 0, none⟩) n cC, .slice (some ⟨go, 0, none⟩) no cO]) rfl (by kernel_rfl) (by kernel_rfl) (by kernel_rfl) (fun _ _ _ h => h) (Or.inl ⟨by rfl, fun w hSw => by obtain ⟨y0, y1⟩ := hSw; first | (go_simp; done) | go_simp⟩) (by assumption) ?_
      (try simp only [Act.put, List.setIfInBounds_toArray, List.set_cons_zero, List.set_cons_succ])
      refine wpAnyH_take (i := 2) (oi := { dst := some 127, op := _, type := _, pos := _, after := _, guard := _ }) (v := .agg #[.slice (some ⟨g, 0, none⟩) n cC, .slice (some ⟨go, 0, none⟩) no cO]) rfl (by kernel_rfl) (by kernel_rfl) (by kernel_rfl) (fun _ _ _ h => h) (Or.inl ⟨by rfl, fun w hSw => by obtain ⟨y0, y1⟩ := hSw; first | (go_simp; done) | go_simp⟩) (by assumption) ?_
      (try simp only [Act.put, List.setIfInBounds_toArray, List.set_cons_zero, List.set_cons_succ])
      refine wpAnyH_ready (rs := [1]) (by kernel_rfl) (by simp) ?_
      refine AllReadyH.cons rfl (fun K hK => ?_) AllReadyH.nil
      rw [if_pos (by rfl)]
      go_simp
      refine Calls.mono (HB1.out _ (Only.refl _ _).drew) ?_
      rintro e v2 ⟨rfl, ho⟩
      have HV2 : Hid (Only (fun _ => False) U v2) := ((Only.refl _ _).drew).trans ho
      clear ho
      refine hK.out _ _ (HKU.out _ HV2.out) (fun hHeld => ?_)
      clear hK
      (try simp only [Act.put, List.setIfInBounds_toArray, List.set_cons_zero, List.set_cons_succ])
      refine wpAnyH_ready (rs := [3]) (by kernel_rfl) (by simp) ?_
      refine AllReadyH.cons rfl (fun K hK => ?_) AllReadyH.nil
      rw [if_pos (by rfl)]
      go_simp
      refine Calls.mono (HB2.out _ HV2.out) ?_
      rintro e v3 ⟨rfl, ho⟩
      have HV3 : Hid (Only (fun _ => False) U v3) := HV2.out.trans ho
      clear ho
      refine hK.out _ _ (HKU.out _ HV3.out) (fun hHeld => ?_)
      clear hK
      (try simp only [Act.put, List.setIfInBounds_toArray, List.set_cons_zero, List.set_cons_succ])
      refine wpAnyH_take (i := 4) (oi := { dst := some 129, op := _, type := _, pos := _, after := _, guard := _ }) (v := .bool true) rfl (by kernel_rfl) (by kernel_rfl) (by kernel_rfl) (fun _ _ _ h => h) (Or.inl ⟨by rfl, fun w hSw => by first | (go_simp; done) | go_simp⟩) (by assumption) ?_
      (try simp only [Act.put, List.setIfInBounds_toArray, List.set_cons_zero, List.set_cons_succ])
      refine wpAnyH_take (i := 5) (oi := { dst := some 12, op := _, type := _, pos := _, after := _, guard := _ }) (v := .bool true) rfl (by kernel_rfl) (by kernel_rfl) (by kernel_rfl) (fun _ _ _ h => h) (Or.inl ⟨by rfl, fun w hSw => by first | (go_simp; done) | go_simp⟩) (by assumption) ?_
      (try simp only [Act.put, List.setIfInBounds_toArray, List.set_cons_zero, List.set_cons_succ])
      refine wpAnyH_done (by kernel_rfl) ?_ _
      clear hHeld
      go_wp2_with fail
      go_ret
      exact ⟨rfl, HU.out.2.trans HV3.out⟩
    · as_aux_lemma =>
      obtain ⟨xo, hxo⟩ := get_of (D := O) (k := k) (by rw [HLL.out.2.1]; omega)
      have dO : V.cell? ⟨go, k, none⟩ = some (.int .u8 (xo : Int)) := by rw [HCO.out k (by omega)]; exact u8s_at hxo
      clear hxo
      obtain ⟨U, hU⟩ : ∃ Z, Z = V.setCell ⟨go, k, none⟩ (.int .u8 (y8 : Int)) := ⟨_, rfl⟩
      have HS : V.setCell ⟨go, k, none⟩ (.int .u8 (y8 : Int)) = U := hU.symm
      have HOU : Hid (Only (fun z => z = go) V U) := by rw [hU]; exact (Only.refl (fun z => z = go) V).setCell (p := ⟨go, k, none⟩) rfl _
      have HU : Hid (U.heap[B]? = some (.cells #[.slice (some ⟨g, 0, none⟩) n cC, .slice (some ⟨go, 0, none⟩) no cO] 62 (0, 0)) ∧ Only (fun _ => False) w U) := ⟨(HOU.out.block B lB (fun h => HNE.out.2.1 h.symm)).trans HV.out.1, by rw [hU]; exact HV.out.2.2.2.1.setNew (p := ⟨go, k, none⟩) (Nat.le_trans hb4w hgo4) _⟩
      have HUO : Hid (Vw U (some ⟨go, 0, none⟩) (u8s (O.set k y8))) := by
        have h := (HV.out.2.2.1.stored k (.int .u8 (y8 : Int))).1
        rw [u8s_set] at h
        rw [hU]
        exact own_vw h
      obtain ⟨bb, HB1, HB2⟩ := both D (O.set k y8) (some ⟨g, 0, none⟩) (some ⟨go, 0, none⟩) cC cO n no U HLL.out.1 (by rw [List.length_set]; exact HLL.out.2.1) (own_vw (own_stay HV.out.2.1 HOU.out (fun q hq h => HNE.out.2.2 (by rw [← h]; injection hq with hq)))) HDO.out.1 HUO.out (lt_set HDO.out.2 _ q11) (by omega) (by omega)
      clear hU
      have HKU : Hid (∀ W', Only (fun _ => False) U W' → W'.cell? ⟨B, 0, none⟩ = some (.slice (some ⟨g, 0, none⟩) n cC) ∧ W'.cell? ⟨B, 1, none⟩ = some (.slice (some ⟨go, 0, none⟩) no cO)) := fun W' ho => ⟨(blk_two (blk_keep ho HU.out.1)).1, (blk_two (blk_keep ho HU.out.1)).2.1⟩
      go_wp2_with fail
      refine wp_region_held_drew (S := (fun W' => W'.cell? ⟨B, 0, none⟩ = some (.slice (some ⟨g, 0, none⟩) n cC) ∧ W'.cell? ⟨B, 1, none⟩ = some (.slice (some ⟨go, 0, none⟩) no cO))) (by kernel_rfl) (HKU.out _ ((Only.refl (fun _ => False) U).drew)) (fun hHeld => ?_)
      refine wpAnyH_take (i := 0) (oi := { dst := some 125, op := _, type := _, pos := _, after := _, guard := _ }) (v := .agg #[.slice (some ⟨g, 0, none⟩) n cC, .slice (some ⟨go, 0, none⟩) no cO]) rfl (by kernel_rfl) (by kernel_rfl) (by kernel_rfl) (fun _ _ _ h => h) (Or.inl ⟨by rfl, fun w hSw => by obtain ⟨y0, y1⟩ := hSw; first | (go_simp; done) | go_simp⟩) (by assumption) ?_
      (try simp only [Act.put, List.setIfInBounds_toArray, List.set_cons_zero, List.set_cons_succ])
      refine wpAnyH_take (i := 2) (oi := { dst := some 127, op := _, type := _, pos := _, after := _, guard := _ }) (v := .agg #[.slice (some ⟨g, 0, none⟩) n cC, .slice (some ⟨go, 0, none⟩) no cO]) rfl (by kernel_rfl) (by kernel_rfl) (by kernel_rfl) (fun _ _ _ h => h) (Or.inl ⟨by rfl, fun w hSw => by obtain ⟨y0, y1⟩ := hSw; first | (go_simp; done) | go_simp⟩) (by assumption) ?_
      (try simp only [Act.put, List.setIfInBounds_toArray, List.set_cons_zero, List.set_cons_succ])
      refine wpAnyH_ready (rs := [1]) (by kernel_rfl) (by simp) ?_
      refine AllReadyH.cons rfl (fun K hK => ?_) AllReadyH.nil
      rw [if_pos (by rfl)]
      go_simp
      refine Calls.mono (HB1.out _ (Only.refl _ _).drew) ?_
      rintro e v2 ⟨rfl, ho⟩
      have HV2 : Hid (Only (fun _ => False) U v2) := ((Only.refl _ _).drew).trans ho
      clear ho
      refine hK.out _ _ (HKU.out _ HV2.out) (fun hHeld => ?_)
      clear hK
      (try simp only [Act.put, List.setIfInBounds_toArray, List.set_cons_zero, List.set_cons_succ])
      refine wpAnyH_ready (rs := [3]) (by kernel_rfl) (by simp) ?_
      refine AllReadyH.cons rfl (fun K hK => ?_) AllReadyH.nil
      rw [if_pos (by rfl)]
      go_simp
      refine Calls.mono (HB2.out _ HV2.out) ?_
      rintro e v3 ⟨rfl, ho⟩
      have HV3 : Hid (Only (fun _ => False) U v3) := HV2.out.trans ho
      clear ho
      refine hK.out _ _ (HKU.out _ HV3.out) (fun hHeld => ?_)
      clear hK
      (try simp only [Act.put, List.setIfInBounds_toArray, List.set_cons_zero, List.set_cons_succ])
      refine wpAnyH_take (i := 4) (oi := { dst := some 129, op := _, type := _, pos := _, after := _, guard := _ }) (v := .bool true) rfl (by kernel_rfl) (by kernel_rfl) (by kernel_rfl) (fun _ _ _ h => h) (Or.inl ⟨by rfl, fun w hSw => by first | (go_simp; done) | go_simp⟩) (by assumption) ?_
      (try simp only [Act.put, List.setIfInBounds_toArray, List.set_cons_zero, List.set_cons_succ])
      refine wpAnyH_take (i := 5) (oi := { dst := some 12, op := _, type := _, pos := _, after := _, guard := _ }) (v := .bool true) rfl (by kernel_rfl) (by kernel_rfl) (by kernel_rfl) (fun _ _ _ h => h) (Or.inl ⟨by rfl, fun w hSw => by first | (go_simp; done) | go_simp⟩) (by assumption) ?_
      (try simp only [Act.put, List.setIfInBounds_toArray, List.set_cons_zero, List.set_cons_succ])
      refine wpAnyH_done (by kernel_rfl) ?_ _
      clear hHeld
      go_wp2_with fail
      go_ret
      exact ⟨rfl, HU.out.2.trans HV3.out⟩
    · as_aux_lemma =>
      have nw : (no : Int) - 1 = (n : Int) := by omega
      have nlt : n < no := by omega
      obtain ⟨xo, hxo⟩ := get_of (D := O) (k := n) (by rw [HLL.out.2.1]; omega)
      have dO : V.cell? ⟨go, n, none⟩ = some (.int .u8 (xo : Int)) := by rw [HCO.out n (by omega)]; exact u8s_at hxo
      clear hxo
      obtain ⟨U, hU⟩ : ∃ Z, Z = V.setCell ⟨go, n, none⟩ (.int .u8 (y8 : Int)) := ⟨_, rfl⟩
      have HS : V.setCell ⟨go, n, none⟩ (.int .u8 (y8 : Int)) = U := hU.symm
      have HOU : Hid (Only (fun z => z = go) V U) := by rw [hU]; exact (Only.refl (fun z => z = go) V).setCell (p := ⟨go, n, none⟩) rfl _
      have HU : Hid (U.heap[B]? = some (.cells #[.slice (some ⟨g, 0, none⟩) n cC, .slice (some ⟨go, 0, none⟩) no cO] 62 (0, 0)) ∧ Only (fun _ => False) w U) := ⟨(HOU.out.block B lB (fun h => HNE.out.2.1 h.symm)).trans HV.out.1, by rw [hU]; exact HV.out.2.2.2.1.setNew (p := ⟨go, n, none⟩) (Nat.le_trans hb4w hgo4) _⟩
      have HUO : Hid (Vw U (some ⟨go, 0, none⟩) (u8s (O.set n y8))) := by
        have h := (HV.out.2.2.1.stored n (.int .u8 (y8 : Int))).1
        rw [u8s_set] at h
        rw [hU]
        exact own_vw h
      obtain ⟨bb, HB1, HB2⟩ := both D (O.set n y8) (some ⟨g, 0, none⟩) (some ⟨go, 0, none⟩) cC cO n no U HLL.out.1 (by rw [List.length_set]; exact HLL.out.2.1) (own_vw (own_stay HV.out.2.1 HOU.out (fun q hq h => HNE.out.2.2 (by rw [← h]; injection hq with hq)))) HDO.out.1 HUO.out (lt_set HDO.out.2 _ q11) (by omega) (by omega)
      clear hU
      have HKU : Hid (∀ W', Only (fun _ => False) U W' → W'.cell? ⟨B, 0, none⟩ = some (.slice (some ⟨g, 0, none⟩) n cC) ∧ W'.cell? ⟨B, 1, none⟩ = some (.slice (some ⟨go, 0, none⟩) no cO)) := fun W' ho => ⟨(blk_two (blk_keep ho HU.out.1)).1, (blk_two (blk_keep ho HU.out.1)).2.1⟩
      go_wp2_with fail
      refine wp_region_held_drew (S := (fun W' => W'.cell? ⟨B, 0, none⟩ = some (.slice (some ⟨g, 0, none⟩) n cC) ∧ W'.cell? ⟨B, 1, none⟩ = some (.slice (some ⟨go, 0, none⟩) no cO))) (by kernel_rfl) (HKU.out _ ((Only.refl (fun _ => False) U).drew)) (fun hHeld => ?_)
      refine wpAnyH_take (i := 0) (oi := { dst := some 125, op := _, type := _, pos := _, after := _, guard := _ }) (v := .agg #[.slice (some ⟨g, 0, none⟩) n cC, .slice (some ⟨go, 0, none⟩) no cO]) rfl (by kernel_rfl) (by kernel_rfl) (by kernel_rfl) (fun _ _ _ h => h) (Or.inl ⟨by rfl, fun w hSw => by obtain ⟨y0, y1⟩ := hSw; first | (go_simp; done) | go_simp⟩) (by assumption) ?_
      (try simp only [Act.put, List.setIfInBounds_toArray, List.set_cons_zero, List.set_cons_succ])
      refine wpAnyH_take (i := 2) (oi := { dst := some 127, op := _, type := _, pos := _, after := _, guard := _ }) (v := .agg #[.slice (some ⟨g, 0, none⟩) n cC, .slice (some ⟨go, 0, none⟩) no cO]) rfl (by kernel_rfl) (by kernel_rfl) (by kernel_rfl) (fun _ _ _ h => h) (Or.inl ⟨by rfl, fun w hSw => by obtain ⟨y0, y1⟩ := hSw; first | (go_simp; done) | go_simp⟩) (by assumption) ?_
      (try simp only [Act.put, List.setIfInBounds_toArray, List.set_cons_zero, List.set_cons_succ])
      refine wpAnyH_ready (rs := [1]) (by kernel_rfl) (by simp) ?_
      refine AllReadyH.cons rfl (fun K hK => ?_) AllReadyH.nil
      rw [if_pos (by rfl)]
      go_simp
      refine Calls.mono (HB1.out _ (Only.refl _ _).drew) ?_
      rintro e v2 ⟨rfl, ho⟩
      have HV2 : Hid (Only (fun _ => False) U v2) := ((Only.refl _ _).drew).trans ho
      clear ho
      refine hK.out _ _ (HKU.out _ HV2.out) (fun hHeld => ?_)
      clear hK
      (try simp only [Act.put, List.setIfInBounds_toArray, List.set_cons_zero, List.set_cons_succ])
      refine wpAnyH_ready (rs := [3]) (by kernel_rfl) (by simp) ?_
      refine AllReadyH.cons rfl (fun K hK => ?_) AllReadyH.nil
      rw [if_pos (by rfl)]
      go_simp
      refine Calls.mono (HB2.out _ HV2.out) ?_
      rintro e v3 ⟨rfl, ho⟩
      have HV3 : Hid (Only (fun _ => False) U v3) := HV2.out.trans ho
      clear ho
      refine hK.out _ _ (HKU.out _ HV3.out) (fun hHeld => ?_)
      clear hK
      (try simp only [Act.put, List.setIfInBounds_toArray, List.set_cons_zero, List.set_cons_succ])
      refine wpAnyH_take (i := 4) (oi := { dst := some 129, op := _, type := _, pos := _, after := _, guard := _ }) (v := .bool true) rfl (by kernel_rfl) (by kernel_rfl) (by kernel_rfl) (fun _ _ _ h => h) (Or.inl ⟨by rfl, fun w hSw => by first | (go_simp; done) | go_simp⟩) (by assumption) ?_
      (try simp only [Act.put, List.setIfInBounds_toArray, List.set_cons_zero, List.set_cons_succ])
      refine wpAnyH_take (i := 5) (oi := { dst := some 12, op := _, type := _, pos := _, after := _, guard := _ }) (v := .bool true) rfl (by kernel_rfl) (by kernel_rfl) (by kernel_rfl) (fun _ _ _ h => h) (Or.inl ⟨by rfl, fun w hSw => by first | (go_simp; done) | go_simp⟩) (by assumption) ?_
      (try simp only [Act.put, List.setIfInBounds_toArray, List.set_cons_zero, List.set_cons_succ])
      refine wpAnyH_done (by kernel_rfl) ?_ _
      clear hHeld
      go_wp2_with fail
      go_ret
      exact ⟨rfl, HU.out.2.trans HV3.out⟩
    · as_aux_lemma =>
      have nw : (no : Int) - 1 = (n : Int) := by omega
      have nlt : n < no := by omega
      have ncO : n ≤ cO := by omega
      have ncI : (n : Int) ≤ (cO : Int) := by omega
      have ncz : ¬ cO = 0 := by omega
      obtain ⟨U, hU⟩ : ∃ Z, Z = V.setCell ⟨B, 1, none⟩ (.slice (some ⟨go, 0, none⟩) n cO) := ⟨_, rfl⟩
      have HS : V.setCell ⟨B, 1, none⟩ (.slice (some ⟨go, 0, none⟩) n cO) = U := hU.symm
      have HOU : Hid (Only (fun z => z = B) V U) := by rw [hU]; exact (Only.refl (fun z => z = B) V).setCell (p := ⟨B, 1, none⟩) rfl _
      have HU : Hid (U.heap[B]? = some (.cells #[.slice (some ⟨g, 0, none⟩) n cC, .slice (some ⟨go, 0, none⟩) n cO] 62 (0, 0)) ∧ Only (fun _ => False) w U) := ⟨by rw [hU]; exact heap_setCell_at (k := 1) HV.out.1 _, by rw [hU]; exact HV.out.2.2.2.1.setNew (p := ⟨B, 1, none⟩) HV.out.2.2.2.2 _⟩
      have HVC : Hid (Vw U (some ⟨g, 0, none⟩) (cgC D)) := own_vw (own_stay HV.out.2.1 HOU.out (fun q hq h => HNE.out.1 (by rw [← h]; injection hq with hq)))
      have HVO : Hid (Vw U (some ⟨go, 0, none⟩) (u8s O)) := own_vw (own_stay HV.out.2.2.1 HOU.out (fun q hq h => HNE.out.2.1 (by rw [← h]; injection hq with hq)))
      obtain ⟨bb, HB1, HB2⟩ := both D (O.take n) (some ⟨g, 0, none⟩) (some ⟨go, 0, none⟩) cC cO n n U HLL.out.1 (by rw [List.length_take, HLL.out.2.1]; omega) HVC.out HDO.out.1 (Vw.front HVO.out n) (fun x hx => HDO.out.2 x (List.mem_of_mem_take hx)) (by omega) (by omega)
      clear hU
      have HKU : Hid (∀ W', Only (fun _ => False) U W' → W'.cell? ⟨B, 0, none⟩ = some (.slice (some ⟨g, 0, none⟩) n cC) ∧ W'.cell? ⟨B, 1, none⟩ = some (.slice (some ⟨go, 0, none⟩) n cO)) := fun W' ho => ⟨(blk_two (blk_keep ho HU.out.1)).1, (blk_two (blk_keep ho HU.out.1)).2.1⟩
      go_wp2_with fail
      refine wp_region_held_drew (S := (fun W' => W'.cell? ⟨B, 0, none⟩ = some (.slice (some ⟨g, 0, none⟩) n cC) ∧ W'.cell? ⟨B, 1, none⟩ = some (.slice (some ⟨go, 0, none⟩) n cO))) (by kernel_rfl) (HKU.out _ ((Only.refl (fun _ => False) U).drew)) (fun hHeld => ?_)
      refine wpAnyH_take (i := 0) (oi := { dst := some 125, op := _, type := _, pos := _, after := _, guard := _ }) (v := .agg #[.slice (some ⟨g, 0, none⟩) n cC, .slice (some ⟨go, 0, none⟩) n cO]) rfl (by kernel_rfl) (by kernel_rfl) (by kernel_rfl) (fun _ _ _ h => h) (Or.inl ⟨by rfl, fun w hSw => by obtain ⟨y0, y1⟩ := hSw; first | (go_simp; done) | go_simp⟩) (by assumption) ?_
      (try simp only [Act.put, List.setIfInBounds_toArray, List.set_cons_zero, List.set_cons_succ])
      refine wpAnyH_take (i := 2) (oi := { dst := some 127, op := _, type := _, pos := _, after := _, guard := _ }) (v := .agg #[.slice (some ⟨g, 0, none⟩) n cC, .slice (some ⟨go, 0, none⟩) n cO]) rfl (by kernel_rfl) (by kernel_rfl) (by kernel_rfl) (fun _ _ _ h => h) (Or.inl ⟨by rfl, fun w hSw => by obtain ⟨y0, y1⟩ := hSw; first | (go_simp; done) | go_simp⟩) (by assumption) ?_
      (try simp only [Act.put, List.setIfInBounds_toArray, List.set_cons_zero, List.set_cons_succ])
      refine wpAnyH_ready (rs := [1]) (by kernel_rfl) (by simp) ?_
      refine AllReadyH.cons rfl (fun K hK => ?_) AllReadyH.nil
      rw [if_pos (by rfl)]
      go_simp
      refine Calls.mono (HB1.out _ (Only.refl _ _).drew) ?_
      rintro e v2 ⟨rfl, ho⟩
      have HV2 : Hid (Only (fun _ => False) U v2) := ((Only.refl _ _).drew).trans ho
      clear ho
      refine hK.out _ _ (HKU.out _ HV2.out) (fun hHeld => ?_)
      clear hK
      (try simp only [Act.put, List.setIfInBounds_toArray, List.set_cons_zero, List.set_cons_succ])
      refine wpAnyH_ready (rs := [3]) (by kernel_rfl) (by simp) ?_
      refine AllReadyH.cons rfl (fun K hK => ?_) AllReadyH.nil
      rw [if_pos (by rfl)]
      go_simp
      refine Calls.mono (HB2.out _ HV2.out) ?_
      rintro e v3 ⟨rfl, ho⟩
      have HV3 : Hid (Only (fun _ => False) U v3) := HV2.out.trans ho
      clear ho
      refine hK.out _ _ (HKU.out _ HV3.out) (fun hHeld => ?_)
      clear hK
      (try simp only [Act.put, List.setIfInBounds_toArray, List.set_cons_zero, List.set_cons_succ])
      refine wpAnyH_take (i := 4) (oi := { dst := some 129, op := _, type := _, pos := _, after := _, guard := _ }) (v := .bool true) rfl (by kernel_rfl) (by kernel_rfl) (by kernel_rfl) (fun _ _ _ h => h) (Or.inl ⟨by rfl, fun w hSw => by first | (go_simp; done) | go_simp⟩) (by assumption) ?_
      (try simp only [Act.put, List.setIfInBounds_toArray, List.set_cons_zero, List.set_cons_succ])
      refine wpAnyH_take (i := 5) (oi := { dst := some 12, op := _, type := _, pos := _, after := _, guard := _ }) (v := .bool true) rfl (by kernel_rfl) (by kernel_rfl) (by kernel_rfl) (fun _ _ _ h => h) (Or.inl ⟨by rfl, fun w hSw => by first | (go_simp; done) | go_simp⟩) (by assumption) ?_
      (try simp only [Act.put, List.setIfInBounds_toArray, List.set_cons_zero, List.set_cons_succ])
      refine wpAnyH_done (by kernel_rfl) ?_ _
      clear hHeld
      go_wp2_with fail
      go_ret
      exact ⟨rfl, HU.out.2.trans HV3.out⟩
    · as_aux_lemma =>
      by_cases hc1 : cC = 1
      · have n1 : n = 1 := by omega
        subst hc1 n1
        obtain ⟨U, hU⟩ : ∃ Z, Z = V.setCell ⟨B, 0, none⟩ (.slice (some ⟨g, 0, none⟩) 0 0) := ⟨_, rfl⟩
        have HS : V.setCell ⟨B, 0, none⟩ (.slice (some ⟨g, 0, none⟩) 0 0) = U := hU.symm
        have HOU : Hid (Only (fun z => z = B) V U) := by rw [hU]; exact (Only.refl (fun z => z = B) V).setCell (p := ⟨B, 0, none⟩) rfl _
        have HU : Hid (U.heap[B]? = some (.cells #[.slice (some ⟨g, 0, none⟩) 0 0, .slice (some ⟨go, 0, none⟩) no cO] 62 (0, 0)) ∧ Only (fun _ => False) w U) := ⟨by rw [hU]; exact heap_setCell_at (k := 0) HV.out.1 _, by rw [hU]; exact HV.out.2.2.2.1.setNew (p := ⟨B, 0, none⟩) HV.out.2.2.2.2 _⟩
        have HVC : Hid (Vw U (some ⟨g, 0, none⟩) (cgC D)) := own_vw (own_stay HV.out.2.1 HOU.out (fun q hq h => HNE.out.1 (by rw [← h]; injection hq with hq)))
        have HVO : Hid (Vw U (some ⟨go, 0, none⟩) (u8s O)) := own_vw (own_stay HV.out.2.2.1 HOU.out (fun q hq h => HNE.out.2.1 (by rw [← h]; injection hq with hq)))
        obtain ⟨bb, HB1, HB2⟩ := both [] O (some ⟨g, 0, none⟩) (some ⟨go, 0, none⟩) 0 cO 0 no U rfl HLL.out.2.1 (Vw.nil _ _) (fun c hc => absurd hc List.not_mem_nil) HVO.out HDO.out.2 (by omega) (by omega)
        clear hU
        have HKU : Hid (∀ W', Only (fun _ => False) U W' → W'.cell? ⟨B, 0, none⟩ = some (.slice (some ⟨g, 0, none⟩) 0 0) ∧ W'.cell? ⟨B, 1, none⟩ = some (.slice (some ⟨go, 0, none⟩) no cO)) := fun W' ho => ⟨(blk_two (blk_keep ho HU.out.1)).1, (blk_two (blk_keep ho HU.out.1)).2.1⟩
        go_wp2_with fail
        refine wp_region_held_drew (S := (fun W' => W'.cell? ⟨B, 0, none⟩ = some (.slice (some ⟨g, 0, none⟩) 0 0) ∧ W'.cell? ⟨B, 1, none⟩ = some (.slice (some ⟨go, 0, none⟩) no cO))) (by kernel_rfl) (HKU.out _ ((Only.refl (fun _ => False) U).drew)) (fun hHeld => ?_)
        refine wpAnyH_take (i := 0) (oi := { dst := some 125, op := _, type := _, pos := _, after := _, guard := _ }) (v := .agg #[.slice (some ⟨g, 0, none⟩) 0 0, .slice (some ⟨go, 0, none⟩) no cO]) rfl (by kernel_rfl) (by kernel_rfl) (by kernel_rfl) (fun _ _ _ h => h) (Or.inl ⟨by rfl, fun w hSw => by obtain ⟨y0, y1⟩ := hSw; first | (go_simp; done) | go_simp⟩) (by assumption) ?_
        (try simp only [Act.put, List.setIfInBounds_toArray, List.set_cons_zero, List.set_cons_succ])
        refine wpAnyH_take (i := 2) (oi := { dst := some 127, op := _, type := _, pos := _, after := _, guard := _ }) (v := .agg #[.slice (some ⟨g, 0, none⟩) 0 0, .slice (some ⟨go, 0, none⟩) no cO]) rfl (by kernel_rfl) (by kernel_rfl) (by kernel_rfl) (fun _ _ _ h => h) (Or.inl ⟨by rfl, fun w hSw => by obtain ⟨y0, y1⟩ := hSw; first | (go_simp; done) | go_simp⟩) (by assumption) ?_
        (try simp only [Act.put, List.setIfInBounds_toArray, List.set_cons_zero, List.set_cons_succ])
        refine wpAnyH_ready (rs := [1]) (by kernel_rfl) (by simp) ?_
        refine AllReadyH.cons rfl (fun K hK => ?_) AllReadyH.nil
        rw [if_pos (by rfl)]
        go_simp
        refine Calls.mono (HB1.out _ (Only.refl _ _).drew) ?_
        rintro e v2 ⟨rfl, ho⟩
        have HV2 : Hid (Only (fun _ => False) U v2) := ((Only.refl _ _).drew).trans ho
        clear ho
        refine hK.out _ _ (HKU.out _ HV2.out) (fun hHeld => ?_)
        clear hK
        (try simp only [Act.put, List.setIfInBounds_toArray, List.set_cons_zero, List.set_cons_succ])
        refine wpAnyH_ready (rs := [3]) (by kernel_rfl) (by simp) ?_
        refine AllReadyH.cons rfl (fun K hK => ?_) AllReadyH.nil
        rw [if_pos (by rfl)]
        go_simp
        refine Calls.mono (HB2.out _ HV2.out) ?_
        rintro e v3 ⟨rfl, ho⟩
        have HV3 : Hid (Only (fun _ => False) U v3) := HV2.out.trans ho
        clear ho
        refine hK.out _ _ (HKU.out _ HV3.out) (fun hHeld => ?_)
        clear hK
        (try simp only [Act.put, List.setIfInBounds_toArray, List.set_cons_zero, List.set_cons_succ])
        refine wpAnyH_take (i := 4) (oi := { dst := some 129, op := _, type := _, pos := _, after := _, guard := _ }) (v := .bool true) rfl (by kernel_rfl) (by kernel_rfl) (by kernel_rfl) (fun _ _ _ h => h) (Or.inl ⟨by rfl, fun w hSw => by first | (go_simp; done) | go_simp⟩) (by assumption) ?_
        (try simp only [Act.put, List.setIfInBounds_toArray, List.set_cons_zero, List.set_cons_succ])
        refine wpAnyH_take (i := 5) (oi := { dst := some 12, op := _, type := _, pos := _, after := _, guard := _ }) (v := .bool true) rfl (by kernel_rfl) (by kernel_rfl) (by kernel_rfl) (fun _ _ _ h => h) (Or.inl ⟨by rfl, fun w hSw => by first | (go_simp; done) | go_simp⟩) (by assumption) ?_
        (try simp only [Act.put, List.setIfInBounds_toArray, List.set_cons_zero, List.set_cons_succ])
        refine wpAnyH_done (by kernel_rfl) ?_ _
        clear hHeld
        go_wp2_with fail
        go_ret
        exact ⟨rfl, HU.out.2.trans HV3.out⟩
      · have nn1 : ((n - 1 : Nat) : Int) = (n : Int) - 1 := by omega
        obtain ⟨U, hU⟩ : ∃ Z, Z = V.setCell ⟨B, 0, none⟩ (.slice (some ⟨g, 4, none⟩) (n - 1) (cC - 1)) := ⟨_, rfl⟩
        have HS : V.setCell ⟨B, 0, none⟩ (.slice (some ⟨g, 4, none⟩) (n - 1) (cC - 1)) = U := hU.symm
        have HOU : Hid (Only (fun z => z = B) V U) := by rw [hU]; exact (Only.refl (fun z => z = B) V).setCell (p := ⟨B, 0, none⟩) rfl _
        have HU : Hid (U.heap[B]? = some (.cells #[.slice (some ⟨g, 4, none⟩) (n - 1) (cC - 1), .slice (some ⟨go, 0, none⟩) no cO] 62 (0, 0)) ∧ Only (fun _ => False) w U) := ⟨by rw [hU]; exact heap_setCell_at (k := 0) HV.out.1 _, by rw [hU]; exact HV.out.2.2.2.1.setNew (p := ⟨B, 0, none⟩) HV.out.2.2.2.2 _⟩
        have HVC : Hid (Vw U (some ⟨g, 0, none⟩) (cgC D)) := own_vw (own_stay HV.out.2.1 HOU.out (fun q hq h => HNE.out.1 (by rw [← h]; injection hq with hq)))
        have HVO : Hid (Vw U (some ⟨go, 0, none⟩) (u8s O)) := own_vw (own_stay HV.out.2.2.1 HOU.out (fun q hq h => HNE.out.2.1 (by rw [← h]; injection hq with hq)))
        obtain ⟨bb, HB1, HB2⟩ := both (D.drop 1) O (some ⟨g, 4, none⟩) (some ⟨go, 0, none⟩) (cC - 1) cO (n - 1) no U (by rw [List.length_drop, HLL.out.1]) HLL.out.2.1 (Vw.rest HVC.out) (HDO.out.1.drop 1) HVO.out HDO.out.2 (by omega) (by omega)
        clear hU
        have HKU : Hid (∀ W', Only (fun _ => False) U W' → W'.cell? ⟨B, 0, none⟩ = some (.slice (some ⟨g, 4, none⟩) (n - 1) (cC - 1)) ∧ W'.cell? ⟨B, 1, none⟩ = some (.slice (some ⟨go, 0, none⟩) no cO)) := fun W' ho => ⟨(blk_two (blk_keep ho HU.out.1)).1, (blk_two (blk_keep ho HU.out.1)).2.1⟩
        go_wp2_with fail
        refine wp_region_held_drew (S := (fun W' => W'.cell? ⟨B, 0, none⟩ = some (.slice (some ⟨g, 4, none⟩) (n - 1) (cC - 1)) ∧ W'.cell? ⟨B, 1, none⟩ = some (.slice (some ⟨go, 0, none⟩) no cO))) (by kernel_rfl) (HKU.out _ ((Only.refl (fun _ => False) U).drew)) (fun hHeld => ?_)
        refine wpAnyH_take (i := 0) (oi := { dst := some 125, op := _, type := _, pos := _, after := _, guard := _ }) (v := .agg #[.slice (some ⟨g, 4, none⟩) (n - 1) (cC - 1), .slice (some ⟨go, 0, none⟩) no cO]) rfl (by kernel_rfl) (by kernel_rfl) (by kernel_rfl) (fun _ _ _ h => h) (Or.inl ⟨by rfl, fun w hSw => by obtain ⟨y0, y1⟩ := hSw; first | (go_simp; done) | go_simp⟩) (by assumption) ?_
        (try simp only [Act.put, List.setIfInBounds_toArray, List.set_cons_zero, List.set_cons_succ])
        refine wpAnyH_take (i := 2) (oi := { dst := some 127, op := _, type := _, pos := _, after := _, guard := _ }) (v := .agg #[.slice (some ⟨g, 4, none⟩) (n - 1) (cC - 1), .slice (some ⟨go, 0, none⟩) no cO]) rfl (by kernel_rfl) (by kernel_rfl) (by kernel_rfl) (fun _ _ _ h => h) (Or.inl ⟨by rfl, fun w hSw => by obtain ⟨y0, y1⟩ := hSw; first | (go_simp; done) | go_simp⟩) (by assumption) ?_
        (try simp only [Act.put, List.setIfInBounds_toArray, List.set_cons_zero, List.set_cons_succ])
        refine wpAnyH_ready (rs := [1]) (by kernel_rfl) (by simp) ?_
        refine AllReadyH.cons rfl (fun K hK => ?_) AllReadyH.nil
        rw [if_pos (by rfl)]
        go_simp
        refine Calls.mono (HB1.out _ (Only.refl _ _).drew) ?_
        rintro e v2 ⟨rfl, ho⟩
        have HV2 : Hid (Only (fun _ => False) U v2) := ((Only.refl _ _).drew).trans ho
        clear ho
        refine hK.out _ _ (HKU.out _ HV2.out) (fun hHeld => ?_)
        clear hK
        (try simp only [Act.put, List.setIfInBounds_toArray, List.set_cons_zero, List.set_cons_succ])
        refine wpAnyH_ready (rs := [3]) (by kernel_rfl) (by simp) ?_
        refine AllReadyH.cons rfl (fun K hK => ?_) AllReadyH.nil
        rw [if_pos (by rfl)]
        go_simp
        refine Calls.mono (HB2.out _ HV2.out) ?_
        rintro e v3 ⟨rfl, ho⟩
        have HV3 : Hid (Only (fun _ => False) U v3) := HV2.out.trans ho
        clear ho
        refine hK.out _ _ (HKU.out _ HV3.out) (fun hHeld => ?_)
        clear hK
        (try simp only [Act.put, List.setIfInBounds_toArray, List.set_cons_zero, List.set_cons_succ])
        refine wpAnyH_take (i := 4) (oi := { dst := some 129, op := _, type := _, pos := _, after := _, guard := _ }) (v := .bool true) rfl (by kernel_rfl) (by kernel_rfl) (by kernel_rfl) (fun _ _ _ h => h) (Or.inl ⟨by rfl, fun w hSw => by first | (go_simp; done) | go_simp⟩) (by assumption) ?_
        (try simp only [Act.put, List.setIfInBounds_toArray, List.set_cons_zero, List.set_cons_succ])
        refine wpAnyH_take (i := 5) (oi := { dst := some 12, op := _, type := _, pos := _, after := _, guard := _ }) (v := .bool true) rfl (by kernel_rfl) (by kernel_rfl) (by kernel_rfl) (fun _ _ _ h => h) (Or.inl ⟨by rfl, fun w hSw => by first | (go_simp; done) | go_simp⟩) (by assumption) ?_
        (try simp only [Act.put, List.setIfInBounds_toArray, List.set_cons_zero, List.set_cons_succ])
        refine wpAnyH_done (by kernel_rfl) ?_ _
        clear hHeld
        go_wp2_with fail
        go_ret
        exact ⟨rfl, HU.out.2.trans HV3.out⟩
end Go.Proofs.Ytlcpfheocenjfaa.itemsChecks
namespace Go.Proofs.Ytlcpfheocenjfaa.itemsChecks
open Go.RowKit Go.Maps
set_option linter.unusedVariables false
set_option maxRecDepth 100000 in
set_option maxHeartbeats 4000000 in
theorem walk_big (nC nO nL : Nat) (aCl : Option Addr) (cCl : Nat) (aLO : Option Addr) (cLO : Nat) (aL : Option Addr) (cL : Nat) (at_ what nv : Int) (w : World) (hc0 : nC ≤ 9223372036854775807) (hs1 : nO ≤ 9223372036854775807) (hc2 : nL ≤ 9223372036854775807) (h : ¬ (nC ≤ 500 ∧ nO ≤ 500 ∧ nL ≤ 500)) : Calls Try.prog 10 #[.slice aCl nC cCl, .slice aLO nO cLO, .slice aL nL cL, .int .i64 at_, .int .i64 what, .int .i64 nv] w fun e w' => e = .returned (.bool true) ∧ Only (fun _ => False) w w' := by
  by_cases g0 : nC ≤ 500
  · have s0 : decide ((500 : Int) < (nC : Int)) = false := decide_eq_false (by omega)
    by_cases g1 : nO ≤ 500
    · have s1 : decide ((500 : Int) < (nO : Int)) = false := decide_eq_false (by omega)
      have s2 : (500 : Int) < (nL : Int) := by omega
      clear h g0 g1
      go_enter Try.func10, Try.ntmps10
      go_wp2_with fail
      refine (awake11_any _).mono ?_
      rintro e w1 ⟨rfl, ho1⟩
      have HO1 : Hid (Only (fun _ => False) w w1) := ho1
      clear ho1
      go_wp2_with fail
      go_ret
      exact ⟨rfl, HO1.out⟩
    · have s1 : (500 : Int) < (nO : Int) := by omega
      clear h g0 g1
      go_enter Try.func10, Try.ntmps10
      go_wp2_with fail
      refine (awake11_any _).mono ?_
      rintro e w1 ⟨rfl, ho1⟩
      have HO1 : Hid (Only (fun _ => False) w w1) := ho1
      clear ho1
      go_wp2_with fail
      go_ret
      exact ⟨rfl, HO1.out⟩
  · have s0 : (500 : Int) < (nC : Int) := by omega
    clear h g0
    go_enter Try.func10, Try.ntmps10
    go_wp2_with fail
    refine (awake11_any _).mono ?_
    rintro e w1 ⟨rfl, ho1⟩
    have HO1 : Hid (Only (fun _ => False) w w1) := ho1
    clear ho1
    go_wp2_with fail
    go_ret
    exact ⟨rfl, HO1.out⟩
theorem walk (CL : List Cg) (aCl : Option Addr) (cCl : Nat) (LO : List Nat) (aLO : Option Addr) (cLO : Nat) (L : List Bt) (aL : Option Addr) (cL : Nat) (at_ what nv : Int) (w : World) (hV0 : Vw w aCl (cgC CL)) (hB0 : ∀ c ∈ CL, c.kind < 256 ∧ -9223372036854775808 ≤ c.len ∧ c.len ≤ 9223372036854775807) (hc0 : CL.length ≤ cCl) (hm0 : cCl ≤ maxLen) (hV1 : Vw w aLO (u8s LO)) (hB1 : ∀ x ∈ LO, x < 256) (hs1 : LO.length ≤ 140737488351232) (hV2 : Vw w aL (btC L)) (hB2 : ∀ b ∈ L, b.cells < 256 ∧ b.kind < 256 ∧ b.len < 256 ∧ b.opp < 256) (hc2 : L.length ≤ cL) (hm2 : cL ≤ maxLen)
    (hn3 : -9223372036854775808 ≤ at_ ∧ at_ ≤ 9223372036854775807) (hn4 : -9223372036854775808 ≤ what ∧ what ≤ 9223372036854775807) (hn : -9223372036854775808 ≤ nv ∧ nv ≤ 9223372036854775807) : Calls Try.prog 10 #[.slice aCl CL.length cCl, .slice aLO LO.length cLO, .slice aL L.length cL, .int .i64 at_, .int .i64 what, .int .i64 nv] w fun e w' => e = .returned (.bool true) ∧ Only (fun _ => False) w w' := by
  unfold maxLen at hm0 hm2
  by_cases h : CL.length ≤ 500 ∧ LO.length ≤ 500 ∧ L.length ≤ 500
  · exact walk1 CL aCl cCl LO aLO cLO L aL cL at_ what nv w hV0 hB0 hV1 hB1 hV2 hB2 hn h.1 h.2.1 h.2.2
  · exact walk_big _ _ _ aCl cCl aLO cLO aL cL at_ what nv w (by omega) (by omega) (by omega) h
end Go.Proofs.Ytlcpfheocenjfaa.itemsChecks
