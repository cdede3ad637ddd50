/-
  span.between, Columns, and the document's Columns.
-/
import Derived.Test.YtegoadhnilmchaaSa1
namespace Go.Proofs.Ytegoadhnilmchaa
open Go.RowKit Go.Maps
set_option linter.unusedVariables false
set_option linter.unusedSimpArgs false
/-- a text of clusters that can be read. -/
structure Pv (w : World) (C : List Ct) (O : List Nat) (n m : Nat) (aC aO : Option Addr) (cC cO : Nat) : Prop where
  hn : n = C.length
  hm : m = O.length
  vC : Vw w aC (ctC C)
  cap : n ≤ cC
  capm : cC ≤ maxLen
  vO : Vw w aO (u8s O)
  ok : Cok C
  oO : ∀ x ∈ O, x < 256
  few : n ≤ 100000
  fewO : m ≤ 100001
theorem Pv.keep {w w' : World} {C : List Ct} {O : List Nat} {n m : Nat} {aC aO : Option Addr} {cC cO : Nat} (h : Pv w C O n m aC aO cC cO) (ho : Only (fun _ => False) w w') : Pv w' C O n m aC aO cC cO :=
  ⟨h.hn, h.hm, h.vC.keep ho, h.cap, h.capm, h.vO.keep ho, h.ok, h.oO, h.few, h.fewO⟩
/-- k clusters from a boundary on. -/
def sgm (C : List Ct) (x k : Nat) : List Ct := (C.drop x).take k
theorem sgm_at {C : List Ct} {x k j : Nat} (h : j < k) : (sgm C x k)[j]? = C[x + j]? := by
  unfold sgm
  rw [List.getElem?_take, if_pos h, List.getElem?_drop]
theorem ctC_drop : ∀ (S : List Ct) (x : Nat), ctC (S.drop x) = (ctC S).drop (x * 4)
  | [], x => by simp [ctC]
  | c :: S, 0 => by simp
  | c :: S, x + 1 => by
    rw [List.drop_succ_cons, ctC_drop S x, show (x + 1) * 4 = x * 4 + 4 by omega]
    rfl
theorem ctC_take : ∀ (S : List Ct) (x : Nat), ctC (S.take x) = (ctC S).take (x * 4)
  | [], x => by simp [ctC]
  | c :: S, 0 => by simp [ctC]
  | c :: S, x + 1 => by
    rw [List.take_succ_cons, show (x + 1) * 4 = x * 4 + 4 by omega]
    show [Value.int .i64 (c.pl : Int), Value.int .i64 (c.len : Int), Value.int .i64 c.cells, Value.int .u8 (c.kind : Int)] ++ ctC (S.take x) = _
    rw [ctC_take S x]
    rfl
theorem Vw.sgm {w : World} {b off : Nat} {S : List Ct} (h : Vw w (some ⟨b, off, none⟩) (ctC S)) (x k : Nat) : Vw w (some ⟨b, off + x * 4, none⟩) (ctC (sgm S x k)) := by
  rcases h with h | ⟨b', off', e, hc⟩
  · refine Or.inl ?_
    unfold Proofs.Ytegoadhnilmchaa.sgm
    rw [ctC_take, ctC_drop, h]
    simp
  · injection e with e
    injection e with e1 e2
    subst e1 e2
    refine Or.inr ⟨b, off + x * 4, rfl, fun j u hj => ?_⟩
    unfold Proofs.Ytegoadhnilmchaa.sgm at hj
    rw [ctC_take, ctC_drop, List.getElem?_take] at hj
    split at hj
    · rw [List.getElem?_drop] at hj
      rw [Nat.add_assoc]
      exact hc _ _ hj
    · cases hj
/-- a parameter in a block of its own. -/
theorem box2 (w : World) (v0 v1 : Value) (t : TypeId) : ∃ R w0, w.alloc (.cells #[v0, v1] t) = w0 ∧ w.heap.size = R ∧ Hid (w0.heap[R]? = some (.cells #[v0, v1] t (0, 0)) ∧ Only (fun _ => False) w w0) ∧ w0.cell? ⟨R, 0, none⟩ = some v0 ∧ w0.cell? ⟨R, 1, none⟩ = some v1 ∧ R < w0.heap.size :=
  ⟨_, _, rfl, rfl, ⟨heap_alloc_new w _, (Only.refl _ _).alloc _⟩, (blk_two (heap_alloc_new w _)).1, (blk_two (heap_alloc_new w _)).2.1, (blk_two (heap_alloc_new w _)).2.2⟩
theorem blk_four {w : World} {R : Nat} {t : TypeId} {v0 v1 v2 v3 : Value} (h : w.heap[R]? = some (.cells #[v0, v1, v2, v3] t (0, 0))) : w.cell? ⟨R, 0, none⟩ = some v0 ∧ w.cell? ⟨R, 1, none⟩ = some v1 ∧ w.cell? ⟨R, 2, none⟩ = some v2 ∧ w.cell? ⟨R, 3, none⟩ = some v3 := ⟨cell_blk h, cell_blk h, cell_blk h, cell_blk h⟩
theorem box4 (w : World) (v0 v1 v2 v3 : Value) (t : TypeId) : ∃ R w0, w.alloc (.cells #[v0, v1, v2, v3] t) = w0 ∧ w.heap.size = R ∧ Hid (w0.heap[R]? = some (.cells #[v0, v1, v2, v3] t (0, 0)) ∧ Only (fun _ => False) w w0 ∧ R = w.heap.size) ∧ R < w0.heap.size :=
  ⟨_, _, rfl, rfl, ⟨heap_alloc_new w _, (Only.refl _ _).alloc _, rfl⟩, by rw [size_alloc1]; exact Nat.lt_succ_self _⟩
set_option maxRecDepth 100000 in
set_option maxHeartbeats 400000 in
theorem between_any (C : List Ct) (O : List Nat) (n m : Nat) (aC aO : Option Addr) (cC cO x y : Nat) (w : World) (hP : Pv w C O n m aC aO cC cO) (hx : x ≤ y) (hy : y ≤ n) :
    Calls Try.prog 41 #[.agg #[.slice aC n cC, .slice aO m cO], .int .i64 (x : Int), .int .i64 (y : Int)] w fun e w' => ∃ a c, e = .returned (.slice a (y - x) c) ∧ Vw w a (ctC (sgm C x (y - x))) ∧ Only (fun _ => False) w w' := by
  have HP : Hid (Pv w C O n m aC aO cC cO) := hP
  have h1 := hP.few
  have h2 := hP.cap
  have h3 := hP.capm
  unfold maxLen at h3
  clear hP
  by_cases hlt : x < y
  · obtain ⟨b, off, rfl, hb, _⟩ := HP.out.vC.cells (by rw [ctC_len, ← HP.out.hn]; omega)
    have t1 : decide ((y : Int) ≤ (x : Int)) = false := decide_eq_false (by omega)
    have nx : ¬ cC = x := by omega
    go_enter Try.func41, Try.ntmps41
    go_wp2_with fail
    obtain ⟨R, w0, hw0, hR, H0, r0, r1, lR⟩ := box2 w (.slice (some ⟨b, off, none⟩) n cC) (.slice aO m cO) 31
    rw [hw0, hR]
    clear hw0 hR
    go_quiet (fail)
    go_wp2_with fail
    go_ret
    exact ⟨some ⟨b, off + x * 4, none⟩, cC - x, rfl, HP.out.vC.sgm x _, H0.out.2.drewN _⟩
  · have t1 : (y : Int) ≤ (x : Int) := by omega
    have e0 : y - x = 0 := by omega
    rw [e0]
    go_enter Try.func41, Try.ntmps41
    go_wp2_with fail
    obtain ⟨R, w0, hw0, hR, H0, r0, r1, lR⟩ := box2 w (.slice aC n cC) (.slice aO m cO) 31
    rw [hw0, hR]
    clear hw0 hR
    go_quiet (fail)
    go_wp2_with fail
    go_ret
    exact ⟨none, 0, rfl, Or.inl (by unfold Proofs.Ytegoadhnilmchaa.sgm; simp [ctC]), H0.out.2.drewN _⟩
/-- numbers in new memory. -/
def nlP (L : List Nat) (w : World) (e : Ending) (w' : World) : Prop := ∃ (a : Option Addr) (c : Nat), e = .returned (.slice a L.length c) ∧ w'.ownsRow w.heap.size 3 1 (.slice a L.length c) L.length (natI L) ∧ Only (fun _ => False) w w'
theorem nb_own {w : World} {B b : Nat} {l : List Nat} (h : Nb w b l) (hB : B ≤ b) (hl : l.length ≤ 10000000) : w.ownsRow B 3 1 (.slice (some ⟨b, 0, none⟩) l.length l.length) l.length (natI l) :=
  ⟨by rw [natI_len, Nat.mul_one], Or.inr ⟨b, l.length, nums l, rfl, hB, h, Nat.le_refl _, by unfold maxLen; omega, by rw [nums_size, Nat.mul_one], by rw [Nat.mul_one, nums_list, ← natI_len l]; exact List.take_length⟩⟩
/-- columns while they are laid. -/
def clay (C : List Ct) (t a k i : Nat) : List Nat := Sp.cols C t a i ++ List.replicate (k - i) 0
theorem clay_len {C : List Ct} {t a k i : Nat} (h : i ≤ k) : (clay C t a k i).length = k + 1 := by
  unfold clay
  rw [List.length_append, Sp.cols_len, List.length_replicate]
  omega
theorem clay_at {C : List Ct} {t a k i : Nat} : (clay C t a k i)[i]? = some (Sp.col C t a i) := by
  unfold clay
  rw [List.getElem?_append_left (by rw [Sp.cols_len]; omega), Sp.cols_at (Nat.le_refl _)]
theorem clay_next {C : List Ct} {t a k i : Nat} (h : i < k) : (clay C t a k i)[i + 1]? = some 0 := by
  unfold clay
  rw [List.getElem?_append_right (by rw [Sp.cols_len]; omega), Sp.cols_len, Nat.sub_self, List.getElem?_replicate, if_pos (by omega)]
theorem clay_set {C : List Ct} {t a k i : Nat} (h : i < k) : (clay C t a k i).set (i + 1) (Sp.col C t a (i + 1)) = clay C t a k (i + 1) := by
  unfold clay
  rw [List.set_append_right _ _ (by rw [Sp.cols_len]; omega), Sp.cols_len, Nat.sub_self, Sp.cols_succ]
  obtain ⟨d, hd⟩ : ∃ d, k - i = d + 1 := ⟨k - i - 1, by omega⟩
  rw [hd, List.replicate_succ, List.set_cons_zero, show k - (i + 1) = d by omega, List.append_assoc]
  rfl
theorem clay_full {C : List Ct} {t a k : Nat} : clay C t a k k = Sp.cols C t a k := by
  unfold clay
  rw [Nat.sub_self]
  exact List.append_nil _
theorem made_zero (C : List Ct) (t a k : Nat) : madeCells #[.int .i64 0] (k + 1) = nums (clay C t a k 0) := by
  apply Array.ext_getElem?
  intro j
  by_cases hj : j < k + 1
  · rw [Array.getElem?_eq_getElem (by rw [size_madeCells]; exact hj), nums_at]
    have e : (clay C t a k 0)[j]? = some 0 := by
      unfold clay
      show ([0] ++ List.replicate (k - 0) 0)[j]? = some 0
      rw [show [0] ++ List.replicate (k - 0) 0 = List.replicate (k + 1) 0 from rfl, List.getElem?_replicate, if_pos hj]
    rw [e]
    simp [madeCells, Nat.mod_one]
  · rw [Array.getElem?_eq_none (by rw [size_madeCells]; omega), Array.getElem?_eq_none (by rw [nums_size, clay_len (Nat.zero_le _)]; omega)]
theorem col_small {C : List Ct} (h : Cok C) {t : Nat} (h0 : 0 < t) (ht : t ≤ 1000) {a k : Nat} (hk : k ≤ 100000) : Sp.col C t a k ≤ 100200000 := by
  refine Nat.le_trans (Sp.col_le C h0 h.at a k) ?_
  exact Nat.le_trans (Nat.mul_le_mul hk (show t + 2 ≤ 1002 by omega)) (by decide)
set_option maxRecDepth 100000 in
set_option maxHeartbeats 4000000 in
theorem columns_any (C : List Ct) (O : List Nat) (n m : Nat) (aC aO : Option Addr) (cC cO x y t : Nat) (w : World) (hP : Pv w C O n m aC aO cC cO) (hx : x ≤ y) (hy : y ≤ n) (h0 : 0 < t) (ht : t ≤ 1000) :
    Calls Try.prog 33 #[.agg #[.slice aC n cC, .slice aO m cO], .int .i64 (x : Int), .int .i64 (y : Int), .int .i64 (t : Int)] w (nlP (Sp.cols C t x (y - x)) w) := by
  have HB : Hid (∀ W, Only (fun _ => False) w W → Calls Try.prog 41 #[.agg #[.slice aC n cC, .slice aO m cO], .int .i64 (x : Int), .int .i64 (y : Int)] W fun e w' => ∃ a c, e = .returned (.slice a (y - x) c) ∧ Vw W a (ctC (sgm C x (y - x))) ∧ Only (fun _ => False) W w') := fun W ho => between_any C O n m aC aO cC cO x y W (hP.keep ho) hx hy
  have HP : Hid (Pv w C O n m aC aO cC cO) := hP
  have h1 := hP.few
  obtain ⟨k, hk⟩ : ∃ k, k = y - x := ⟨_, rfl⟩
  rw [← hk] at HB ⊢
  have hkl : k ≤ 100000 := by omega
  have hkx : x + k ≤ n := by omega
  clear hP hk
  have hmk := fun (w : World) => run_make_row' (P := Try.prog) 58 3 (.int .i64 0) 8 Try.underlying58 info3 rfl .i64 .i64 (k + 1) (by omega) (by omega) w
  obtain ⟨k1, hk1⟩ : ∃ k1, k1 = k + 1 := ⟨_, rfl⟩
  have HK1 : Hid (k1 = k + 1) := hk1
  clear hk1
  have hmk' : ∀ w : World, (Instr.makeSlice 58 (.int .i64 ((k : Int) + 1)) (.int .i64 ((k : Int) + 1))).run Try.prog w = .ok (.slice (some ⟨w.heap.size, 0, none⟩) k1 k1) (w.alloc (.cells (nums (clay C t x k 0)) 3)) := fun w => by
    rw [HK1.out, ← made_zero C t x k, show (k : Int) + 1 = ((k + 1 : Nat) : Int) by omega]
    exact hmk w
  clear hmk
  have HC : Hid (∀ i, i ≤ k → Sp.col C t x i ≤ 100200000) := fun i hi => col_small HP.out.ok h0 ht (by omega)
  go_enter Try.func33, Try.ntmps33
  go_wp2_with fail
  obtain ⟨R, w0, hw0, hR, H0, r0, r1, lR⟩ := box2 w (.slice aC n cC) (.slice aO m cO) 31
  rw [hw0]
  clear hw0 r0 r1 lR
  refine Calls.mono (HB.out _ H0.out.2) ?_
  rintro e w1 ⟨a, c, rfl, hV, ho1⟩
  have H1 : Hid (Vw w1 a (ctC (sgm C x k)) ∧ Only (fun _ => False) w w1) := ⟨hV.keep ho1, H0.out.2.trans ho1⟩
  clear hV ho1 H0
  go_wp2_with fail
  obtain ⟨b, hb⟩ : ∃ b, b = w1.heap.size := ⟨_, rfl⟩
  obtain ⟨w2, hw2⟩ : ∃ Z, Z = w1.alloc (.cells (nums (clay C t x k 0)) 3) := ⟨_, rfl⟩
  rw [← hw2, ← hb]
  have H2 : Hid (Nb w2 b (clay C t x k 0) ∧ Only (fun _ => False) w1 w2 ∧ b = w1.heap.size ∧ w.heap.size ≤ b) := by
    rw [hw2, hb]
    exact ⟨heap_alloc_new w1 _, (Only.refl _ _).alloc _, rfl, H1.out.2.size⟩
  clear hw2 hb hmk' hR
  go_loopg [23] k (fun gh v wr => ∃ (i : Nat) (W : World), W = wr ∧ gh = k - i ∧ i ≤ k ∧ v = .int .i64 (i : Int) ∧ Nb W b (clay C t x k i) ∧ Only (fun g => g = b) w2 W)
  case atStart => exact ⟨0, _, rfl, rfl, Nat.zero_le _, rfl, H2.out.1, Only.refl _ _⟩
  case round =>
    obtain ⟨i, W, hW, rfl, hi, rfl, hnb, hoW⟩ := hrel
    subst hW
    have HG : Hid (Nb W b (clay C t x k i) ∧ Only (fun g => g = b) w2 W ∧ Only (fun _ => False) w1 W) := ⟨hnb, hoW, ((H2.out.2.1.mono (fun _ h => h.elim)).trans hoW).old (fun g hg => Or.inl (by rw [hg]; exact Nat.le_of_eq H2.out.2.2.1.symm))⟩
    clear hnb hoW
    by_cases hlt : i < k
    · have t1 : (i : Int) < (k : Int) := by omega
      obtain ⟨z, hz⟩ : ∃ z, C[x + i]? = some z := ⟨_, List.getElem?_eq_getElem (by rw [← HP.out.hn]; omega)⟩
      obtain ⟨xp, xl, xc, xk, rfl, hxc, hxk⟩ := HP.out.ok.nat hz
      obtain ⟨g, off, rfl, hg, c0, c1, c2, c3⟩ := (H1.out.1.keep HG.out.2.2).cluster (k := i) (by rw [sgm_at hlt]; exact hz)
      simp only at c0 c1 c2 c3
      obtain ⟨q, hq⟩ : ∃ q, q = Sp.col C t x i := ⟨_, rfl⟩
      have hq1 : q ≤ 100200000 := by rw [hq]; exact HC.out i hi
      have d0 : W.cell? ⟨b, i, none⟩ = some (.int .i64 (q : Int)) := by rw [hq]; exact HG.out.1.cell clay_at
      have HQ : Hid (Sp.nx ⟨xp, xl, (xc : Int), xk⟩ t q = Sp.col C t x (i + 1)) := by
        rw [hq]
        show _ = Sp.nx (Sp.at' C (x + i)) t (Sp.col C t x i)
        rw [at_some hz]
      have HQ0 : Hid (q = Sp.col C t x i) := hq
      obtain ⟨i1, hi1⟩ : ∃ i1, i1 = i + 1 := ⟨_, rfl⟩
      have HI1 : Hid (i1 = i + 1) := hi1
      have j0 : IntKind.i64.wrap ((i : Int) + 1) = (i1 : Int) := by rw [IntKind.wrap_i64]; omega
      have j1 : (i : Int) < (k1 : Int) := by have := HK1.out; omega
      have j2 : (i1 : Int) < (k1 : Int) := by have := HK1.out; omega
      clear hi1
      have lb : b < W.heap.size := HG.out.1.lt
      clear hq hz
      go_wp2_with fail
      obtain ⟨B4, w3, hw3, hB4, H3, l4⟩ := box4 W (.int .i64 (xp : Int)) (.int .i64 (xl : Int)) (.int .i64 (xc : Int)) (.int .u8 (xk : Int)) 53
      rw [hw3, hB4]
      have hne : B4 ≠ b := by omega
      clear hw3 hB4 c0 c1 c2 c3 d0
      have HN3 : Hid (∀ W', Only (fun _ => False) w3 W' → Nb W' b (clay C t x k i)) := fun W' ho => HG.out.1.only (H3.out.2.1.trans ho) (fun h => h)
      have HB3 : Hid (∀ W', Only (fun _ => False) w3 W' → W'.heap[B4]? = some (.cells #[.int .i64 (xp : Int), .int .i64 (xl : Int), .int .i64 (xc : Int), .int .u8 (xk : Int)] 53 (0, 0))) := fun W' ho => blk_keep ho H3.out.1
      have HQC : Hid ((clay C t x k i)[i]? = some q) := by
        rw [clay_at]; exact congrArg some HQ0.out.symm
      have HS : Hid (∀ W', Only (fun _ => False) w3 W' → (W'.cell? ⟨B4, 0, none⟩ = some (.int .i64 (xp : Int)) ∧ W'.cell? ⟨B4, 1, none⟩ = some (.int .i64 (xl : Int)) ∧ W'.cell? ⟨B4, 2, none⟩ = some (.int .i64 (xc : Int)) ∧ W'.cell? ⟨B4, 3, none⟩ = some (.int .u8 (xk : Int))) ∧ W'.cell? ⟨b, i, none⟩ = some (.int .i64 (q : Int))) := fun W' ho => ⟨blk_four (HB3.out W' ho), (HN3.out W' ho).cell HQC.out⟩
      have HS2 : Hid (∀ W' (v : Nat), Only (fun _ => False) w3 W' → ((W'.setCell ⟨b, i1, none⟩ (.int .i64 (v : Int))).cell? ⟨B4, 0, none⟩ = some (.int .i64 (xp : Int)) ∧ (W'.setCell ⟨b, i1, none⟩ (.int .i64 (v : Int))).cell? ⟨B4, 1, none⟩ = some (.int .i64 (xl : Int)) ∧ (W'.setCell ⟨b, i1, none⟩ (.int .i64 (v : Int))).cell? ⟨B4, 2, none⟩ = some (.int .i64 (xc : Int)) ∧ (W'.setCell ⟨b, i1, none⟩ (.int .i64 (v : Int))).cell? ⟨B4, 3, none⟩ = some (.int .u8 (xk : Int))) ∧ (W'.setCell ⟨b, i1, none⟩ (.int .i64 (v : Int))).cell? ⟨b, i, none⟩ = some (.int .i64 (q : Int))) := fun W' v ho => ⟨blk_four ((Below.heap_setCell _ _ _ _ hne).trans (HB3.out W' ho)), ((HN3.out W' ho).set i1 v).cell (by rw [List.getElem?_set_ne (by have := HI1.out; omega)]; exact HQC.out)⟩
      go_region_held3 (fun W' => (W'.cell? ⟨B4, 0, none⟩ = some (.int .i64 (xp : Int)) ∧ W'.cell? ⟨B4, 1, none⟩ = some (.int .i64 (xl : Int)) ∧ W'.cell? ⟨B4, 2, none⟩ = some (.int .i64 (xc : Int)) ∧ W'.cell? ⟨B4, 3, none⟩ = some (.int .u8 (xk : Int))) ∧ W'.cell? ⟨b, i, none⟩ = some (.int .i64 (q : Int))) ((first | exact HS.out _ (Only.refl _ _).drew | exact HS.out _ H4.out | exact HS2.out _ _ H4.out)) ((go_at_call 43; refine Calls.mono (next_any xp xl xc xk q t _ hxc hxk (by omega) h0 ht) ?_; rintro e w4 ⟨rfl, ho4⟩; have H4 : Hid (Only (fun _ => False) w3 w4) := ((Only.refl _ _).drew).trans ho4; have e4 : w4.cell? ⟨b, i1, none⟩ = some (.int .i64 0) := (HN3.out _ H4.out).cell (by rw [HI1.out]; exact clay_next hlt); have f4 : w4.frozen? ⟨b, i1, none⟩ = false := (HN3.out _ H4.out).fz _; have l4 : b < w4.heap.size := (HN3.out _ H4.out).lt; clear ho4))
      go_wp2_with fail
      go_roundg (k - (i + 1))
      case measure => omega
      case rel =>
        refine ⟨i1, _, rfl, by rw [HI1.out], by have := HI1.out; omega, by go_num, ?_, ?_⟩
        · rw [HQ.out, HI1.out, ← clay_set hlt]
          exact (HN3.out _ H4.out).set (i + 1) _
        · exact (HG.out.2.1.trans ((H3.out.2.1.trans H4.out).mono (fun _ h => h.elim))).setCell (p := ⟨b, i1, none⟩) rfl _
    · have t1 : decide ((i : Int) < (k : Int)) = false := decide_eq_false (by omega)
      have hin : i = k := by omega
      subst hin
      go_wp2_with fail
      go_ret
      have e : (Sp.cols C t x i).length = i + 1 := Sp.cols_len C t x i
      refine ⟨some ⟨b, 0, none⟩, i + 1, by rw [e, ← HK1.out]; rfl, ?_, H1.out.2.trans HG.out.2.2⟩
      have hn := HG.out.1
      rw [clay_full] at hn
      have ho := nb_own hn H2.out.2.2.2 (by rw [e]; omega)
      rw [e] at ho ⊢
      exact ho
end Go.Proofs.Ytegoadhnilmchaa

