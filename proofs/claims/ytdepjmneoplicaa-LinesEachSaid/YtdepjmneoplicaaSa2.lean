/-
  span.between, Columns, and the document's Columns.
-/
import Derived.Test.YtdepjmneoplicaaSa1
namespace Go.Proofs.Ytdepjmneoplicaa
open Go.RowKit Go.Maps
set_option linter.unusedVariables false
set_option linter.unusedSimpArgs false
/-- a text of clusters that can be read. -/
structure Pv (w : World) (C : List Ct) (O : List Nat) (n m : Nat) (aC aO : Option Addr) (cC cO : Nat) : Prop where
  hn : n = C.length
  hm : m = O.length
  vC : Vw w aC (ctC C)
  cap : n ≤ cC
  capm : cC ≤ maxLen
  vO : Vw w aO (u8s O)
  ok : Cok C
  oO : ∀ x ∈ O, x < 256
  few : n ≤ 100000
  fewO : m ≤ 100001
theorem Pv.keep {w w' : World} {C : List Ct} {O : List Nat} {n m : Nat} {aC aO : Option Addr} {cC cO : Nat} (h : Pv w C O n m aC aO cC cO) (ho : Only (fun _ => False) w w') : Pv w' C O n m aC aO cC cO :=
  ⟨h.hn, h.hm, h.vC.keep ho, h.cap, h.capm, h.vO.keep ho, h.ok, h.oO, h.few, h.fewO⟩
/-- k clusters from a boundary on. -/
def sgm (C : List Ct) (x k : Nat) : List Ct := (C.drop x).take k
theorem sgm_at {C : List Ct} {x k j : Nat} (h : j < k) : (sgm C x k)[j]? = C[x + j]? := by
  unfold sgm
  rw [List.getElem?_take, if_pos h, List.getElem?_drop]
theorem ctC_drop : ∀ (S : List Ct) (x : Nat), ctC (S.drop x) = (ctC S).drop (x * 4)
  | [], x => by simp [ctC]
  | c :: S, 0 => by simp
  | c :: S, x + 1 => by
    rw [List.drop_succ_cons, ctC_drop S x, show (x + 1) * 4 = x * 4 + 4 by omega]
    rfl
theorem ctC_take : ∀ (S : List Ct) (x : Nat), ctC (S.take x) = (ctC S).take (x * 4)
  | [], x => by simp [ctC]
  | c :: S, 0 => by simp [ctC]
  | c :: S, x + 1 => by
    rw [List.take_succ_cons, show (x + 1) * 4 = x * 4 + 4 by omega]
    show [Value.int .i64 (c.pl : Int), Value.int .i64 (c.len : Int), Value.int .i64 c.cells, Value.int .u8 (c.kind : Int)] ++ ctC (S.take x) = _
    rw [ctC_take S x]
    rfl
theorem Vw.sgm {w : World} {b off : Nat} {S : List Ct} (h : Vw w (some ⟨b, off, none⟩) (ctC S)) (x k : Nat) : Vw w (some ⟨b, off + x * 4, none⟩) (ctC (sgm S x k)) := by
  rcases h with h | ⟨b', off', e, hc⟩
  · refine Or.inl ?_
    unfold Proofs.Ytdepjmneoplicaa.sgm
    rw [ctC_take, ctC_drop, h]
    simp
  · injection e with e
    injection e with e1 e2
    subst e1 e2
    refine Or.inr ⟨b, off + x * 4, rfl, fun j u hj => ?_⟩
    unfold Proofs.Ytdepjmneoplicaa.sgm at hj
    rw [ctC_take, ctC_drop, List.getElem?_take] at hj
    split at hj
    · rw [List.getElem?_drop] at hj
      rw [Nat.add_assoc]
      exact hc _ _ hj
    · cases hj
/-- a parameter in a block of its own. -/
theorem box2 (w : World) (v0 v1 : Value) (t : TypeId) : ∃ R w0, w.alloc (.cells #[v0, v1] t) = w0 ∧ w.heap.size = R ∧ Hid (w0.heap[R]? = some (.cells #[v0, v1] t (0, 0)) ∧ Only (fun _ => False) w w0) ∧ w0.cell? ⟨R, 0, none⟩ = some v0 ∧ w0.cell? ⟨R, 1, none⟩ = some v1 ∧ R < w0.heap.size :=
  ⟨_, _, rfl, rfl, ⟨heap_alloc_new w _, (Only.refl _ _).alloc _⟩, (blk_two (heap_alloc_new w _)).1, (blk_two (heap_alloc_new w _)).2.1, (blk_two (heap_alloc_new w _)).2.2⟩
theorem blk_four {w : World} {R : Nat} {t : TypeId} {v0 v1 v2 v3 : Value} (h : w.heap[R]? = some (.cells #[v0, v1, v2, v3] t (0, 0))) : w.cell? ⟨R, 0, none⟩ = some v0 ∧ w.cell? ⟨R, 1, none⟩ = some v1 ∧ w.cell? ⟨R, 2, none⟩ = some v2 ∧ w.cell? ⟨R, 3, none⟩ = some v3 := ⟨cell_blk h, cell_blk h, cell_blk h, cell_blk h⟩
theorem box4 (w : World) (v0 v1 v2 v3 : Value) (t : TypeId) : ∃ R w0, w.alloc (.cells #[v0, v1, v2, v3] t) = w0 ∧ w.heap.size = R ∧ Hid (w0.heap[R]? = some (.cells #[v0, v1, v2, v3] t (0, 0)) ∧ Only (fun _ => False) w w0 ∧ R = w.heap.size) ∧ R < w0.heap.size :=
  ⟨_, _, rfl, rfl, ⟨heap_alloc_new w _, (Only.refl _ _).alloc _, rfl⟩, by rw [size_alloc1]; exact Nat.lt_succ_self _⟩
set_option maxRecDepth 100000 in
set_option maxHeartbeats 400000 in
theorem between_any (C : List Ct) (O : List Nat) (n m : Nat) (aC aO : Option Addr) (cC cO x y : Nat) (w : World) (hP : Pv w C O n m aC aO cC cO) (hx : x ≤ y) (hy : y ≤ n) :
    Calls Try.prog 54 #[.agg #[.slice aC n cC, .slice aO m cO], .int .i64 (x : Int), .int .i64 (y : Int)] w fun e w' => ∃ a c, e = .returned (.slice a (y - x) c) ∧ Vw w a (ctC (sgm C x (y - x))) ∧ Only (fun _ => False) w w' := by
  have HP : Hid (Pv w C O n m aC aO cC cO) := hP
  have h1 := hP.few
  have h2 := hP.cap
  have h3 := hP.capm
  unfold maxLen at h3
  clear hP
  by_cases hlt : x < y
  · obtain ⟨b, off, rfl, hb, _⟩ := HP.out.vC.cells (by rw [ctC_len, ← HP.out.hn]; omega)
    have t1 : decide ((y : Int) ≤ (x : Int)) = false := decide_eq_false (by omega)
    have nx : ¬ cC = x := by omega
    go_enter Try.func54, Try.ntmps54
    go_wp2_with fail
    obtain ⟨R, w0, hw0, hR, H0, r0, r1, lR⟩ := box2 w (.slice (some ⟨b, off, none⟩) n cC) (.slice aO m cO) 31
    rw [hw0, hR]
    clear hw0 hR
    go_quiet (fail)
    go_wp2_with fail
    go_ret
    exact ⟨some ⟨b, off + x * 4, none⟩, cC - x, rfl, HP.out.vC.sgm x _, H0.out.2.drewN _⟩
  · have t1 : (y : Int) ≤ (x : Int) := by omega
    have e0 : y - x = 0 := by omega
    rw [e0]
    go_enter Try.func54, Try.ntmps54
    go_wp2_with fail
    obtain ⟨R, w0, hw0, hR, H0, r0, r1, lR⟩ := box2 w (.slice aC n cC) (.slice aO m cO) 31
    rw [hw0, hR]
    clear hw0 hR
    go_quiet (fail)
    go_wp2_with fail
    go_ret
    exact ⟨none, 0, rfl, Or.inl (by unfold Proofs.Ytdepjmneoplicaa.sgm; simp [ctC]), H0.out.2.drewN _⟩
/-- numbers in new memory. -/
def nlP (L : List Nat) (w : World) (e : Ending) (w' : World) : Prop := ∃ (a : Option Addr) (c : Nat), e = .returned (.slice a L.length c) ∧ w'.ownsRow w.heap.size 3 1 (.slice a L.length c) L.length (natI L) ∧ Only (fun _ => False) w w'
theorem nb_own {w : World} {B b : Nat} {l : List Nat} (h : Nb w b l) (hB : B ≤ b) (hl : l.length ≤ 10000000) : w.ownsRow B 3 1 (.slice (some ⟨b, 0, none⟩) l.length l.length) l.length (natI l) :=
  ⟨by rw [natI_len, Nat.mul_one], Or.inr ⟨b, l.length, nums l, rfl, hB, h, Nat.le_refl _, by unfold maxLen; omega, by rw [nums_size, Nat.mul_one], by rw [Nat.mul_one, nums_list, ← natI_len l]; exact List.take_length⟩⟩
/-- columns while they are laid. -/
def clay (C : List Ct) (t a k i : Nat) : List Nat := Sp.cols C t a i ++ List.replicate (k - i) 0
theorem clay_len {C : List Ct} {t a k i : Nat} (h : i ≤ k) : (clay C t a k i).length = k + 1 := by
  unfold clay
  rw [List.length_append, Sp.cols_len, List.length_replicate]
  omega
theorem clay_at {C : List Ct} {t a k i : Nat} : (clay C t a k i)[i]? = some (Sp.col C t a i) := by
  unfold clay
  rw [List.getElem?_append_left (by rw [Sp.cols_len]; omega), Sp.cols_at (Nat.le_refl _)]
theorem clay_next {C : List Ct} {t a k i : Nat} (h : i < k) : (clay C t a k i)[i + 1]? = some 0 := by
  unfold clay
  rw [List.getElem?_append_right (by rw [Sp.cols_len]; omega), Sp.cols_len, Nat.sub_self, List.getElem?_replicate, if_pos (by omega)]
theorem clay_set {C : List Ct} {t a k i : Nat} (h : i < k) : (clay C t a k i).set (i + 1) (Sp.col C t a (i + 1)) = clay C t a k (i + 1) := by
  unfold clay
  rw [List.set_append_right _ _ (by rw [Sp.cols_len]; omega), Sp.cols_len, Nat.sub_self, Sp.cols_succ]
  obtain ⟨d, hd⟩ : ∃ d, k - i = d + 1 := ⟨k - i - 1, by omega⟩
  rw [hd, List.replicate_succ, List.set_cons_zero, show k - (i + 1) = d by omega, List.append_assoc]
  rfl
theorem clay_full {C : List Ct} {t a k : Nat} : clay C t a k k = Sp.cols C t a k := by
  unfold clay
  rw [Nat.sub_self]
  exact List.append_nil _
theorem made_zero (C : List Ct) (t a k : Nat) : madeCells #[.int .i64 0] (k + 1) = nums (clay C t a k 0) := by
  apply Array.ext_getElem?
  intro j
  by_cases hj : j < k + 1
  · rw [Array.getElem?_eq_getElem (by rw [size_madeCells]; exact hj), nums_at]
    have e : (clay C t a k 0)[j]? = some 0 := by
      unfold clay
      show ([0] ++ List.replicate (k - 0) 0)[j]? = some 0
      rw [show [0] ++ List.replicate (k - 0) 0 = List.replicate (k + 1) 0 from rfl, List.getElem?_replicate, if_pos hj]
    rw [e]
    simp [madeCells, Nat.mod_one]
  · rw [Array.getElem?_eq_none (by rw [size_madeCells]; omega), Array.getElem?_eq_none (by rw [nums_size, clay_len (Nat.zero_le _)]; omega)]
theorem col_small {C : List Ct} (h : Cok C) {t : Nat} (h0 : 0 < t) (ht : t ≤ 1000) {a k : Nat} (hk : k ≤ 100000) : Sp.col C t a k ≤ 100200000 := by
  refine Nat.le_trans (Sp.col_le C h0 h.at a k) ?_
  exact Nat.le_trans (Nat.mul_le_mul hk (show t + 2 ≤ 1002 by omega)) (by decide)
end Go.Proofs.Ytdepjmneoplicaa

