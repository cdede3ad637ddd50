/-
  slices.Repeat of one number: -1, so many times.
-/
import Derived.Test.YtelifjeppegcmaaWy
import Derived.Laws.CopyRow
namespace Go.Proofs.Ytelifjeppegcmaa
open Go.RowKit Go.Maps
set_option linter.unusedVariables false
set_option linter.unusedSimpArgs false
theorem and32 (n : Nat) (h : n < 4294967296) : bits .and .u64 (n : Int) 4294967295 = (n : Int) := by
  have h127 : (BitVec.ofInt 64 4294967295).toNat = 2 ^ 32 - 1 := by decide
  have key : (BitVec.ofInt 64 n &&& BitVec.ofInt 64 4294967295).toNat = ((n : Int) % ((2 ^ 64 : Nat) : Int)).toNat % 2 ^ 32 := by
    rw [BitVec.toNat_and, BitVec.toNat_ofInt, h127, Nat.and_two_pow_sub_one_eq_mod]
  show IntKind.u64.wrap ((BitVec.ofInt 64 n &&& BitVec.ofInt 64 4294967295).toNat : Nat) = (n : Int)
  rw [key, IntKind.wrap_u64]
  omega
set_option maxRecDepth 100000 in
set_option maxHeartbeats 2000000 in
theorem mul64_one (n : Nat) (w : World) (hn : n ≤ 100000) : Calls Try.prog 41 #[.int .u64 1, .int .u64 (n : Int)] w fun e w' => e = .returned (.tuple #[.int .u64 0, .int .u64 (n : Int)]) ∧ w = w' := by
  have b1 : bits .and .u64 1 4294967295 = 1 := by decide
  have b2 : bits .and .u64 (n : Int) 4294967295 = (n : Int) := and32 n (by omega)
  have b3 : (n : Int) / 4294967296 = 0 := by omega
  have b4 : IntKind.u64.wrap (n : Int) = (n : Int) := by rw [IntKind.wrap_u64]; omega
  have b5 : bits .and .u64 0 4294967295 = 0 := by decide
  go_enter Try.func41, Try.ntmps41
  go_wp2_with fail
  go_ret2
  exact ⟨rfl, rfl⟩
set_option maxRecDepth 100000 in
set_option maxHeartbeats 2000000 in
theorem mul_one (n : Nat) (w : World) (hn : n ≤ 100000) : Calls Try.prog 31 #[.int .u64 1, .int .u64 (n : Int)] w fun e w' => e = .returned (.tuple #[.int .u64 0, .int .u64 (n : Int)]) ∧ w = w' := by
  go_enter Try.func31, Try.ntmps31
  go_wp2_with (go_at_call 41; refine (mul64_one n _ hn).mono ?_; rintro e w' ⟨rfl, rfl⟩)
  go_ret2
  exact ⟨rfl, rfl⟩
/-- the first k are -1, the others 0. -/
def rpV (k j : Nat) : Value := if j < k then .int .i64 (-1) else .int .i64 0
theorem rp_list (n k : Nat) : (rowOf n (rpV k)).toList = (List.range n).map (rpV k) := by simp [rowOf]
theorem rp_copy (n k q : Nat) (hk : k ≤ n) (hq : q = Nat.min k (n - k)) : ((rowOf n (rpV k)).toList.take k ++ List.replicate q (Value.int .i64 (-1)) ++ (rowOf n (rpV k)).toList.drop (k + q)).toArray = rowOf n (rpV (k + q)) := by
  have hqn : k + q ≤ n := by rw [hq]; have : Nat.min k (n - k) ≤ n - k := Nat.min_le_right _ _; omega
  apply Array.ext_getElem?
  intro j
  rw [rp_list, List.getElem?_toArray]
  by_cases h1 : j < n
  · rw [rowOf_at _ h1]
    by_cases h2 : j < k
    · rw [List.append_assoc, List.getElem?_append_left (by simp; omega), List.getElem?_take, if_pos h2, List.getElem?_map, List.getElem?_range h1]
      unfold rpV
      simp [h2]
      omega
    · by_cases h3 : j < k + q
      · rw [List.append_assoc, List.getElem?_append_right (by simp; omega), List.getElem?_append_left (by simp; omega), List.getElem?_replicate, if_pos (by simp; omega)]
        unfold rpV
        rw [if_pos h3]
      · rw [List.append_assoc, List.getElem?_append_right (by simp; omega), List.getElem?_append_right (by simp; omega), List.getElem?_drop, List.getElem?_map]
        simp only [List.length_take, List.length_map, List.length_range, List.length_replicate]
        rw [show k + q + (j - min k n - q) = j by omega, List.getElem?_range h1]
        unfold rpV
        simp [h2, h3]
  · rw [List.getElem?_eq_none (by simp; omega), Array.getElem?_eq_none (by rw [rowOf_size]; omega)]
theorem size3b : (Try.prog.info? 3).map (·.size) = some 1 := by kernel_rfl
theorem rp_run (W : World) (nB n k q : Nat) (hk : k ≤ n) (h1 : 0 < k) (hq : q = Nat.min k (n - k)) (hb : W.heap[nB]? = some (.cells (rowOf n (rpV k)) 3 (0, 0))) : (Builtin.copy_ #[23, 23] 3 #[.slice (some ⟨nB, k, none⟩) (n - k) (n - k), .slice (some ⟨nB, 0, none⟩) k n]).run Try.prog W = .ok (.int .i64 (q : Int)) (W.setRow nB (rowOf n (rpV (k + q)))) := by
  have hqk : q ≤ k := by rw [hq]; exact Nat.min_le_left _ _
  have hqn : k + q ≤ n := by rw [hq]; have : Nat.min k (n - k) ≤ n - k := Nat.min_le_right _ _; omega
  have h := run_copy_row (P := Try.prog) W 23 23 3 3 nB k (n - k) (n - k) ⟨nB, 0, none⟩ k n (rowOf n (rpV k)) 3 (List.replicate q (.int .i64 (-1))) Try.underlying23 size3b hb (by simp [hq]) (fun j v hj => ?_) (by simp [rowOf_size]; omega) (fun v hv => by rw [List.eq_of_mem_replicate hv]; rfl)
  · rw [h, List.length_replicate, rp_copy n k q hk hq]
    rfl
  · have hjl := (List.getElem?_eq_some_iff.1 hj).1
    simp at hjl
    rw [List.getElem?_replicate, if_pos hjl] at hj
    injection hj with hj
    subst hj
    rw [Addr.add_mid, Nat.zero_add, cell_blk hb, rowOf_at _ (by omega)]
    unfold rpV
    rw [if_pos (by omega)]
theorem rp_first (W : World) (nB n b : Nat) (h0 : 0 < n) (hx : W.cell? ⟨b, 0, none⟩ = some (.int .i64 (-1))) (hb : W.heap[nB]? = some (.cells (rowOf n (rpV 0)) 3 (0, 0))) : (Builtin.copy_ #[23, 23] 3 #[.slice (some ⟨nB, 0, none⟩) n n, .slice (some ⟨b, 0, none⟩) 1 1]).run Try.prog W = .ok (.int .i64 1) (W.setRow nB (rowOf n (rpV 1))) := by
  have h := run_copy_row (P := Try.prog) W 23 23 3 3 nB 0 n n ⟨b, 0, none⟩ 1 1 (rowOf n (rpV 0)) 3 [.int .i64 (-1)] Try.underlying23 size3b hb (by simp [Nat.min_def]; omega) (fun j v hj => ?_) (by simp [rowOf_size]; omega) (fun v hv => by simp at hv; subst hv; rfl)
  · rw [h]
    congr 2
    apply Array.ext_getElem?
    intro j
    rw [rp_list, List.getElem?_toArray]
    by_cases h1 : j < n
    · rw [rowOf_at _ h1]
      by_cases h2 : j = 0
      · subst h2
        rfl
      · simp only [List.take_zero, List.nil_append, List.length_singleton]
        rw [List.getElem?_append_right (by simp; omega), List.getElem?_drop, List.getElem?_map]
        simp only [List.length_singleton]
        rw [show 0 + 1 + (j - 1) = j by omega, List.getElem?_range h1]
        unfold rpV
        simp
        exact h2
    · rw [List.getElem?_eq_none (by simp; omega), Array.getElem?_eq_none (by rw [rowOf_size]; omega)]
  · have hjl := (List.getElem?_eq_some_iff.1 hj).1
    obtain rfl : j = 0 := by simpa using hjl
    injection hj with hj
    subst hj
    rw [Addr.add_mid]
    exact hx
theorem setRow_blk {W : World} {nB : Nat} {cs X : Array Value} {t : TypeId} (hb : W.heap[nB]? = some (.cells cs t (0, 0))) : (W.setRow nB X).heap[nB]? = some (.cells X t (0, 0)) := setRow_heap _ _ _ _ t _ hb
theorem setRow_only (W : World) (nB : Nat) (X : Array Value) : Only (fun b => b = nB) W (W.setRow nB X) := ⟨rfl, rfl, rfl, by simp [World.setRow], fun k hk hn => Go.setRow_other _ _ _ _ hn⟩
theorem made_rp (n : Nat) : madeCells #[.int .i64 0] n = rowOf n (rpV 0) := by
  apply Array.ext
  · simp [rowOf, size_madeCells]
  · intro i h1 h2
    simp [madeCells, rowOf, rpV, Nat.mod_one]
end Go.Proofs.Ytelifjeppegcmaa
