/-
  What (*auto.places).begin does.
-/
import Derived.Test.YtfbcijnacbfjpaaPlcz
import Derived.Deep.MidRow
namespace Go.Proofs.Ytfbcijnacbfjpaa
open Go.RowKit Go.Maps
set_option linter.unusedVariables false
set_option linter.unusedSimpArgs false
theorem results_row1 {P : Program} {fn : Func} {p u : Tmp} {ty : TypeId} (h : fn.results = #[.cell p ty, .tmp u]) (tmps : Array Value) (w : World) (g : Nat) (t : TypeId) (cs : Array Value) (fr : Nat × Nat) (d : TypeDesc)
    (hp : tmps.getD p undef = .pointer (some ⟨g, 0, none⟩)) (hg : w.heap[g]? = some (.cells cs t fr)) (hu : P.underlying ty = some d) (hd : (match d with | .struct _ | .array _ _ => true | _ => false) = true) (hi : (P.info? ty).map (·.size) = some cs.size)
    {y : Value} (hy : tmps.getD u undef = y) : (results fn tmps).run P w = .ok (.tuple #[.agg cs, y]) w := by
  have hp' : tmps[p]?.getD undef = .pointer (some ⟨g, 0, none⟩) := by simpa using hp
  have hy' : tmps[u]?.getD undef = y := by simpa using hy
  simp [results, h, hp', hy', asAddr, run_loadVar_row w g t ty cs fr d hg hu hd hi]
set_option maxRecDepth 100000 in
set_option maxHeartbeats 4000000 in
theorem begin2 (g : Nat) (set : Int) (a : Option Addr) (m c : Nat) (w : World) :
    Calls Try.prog 56 #[.pointer (some ⟨g, 0, none⟩), .agg #[.int .u8 2, .int .u32 set, .slice a m c]] w fun e w' => e = .returned (.tuple #[fmV 2 a m c ⟨true, 0, 0⟩, .bool true]) ∧ Only (fun _ => False) w w' := by
  go_enter Try.func56, Try.ntmps56
  go_wp2_with fail
  refine bodyPost_ret (v := .tuple #[fmV 2 a m c ⟨true, 0, 0⟩, .bool true]) (by simp [results, Try.results56, go_sem, fmV, fmC, wd_zero]) rfl ⟨rfl, ?_⟩
  exact (((Only.refl _ _).alloc _).alloc _).alloc _
set_option maxRecDepth 100000 in
set_option maxHeartbeats 4000000 in
theorem begin3 (g : Nat) (set : Int) (a : Option Addr) (m c : Nat) (w : World) :
    Calls Try.prog 56 #[.pointer (some ⟨g, 0, none⟩), .agg #[.int .u8 3, .int .u32 set, .slice a m c]] w fun e w' => e = .returned (.tuple #[fmV 3 a m c ⟨false, 0, 0⟩, .bool true]) ∧ Only (fun _ => False) w w' := by
  go_enter Try.func56, Try.ntmps56
  go_wp2_with fail
  refine bodyPost_ret (v := .tuple #[fmV 3 a m c ⟨false, 0, 0⟩, .bool true]) (by simp [results, Try.results56, go_sem, fmV, fmC, wd_zero]) rfl ⟨rfl, ?_⟩
  exact (((Only.refl _ _).alloc _).alloc _).alloc _
set_option maxRecDepth 100000 in
set_option maxHeartbeats 4000000 in
theorem beginO (g : Nat) (op : Int) (set : Int) (a : Option Addr) (m c : Nat) (w : World) (h : op < 1 ∨ 6 < op) :
    Calls Try.prog 56 #[.pointer (some ⟨g, 0, none⟩), .agg #[.int .u8 op, .int .u32 set, .slice a m c]] w fun e w' => e = .returned (.tuple #[fmV op none 0 0 ⟨true, 0, 0⟩, .bool true]) ∧ Only (fun _ => False) w w' := by
  have q1 : (op == 1) = false := by simp; omega
  have q2 : (op == 2) = false := by simp; omega
  have q3 : (op == 3) = false := by simp; omega
  have q4 : (op == 4) = false := by simp; omega
  have q5 : (op == 5) = false := by simp; omega
  have q6 : (op == 6) = false := by simp; omega
  clear h
  go_enter Try.func56, Try.ntmps56
  go_wp2_with fail
  refine bodyPost_ret (v := .tuple #[fmV op none 0 0 ⟨true, 0, 0⟩, .bool true]) (by simp [results, Try.results56, go_sem, fmV, fmC, wd_zero]) rfl ⟨rfl, ?_⟩
  exact (((Only.refl _ _).alloc _).alloc _).alloc _
end Go.Proofs.Ytfbcijnacbfjpaa
namespace Go.Proofs.Ytfbcijnacbfjpaa
open Go.RowKit Go.Maps
set_option linter.unusedVariables false
set_option linter.unusedSimpArgs false
def zF (op : Int) : Array Value := fmC op none 0 0 ⟨false, 0, 0⟩
theorem zF_eq (op : Int) : zF op = #[.int .u8 op, .slice none 0 0, .bool false, .int .u64 0, .int .u64 0, .int .u64 0, .int .u64 0, .int .u64 0, .int .u64 0, .int .u64 0, .int .u64 0] := by simp [zF, fmC, wd_zero]
theorem heap_alloc3_new (w : World) (o1 o2 o3 : Obj) : (((w.alloc o1).alloc o2).alloc o3).heap[w.heap.size + 1 + 1]? = some o3 := by
  have e : w.heap.size + 1 + 1 = ((w.alloc o1).alloc o2).heap.size := by simp
  rw [e]
  exact heap_alloc_new _ _
set_option maxRecDepth 100000 in
set_option maxHeartbeats 4000000 in
theorem begin4 (g : Nat) (set : Int) (a : Option Addr) (m c : Nat) (w : World) (hnc : m ≤ c) (hn : m ≤ maxLen) (ha : 0 < m → ∃ b off, a = some ⟨b, off, none⟩) :
    Calls Try.prog 56 #[.pointer (some ⟨g, 0, none⟩), .agg #[.int .u8 4, .int .u32 set, .slice a m c]] w fun e w' => e = .returned (.tuple #[fmV 4 a (min 1 m) c ⟨true, 0, 0⟩, .bool true]) ∧ Only (fun _ => False) w w' := by
  have HK : Hid (∀ w, Calls Try.prog 73 #[.agg #[.int .u8 4, .int .u32 set, .slice a m c]] w fun e w' => e = .returned (.slice a (min 1 m) c) ∧ Only (fun _ => False) w w') := fun w => firstKid_any 4 set a m c w hnc hn ha
  clear hnc hn ha
  generalize min 1 m = m1 at HK ⊢
  have R1 : Hid (((((w.alloc (.cells #[.int .u8 4, .int .u32 set, .slice a m c] 49)).alloc (.cells #[.int .u8 0, .slice none 0 0, .bool false, .int .u64 0, .int .u64 0, .int .u64 0, .int .u64 0, .int .u64 0, .int .u64 0, .int .u64 0, .int .u64 0] 136)).alloc (.cells #[.int .u8 4, .slice none 0 0, .bool false, .int .u64 0, .int .u64 0, .int .u64 0, .int .u64 0, .int .u64 0, .int .u64 0, .int .u64 0, .int .u64 0] 136))).heap[w.heap.size + 1]? = some (.cells (zF 0) 136 (0, 0))) := by rw [zF_eq]; exact (Below.heap_alloc _ _ _ (by simp)).trans (heap_alloc2_new _ _ _)
  have R2 : Hid (((((w.alloc (.cells #[.int .u8 4, .int .u32 set, .slice a m c] 49)).alloc (.cells #[.int .u8 0, .slice none 0 0, .bool false, .int .u64 0, .int .u64 0, .int .u64 0, .int .u64 0, .int .u64 0, .int .u64 0, .int .u64 0, .int .u64 0] 136)).alloc (.cells #[.int .u8 4, .slice none 0 0, .bool false, .int .u64 0, .int .u64 0, .int .u64 0, .int .u64 0, .int .u64 0, .int .u64 0, .int .u64 0, .int .u64 0] 136))).heap[w.heap.size + 1 + 1]? = some (.cells (zF 4) 136 (0, 0))) := by rw [zF_eq]; exact heap_alloc3_new _ _ _ _
  have O0 : Hid (Only (fun _ => False) w ((((w.alloc (.cells #[.int .u8 4, .int .u32 set, .slice a m c] 49)).alloc (.cells #[.int .u8 0, .slice none 0 0, .bool false, .int .u64 0, .int .u64 0, .int .u64 0, .int .u64 0, .int .u64 0, .int .u64 0, .int .u64 0, .int .u64 0] 136)).alloc (.cells #[.int .u8 4, .slice none 0 0, .bool false, .int .u64 0, .int .u64 0, .int .u64 0, .int .u64 0, .int .u64 0, .int .u64 0, .int .u64 0, .int .u64 0] 136)))) := (((Only.refl _ _).alloc _).alloc _).alloc _
  go_enter Try.func56, Try.ntmps56
  go_wp2_with (first | (go_at_call 73; refine (HK.out _).mono ?_; rintro e w1 ⟨rfl, ho1⟩; have k1 := (ho1.block _ (Array.getElem?_eq_some_iff.1 R1.out).1 (fun h => h)).trans R1.out; have k2 := (ho1.block _ (Array.getElem?_eq_some_iff.1 R2.out).1 (fun h => h)).trans R2.out; have HN : Hid (((w1.setCell ⟨w.heap.size + 1 + 1, 1, none⟩ (.slice a m1 c)).setCell ⟨w.heap.size + 1 + 1, 2, none⟩ (.bool true)).heap[w.heap.size + 1 + 1]? = some (.cells (fmC 4 a m1 c ⟨true, 0, 0⟩) 136 (0, 0))) := heap_setCell_at (k := 2) (heap_setCell_at (k := 1) k2 (.slice a m1 c)) (.bool true); have HN1 : Hid (((w1.setCell ⟨w.heap.size + 1 + 1, 1, none⟩ (.slice a m1 c)).setCell ⟨w.heap.size + 1 + 1, 2, none⟩ (.bool true)).heap[w.heap.size + 1]? = some (.cells (zF 0) 136 (0, 0))) := ((Below.heap_setCell _ _ _ _ (by simp)).trans ((Below.heap_setCell _ _ _ _ (by simp)).trans k1)); have HO : Hid (Only (fun g => w.heap.size ≤ g) w ((w1.setCell ⟨w.heap.size + 1 + 1, 1, none⟩ (.slice a m1 c)).setCell ⟨w.heap.size + 1 + 1, 2, none⟩ (.bool true))) := ((((O0.out.trans ho1).mono (S' := fun g => w.heap.size ≤ g) (fun _ h => h.elim)).setCell (p := ⟨w.heap.size + 1 + 1, 1, none⟩) (show w.heap.size ≤ w.heap.size + 1 + 1 by omega) _).setCell (p := ⟨w.heap.size + 1 + 1, 2, none⟩) (show w.heap.size ≤ w.heap.size + 1 + 1 by omega) _); have c1 : w1.cell? ⟨w.heap.size + 1 + 1, 1, none⟩ = some (.slice none 0 0) := cell_blk k2; have c2 : w1.cell? ⟨w.heap.size + 1 + 1, 2, none⟩ = some (.bool false) := cell_blk k2; have f1 := fz_blk k2 1; have f2 := fz_blk k2 2; clear k1 k2 ho1) | refine wpList_load_row rfl 136 _ rfl (w.heap.size + 1 + 1) rfl 136 _ (0, 0) _ HN.out Try.underlying136 rfl sz136 ?_ | refine wpList_store_rowTo rfl 136 _ _ rfl rfl (w.heap.size + 1) (fmC 4 a m1 c ⟨true, 0, 0⟩) rfl rfl 136 _ HN1.out sz136 rfl (fmC_one _ _ _ _ _) ?_)
  refine bodyPost_ret (v := .tuple #[fmV 4 a m1 c ⟨true, 0, 0⟩, .bool true]) (results_row1 (p := 4) (u := 5) rfl _ _ (w.heap.size + 1) 136 (fmC 4 a m1 c ⟨true, 0, 0⟩) (0, 0) _ rfl (heap_setRow _ _ _ _ _ _ HN1.out) Try.underlying136 rfl sz136 rfl) rfl ⟨rfl, ?_⟩
  exact (HO.out.setRow (by omega) _).old (fun _ h => Or.inl h)
set_option maxRecDepth 100000 in
set_option maxHeartbeats 4000000 in
theorem begin5 (g : Nat) (set : Int) (a : Option Addr) (m c : Nat) (w : World) (hnc : m ≤ c) (hn : m ≤ maxLen) (ha : 0 < m → ∃ b off, a = some ⟨b, off, none⟩) :
    Calls Try.prog 56 #[.pointer (some ⟨g, 0, none⟩), .agg #[.int .u8 5, .int .u32 set, .slice a m c]] w fun e w' => e = .returned (.tuple #[fmV 5 a (min 1 m) c ⟨false, 0, 0⟩, .bool true]) ∧ Only (fun _ => False) w w' := by
  have HK : Hid (∀ w, Calls Try.prog 73 #[.agg #[.int .u8 5, .int .u32 set, .slice a m c]] w fun e w' => e = .returned (.slice a (min 1 m) c) ∧ Only (fun _ => False) w w') := fun w => firstKid_any 5 set a m c w hnc hn ha
  clear hnc hn ha
  generalize min 1 m = m1 at HK ⊢
  have R1 : Hid (((((w.alloc (.cells #[.int .u8 5, .int .u32 set, .slice a m c] 49)).alloc (.cells #[.int .u8 0, .slice none 0 0, .bool false, .int .u64 0, .int .u64 0, .int .u64 0, .int .u64 0, .int .u64 0, .int .u64 0, .int .u64 0, .int .u64 0] 136)).alloc (.cells #[.int .u8 5, .slice none 0 0, .bool false, .int .u64 0, .int .u64 0, .int .u64 0, .int .u64 0, .int .u64 0, .int .u64 0, .int .u64 0, .int .u64 0] 136))).heap[w.heap.size + 1]? = some (.cells (zF 0) 136 (0, 0))) := by rw [zF_eq]; exact (Below.heap_alloc _ _ _ (by simp)).trans (heap_alloc2_new _ _ _)
  have R2 : Hid (((((w.alloc (.cells #[.int .u8 5, .int .u32 set, .slice a m c] 49)).alloc (.cells #[.int .u8 0, .slice none 0 0, .bool false, .int .u64 0, .int .u64 0, .int .u64 0, .int .u64 0, .int .u64 0, .int .u64 0, .int .u64 0, .int .u64 0] 136)).alloc (.cells #[.int .u8 5, .slice none 0 0, .bool false, .int .u64 0, .int .u64 0, .int .u64 0, .int .u64 0, .int .u64 0, .int .u64 0, .int .u64 0, .int .u64 0] 136))).heap[w.heap.size + 1 + 1]? = some (.cells (zF 5) 136 (0, 0))) := by rw [zF_eq]; exact heap_alloc3_new _ _ _ _
  have O0 : Hid (Only (fun _ => False) w ((((w.alloc (.cells #[.int .u8 5, .int .u32 set, .slice a m c] 49)).alloc (.cells #[.int .u8 0, .slice none 0 0, .bool false, .int .u64 0, .int .u64 0, .int .u64 0, .int .u64 0, .int .u64 0, .int .u64 0, .int .u64 0, .int .u64 0] 136)).alloc (.cells #[.int .u8 5, .slice none 0 0, .bool false, .int .u64 0, .int .u64 0, .int .u64 0, .int .u64 0, .int .u64 0, .int .u64 0, .int .u64 0, .int .u64 0] 136)))) := (((Only.refl _ _).alloc _).alloc _).alloc _
  go_enter Try.func56, Try.ntmps56
  go_wp2_with (first | (go_at_call 73; refine (HK.out _).mono ?_; rintro e w1 ⟨rfl, ho1⟩; have k1 := (ho1.block _ (Array.getElem?_eq_some_iff.1 R1.out).1 (fun h => h)).trans R1.out; have k2 := (ho1.block _ (Array.getElem?_eq_some_iff.1 R2.out).1 (fun h => h)).trans R2.out; have HN : Hid ((w1.setCell ⟨w.heap.size + 1 + 1, 1, none⟩ (.slice a m1 c)).heap[w.heap.size + 1 + 1]? = some (.cells (fmC 5 a m1 c ⟨false, 0, 0⟩) 136 (0, 0))) := heap_setCell_at (k := 1) k2 (.slice a m1 c); have HN1 : Hid ((w1.setCell ⟨w.heap.size + 1 + 1, 1, none⟩ (.slice a m1 c)).heap[w.heap.size + 1]? = some (.cells (zF 0) 136 (0, 0))) := ((Below.heap_setCell _ _ _ _ (by simp)).trans k1); have HO : Hid (Only (fun g => w.heap.size ≤ g) w (w1.setCell ⟨w.heap.size + 1 + 1, 1, none⟩ (.slice a m1 c))) := (((O0.out.trans ho1).mono (S' := fun g => w.heap.size ≤ g) (fun _ h => h.elim)).setCell (p := ⟨w.heap.size + 1 + 1, 1, none⟩) (show w.heap.size ≤ w.heap.size + 1 + 1 by omega) _); have c1 : w1.cell? ⟨w.heap.size + 1 + 1, 1, none⟩ = some (.slice none 0 0) := cell_blk k2; have c2 : w1.cell? ⟨w.heap.size + 1 + 1, 2, none⟩ = some (.bool false) := cell_blk k2; have f1 := fz_blk k2 1; have f2 := fz_blk k2 2; clear k1 k2 ho1) | refine wpList_load_row rfl 136 _ rfl (w.heap.size + 1 + 1) rfl 136 _ (0, 0) _ HN.out Try.underlying136 rfl sz136 ?_ | refine wpList_store_rowTo rfl 136 _ _ rfl rfl (w.heap.size + 1) (fmC 5 a m1 c ⟨false, 0, 0⟩) rfl rfl 136 _ HN1.out sz136 rfl (fmC_one _ _ _ _ _) ?_)
  refine bodyPost_ret (v := .tuple #[fmV 5 a m1 c ⟨false, 0, 0⟩, .bool true]) (results_row1 (p := 4) (u := 5) rfl _ _ (w.heap.size + 1) 136 (fmC 5 a m1 c ⟨false, 0, 0⟩) (0, 0) _ rfl (heap_setRow _ _ _ _ _ _ HN1.out) Try.underlying136 rfl sz136 rfl) rfl ⟨rfl, ?_⟩
  exact (HO.out.setRow (by omega) _).old (fun _ h => Or.inl h)
set_option maxRecDepth 100000 in
set_option maxHeartbeats 4000000 in
theorem begin6 (g : Nat) (set : Int) (a : Option Addr) (m c : Nat) (w : World) (hnc : m ≤ c) (hn : m ≤ maxLen) (ha : 0 < m → ∃ b off, a = some ⟨b, off, none⟩) :
    Calls Try.prog 56 #[.pointer (some ⟨g, 0, none⟩), .agg #[.int .u8 6, .int .u32 set, .slice a m c]] w fun e w' => e = .returned (.tuple #[fmV 6 a (min 1 m) c ⟨true, 0, 0⟩, .bool true]) ∧ Only (fun _ => False) w w' := by
  have HK : Hid (∀ w, Calls Try.prog 73 #[.agg #[.int .u8 6, .int .u32 set, .slice a m c]] w fun e w' => e = .returned (.slice a (min 1 m) c) ∧ Only (fun _ => False) w w') := fun w => firstKid_any 6 set a m c w hnc hn ha
  clear hnc hn ha
  generalize min 1 m = m1 at HK ⊢
  have R1 : Hid (((((w.alloc (.cells #[.int .u8 6, .int .u32 set, .slice a m c] 49)).alloc (.cells #[.int .u8 0, .slice none 0 0, .bool false, .int .u64 0, .int .u64 0, .int .u64 0, .int .u64 0, .int .u64 0, .int .u64 0, .int .u64 0, .int .u64 0] 136)).alloc (.cells #[.int .u8 6, .slice none 0 0, .bool false, .int .u64 0, .int .u64 0, .int .u64 0, .int .u64 0, .int .u64 0, .int .u64 0, .int .u64 0, .int .u64 0] 136))).heap[w.heap.size + 1]? = some (.cells (zF 0) 136 (0, 0))) := by rw [zF_eq]; exact (Below.heap_alloc _ _ _ (by simp)).trans (heap_alloc2_new _ _ _)
  have R2 : Hid (((((w.alloc (.cells #[.int .u8 6, .int .u32 set, .slice a m c] 49)).alloc (.cells #[.int .u8 0, .slice none 0 0, .bool false, .int .u64 0, .int .u64 0, .int .u64 0, .int .u64 0, .int .u64 0, .int .u64 0, .int .u64 0, .int .u64 0] 136)).alloc (.cells #[.int .u8 6, .slice none 0 0, .bool false, .int .u64 0, .int .u64 0, .int .u64 0, .int .u64 0, .int .u64 0, .int .u64 0, .int .u64 0, .int .u64 0] 136))).heap[w.heap.size + 1 + 1]? = some (.cells (zF 6) 136 (0, 0))) := by rw [zF_eq]; exact heap_alloc3_new _ _ _ _
  have O0 : Hid (Only (fun _ => False) w ((((w.alloc (.cells #[.int .u8 6, .int .u32 set, .slice a m c] 49)).alloc (.cells #[.int .u8 0, .slice none 0 0, .bool false, .int .u64 0, .int .u64 0, .int .u64 0, .int .u64 0, .int .u64 0, .int .u64 0, .int .u64 0, .int .u64 0] 136)).alloc (.cells #[.int .u8 6, .slice none 0 0, .bool false, .int .u64 0, .int .u64 0, .int .u64 0, .int .u64 0, .int .u64 0, .int .u64 0, .int .u64 0, .int .u64 0] 136)))) := (((Only.refl _ _).alloc _).alloc _).alloc _
  go_enter Try.func56, Try.ntmps56
  go_wp2_with (first | (go_at_call 73; refine (HK.out _).mono ?_; rintro e w1 ⟨rfl, ho1⟩; have k1 := (ho1.block _ (Array.getElem?_eq_some_iff.1 R1.out).1 (fun h => h)).trans R1.out; have k2 := (ho1.block _ (Array.getElem?_eq_some_iff.1 R2.out).1 (fun h => h)).trans R2.out; have HN : Hid (((w1.setCell ⟨w.heap.size + 1 + 1, 1, none⟩ (.slice a m1 c)).setCell ⟨w.heap.size + 1 + 1, 2, none⟩ (.bool true)).heap[w.heap.size + 1 + 1]? = some (.cells (fmC 6 a m1 c ⟨true, 0, 0⟩) 136 (0, 0))) := heap_setCell_at (k := 2) (heap_setCell_at (k := 1) k2 (.slice a m1 c)) (.bool true); have HN1 : Hid (((w1.setCell ⟨w.heap.size + 1 + 1, 1, none⟩ (.slice a m1 c)).setCell ⟨w.heap.size + 1 + 1, 2, none⟩ (.bool true)).heap[w.heap.size + 1]? = some (.cells (zF 0) 136 (0, 0))) := ((Below.heap_setCell _ _ _ _ (by simp)).trans ((Below.heap_setCell _ _ _ _ (by simp)).trans k1)); have HO : Hid (Only (fun g => w.heap.size ≤ g) w ((w1.setCell ⟨w.heap.size + 1 + 1, 1, none⟩ (.slice a m1 c)).setCell ⟨w.heap.size + 1 + 1, 2, none⟩ (.bool true))) := ((((O0.out.trans ho1).mono (S' := fun g => w.heap.size ≤ g) (fun _ h => h.elim)).setCell (p := ⟨w.heap.size + 1 + 1, 1, none⟩) (show w.heap.size ≤ w.heap.size + 1 + 1 by omega) _).setCell (p := ⟨w.heap.size + 1 + 1, 2, none⟩) (show w.heap.size ≤ w.heap.size + 1 + 1 by omega) _); have c1 : w1.cell? ⟨w.heap.size + 1 + 1, 1, none⟩ = some (.slice none 0 0) := cell_blk k2; have c2 : w1.cell? ⟨w.heap.size + 1 + 1, 2, none⟩ = some (.bool false) := cell_blk k2; have f1 := fz_blk k2 1; have f2 := fz_blk k2 2; clear k1 k2 ho1) | refine wpList_load_row rfl 136 _ rfl (w.heap.size + 1 + 1) rfl 136 _ (0, 0) _ HN.out Try.underlying136 rfl sz136 ?_ | refine wpList_store_rowTo rfl 136 _ _ rfl rfl (w.heap.size + 1) (fmC 6 a m1 c ⟨true, 0, 0⟩) rfl rfl 136 _ HN1.out sz136 rfl (fmC_one _ _ _ _ _) ?_)
  refine bodyPost_ret (v := .tuple #[fmV 6 a m1 c ⟨true, 0, 0⟩, .bool true]) (results_row1 (p := 4) (u := 5) rfl _ _ (w.heap.size + 1) 136 (fmC 6 a m1 c ⟨true, 0, 0⟩) (0, 0) _ rfl (heap_setRow _ _ _ _ _ _ HN1.out) Try.underlying136 rfl sz136 rfl) rfl ⟨rfl, ?_⟩
  exact (HO.out.setRow (by omega) _).old (fun _ h => Or.inl h)
set_option maxRecDepth 100000 in
set_option maxHeartbeats 4000000 in
theorem begin1full (g cl : Nat) (b nx : Nat → Nat) (fs : Nat) (vL : Value) (em : Nat) (set : Int) (a : Option Addr) (m c : Nat) (w : World) (hP : Plb w g cl 200 b nx fs vL em) :
    Calls Try.prog 56 #[.pointer (some ⟨g, 0, none⟩), .agg #[.int .u8 1, .int .u32 set, .slice a m c]] w fun e w' => e = .returned (.tuple #[.agg (zF 0), .bool false]) ∧ Only (fun _ => False) w w' := by
  have hlt := hP.lt
  have hlt1 : g < w.heap.size + 1 := by omega
  have hlt2 : g < w.heap.size + 1 + 1 := by omega
  have c1 : w.cell? ⟨g, 1, none⟩ = some (.int .i64 200) := hP.c1
  clear hP
  rw [zF_eq]
  go_enter Try.func56, Try.ntmps56
  go_wp2_with fail
  refine bodyPost_ret (v := .tuple #[.agg #[.int .u8 0, .slice none 0 0, .bool false, .int .u64 0, .int .u64 0, .int .u64 0, .int .u64 0, .int .u64 0, .int .u64 0, .int .u64 0, .int .u64 0], .bool false]) (by simp [results, Try.results56, go_sem]) rfl ⟨rfl, ?_⟩
  exact (((Only.refl _ _).alloc _).alloc _).alloc _
end Go.Proofs.Ytfbcijnacbfjpaa
namespace Go.Proofs.Ytfbcijnacbfjpaa
open Go.RowKit Go.Maps
set_option linter.unusedVariables false
set_option linter.unusedSimpArgs false
/-- these put in from o on. -/
def putL : List Value → Array Value → Nat → Array Value
  | [], cs, _ => cs
  | v :: r, cs, o => putL r (cs.setIfInBounds o v) (o + 1)
theorem putL_size : ∀ (vs : List Value) (cs : Array Value) (o : Nat), (putL vs cs o).size = cs.size
  | [], _, _ => rfl
  | v :: r, cs, o => by rw [putL, putL_size r, Array.size_setIfInBounds]
theorem putL_at : ∀ (vs : List Value) (cs : Array Value) (o j : Nat), o + vs.length ≤ cs.size → (putL vs cs o)[j]? = if o ≤ j ∧ j < o + vs.length then vs[j - o]? else cs[j]?
  | [], cs, o, j, _ => by rw [putL, if_neg (by simp)]
  | v :: r, cs, o, j, h => by
    simp only [List.length_cons] at h ⊢
    rw [putL, putL_at r _ (o + 1) j (by rw [Array.size_setIfInBounds]; omega), Array.getElem?_setIfInBounds]
    by_cases e : o = j
    · subst e
      rw [if_neg (by omega), if_pos rfl, if_pos (by omega), if_pos (by omega)]
      simp
    · rw [if_neg e]
      by_cases h1 : o + 1 ≤ j ∧ j < o + 1 + r.length
      · rw [if_pos h1, if_pos (by omega), show j - o = (j - (o + 1)) + 1 by omega, List.getElem?_cons_succ]
      · rw [if_neg h1, if_neg (by omega)]
theorem heap_setCells {b : Nat} {t : TypeId} {z : Nat × Nat} : ∀ (vs : List Value) (o : Nat) (w : World) (cs : Array Value), w.heap[b]? = some (.cells cs t z) → (w.setCells b o vs).heap[b]? = some (.cells (putL vs cs o) t z)
  | [], _, _, _, h => h
  | v :: r, o, w, cs, h => by rw [World.setCells, putL]; exact heap_setCells r (o + 1) _ _ (heap_setCell_at h v)
theorem Only.setCells {S : Nat → Prop} {a : World} {b : Nat} (hb : S b) : ∀ (vs : List Value) (o : Nat) (w : World), Only S a w → Only S a (w.setCells b o vs)
  | [], _, _, h => h
  | v :: r, o, w, h => by rw [World.setCells]; exact Only.setCells hb r (o + 1) _ (h.setCell (p := ⟨b, o, none⟩) hb v)
theorem setCells_other {b h : Nat} (hn : h ≠ b) : ∀ (vs : List Value) (o : Nat) (w : World), (w.setCells b o vs).heap[h]? = w.heap[h]?
  | [], _, _ => rfl
  | v :: r, o, w => by rw [World.setCells, setCells_other hn r]; exact Below.heap_setCell _ _ _ _ hn
theorem there_blk {w : World} {b : Nat} {cs : Array Value} {t : TypeId} (h : w.heap[b]? = some (.cells cs t (0, 0))) (o n : Nat) (hn : o + n ≤ cs.size) : w.there b o n := fun j hj =>
  ⟨by rw [cell_blk h, Array.getElem?_eq_getElem (by omega)]; rfl, fz_blk h _⟩
theorem wpList_store_midTo {P : Program} {ops : Array Oper} {rest : List Oper} {op : Oper} {a : Act} {w : World} {Q : Exit → Act → World → Prop} (hgd : op.guard = none) (ty : TypeId) (x y : Operand) (ho : op.op = .store ty x y)
    (hd : op.dst = none) (b o : Nat) (cells : Array Value) (hx : a.eval x = .pointer (some ⟨b, o, none⟩)) (hy : a.eval y = .agg cells)
    (ht : w.there b o cells.size) (hi : (P.info? ty).map (·.size) = some cells.size) (h1 : cells.all (·.oneCell') = true)
    (h : wpList P ops Q rest a (w.setCells b o cells.toList)) : wpList P ops Q (op :: rest) a w :=
  wpList_store_mid hgd ty x y ho b o cells hx hy ht hi h1 (by rw [hd]; exact h)
theorem wpList_store_midAny {P : Program} {ops : Array Oper} {rest : List Oper} {op : Oper} {a : Act} {w : World} {Q : Exit → Act → World → Prop} (hgd : op.guard = none) (ty : TypeId) (x y : Operand) (ho : op.op = .store ty x y)
    (hd : op.dst = none) (b o : Nat) (cells : Array Value) (hx : a.eval x = .pointer (some ⟨b, o, none⟩)) (hy : a.eval y = .agg cells)
    (t : TypeId) (cs : Array Value) (hb : w.heap[b]? = some (.cells cs t (0, 0))) (hs : o + cells.size ≤ cs.size) (hi : (P.info? ty).map (·.size) = some cells.size) (h1 : cells.all (·.oneCell') = true)
    (h : ∀ w', w'.heap[b]? = some (.cells (putL cells.toList cs o) t (0, 0)) → Only (· = b) w w' → wpList P ops Q rest a w') : wpList P ops Q (op :: rest) a w :=
  wpList_store_midTo hgd ty x y ho hd b o cells hx hy (there_blk hb _ _ hs) hi h1 (h _ (heap_setCells _ _ _ _ hb) (Only.setCells (S := (· = b)) rfl _ _ _ (Only.refl _ _)))
theorem wpList_store_rowAny {P : Program} {ops : Array Oper} {rest : List Oper} {op : Oper} {a : Act} {w : World} {Q : Exit → Act → World → Prop} (hgd : op.guard = none) (ty : TypeId) (x y : Operand) (ho : op.op = .store ty x y)
    (hd : op.dst = none) (b : Nat) (cells : Array Value) (hx : a.eval x = .pointer (some ⟨b, 0, none⟩)) (hy : a.eval y = .agg cells)
    (t : TypeId) (cs : Array Value) (hb : w.heap[b]? = some (.cells cs t (0, 0))) (hi : (P.info? ty).map (·.size) = some cells.size) (hs : cs.size = cells.size) (h1 : cells.all (·.oneCell') = true)
    (h : ∀ w', w'.heap[b]? = some (.cells cells t (0, 0)) → Only (· = b) w w' → wpList P ops Q rest a w') : wpList P ops Q (op :: rest) a w :=
  wpList_store_rowTo hgd ty x y ho hd b cells hx hy t cs hb hi hs h1 (h _ (heap_setRow _ _ _ _ _ _ hb) ((Only.refl (· = b) _).setRow rfl _))
/-- a frame from o on. -/
def HasF (cs : Array Value) (o : Nat) (op : Int) (a : Option Addr) (m c : Nat) (x : Au.Nd) : Prop := ∀ k, k < 11 → cs[o + k]? = (fmC op a m c x)[k]?
/-- as it was, but for a frame from o on. -/
def Same (cs cs' : Array Value) (o : Nat) : Prop := cs'.size = cs.size ∧ ∀ j, j < o ∨ o + 11 ≤ j → cs'[j]? = cs[j]?
theorem Same.trans {a b c : Array Value} {o : Nat} (h : Same a b o) (k : Same b c o) : Same a c o := ⟨k.1.trans h.1, fun j hj => (k.2 j hj).trans (h.2 j hj)⟩
theorem HasF.size {cs : Array Value} {o : Nat} {op : Int} {a : Option Addr} {m c : Nat} {x : Au.Nd} (h : HasF cs o op a m c x) : o + 11 ≤ cs.size := by
  have := (Array.getElem?_eq_some_iff.1 ((h 10 (by decide)).trans rfl)).1
  omega
theorem HasF.first {cs : Array Value} {o : Nat} {op : Int} {a : Option Addr} {m c : Nat} {x : Au.Nd} (h : HasF cs o op a m c x) : HasS cs (o + 3) x.first := by
  intro k hk
  rw [show o + 3 + k = o + (3 + k) by omega, h (3 + k) (by omega)]
  rcases (show k = 0 ∨ k = 1 ∨ k = 2 ∨ k = 3 by omega) with rfl | rfl | rfl | rfl <;> rfl
theorem HasF.last {cs : Array Value} {o : Nat} {op : Int} {a : Option Addr} {m c : Nat} {x : Au.Nd} (h : HasF cs o op a m c x) : HasS cs (o + 7) x.last := by
  intro k hk
  rw [show o + 7 + k = o + (7 + k) by omega, h (7 + k) (by omega)]
  rcases (show k = 0 ∨ k = 1 ∨ k = 2 ∨ k = 3 by omega) with rfl | rfl | rfl | rfl <;> rfl
theorem fmC_cases {k : Nat} (h : k < 11) : k = 0 ∨ k = 1 ∨ k = 2 ∨ k = 3 ∨ k = 4 ∨ k = 5 ∨ k = 6 ∨ k = 7 ∨ k = 8 ∨ k = 9 ∨ k = 10 := by omega
theorem HasF.setB {cs : Array Value} {o : Nat} {op : Int} {a : Option Addr} {m c : Nat} {e : Bool} {f l : Nat} (h : HasF cs o op a m c ⟨e, f, l⟩) (e' : Bool) : HasF (cs.setIfInBounds (o + 2) (.bool e')) o op a m c ⟨e', f, l⟩ ∧ Same cs (cs.setIfInBounds (o + 2) (.bool e')) o := by
  have hs := h.size
  refine ⟨fun k hk => ?_, by simp, fun j hj => ?_⟩
  · rw [Array.getElem?_setIfInBounds]
    by_cases e2 : o + 2 = o + k
    · rw [if_pos e2, if_pos (by omega)]
      obtain rfl : k = 2 := by omega
      rfl
    · rw [if_neg e2, h k hk]
      rcases fmC_cases hk with rfl | rfl | rfl | rfl | rfl | rfl | rfl | rfl | rfl | rfl | rfl <;> first | rfl | omega
  · rw [Array.getElem?_setIfInBounds, if_neg (by omega)]
theorem HasF.setSl {cs : Array Value} {o : Nat} {op : Int} {a : Option Addr} {m c : Nat} {x : Au.Nd} (h : HasF cs o op a m c x) (a' : Option Addr) (m' c' : Nat) : HasF (cs.setIfInBounds (o + 1) (.slice a' m' c')) o op a' m' c' x ∧ Same cs (cs.setIfInBounds (o + 1) (.slice a' m' c')) o := by
  have hs := h.size
  refine ⟨fun k hk => ?_, by simp, fun j hj => ?_⟩
  · rw [Array.getElem?_setIfInBounds]
    by_cases e2 : o + 1 = o + k
    · rw [if_pos e2, if_pos (by omega)]
      obtain rfl : k = 1 := by omega
      rfl
    · rw [if_neg e2, h k hk]
      rcases fmC_cases hk with rfl | rfl | rfl | rfl | rfl | rfl | rfl | rfl | rfl | rfl | rfl <;> first | rfl | omega
  · rw [Array.getElem?_setIfInBounds, if_neg (by omega)]
theorem HasF.setF {cs : Array Value} {o : Nat} {op : Int} {a : Option Addr} {m c : Nat} {e : Bool} {f l : Nat} (h : HasF cs o op a m c ⟨e, f, l⟩) (S : Nat) : HasF (inC cs (o + 3) S 4) o op a m c ⟨e, S, l⟩ ∧ Same cs (inC cs (o + 3) S 4) o := by
  have hs := h.size
  refine ⟨fun k hk => ?_, by rw [inC_size], fun j hj => ?_⟩
  · rw [inC_at _ _ _ _ _ (by omega)]
    by_cases e2 : o + 3 ≤ o + k ∧ o + k < o + 3 + 4
    · rw [if_pos e2]
      rcases fmC_cases hk with rfl | rfl | rfl | rfl | rfl | rfl | rfl | rfl | rfl | rfl | rfl <;> first | omega | (rw [show ∀ q, o + q - (o + 3) = q - 3 by omega]; rfl)
    · rw [if_neg e2, h k hk]
      rcases fmC_cases hk with rfl | rfl | rfl | rfl | rfl | rfl | rfl | rfl | rfl | rfl | rfl <;> first | rfl | omega
  · rw [inC_at _ _ _ _ _ (by omega), if_neg (by omega)]
theorem HasF.setL {cs : Array Value} {o : Nat} {op : Int} {a : Option Addr} {m c : Nat} {e : Bool} {f l : Nat} (h : HasF cs o op a m c ⟨e, f, l⟩) (S : Nat) : HasF (inC cs (o + 7) S 4) o op a m c ⟨e, f, S⟩ ∧ Same cs (inC cs (o + 7) S 4) o := by
  have hs := h.size
  refine ⟨fun k hk => ?_, by rw [inC_size], fun j hj => ?_⟩
  · rw [inC_at _ _ _ _ _ (by omega)]
    by_cases e2 : o + 7 ≤ o + k ∧ o + k < o + 7 + 4
    · rw [if_pos e2]
      rcases fmC_cases hk with rfl | rfl | rfl | rfl | rfl | rfl | rfl | rfl | rfl | rfl | rfl <;> first | omega | (rw [show ∀ q, o + q - (o + 7) = q - 7 by omega]; rfl)
    · rw [if_neg e2, h k hk]
      rcases fmC_cases hk with rfl | rfl | rfl | rfl | rfl | rfl | rfl | rfl | rfl | rfl | rfl <;> first | rfl | omega
  · rw [inC_at _ _ _ _ _ (by omega), if_neg (by omega)]
end Go.Proofs.Ytfbcijnacbfjpaa
namespace Go.Proofs.Ytfbcijnacbfjpaa
open Go.RowKit Go.Maps
set_option linter.unusedVariables false
set_option linter.unusedSimpArgs false
theorem put_pt (op : Int) (a : Option Addr) (m c : Nat) (x y : Au.Nd) : putL (ptC x).toList (fmC op a m c y) 2 = fmC op a m c x := by simp [putL, ptC, fmC]
set_option maxRecDepth 100000 in
set_option maxHeartbeats 4000000 in
theorem begin1 (g cl n : Nat) (b nx : Nat → Nat) (fs : Nat) (vL : Value) (em : Nat) (set : Int) (a : Option Addr) (m c : Nat) (w : World) (hP : Plb w g cl n b nx fs vL em) (hn : n < 200) (hcl : cl ≤ 24) (hs0 : 0 ≤ set) (hs1 : set < 4294967296) :
    Calls Try.prog 56 #[.pointer (some ⟨g, 0, none⟩), .agg #[.int .u8 1, .int .u32 set, .slice a m c]] w fun e w' => e = .returned (.tuple #[fmV 1 none 0 0 ⟨false, 2 ^ n, 2 ^ n⟩, .bool true]) ∧ Plb w' g cl (n + 1) (byk b set n cl) nx fs vL em ∧ Only (· = g) w w' := by
  have hlt := hP.lt
  have hlt1 : g < w.heap.size + 1 := by omega
  have hlt2 : g < w.heap.size + 1 + 1 := by omega
  have HP : Hid (Plb w g cl n b nx fs vL em) := hP
  have c1 := hP.c1
  have q : ((n : Int) == 200) = false := by simp; omega
  clear hP
  have R1 : Hid (((((w.alloc (.cells #[.int .u8 1, .int .u32 set, .slice a m c] 49)).alloc (.cells #[.int .u8 0, .slice none 0 0, .bool false, .int .u64 0, .int .u64 0, .int .u64 0, .int .u64 0, .int .u64 0, .int .u64 0, .int .u64 0, .int .u64 0] 136)).alloc (.cells #[.int .u8 1, .slice none 0 0, .bool false, .int .u64 0, .int .u64 0, .int .u64 0, .int .u64 0, .int .u64 0, .int .u64 0, .int .u64 0, .int .u64 0] 136))).heap[w.heap.size + 1]? = some (.cells (zF 0) 136 (0, 0))) := by rw [zF_eq]; exact (Below.heap_alloc _ _ _ (by simp)).trans (heap_alloc2_new _ _ _)
  have R2 : Hid (((((w.alloc (.cells #[.int .u8 1, .int .u32 set, .slice a m c] 49)).alloc (.cells #[.int .u8 0, .slice none 0 0, .bool false, .int .u64 0, .int .u64 0, .int .u64 0, .int .u64 0, .int .u64 0, .int .u64 0, .int .u64 0, .int .u64 0] 136)).alloc (.cells #[.int .u8 1, .slice none 0 0, .bool false, .int .u64 0, .int .u64 0, .int .u64 0, .int .u64 0, .int .u64 0, .int .u64 0, .int .u64 0, .int .u64 0] 136))).heap[w.heap.size + 1 + 1]? = some (.cells (zF 1) 136 (0, 0))) := by rw [zF_eq]; exact heap_alloc3_new _ _ _ _
  have O0 : Hid (Only (fun _ => False) w ((((w.alloc (.cells #[.int .u8 1, .int .u32 set, .slice a m c] 49)).alloc (.cells #[.int .u8 0, .slice none 0 0, .bool false, .int .u64 0, .int .u64 0, .int .u64 0, .int .u64 0, .int .u64 0, .int .u64 0, .int .u64 0, .int .u64 0] 136)).alloc (.cells #[.int .u8 1, .slice none 0 0, .bool false, .int .u64 0, .int .u64 0, .int .u64 0, .int .u64 0, .int .u64 0, .int .u64 0, .int .u64 0, .int .u64 0] 136)))) := (((Only.refl _ _).alloc _).alloc _).alloc _
  go_enter Try.func56, Try.ntmps56
  go_wp2_with fail
  go_at_call 72
  refine (plc_any g cl n b nx fs vL em set _ (HP.out.only O0.out (fun h => h)) hn hcl hs0 hs1).mono ?_
  rintro e w1 ⟨rfl, hp1, ho1⟩
  have HP1 : Hid (Plb w1 g cl (n + 1) (byk b set n cl) nx fs vL em) := hp1
  have HO1 : Hid (Only (fun h => h = g ∨ w.heap.size ≤ h) w w1) := (O0.out.mono (fun _ h => h.elim)).trans (ho1.mono (fun _ h => Or.inl h))
  have k1 := (ho1.block _ (Array.getElem?_eq_some_iff.1 R1.out).1 (by omega)).trans R1.out
  have k2 := (ho1.block _ (Array.getElem?_eq_some_iff.1 R2.out).1 (by omega)).trans R2.out
  have K1 : Hid (w1.heap[w.heap.size + 1]? = some (.cells (zF 0) 136 (0, 0))) := k1
  have K2 : Hid (w1.heap[w.heap.size + 1 + 1]? = some (.cells (zF 1) 136 (0, 0))) := k2
  clear k1 k2 ho1 hp1 R1 R2 O0 HP
  have hpt : ptV ⟨false, 2 ^ n, 2 ^ n⟩ = .agg (ptC ⟨false, 2 ^ n, 2 ^ n⟩) := rfl
  rw [hpt]
  clear hpt
  obtain ⟨X, hX⟩ : ∃ X, X = ptC ⟨false, 2 ^ n, 2 ^ n⟩ := ⟨_, rfl⟩
  obtain ⟨Y, hY⟩ : ∃ Y, Y = fmC 1 none 0 0 ⟨false, 2 ^ n, 2 ^ n⟩ := ⟨_, rfl⟩
  have HY : Hid (.agg Y = fmV 1 none 0 0 ⟨false, 2 ^ n, 2 ^ n⟩ ∧ putL X.toList (zF 1) 2 = Y ∧ X.size = 9 ∧ X.all (·.oneCell') = true ∧ Y.size = 11 ∧ Y.all (·.oneCell') = true) := by
    subst hX hY
    exact ⟨rfl, put_pt _ _ _ _ _ _, rfl, ptC_one _, rfl, fmC_one _ _ _ _ _⟩
  rw [← hX]
  clear hX hY
  have sX : Hid ((Try.prog.info? 109).map (·.size) = some X.size) := by rw [HY.out.2.2.1]; exact sz109
  have sY : Hid ((Try.prog.info? 136).map (·.size) = some Y.size) := by rw [HY.out.2.2.2.2.1]; exact sz136
  go_wp2_with (first | (refine wpList_store_midAny rfl 109 _ _ rfl rfl (w.heap.size + 1 + 1) 2 X rfl rfl 136 _ K2.out (by rw [HY.out.2.2.1]; decide) sX.out HY.out.2.2.2.1 ?_; intro w2 h2 o2; rw [HY.out.2.1] at h2; have H2 : Hid (w2.heap[w.heap.size + 1 + 1]? = some (.cells Y 136 (0, 0))) := h2; have O2 : Hid (Only (· = w.heap.size + 1 + 1) w1 w2) := o2; clear h2 o2; have HN1 : Hid (w2.heap[w.heap.size + 1]? = some (.cells (zF 0) 136 (0, 0))) := (O2.out.block _ (Array.getElem?_eq_some_iff.1 K1.out).1 (by omega)).trans K1.out) | refine wpList_load_row rfl 136 _ rfl (w.heap.size + 1 + 1) rfl 136 _ (0, 0) _ H2.out Try.underlying136 rfl sY.out ?_ | (refine wpList_store_rowAny rfl 136 _ _ rfl rfl (w.heap.size + 1) Y rfl rfl 136 _ HN1.out sY.out (by rw [HY.out.2.2.2.2.1]; rfl) HY.out.2.2.2.2.2 ?_; intro w3 h3 o3; have H3 : Hid (w3.heap[w.heap.size + 1]? = some (.cells Y 136 (0, 0))) := h3; have O3 : Hid (Only (· = w.heap.size + 1) w2 w3) := o3; clear h3 o3))
  have hO : Only (fun h => h = g ∨ w.heap.size ≤ h) w w3 := (HO1.out.trans (O2.out.mono (fun _ h => by omega))).trans (O3.out.mono (fun _ h => by omega))
  refine bodyPost_ret (v := .tuple #[fmV 1 none 0 0 ⟨false, 2 ^ n, 2 ^ n⟩, .bool true]) (by rw [← HY.out.1]; exact results_row1 (p := 4) (u := 5) rfl _ _ (w.heap.size + 1) 136 Y (0, 0) _ rfl H3.out Try.underlying136 rfl sY.out rfl) rfl ⟨rfl, (HP1.out.only O2.out (by omega)).only O3.out (by omega), hO.old (fun _ h => h.symm)⟩
end Go.Proofs.Ytfbcijnacbfjpaa
namespace Go.Proofs.Ytfbcijnacbfjpaa
open Go.RowKit Go.Maps
set_option linter.unusedVariables false
set_option linter.unusedSimpArgs false
theorem pt_first (x : Au.Nd) : HasS (ptC x) 1 x.first := by
  intro k hk
  rcases (show k = 0 ∨ k = 1 ∨ k = 2 ∨ k = 3 by omega) with rfl | rfl | rfl | rfl <;> rfl
theorem pt_last (x : Au.Nd) : HasS (ptC x) 5 x.last := by
  intro k hk
  rcases (show k = 0 ∨ k = 1 ∨ k = 2 ∨ k = 3 by omega) with rfl | rfl | rfl | rfl <;> rfl
/-- what is known of an expression, in a block of its own. -/
def Ptb (w : World) (g : Nat) (x : Au.Nd) : Prop := w.heap[g]? = some (.cells (ptC x) 109 (0, 0))
theorem Ptb.lt {w : World} {g : Nat} {x : Au.Nd} (h : Ptb w g x) : g < w.heap.size := (Array.getElem?_eq_some_iff.1 h).1
theorem Ptb.only {w w' : World} {g : Nat} {x : Au.Nd} {P : Nat → Prop} (h : Ptb w g x) (ho : Only P w w') (hn : ¬ P g) : Ptb w' g x := (ho.block g h.lt hn).trans h
theorem Ptb.f {w : World} {g : Nat} {x : Au.Nd} (h : Ptb w g x) (k : Nat) (hk : k < 4) : w.cell? ⟨g, 1 + k, none⟩ = some (.int .u64 (wd x.first k : Int)) := (cell_blk h).trans (pt_first x k hk)
theorem Ptb.l {w : World} {g : Nat} {x : Au.Nd} (h : Ptb w g x) (k : Nat) (hk : k < 4) : w.cell? ⟨g, 5 + k, none⟩ = some (.int .u64 (wd x.last k : Int)) := (cell_blk h).trans (pt_last x k hk)
/-- a frame in the middle of a block. -/
def Fb (w : World) (fb fo : Nat) (t : TypeId) (cs : Array Value) (op : Int) (a : Option Addr) (m c : Nat) (x : Au.Nd) : Prop := w.heap[fb]? = some (.cells cs t (0, 0)) ∧ HasF cs fo op a m c x
theorem Fb.lt {w : World} {fb fo : Nat} {t : TypeId} {cs : Array Value} {op : Int} {a : Option Addr} {m c : Nat} {x : Au.Nd} (h : Fb w fb fo t cs op a m c x) : fb < w.heap.size := (Array.getElem?_eq_some_iff.1 h.1).1
theorem Fb.only {w w' : World} {fb fo : Nat} {t : TypeId} {cs : Array Value} {op : Int} {a : Option Addr} {m c : Nat} {x : Au.Nd} {P : Nat → Prop} (h : Fb w fb fo t cs op a m c x) (ho : Only P w w') (hn : ¬ P fb) : Fb w' fb fo t cs op a m c x := ⟨(ho.block fb h.lt hn).trans h.1, h.2⟩
theorem Fb.c {w : World} {fb fo : Nat} {t : TypeId} {cs : Array Value} {op : Int} {a : Option Addr} {m c : Nat} {x : Au.Nd} (h : Fb w fb fo t cs op a m c x) (k : Nat) (hk : k < 11) : w.cell? ⟨fb, fo + k, none⟩ = (fmC op a m c x)[k]? := (cell_blk h.1).trans (h.2 k hk)
theorem Fb.fz {w : World} {fb fo : Nat} {t : TypeId} {cs : Array Value} {op : Int} {a : Option Addr} {m c : Nat} {x : Au.Nd} (h : Fb w fb fo t cs op a m c x) (k : Nat) : w.frozen? ⟨fb, k, none⟩ = false := fz_blk h.1 k
set_option maxRecDepth 100000 in
set_option maxHeartbeats 4000000 in
theorem take_alt (g fb fo : Nat) (t : TypeId) (cs : Array Value) (op : Int) (a : Option Addr) (m c : Nat) (y x : Au.Nd) (w : World) (hF : Fb w fb fo t cs op a m c y) (hop : op ≠ 2) :
    Calls Try.prog 58 #[.pointer (some ⟨g, 0, none⟩), .pointer (some ⟨fb, fo, none⟩), ptV x] w fun e w' => e = .returned (.tuple #[]) ∧ (∃ cs', Fb w' fb fo t cs' op a m c (Au.alt1 y x) ∧ Same cs cs' fo) ∧ Only (· = fb) w w' := by
  obtain ⟨xe, xf, xl⟩ := x
  obtain ⟨ye, yf, yl⟩ := y
  have hlt := hF.lt
  have HF : Hid (Fb w fb fo t cs op a m c ⟨ye, yf, yl⟩) := hF
  have c0 : w.cell? ⟨fb, fo, none⟩ = some (.int .u8 op) := hF.c 0 (by decide)
  have c2 : w.cell? ⟨fb, fo + 2, none⟩ = some (.bool ye) := hF.c 2 (by decide)
  have f2 := hF.fz (fo + 2)
  have q2 : (op != 2) = true := by simpa using hop
  clear hF hop
  have P0 : Hid (Ptb (w.alloc (.cells (ptC ⟨xe, xf, xl⟩) 109)) w.heap.size ⟨xe, xf, xl⟩) := heap_alloc_new _ _
  have O0 : Hid (Only (fun _ => False) w (w.alloc (.cells (ptC ⟨xe, xf, xl⟩) 109))) := (Only.refl _ _).alloc _
  unfold ptV ptC
  cases ye
  · have F0 : Hid (Fb ((w.setCell ⟨fb, fo + 2, none⟩ (.bool xe)).alloc (.cells (ptC ⟨xe, xf, xl⟩) 109)) fb fo t (cs.setIfInBounds (fo + 2) (.bool xe)) op a m c ⟨xe, yf, yl⟩) := ⟨(Below.heap_alloc _ _ _ (by simp [World.setCell]; omega)).trans (heap_setCell_at HF.out.1 _), (HF.out.2.setB xe).1⟩
    have P1 : Hid (Ptb ((w.setCell ⟨fb, fo + 2, none⟩ (.bool xe)).alloc (.cells (ptC ⟨xe, xf, xl⟩) 109)) w.heap.size ⟨xe, xf, xl⟩) := (by have := heap_alloc_new (w.setCell ⟨fb, fo + 2, none⟩ (.bool xe)) (.cells (ptC ⟨xe, xf, xl⟩) 109); rwa [show (w.setCell ⟨fb, fo + 2, none⟩ (.bool xe)).heap.size = w.heap.size by simp [World.setCell]] at this)
    have O1 : Hid (Only (· = fb) w ((w.setCell ⟨fb, fo + 2, none⟩ (.bool xe)).alloc (.cells (ptC ⟨xe, xf, xl⟩) 109))) := ((Only.refl (· = fb) _).setCell (p := ⟨fb, fo + 2, none⟩) rfl _).alloc _
    unfold ptC at F0 P1 O1
    go_enter Try.func58, Try.ntmps58
    go_wp2_with fail
    generalize (w.setCell ⟨fb, fo + 2, none⟩ (.bool xe)).alloc (.cells #[.bool xe, .int .u64 (wd xf 0 : Int), .int .u64 (wd xf 1 : Int), .int .u64 (wd xf 2 : Int), .int .u64 (wd xf 3 : Int), .int .u64 (wd xl 0 : Int), .int .u64 (wd xl 1 : Int), .int .u64 (wd xl 2 : Int), .int .u64 (wd xl 3 : Int)] 109) = W at F0 P1 O1 ⊢
    clear c0 c2 f2 O0 P0
    have k1 : W.cell? ⟨w.heap.size, 1, none⟩ = some (.int .u64 (wd xf 0 : Int)) := P1.out.f 0 (by decide)
    have k2 : W.cell? ⟨w.heap.size, 2, none⟩ = some (.int .u64 (wd xf 1 : Int)) := P1.out.f 1 (by decide)
    have k3 : W.cell? ⟨w.heap.size, 3, none⟩ = some (.int .u64 (wd xf 2 : Int)) := P1.out.f 2 (by decide)
    have k4 : W.cell? ⟨w.heap.size, 4, none⟩ = some (.int .u64 (wd xf 3 : Int)) := P1.out.f 3 (by decide)
    go_region_with (go_at_call 42; refine (add_any fb (fo + 3) yf xf _ t _ (F0.out.only ((Only.refl (fun _ => False) W).drew) (fun h => h)).1 F0.out.2.first).mono ?_; rintro e w2 ⟨rfl, hp2, ho2⟩)
    have F2 : Hid (Fb w2 fb fo t (inC (cs.setIfInBounds (fo + 2) (.bool xe)) (fo + 3) (yf ||| xf) 4) op a m c ⟨xe, yf ||| xf, yl⟩) := ⟨hp2, (F0.out.2.setF _).1⟩
    have O2 : Hid (Only (· = fb) w w2) := O1.out.drew.trans ho2
    have P2 : Hid (Ptb w2 w.heap.size ⟨xe, xf, xl⟩) := (P1.out.only ((Only.refl (fun _ => False) W).drew) (fun h => h)).only ho2 (by omega)
    clear hp2 ho2 k1 k2 k3 k4
    have k1 : w2.cell? ⟨w.heap.size, 5, none⟩ = some (.int .u64 (wd xl 0 : Int)) := P2.out.l 0 (by decide)
    have k2 : w2.cell? ⟨w.heap.size, 6, none⟩ = some (.int .u64 (wd xl 1 : Int)) := P2.out.l 1 (by decide)
    have k3 : w2.cell? ⟨w.heap.size, 7, none⟩ = some (.int .u64 (wd xl 2 : Int)) := P2.out.l 2 (by decide)
    have k4 : w2.cell? ⟨w.heap.size, 8, none⟩ = some (.int .u64 (wd xl 3 : Int)) := P2.out.l 3 (by decide)
    go_wp2_with fail
    go_region_with (go_at_call 42; refine (add_any fb (fo + 7) yl xl _ t _ (F2.out.only ((Only.refl (fun _ => False) w2).drew) (fun h => h)).1 F2.out.2.last).mono ?_; rintro e w3 ⟨rfl, hp3, ho3⟩)
    go_wp2_with fail
    refine bodyPost_ret (results_none rfl _ _ _) rfl ?_
    exact ⟨rfl, ⟨_, ⟨hp3, (F2.out.2.setL _).1⟩, ((HF.out.2.setB xe).2.trans (F0.out.2.setF _).2).trans (F2.out.2.setL _).2⟩, O2.out.drew.trans ho3⟩
  · have F0 : Hid (Fb ((w.setCell ⟨fb, fo + 2, none⟩ (.bool true)).alloc (.cells (ptC ⟨xe, xf, xl⟩) 109)) fb fo t (cs.setIfInBounds (fo + 2) (.bool true)) op a m c ⟨true, yf, yl⟩) := ⟨(Below.heap_alloc _ _ _ (by simp [World.setCell]; omega)).trans (heap_setCell_at HF.out.1 _), (HF.out.2.setB true).1⟩
    have P1 : Hid (Ptb ((w.setCell ⟨fb, fo + 2, none⟩ (.bool true)).alloc (.cells (ptC ⟨xe, xf, xl⟩) 109)) w.heap.size ⟨xe, xf, xl⟩) := (by have := heap_alloc_new (w.setCell ⟨fb, fo + 2, none⟩ (.bool true)) (.cells (ptC ⟨xe, xf, xl⟩) 109); rwa [show (w.setCell ⟨fb, fo + 2, none⟩ (.bool true)).heap.size = w.heap.size by simp [World.setCell]] at this)
    have O1 : Hid (Only (· = fb) w ((w.setCell ⟨fb, fo + 2, none⟩ (.bool true)).alloc (.cells (ptC ⟨xe, xf, xl⟩) 109))) := ((Only.refl (· = fb) _).setCell (p := ⟨fb, fo + 2, none⟩) rfl _).alloc _
    unfold ptC at F0 P1 O1
    go_enter Try.func58, Try.ntmps58
    go_wp2_with fail
    generalize (w.setCell ⟨fb, fo + 2, none⟩ (.bool true)).alloc (.cells #[.bool xe, .int .u64 (wd xf 0 : Int), .int .u64 (wd xf 1 : Int), .int .u64 (wd xf 2 : Int), .int .u64 (wd xf 3 : Int), .int .u64 (wd xl 0 : Int), .int .u64 (wd xl 1 : Int), .int .u64 (wd xl 2 : Int), .int .u64 (wd xl 3 : Int)] 109) = W at F0 P1 O1 ⊢
    clear c0 c2 f2 O0 P0
    have k1 : W.cell? ⟨w.heap.size, 1, none⟩ = some (.int .u64 (wd xf 0 : Int)) := P1.out.f 0 (by decide)
    have k2 : W.cell? ⟨w.heap.size, 2, none⟩ = some (.int .u64 (wd xf 1 : Int)) := P1.out.f 1 (by decide)
    have k3 : W.cell? ⟨w.heap.size, 3, none⟩ = some (.int .u64 (wd xf 2 : Int)) := P1.out.f 2 (by decide)
    have k4 : W.cell? ⟨w.heap.size, 4, none⟩ = some (.int .u64 (wd xf 3 : Int)) := P1.out.f 3 (by decide)
    go_region_with (go_at_call 42; refine (add_any fb (fo + 3) yf xf _ t _ (F0.out.only ((Only.refl (fun _ => False) W).drew) (fun h => h)).1 F0.out.2.first).mono ?_; rintro e w2 ⟨rfl, hp2, ho2⟩)
    have F2 : Hid (Fb w2 fb fo t (inC (cs.setIfInBounds (fo + 2) (.bool true)) (fo + 3) (yf ||| xf) 4) op a m c ⟨true, yf ||| xf, yl⟩) := ⟨hp2, (F0.out.2.setF _).1⟩
    have O2 : Hid (Only (· = fb) w w2) := O1.out.drew.trans ho2
    have P2 : Hid (Ptb w2 w.heap.size ⟨xe, xf, xl⟩) := (P1.out.only ((Only.refl (fun _ => False) W).drew) (fun h => h)).only ho2 (by omega)
    clear hp2 ho2 k1 k2 k3 k4
    have k1 : w2.cell? ⟨w.heap.size, 5, none⟩ = some (.int .u64 (wd xl 0 : Int)) := P2.out.l 0 (by decide)
    have k2 : w2.cell? ⟨w.heap.size, 6, none⟩ = some (.int .u64 (wd xl 1 : Int)) := P2.out.l 1 (by decide)
    have k3 : w2.cell? ⟨w.heap.size, 7, none⟩ = some (.int .u64 (wd xl 2 : Int)) := P2.out.l 2 (by decide)
    have k4 : w2.cell? ⟨w.heap.size, 8, none⟩ = some (.int .u64 (wd xl 3 : Int)) := P2.out.l 3 (by decide)
    go_wp2_with fail
    go_region_with (go_at_call 42; refine (add_any fb (fo + 7) yl xl _ t _ (F2.out.only ((Only.refl (fun _ => False) w2).drew) (fun h => h)).1 F2.out.2.last).mono ?_; rintro e w3 ⟨rfl, hp3, ho3⟩)
    go_wp2_with fail
    refine bodyPost_ret (results_none rfl _ _ _) rfl ?_
    exact ⟨rfl, ⟨_, ⟨hp3, (F2.out.2.setL _).1⟩, ((HF.out.2.setB true).2.trans (F0.out.2.setF _).2).trans (F2.out.2.setL _).2⟩, O2.out.drew.trans ho3⟩
end Go.Proofs.Ytfbcijnacbfjpaa
