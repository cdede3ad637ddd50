/-
  (*auto.places).begin at a place.
-/
import Derived.Test.YtfbcijnacbfjpaaMid
namespace Go.Proofs.Ytfbcijnacbfjpaa
open Go.RowKit Go.Maps
set_option linter.unusedVariables false
set_option linter.unusedSimpArgs false
theorem put_pt (op : Int) (a : Option Addr) (m c : Nat) (x y : Au.Nd) : putL (ptC x).toList (fmC op a m c y) 2 = fmC op a m c x := by simp [putL, ptC, fmC]
set_option maxRecDepth 100000 in
set_option maxHeartbeats 4000000 in
theorem begin1 (g cl n : Nat) (b nx : Nat → Nat) (fs : Nat) (vL : Value) (em : Nat) (set : Int) (a : Option Addr) (m c : Nat) (w : World) (hP : Plb w g cl n b nx fs vL em) (hn : n < 200) (hcl : cl ≤ 24) (hs0 : 0 ≤ set) (hs1 : set < 4294967296) :
    Calls Try.prog 56 #[.pointer (some ⟨g, 0, none⟩), .agg #[.int .u8 1, .int .u32 set, .slice a m c]] w fun e w' => e = .returned (.tuple #[fmV 1 none 0 0 ⟨false, 2 ^ n, 2 ^ n⟩, .bool true]) ∧ Plb w' g cl (n + 1) (byk b set n cl) nx fs vL em ∧ Only (· = g) w w' := by
  have hlt := hP.lt
  have hlt1 : g < w.heap.size + 1 := by omega
  have hlt2 : g < w.heap.size + 1 + 1 := by omega
  have HP : Hid (Plb w g cl n b nx fs vL em) := hP
  have c1 := hP.c1
  have q : ((n : Int) == 200) = false := by simp; omega
  clear hP
  have R1 : Hid (((((w.alloc (.cells #[.int .u8 1, .int .u32 set, .slice a m c] 49)).alloc (.cells #[.int .u8 0, .slice none 0 0, .bool false, .int .u64 0, .int .u64 0, .int .u64 0, .int .u64 0, .int .u64 0, .int .u64 0, .int .u64 0, .int .u64 0] 136)).alloc (.cells #[.int .u8 1, .slice none 0 0, .bool false, .int .u64 0, .int .u64 0, .int .u64 0, .int .u64 0, .int .u64 0, .int .u64 0, .int .u64 0, .int .u64 0] 136))).heap[w.heap.size + 1]? = some (.cells (zF 0) 136 (0, 0))) := by rw [zF_eq]; exact (Below.heap_alloc _ _ _ (by simp)).trans (heap_alloc2_new _ _ _)
  have R2 : Hid (((((w.alloc (.cells #[.int .u8 1, .int .u32 set, .slice a m c] 49)).alloc (.cells #[.int .u8 0, .slice none 0 0, .bool false, .int .u64 0, .int .u64 0, .int .u64 0, .int .u64 0, .int .u64 0, .int .u64 0, .int .u64 0, .int .u64 0] 136)).alloc (.cells #[.int .u8 1, .slice none 0 0, .bool false, .int .u64 0, .int .u64 0, .int .u64 0, .int .u64 0, .int .u64 0, .int .u64 0, .int .u64 0, .int .u64 0] 136))).heap[w.heap.size + 1 + 1]? = some (.cells (zF 1) 136 (0, 0))) := by rw [zF_eq]; exact heap_alloc3_new _ _ _ _
  have O0 : Hid (Only (fun _ => False) w ((((w.alloc (.cells #[.int .u8 1, .int .u32 set, .slice a m c] 49)).alloc (.cells #[.int .u8 0, .slice none 0 0, .bool false, .int .u64 0, .int .u64 0, .int .u64 0, .int .u64 0, .int .u64 0, .int .u64 0, .int .u64 0, .int .u64 0] 136)).alloc (.cells #[.int .u8 1, .slice none 0 0, .bool false, .int .u64 0, .int .u64 0, .int .u64 0, .int .u64 0, .int .u64 0, .int .u64 0, .int .u64 0, .int .u64 0] 136)))) := (((Only.refl _ _).alloc _).alloc _).alloc _
  go_enter Try.func56, Try.ntmps56
  go_wp2_with fail
  go_at_call 72
  refine (plc_any g cl n b nx fs vL em set _ (HP.out.only O0.out (fun h => h)) hn hcl hs0 hs1).mono ?_
  rintro e w1 ⟨rfl, hp1, ho1⟩
  have HP1 : Hid (Plb w1 g cl (n + 1) (byk b set n cl) nx fs vL em) := hp1
  have HO1 : Hid (Only (fun h => h = g ∨ w.heap.size ≤ h) w w1) := (O0.out.mono (fun _ h => h.elim)).trans (ho1.mono (fun _ h => Or.inl h))
  have k1 := (ho1.block _ (Array.getElem?_eq_some_iff.1 R1.out).1 (by omega)).trans R1.out
  have k2 := (ho1.block _ (Array.getElem?_eq_some_iff.1 R2.out).1 (by omega)).trans R2.out
  have K1 : Hid (w1.heap[w.heap.size + 1]? = some (.cells (zF 0) 136 (0, 0))) := k1
  have K2 : Hid (w1.heap[w.heap.size + 1 + 1]? = some (.cells (zF 1) 136 (0, 0))) := k2
  clear k1 k2 ho1 hp1 R1 R2 O0 HP
  have hpt : ptV ⟨false, 2 ^ n, 2 ^ n⟩ = .agg (ptC ⟨false, 2 ^ n, 2 ^ n⟩) := rfl
  rw [hpt]
  clear hpt
  obtain ⟨X, hX⟩ : ∃ X, X = ptC ⟨false, 2 ^ n, 2 ^ n⟩ := ⟨_, rfl⟩
  obtain ⟨Y, hY⟩ : ∃ Y, Y = fmC 1 none 0 0 ⟨false, 2 ^ n, 2 ^ n⟩ := ⟨_, rfl⟩
  have HY : Hid (.agg Y = fmV 1 none 0 0 ⟨false, 2 ^ n, 2 ^ n⟩ ∧ putL X.toList (zF 1) 2 = Y ∧ X.size = 9 ∧ X.all (·.oneCell') = true ∧ Y.size = 11 ∧ Y.all (·.oneCell') = true) := by
    subst hX hY
    exact ⟨rfl, put_pt _ _ _ _ _ _, rfl, ptC_one _, rfl, fmC_one _ _ _ _ _⟩
  rw [← hX]
  clear hX hY
  have sX : Hid ((Try.prog.info? 109).map (·.size) = some X.size) := by rw [HY.out.2.2.1]; exact sz109
  have sY : Hid ((Try.prog.info? 136).map (·.size) = some Y.size) := by rw [HY.out.2.2.2.2.1]; exact sz136
  go_wp2_with (first | (refine wpList_store_midAny rfl 109 _ _ rfl rfl (w.heap.size + 1 + 1) 2 X rfl rfl 136 _ K2.out (by rw [HY.out.2.2.1]; decide) sX.out HY.out.2.2.2.1 ?_; intro w2 h2 o2; rw [HY.out.2.1] at h2; have H2 : Hid (w2.heap[w.heap.size + 1 + 1]? = some (.cells Y 136 (0, 0))) := h2; have O2 : Hid (Only (· = w.heap.size + 1 + 1) w1 w2) := o2; clear h2 o2; have HN1 : Hid (w2.heap[w.heap.size + 1]? = some (.cells (zF 0) 136 (0, 0))) := (O2.out.block _ (Array.getElem?_eq_some_iff.1 K1.out).1 (by omega)).trans K1.out) | refine wpList_load_row rfl 136 _ rfl (w.heap.size + 1 + 1) rfl 136 _ (0, 0) _ H2.out Try.underlying136 rfl sY.out ?_ | (refine wpList_store_rowAny rfl 136 _ _ rfl rfl (w.heap.size + 1) Y rfl rfl 136 _ HN1.out sY.out (by rw [HY.out.2.2.2.2.1]; rfl) HY.out.2.2.2.2.2 ?_; intro w3 h3 o3; have H3 : Hid (w3.heap[w.heap.size + 1]? = some (.cells Y 136 (0, 0))) := h3; have O3 : Hid (Only (· = w.heap.size + 1) w2 w3) := o3; clear h3 o3))
  have hO : Only (fun h => h = g ∨ w.heap.size ≤ h) w w3 := (HO1.out.trans (O2.out.mono (fun _ h => by omega))).trans (O3.out.mono (fun _ h => by omega))
  refine bodyPost_ret (v := .tuple #[fmV 1 none 0 0 ⟨false, 2 ^ n, 2 ^ n⟩, .bool true]) (by rw [← HY.out.1]; exact results_row1 (p := 4) (u := 5) rfl _ _ (w.heap.size + 1) 136 Y (0, 0) _ rfl H3.out Try.underlying136 rfl sY.out rfl) rfl ⟨rfl, (HP1.out.only O2.out (by omega)).only O3.out (by omega), hO.old (fun _ h => h.symm)⟩
end Go.Proofs.Ytfbcijnacbfjpaa
