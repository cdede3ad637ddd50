/-
  stanzahand03.Config: a way out of small numbers.
-/
import Derived.Test.YtegoadhnilmchaaVh
namespace Go.Proofs.Ytegoadhnilmchaa
open Go.RowKit Go.Maps
set_option linter.unusedVariables false
set_option linter.unusedSimpArgs false
theorem cfg_one (a b c d e : Int) (l : Nat) : (#[Value.int .i64 a, .int .i64 b, .int .u8 c, .int .i64 d, .int .i64 e, .float .f64 l].all fun x => x.oneCell') = true := by
  simp [Value.oneCell']
theorem Only.setRowNew {S : Nat → Prop} {a w : World} (h : Only S a w) {g : Nat} (hp : a.heap.size ≤ g) (cs : Array Value) : Only S a (w.setRow g cs) :=
  ⟨h.os, h.tape, h.output, by rw [setRow_size]; exact h.size, fun k hk hS => (Go.setRow_other w g k cs (by omega)).trans (h.block k hk hS)⟩
set_option maxRecDepth 100000 in
set_option maxHeartbeats 4000000 in
theorem config_any (c : Wy) (w : World) (hc : c.Ok) : Calls Try.prog 15 #[c.val] w fun e w' => e = .returned c.cg.val ∧ Only (fun _ => False) w w' := by
  obtain ⟨wi, tb, mo, hy, pr, lo⟩ := c
  obtain ⟨b0, b1, b2, b3, b4, b5⟩ := hc
  simp only at b0 b1 b2 b3 b4 b5
  unfold Wy.val Wy.cg Cg.val
  simp only
  obtain ⟨tq, htq⟩ : ∃ q, q = tb % 64 := ⟨_, rfl⟩
  obtain ⟨mq, hmq⟩ : ∃ q, q = mo % 2 := ⟨_, rfl⟩
  rw [← htq, ← hmq]
  have p1 : (tb : Int).tmod 64 = (tq : Int) := by rw [Int.tmod_eq_emod_of_nonneg (by omega)]; omega
  have p2 : (mo : Int).tmod 2 = (mq : Int) := by rw [Int.tmod_eq_emod_of_nonneg (by omega)]; omega
  have tq2 : tq < 64 := by omega
  have mq2 : mq < 2 := by omega
  clear htq hmq
  have E1 : Hid (((1 + wi : Nat) : Int) = 1 + (wi : Int) ∧ ((1 + tq : Nat) : Int) = 1 + (tq : Int)) := ⟨by omega, by omega⟩
  rw [E1.out.1, E1.out.2]
  go_enter Try.func15, Try.ntmps15
  go_upto_region 1 with fail
  obtain ⟨R, b, w0, hw0, hb, hR, H0, lRb, lb⟩ := box66 w (.int .u8 (wi : Int)) (.int .u8 (tb : Int)) (.int .u8 (mo : Int)) (.int .u16 (hy : Int)) (.int .u16 (pr : Int)) (.float .f64 lo) (.int .i64 0) (.int .i64 0) (.int .u8 0) (.int .i64 0) (.int .i64 0) (.float .f64 0) 26 35
  rw [hw0, hb, hR]
  obtain ⟨r0, r1, r2, r3, r4, r5⟩ := blk_six H0.out.1
  have lR : R < w0.heap.size := (Array.getElem?_eq_some_iff.1 H0.out.1).1
  have H1 : Hid (w.heap.size ≤ b) := lb
  clear hw0 hb hR
  go_wp2_with (refine wpList_store_row rfl 35 _ _ rfl b #[.int .i64 (1 + (wi : Int)), .int .i64 (1 + (tq : Int)), .int .u8 (mq : Int), .int .i64 (hy : Int), .int .i64 (pr : Int), .float .f64 lo] rfl rfl 35 _ H0.out.2.1 (by kernel_rfl) rfl (cfg_one _ _ _ _ _ _) ?_)
  refine bodyPost_ret (v := .agg #[.int .i64 (1 + (wi : Int)), .int .i64 (1 + (tq : Int)), .int .u8 (mq : Int), .int .i64 (hy : Int), .int .i64 (pr : Int), .float .f64 lo]) (results_cell_row rfl _ _ b 35 #[.int .i64 (1 + (wi : Int)), .int .i64 (1 + (tq : Int)), .int .u8 (mq : Int), .int .i64 (hy : Int), .int .i64 (pr : Int), .float .f64 lo] (0, 0) _ rfl (setRow_heap _ _ _ _ _ _ H0.out.2.1) Try.underlying35 rfl (by kernel_rfl)) rfl ⟨rfl, ?_⟩
  exact H0.out.2.2.setRowNew H1.out _
end Go.Proofs.Ytegoadhnilmchaa

