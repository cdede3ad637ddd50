/-
  Arguments that came in: a way in small numbers (stanzahand03.Way); stanzahand03.Config.
-/
import Derived.Test.YtegoadhnilmchaaVc
import Derived.Test.YtegoadhnilmchaaSa2
namespace Go.Proofs.Ytegoadhnilmchaa
open Go.RowKit Go.Maps Go.ChangeShapes Go.WideShapes Go.ChangeAt
set_option linter.unusedVariables false
set_option linter.unusedSimpArgs false
/-- a way, in small numbers. -/
structure Wy where
  wi : Nat
  tb : Nat
  mo : Nat
  hy : Nat
  pr : Nat
  lo : Nat
def Wy.val (c : Wy) : Value := .agg #[.int .u8 (c.wi : Int), .int .u8 (c.tb : Int), .int .u8 (c.mo : Int), .int .u16 (c.hy : Int), .int .u16 (c.pr : Int), .float .f64 c.lo]
def Wy.Ok (c : Wy) : Prop := c.wi ≤ 255 ∧ c.tb ≤ 255 ∧ c.mo ≤ 255 ∧ c.hy ≤ 65535 ∧ c.pr ≤ 65535 ∧ c.lo < 18446744073709551616
theorem uWay : ∃ f0 f1 f2 f3 f4 f5 : Field, Try.prog.underlying 26 = some (.struct #[f0, f1, f2, f3, f4, f5]) ∧ f0.type = 5 ∧ f1.type = 5 ∧ f2.type = 5 ∧ f3.type = 23 ∧ f4.type = 23 ∧ f5.type = 24 ∧ f0.offset = 0 ∧ f1.offset = 1 ∧ f2.offset = 2 ∧ f3.offset = 3 ∧ f4.offset = 4 ∧ f5.offset = 5 := ⟨_, _, _, _, _, _, Try.underlying26, rfl, rfl, rfl, rfl, rfl, rfl, rfl, rfl, rfl, rfl, rfl, rfl⟩
set_option maxRecDepth 100000 in
theorem way_view {H : Type} {enc : TypeId × Value → H} {W : World} {v : Value} {d : DataW H} {p : List MemPlace} {b0 : Nat} (hv : Value.okWide Try.prog W .any b0 26 v)
    (h : DataW.Trod enc Try.prog W 0 (fun _ => true) true 26 v d p) : ∃ c : Wy, v = c.val ∧ c.Ok := by
  obtain ⟨cs, rfl, hsz⟩ := okWide_struct Try.underlying26 hv
  have c6 : Try.prog.cellsOf 26 = 6 := by kernel_rfl
  have c5 : Try.prog.cellsOf 5 = 1 := by kernel_rfl
  have cm : Try.prog.cellsOf 23 = 1 := by kernel_rfl
  have cf : Try.prog.cellsOf 24 = 1 := by kernel_rfl
  rw [c6] at hsz
  obtain ⟨fuel, hf⟩ := h
  obtain ⟨f0, f1, f2, f3, f4, f5, hu, t0, t1, t2, t3, t4, t5, o0, o1, o2, o3, o4, o5⟩ := uWay
  obtain ⟨y0, y1, y2, y3, y4, y5, n, g0, g1, g2, g3, g4, g5⟩ := trod_struct6 hu hf
  rw [t0, o0, c5] at g0
  rw [t1, o1, c5] at g1
  rw [t2, o2, c5] at g2
  rw [t3, o3, cm] at g3
  rw [t4, o4, cm] at g4
  rw [t5, o5, cf] at g5
  obtain ⟨L⟩ := cs
  match L, hsz with
  | [v0, v1, v2, v3, v4, v5], _ =>
    obtain ⟨n0, e0, _, w0⟩ := DataW.trod_int Try.underlying5 g0
    obtain ⟨n1, e1, _, w1⟩ := DataW.trod_int Try.underlying5 g1
    obtain ⟨n2, e2, _, w2⟩ := DataW.trod_int Try.underlying5 g2
    obtain ⟨n3, e3, _, w3⟩ := DataW.trod_int Try.underlying23 g3
    obtain ⟨n4, e4, _, w4⟩ := DataW.trod_int Try.underlying23 g4
    obtain ⟨n5, e5, w5⟩ := trod_float (v := v5) Try.underlying24 g5
    simp [Value.cells] at e0 e1 e2 e3 e4
    subst e0 e1 e2 e3 e4 e5
    have b0 := wf_u8 w0
    have b1 := wf_u8 w1
    have b2 := wf_u8 w2
    have b3 := wf_u16 w3
    have b4 := wf_u16 w4
    refine ⟨⟨n0.toNat, n1.toNat, n2.toNat, n3.toNat, n4.toNat, n5⟩, ?_, by show n0.toNat ≤ 255; omega, by show n1.toNat ≤ 255; omega, by show n2.toNat ≤ 255; omega, by show n3.toNat ≤ 65535; omega, by show n4.toNat ≤ 65535; omega, wf_f64 w5⟩
    have z0 : ((n0.toNat : Nat) : Int) = n0 := by omega
    have z1 : ((n1.toNat : Nat) : Int) = n1 := by omega
    have z2 : ((n2.toNat : Nat) : Int) = n2 := by omega
    have z3 : ((n3.toNat : Nat) : Int) = n3 := by omega
    have z4 : ((n4.toNat : Nat) : Int) = n4 := by omega
    unfold Wy.val
    simp only [z0, z1, z2, z3, z4]
/-- a way as layers 14 to 18 are handed it. -/
structure Cg where
  wi : Nat
  tb : Nat
  mo : Nat
  hy : Nat
  pr : Nat
  lo : Nat
abbrev Cg.val (c : Cg) : Value := .agg #[.int .i64 (c.wi : Int), .int .i64 (c.tb : Int), .int .u8 (c.mo : Int), .int .i64 (c.hy : Int), .int .i64 (c.pr : Int), .float .f64 c.lo]
structure Cg.Ok (c : Cg) : Prop where
  w0 : 1 ≤ c.wi
  w1 : c.wi ≤ 1048576
  t0 : 0 < c.tb
  t1 : c.tb ≤ 1000
  m1 : c.mo ≤ 1
  h1 : c.hy ≤ 1048576
  p1 : c.pr ≤ 1048576
  l1 : c.lo < 18446744073709551616
def Wy.cg (c : Wy) : Cg := ⟨1 + c.wi, 1 + c.tb % 64, c.mo % 2, c.hy, c.pr, c.lo⟩
theorem Wy.cg_ok {c : Wy} (h : c.Ok) : c.cg.Ok := by
  obtain ⟨h1, h2, h3, h4, h5, h6⟩ := h
  refine ⟨?_, ?_, ?_, ?_, ?_, ?_, ?_, h6⟩ <;> unfold Wy.cg <;> simp only <;> omega
theorem wrap_sm (x : Int) (h0 : 0 ≤ x) (h1 : x < 2 ^ 63) : IntKind.i64.wrap x = x := by
  simp only [IntKind.wrap, IntKind.bits, IntKind.signed]
  simp
  omega
theorem box66 (w : World) (v0 v1 v2 v3 v4 v5 u0 u1 u2 u3 u4 u5 : Value) (t t' : TypeId) : ∃ R b w1, (w.alloc (.cells #[v0, v1, v2, v3, v4, v5] t)).alloc (.cells #[u0, u1, u2, u3, u4, u5] t') = w1 ∧ w.heap.size + 1 = b ∧ w.heap.size = R ∧ Hid (w1.heap[R]? = some (.cells #[v0, v1, v2, v3, v4, v5] t (0, 0)) ∧ w1.heap[b]? = some (.cells #[u0, u1, u2, u3, u4, u5] t' (0, 0)) ∧ Only (fun _ => False) w w1) ∧ R < b ∧ w.heap.size ≤ b :=
  ⟨_, _, _, rfl, rfl, rfl, ⟨bx_made w _ _, heap_alloc2_new w _ _, ((Only.refl _ _).alloc _).alloc _⟩, Nat.lt_succ_self _, Nat.le_succ _⟩
theorem blk_six {w : World} {R : Nat} {t : TypeId} {v0 v1 v2 v3 v4 v5 : Value} (h : w.heap[R]? = some (.cells #[v0, v1, v2, v3, v4, v5] t (0, 0))) : w.cell? ⟨R, 0, none⟩ = some v0 ∧ w.cell? ⟨R, 1, none⟩ = some v1 ∧ w.cell? ⟨R, 2, none⟩ = some v2 ∧ w.cell? ⟨R, 3, none⟩ = some v3 ∧ w.cell? ⟨R, 4, none⟩ = some v4 ∧ w.cell? ⟨R, 5, none⟩ = some v5 := ⟨cell_blk h, cell_blk h, cell_blk h, cell_blk h, cell_blk h, cell_blk h⟩
theorem box6 (w : World) (v0 v1 v2 v3 v4 v5 : Value) (t : TypeId) : ∃ R w0, w.alloc (.cells #[v0, v1, v2, v3, v4, v5] t) = w0 ∧ w.heap.size = R ∧ Hid (w0.heap[R]? = some (.cells #[v0, v1, v2, v3, v4, v5] t (0, 0)) ∧ Only (fun _ => False) w w0 ∧ R = w.heap.size) ∧ R < w0.heap.size :=
  ⟨_, _, rfl, rfl, ⟨heap_alloc_new w _, (Only.refl _ _).alloc _, rfl⟩, by rw [size_alloc1]; exact Nat.lt_succ_self _⟩
end Go.Proofs.Ytegoadhnilmchaa

