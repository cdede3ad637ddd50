/-
  Arguments that came in: a way; small numbers.
-/
import Derived.Test.YtegoadhnilmchaaVg
import Derived.Laws.Cover2
namespace Go.Proofs.Ytegoadhnilmchaa
open Go.RowKit Go.Maps Go.ChangeShapes Go.WideShapes Go.ChangeAt
set_option linter.unusedVariables false
set_option linter.unusedSimpArgs false
theorem laidOut : laidOutB Try.prog = true := by kernel_rfl
theorem below_only {w w' : World} (h : Only (fun _ => False) w w') : Below w.heap.size w w' := h.below (Nat.le_refl _) (fun _ h => h.elim)
theorem wf_u16 {n : Int} (h : (Lit.int .u16 n).wf = true) : 0 ≤ n ∧ n ≤ 65535 := by
  have := range_u16 (zs := [n]) (fun m hm => by simp at hm; subst hm; exact h) 0
  simpa using this
theorem trod_float {H : Type} {enc : TypeId × Value → H} {P : Program} {w : World} {base : Nat} {spare : Nat → Bool} {held : Bool} {t : TypeId} {k : FloatKind} {fuel : Nat} {v : Value} {x : DataW H × List MemPlace} (ht : P.underlying t = some (.float k)) (h : DataW.trod enc P w base spare held fuel t [v] = some x) : ∃ b, v = .float k b ∧ (Lit.float k b).wf = true := by
  cases fuel with
  | zero => simp [DataW.trod] at h
  | succ n =>
    cases v <;> simp [DataW.trod, ht] at h
    rename_i k' b
    obtain ⟨⟨h1, h2⟩, _⟩ := h
    first | (subst h1; exact ⟨b, rfl, h2⟩) | (subst h2; exact ⟨b, rfl, h1⟩)
theorem trod_struct6 {H : Type} {enc : TypeId × Value → H} {P : Program} {w : World} {base : Nat} {spare : Nat → Bool} {held : Bool} {t : TypeId} {f0 f1 f2 f3 f4 f5 : Field} {fuel : Nat} {cs : List Value} {x : DataW H × List MemPlace} (ht : P.underlying t = some (.struct #[f0, f1, f2, f3, f4, f5])) (h : DataW.trod enc P w base spare held fuel t cs = some x) :
    ∃ y0 y1 y2 y3 y4 y5 n, DataW.trod enc P w base spare held n f0.type ((cs.drop f0.offset).take (P.cellsOf f0.type)) = some y0 ∧
      DataW.trod enc P w base spare held n f1.type ((cs.drop f1.offset).take (P.cellsOf f1.type)) = some y1 ∧ DataW.trod enc P w base spare held n f2.type ((cs.drop f2.offset).take (P.cellsOf f2.type)) = some y2 ∧ DataW.trod enc P w base spare held n f3.type ((cs.drop f3.offset).take (P.cellsOf f3.type)) = some y3 ∧ DataW.trod enc P w base spare held n f4.type ((cs.drop f4.offset).take (P.cellsOf f4.type)) = some y4 ∧ DataW.trod enc P w base spare held n f5.type ((cs.drop f5.offset).take (P.cellsOf f5.type)) = some y5 := by
  obtain ⟨xs, n, _, rfl, hl, hlen, hf⟩ := DataW.trod_struct ht h
  match xs, hlen with
  | [y0, y1, y2, y3, y4, y5], _ => exact ⟨y0, y1, y2, y3, y4, y5, n, by simpa using hf 0 f0 rfl, by simpa using hf 1 f1 rfl, by simpa using hf 2 f2 rfl, by simpa using hf 3 f3 rfl, by simpa using hf 4 f4 rfl, by simpa using hf 5 f5 rfl⟩
/-- a way: its numbers; how loose, as bits. -/
structure Cfg where
  wi : Int
  tb : Int
  mo : Nat
  hy : Int
  pr : Int
  lo : Nat
def Cfg.val (c : Cfg) : Value := .agg #[.int .i64 c.wi, .int .i64 c.tb, .int .u8 (c.mo : Int), .int .i64 c.hy, .int .i64 c.pr, .float .f64 c.lo]
def Cfg.Ok (c : Cfg) : Prop := (-9223372036854775808 ≤ c.wi ∧ c.wi ≤ 9223372036854775807) ∧ (-9223372036854775808 ≤ c.tb ∧ c.tb ≤ 9223372036854775807) ∧ c.mo < 256 ∧ (-9223372036854775808 ≤ c.hy ∧ c.hy ≤ 9223372036854775807) ∧ (-9223372036854775808 ≤ c.pr ∧ c.pr ≤ 9223372036854775807) ∧ c.lo < 18446744073709551616
theorem wf_f64 {a : Nat} (h : (Lit.float .f64 a).wf = true) : a < 18446744073709551616 := by
  simp only [Lit.wf, decide_eq_true_eq] at h
  exact h
theorem uCfg : ∃ f0 f1 f2 f3 f4 f5 : Field, Try.prog.underlying 35 = some (.struct #[f0, f1, f2, f3, f4, f5]) ∧ f0.type = 3 ∧ f1.type = 3 ∧ f2.type = 33 ∧ f3.type = 3 ∧ f4.type = 3 ∧ f5.type = 24 ∧ f0.offset = 0 ∧ f1.offset = 1 ∧ f2.offset = 2 ∧ f3.offset = 3 ∧ f4.offset = 4 ∧ f5.offset = 5 := ⟨_, _, _, _, _, _, Try.underlying35, rfl, rfl, rfl, rfl, rfl, rfl, rfl, rfl, rfl, rfl, rfl, rfl⟩
set_option maxRecDepth 100000 in
theorem cfg_view {H : Type} {enc : TypeId × Value → H} {W : World} {v : Value} {d : DataW H} {p : List MemPlace} {b0 : Nat} (hv : Value.okWide Try.prog W .any b0 35 v)
    (h : DataW.Trod enc Try.prog W 0 (fun _ => true) true 35 v d p) : ∃ c : Cfg, v = c.val ∧ c.Ok := by
  obtain ⟨cs, rfl, hsz⟩ := okWide_struct Try.underlying35 hv
  have c6 : Try.prog.cellsOf 35 = 6 := by kernel_rfl
  have c3 : Try.prog.cellsOf 3 = 1 := by kernel_rfl
  have cm : Try.prog.cellsOf 33 = 1 := by kernel_rfl
  have cf : Try.prog.cellsOf 24 = 1 := by kernel_rfl
  rw [c6] at hsz
  obtain ⟨fuel, hf⟩ := h
  obtain ⟨f0, f1, f2, f3, f4, f5, hu, t0, t1, t2, t3, t4, t5, o0, o1, o2, o3, o4, o5⟩ := uCfg
  obtain ⟨y0, y1, y2, y3, y4, y5, n, g0, g1, g2, g3, g4, g5⟩ := trod_struct6 hu hf
  rw [t0, o0, c3] at g0
  rw [t1, o1, c3] at g1
  rw [t2, o2, cm] at g2
  rw [t3, o3, c3] at g3
  rw [t4, o4, c3] at g4
  rw [t5, o5, cf] at g5
  obtain ⟨L⟩ := cs
  match L, hsz with
  | [v0, v1, v2, v3, v4, v5], _ =>
    obtain ⟨n0, e0, _, w0⟩ := DataW.trod_int Try.underlying3 g0
    obtain ⟨n1, e1, _, w1⟩ := DataW.trod_int Try.underlying3 g1
    obtain ⟨n2, e2, _, w2⟩ := DataW.trod_int Try.underlying33 g2
    obtain ⟨n3, e3, _, w3⟩ := DataW.trod_int Try.underlying3 g3
    obtain ⟨n4, e4, _, w4⟩ := DataW.trod_int Try.underlying3 g4
    obtain ⟨n5, e5, w5⟩ := trod_float (v := v5) Try.underlying24 g5
    simp [Value.cells] at e0 e1 e2 e3 e4
    subst e0 e1 e2 e3 e4 e5
    have b2 := wf_u8 w2
    have z2 : ((n2.toNat : Nat) : Int) = n2 := by omega
    refine ⟨⟨n0, n1, n2.toNat, n3, n4, n5⟩, ?_, wf_i64 w0, wf_i64 w1, by show n2.toNat < 256; omega, wf_i64 w3, wf_i64 w4, wf_f64 w5⟩
    unfold Cfg.val
    simp only [z2]
end Go.Proofs.Ytegoadhnilmchaa

