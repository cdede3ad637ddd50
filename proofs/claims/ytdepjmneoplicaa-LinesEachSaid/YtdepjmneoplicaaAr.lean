/-
  Layer 12: float64's operations as steps of a walk; Of, Blend, both ways.
-/
import Derived.Test.YtdepjmneoplicaaOd
namespace Go.Proofs.Ytdepjmneoplicaa
open Go.RowKit Go.Maps
set_option linter.unusedVariables false
set_option linter.unusedSimpArgs false
namespace Fl
/-- the same, or both no number. -/
def Sm (x y : Nat) : Prop := (nn x = true ∧ nn y = true) ∨ x = y
theorem Sm.refl (x : Nat) : Sm x x := Or.inr rfl
theorem Sm.symm {x y : Nat} (h : Sm x y) : Sm y x := h.elim (fun g => Or.inl ⟨g.2, g.1⟩) (fun g => Or.inr g.symm)
theorem Sm.trans {x y z : Nat} (h : Sm x y) (k : Sm y z) : Sm x z := by
  rcases h with ⟨a, b⟩ | rfl
  · rcases k with ⟨c, d⟩ | rfl
    · exact Or.inl ⟨a, d⟩
    · exact Or.inl ⟨a, b⟩
  · exact k
theorem sm_of {x y : Nat} (h : Sm x y) : sm x y = true := by
  unfold sm
  rcases h with ⟨a, b⟩ | rfl
  · rw [a, b]; rfl
  · simp
/-- one of the four. -/
def fop (op : BinOp) : Prop := op = .add ∨ op = .sub ∨ op = .mul ∨ op = .quo
def opN (op : BinOp) (x y : Nat) : Nat := (floatBits op .f64 x y).getD 9221120237041090561
def fr (op : BinOp) (x y : Nat) (W : World) : Nat := match floatBits op .f64 x y with
  | some r => r
  | none => Question.cut (.nanBits .f64 x y) (W.tape W.drawn (.nanBits .f64 x y))
def fw (op : BinOp) (x y : Nat) (W : World) : World := match floatBits op .f64 x y with
  | some _ => W
  | none => W.drew
theorem run_op {op : BinOp} (h : fop op) (t : TypeId) (x y : Nat) (W : World) : (binOp op t (.float .f64 x) (.float .f64 y)).run Try.prog W = .ok (.float .f64 (fr op x y W)) (fw op x y W) := by
  unfold fr fw
  cases e : floatBits op .f64 x y with
  | some r => exact run_float_arith W op t .f64 x y r e
  | none =>
    unfold floatBits at e
    rcases h with rfl | rfl | rfl | rfl
    · have e' : FloatKind.f64.format.add x y = none := e
      simp [binOp, Op.floatArith, e', Question.forced]
    · have e' : FloatKind.f64.format.sub x y = none := e
      simp [binOp, Op.floatArith, e', Question.forced]
    · have e' : FloatKind.f64.format.mul x y = none := e
      simp [binOp, Op.floatArith, e', Question.forced]
    · have e' : FloatKind.f64.format.div x y = none := e
      simp [binOp, Op.floatArith, e', Question.forced]
theorem nan_cut (x y t : Nat) : nn (Question.cut (.nanBits .f64 x y) t) = true ∧ Question.cut (.nanBits .f64 x y) t < 18446744073709551616 := by
  have e : Question.cut (.nanBits .f64 x y) t = (t % 2) * 9223372036854775808 + 9218868437227405312 + 1 + (t / 2) % 4503599627370495 := by
    simp [Question.cut]
  have l : (t / 2) % 4503599627370495 < 4503599627370495 := Nat.mod_lt _ (by decide)
  have hi : inf = 9218868437227405312 := rfl
  rw [e]
  generalize (t / 2) % 4503599627370495 = u at *
  rcases Nat.mod_two_eq_zero_or_one t with h | h
  · rw [h]
    refine ⟨decide_eq_true ?_, by omega⟩
    rw [hi]
    unfold rung
    omega
  · rw [h]
    refine ⟨decide_eq_true ?_, by omega⟩
    rw [hi]
    unfold rung
    omega
theorem fr_ok (op : BinOp) (x y : Nat) (W : World) : fr op x y W < 18446744073709551616 ∧ Sm (fr op x y W) (opN op x y) := by
  unfold fr opN
  cases e : floatBits op .f64 x y with
  | some r =>
    have := floatBits_wf e
    simp only [Lit.wf, decide_eq_true_eq] at this
    exact ⟨this, Or.inr rfl⟩
  | none => exact ⟨(nan_cut x y _).2, Or.inl ⟨(nan_cut x y _).1, by decide⟩⟩
theorem opN_lt (op : BinOp) (x y : Nat) : opN op x y < 18446744073709551616 := by
  unfold opN
  cases e : floatBits op .f64 x y with
  | some r =>
    have := floatBits_wf e
    simp only [Lit.wf, decide_eq_true_eq] at this
    exact this
  | none => decide
theorem read_nn {x : Nat} (hx : x < 18446744073709551616) (h : nn x = true) : ∃ s f, Ieee.double.read x = .nan s f := ⟨_, _, read_nan hx (nn_t h)⟩
theorem bits_nn1 {op : BinOp} {x y : Nat} (hx : x < 18446744073709551616) (h : nn x = true) : floatBits op .f64 x y = none := by
  obtain ⟨s, f, e⟩ := read_nn hx h
  unfold floatBits
  split
  · show ((Ieee.double.read x).sum (Ieee.double.read y)).map _ = none
    rw [e]; rfl
  · show ((Ieee.double.read x).sum (Ieee.double.read y).opposite).map _ = none
    rw [e]; rfl
  · show ((Ieee.double.read x).product (Ieee.double.read y)).map _ = none
    rw [e]; rfl
  · show ((Ieee.double.read x).quotient _ (Ieee.double.read y)).map _ = none
    rw [e]; rfl
  · rfl
theorem bits_nn2 {op : BinOp} {x y : Nat} (hy : y < 18446744073709551616) (h : nn y = true) : floatBits op .f64 x y = none := by
  obtain ⟨s, f, e⟩ := read_nn hy h
  unfold floatBits
  split
  · show ((Ieee.double.read x).sum (Ieee.double.read y)).map _ = none
    rw [e]; cases Ieee.double.read x <;> rfl
  · show ((Ieee.double.read x).sum (Ieee.double.read y).opposite).map _ = none
    rw [e]; cases Ieee.double.read x <;> rfl
  · show ((Ieee.double.read x).product (Ieee.double.read y)).map _ = none
    rw [e]; cases Ieee.double.read x <;> rfl
  · show ((Ieee.double.read x).quotient _ (Ieee.double.read y)).map _ = none
    rw [e]; cases Ieee.double.read x <;> rfl
  · rfl
theorem opN_sm {op : BinOp} {x x' y y' : Nat} (hx : x < 18446744073709551616) (hx' : x' < 18446744073709551616) (hy : y < 18446744073709551616) (hy' : y' < 18446744073709551616) (h : Sm x x') (k : Sm y y') : Sm (opN op x y) (opN op x' y') := by
  rcases h with ⟨a, b⟩ | rfl
  · unfold opN
    rw [bits_nn1 hx a, bits_nn1 hx' b]
    exact Sm.refl _
  · rcases k with ⟨a, b⟩ | rfl
    · unfold opN
      rw [bits_nn2 hy a, bits_nn2 hy' b]
      exact Sm.refl _
    · exact Sm.refl _
/-- a world but for what was drawn. -/
def Dr (w W : World) : Prop := ∃ n, W = w.drewN n
theorem Dr.refl (w : World) : Dr w w := ⟨0, rfl⟩
theorem Dr.trans {a b c : World} (h : Dr a b) (k : Dr b c) : Dr a c := by
  obtain ⟨n, rfl⟩ := h
  obtain ⟨m, rfl⟩ := k
  exact ⟨n + m, by simp [World.drewN, Nat.add_assoc]⟩
theorem fw_dr (op : BinOp) (x y : Nat) (W : World) : Dr W (fw op x y W) := by
  unfold fw
  cases floatBits op .f64 x y with
  | some r => exact Dr.refl _
  | none => exact ⟨1, rfl⟩
theorem Dr.only {w W : World} (h : Dr w W) : Only (fun _ => False) w W := by
  obtain ⟨n, rfl⟩ := h
  exact (Only.refl _ _).drewN n
theorem ofI_lt (n : Int) : floatOfInt .f64 n < 18446744073709551616 := by
  have := floatOfInt_wf .f64 n
  simp only [Lit.wf, decide_eq_true_eq] at this
  exact this
def ofN (a b : Int) : Nat := opN .quo (floatOfInt .f64 a) (floatOfInt .f64 b)
end Fl
/-- what a call that gives a number answers: this one, or one that is no number if this is none. -/
def Fl.P (v : Nat) (w : World) (e : Ending) (w' : World) : Prop := ∃ r, e = .returned (.float .f64 r) ∧ r < 18446744073709551616 ∧ Fl.Sm r v ∧ Fl.Dr w w'
set_option maxRecDepth 100000 in
set_option maxHeartbeats 1000000 in
theorem of_any (a b : Int) (w : World) : Calls Try.prog 57 #[.int .i64 a, .int .i64 b] w (Fl.P (Fl.ofN a b) w) := by
  have HQ : ∀ x y W, (binOp .quo 24 (.float .f64 x) (.float .f64 y)).run Try.prog W = .ok (.float .f64 (Fl.fr .quo x y W)) (Fl.fw .quo x y W) := Fl.run_op (Or.inr (Or.inr (Or.inr rfl))) 24
  go_enter Try.func57, Try.ntmps57
  go_wp2_with fail
  go_ret
  exact ⟨_, rfl, (Fl.fr_ok _ _ _ _).1, (Fl.fr_ok _ _ _ _).2, Fl.fw_dr _ _ _ _⟩
set_option maxRecDepth 100000 in
set_option maxHeartbeats 1000000 in
theorem refOf_any (a b : Int) (w : World) : Calls Try.prog 35 #[.int .i64 a, .int .i64 b] w (Fl.P (Fl.ofN a b) w) := by
  have HQ : ∀ x y W, (binOp .quo 24 (.float .f64 x) (.float .f64 y)).run Try.prog W = .ok (.float .f64 (Fl.fr .quo x y W)) (Fl.fw .quo x y W) := Fl.run_op (Or.inr (Or.inr (Or.inr rfl))) 24
  go_enter Try.func35, Try.ntmps35
  go_wp2_with fail
  go_ret
  exact ⟨_, rfl, (Fl.fr_ok _ _ _ _).1, (Fl.fr_ok _ _ _ _).2, Fl.fw_dr _ _ _ _⟩
/-- from a to b, so far. -/
def Fl.bl (a b t : Nat) : Nat := if FloatKind.f64.format.order t 0 = some .eq then a else if FloatKind.f64.format.order t 4607182418800017408 = some .eq then b else Fl.opN .add (Fl.opN .mul a (Fl.opN .sub 4607182418800017408 t)) (Fl.opN .mul b t)
theorem eq_some {o : Option Ordering} (h : ¬ o = some .eq) : (o == some .eq) = false := by
  cases o with
  | none => rfl
  | some c => cases c with
    | eq => exact absurd rfl h
    | lt => rfl
    | gt => rfl
theorem bl_ok {a b t l x y r : Nat} (ha : a < 18446744073709551616) (hb : b < 18446744073709551616) (ht : t < 18446744073709551616) (hl : l < 18446744073709551616) (hx : x < 18446744073709551616) (hy : y < 18446744073709551616)
    (e1 : Fl.Sm l (Fl.opN .sub 4607182418800017408 t)) (e2 : Fl.Sm x (Fl.opN .mul a l)) (e3 : Fl.Sm y (Fl.opN .mul b t)) (e4 : Fl.Sm r (Fl.opN .add x y)) : Fl.Sm r (Fl.opN .add (Fl.opN .mul a (Fl.opN .sub 4607182418800017408 t)) (Fl.opN .mul b t)) :=
  e4.trans (Fl.opN_sm hx (Fl.opN_lt _ _ _) hy (Fl.opN_lt _ _ _) (e2.trans (Fl.opN_sm ha ha hl (Fl.opN_lt _ _ _) (Fl.Sm.refl _) e1)) e3)
end Go.Proofs.Ytdepjmneoplicaa

