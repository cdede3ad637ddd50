/-
  RulesSets: its walk.
-/
import Derived.Test.YtahoepmnekconabA1x
import Derived.Test.YtahoepmnekconabNc
namespace Go.Proofs.Ytahoepmnekconab
open Go.RowKit Go.Maps
set_option linter.unusedVariables false
set_option linter.unusedSimpArgs false
def and6 : Bool := (List.range 256).all fun a => decide (bits .and .u32 (a : Int) 63 = ((a % 2 ^ 6 : Nat) : Int))
theorem and6_true : and6 = true := by kernel_rfl
theorem and_6 {a : Nat} (ha : a ≤ 255) : bits .and .u32 (a : Int) 63 = Rl.sv a := by
  have h := and6_true
  unfold and6 at h
  rw [List.all_eq_true] at h
  exact of_decide_eq_true (h a (List.mem_range.2 (by omega)))
def or6 : Bool := (List.range 64).all fun a => (List.range 64).all fun b => decide (Rl.bor (b : Int) (a : Int) = bits .or .u32 (a : Int) (b : Int) ∧ Rl.bor (Rl.bor 0 (a : Int)) (bits .or .u32 (a : Int) (b : Int)) = bits .or .u32 (a : Int) (b : Int))
theorem or6_true : or6 = true := by kernel_rfl
theorem or_6 (a b : Nat) : Rl.tv a b = bits .or .u32 (Rl.sv a) (Rl.sv b) ∧ ∀ no, Rl.uv a b no = if no = true then bits .andNot .u32 63 (bits .or .u32 (Rl.sv a) (Rl.sv b)) else bits .or .u32 (Rl.sv a) (Rl.sv b) := by
  have h := or6_true
  unfold or6 at h
  rw [List.all_eq_true] at h
  have h := h (a % 2 ^ 6) (List.mem_range.2 (by omega))
  rw [List.all_eq_true] at h
  have h := of_decide_eq_true (h (b % 2 ^ 6) (List.mem_range.2 (by omega)))
  have h1 : Rl.tv a b = bits .or .u32 (Rl.sv a) (Rl.sv b) := h.1
  refine ⟨h1, fun no => ?_⟩
  unfold Rl.uv
  rw [h1]
  have h2 : Rl.bor (Rl.bor 0 (Rl.sv a)) (bits .or .u32 (Rl.sv a) (Rl.sv b)) = bits .or .u32 (Rl.sv a) (Rl.sv b) := h.2
  rw [h2]
  rfl
/-- the two rules in memory. -/
def Two (w : World) (g : Nat) (u t s : Int) : Prop := g < w.heap.size ∧ w.cell? ⟨g, 1, none⟩ = some (.int .u8 1) ∧ w.cell? ⟨g, 2, none⟩ = some (.int .u32 u) ∧ w.cell? ⟨g, 5, none⟩ = some (.int .u32 t) ∧ w.cell? ⟨g, 9, none⟩ = some (.int .u32 s) ∧ w.cell? ⟨g, 12, none⟩ = some (.int .u32 63)
theorem parse_sets (a b : Nat) (no : Bool) (w : World) : Calls Try.prog 6 #[.string (bs (Rl.stext a b no))] w fun e w' => ∃ aC nC cC jn an aT nT cT g cL, e = .returned (.tuple #[.agg #[.slice aC nC cC, .int .u32 jn, .int .u32 an, .slice aT nT cT, .slice (some ⟨g, 0, none⟩) 2 cL], .agg #[.int .i64 0, .int .i64 0]]) ∧ Two w' g (Rl.uv a b no) (Rl.tv a b) (Rl.sv a) ∧ Only (fun _ => False) w w' := by
  obtain ⟨ts, ht⟩ := Rl.strm_some (Rl.stext a b no) ((Rl.stext a b no).length + 1) 0 (by omega) (Nat.zero_le _)
  have hrd : rd (bs (Rl.stext a b no)) (.ok (Rl.s4 a b no)) := Or.inr ⟨by rw [bs_size]; have := Rl.stext_len a b no; omega, ts, ht, (Rl.read_stext a b no ht).symm⟩
  refine (parse_all _ _ w hrd).mono ?_
  rintro e w' ⟨⟨v1, B1, rfl, hB1, hV1⟩, ho⟩
  obtain ⟨aC, aT, aL, cC, cT, cL, rfl, r1, r2, r3, _⟩ := hV1
  obtain ⟨g, op, st, a1, n1, c1, op', st', a1', n1', c1', e0, e1, e2, e3, e4, e5, t1, e6, e7, e8, t2⟩ := r3.get (i := 0) rfl
  obtain ⟨g', qop, qst, qa1, qn1, qc1, qop', qst', qa1', qn1', qc1', f0, f1, f2, f3, f4, f5, u1, f6, f7, f8, u2⟩ := r3.get (i := 1) rfl
  subst e0
  injection f0 with f0
  injection f0 with f0
  subst f0
  have p1 : op = 1 ∧ st = Rl.uv a b no := by
    unfold Tr at t1; obtain ⟨_, _, hh, _⟩ := t1; simp at hh; exact ⟨hh.1, hh.2.1⟩
  have p2 : st' = Rl.tv a b := by
    unfold Tr at t2; obtain ⟨_, _, hh, _⟩ := t2; simp at hh; exact hh.2.1
  have p3 : qst = Rl.sv a := by
    unfold Tr at u1; obtain ⟨_, _, hh, _⟩ := u1; simp at hh; exact hh.2.1
  have p4 : qst' = 63 := by
    unfold Tr at u2; obtain ⟨_, _, hh, _⟩ := u2; simp at hh; rw [hh.2.1]; rfl
  rw [p1.1] at e3
  rw [p1.2] at e4
  rw [p2] at e7
  rw [p3] at f4
  rw [p4] at f7
  exact ⟨aC, _, cC, _, _, aT, _, cT, g, cL, rfl, ⟨e1, e3, e4, e7, f4, f7⟩, ho⟩
end Go.Proofs.Ytahoepmnekconab
