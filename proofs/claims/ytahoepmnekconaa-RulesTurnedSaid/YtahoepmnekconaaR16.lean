/-
  Parse of the document's own parser: it reads a text as the plain reading does.
-/
import Derived.Test.YtahoepmnekconaaR15
import Derived.Test.YtahoepmnekconaaLen2
namespace Go.Proofs.Ytahoepmnekconaa
open Go.RowKit Go.Maps
set_option linter.unusedVariables false
set_option linter.unusedSimpArgs false
theorem lines_consF (n : Nat) (t : Rl.Tk) (ts : List Rl.Tk) (s : Rl.St) : Rl.lines (n + 1) (t :: ts) s = if t.bad = true then .error (20, t.at') else if t.text = [] then .ok s else match lineF t ts s with
    | .error f => .error f
    | .ok (ts2, s1) => Rl.lines n ts2 s1 := by
  show (if t.bad = true then (Except.error (20, t.at') : Rl.R Rl.St) else if t.text = [] then .ok s else match Rl.line t ts s with
    | .error f => .error f
    | .ok (ts1, s1) => match Rl.want 59 ts1 with
      | .error f => .error f
      | .ok ts2 => Rl.lines n ts2 s1) = _
  by_cases hb : t.bad = true
  · rw [if_pos hb, if_pos hb]
  · rw [if_neg hb, if_neg hb]
    by_cases he : t.text = []
    · rw [if_pos he, if_pos he]
    · rw [if_neg he, if_neg he]
      unfold lineF
      cases Rl.line t ts s with
      | error f => rfl
      | ok r =>
        obtain ⟨ts1, s1⟩ := r
        simp only
        cases Rl.want 59 ts1 <;> rfl
/-- rules in memory, as a value. -/
def Rv (w : World) (B : Nat) (v : Value) (s : Rl.St) : Prop := ∃ (aC aT aL : Option Addr) (cC cT cL : Nat), v = .agg #[.slice aC s.cls.length cC, .int .u32 s.join, .int .u32 s.after, .slice aT s.treat.length cT, .slice aL s.list.length cL] ∧ w.ownsRow B 9 1 (.slice aC s.cls.length cC) s.cls.length (strs s.cls) ∧ w.ownsRow B 3 1 (.slice aT s.treat.length cT) s.treat.length (ints s.treat) ∧ Rls w B (.slice aL s.list.length cL) s.list ∧ s.treat.length = s.cls.length ∧ s.cls.length ≤ 24 ∧ s.list.length ≤ 24
def noRules : Value := .agg #[.slice none 0 0, .int .u32 0, .int .u32 0, .slice none 0 0, .slice none 0 0]
/-- how that Parse ends. -/
def rparseP (w : World) (F : Rl.R Rl.St) (e : Ending) (w' : World) : Prop :=
  (match F with
  | .error f => e = .returned (.tuple #[noRules, .int .i64 (f.1 : Int), .int .i64 (f.2 : Int)]) ∧ f.1 ≠ 0
  | .ok s => ∃ v B, e = .returned (.tuple #[v, .int .i64 0, .int .i64 0]) ∧ w.heap.size ≤ B ∧ Rv w' B v s) ∧ Only (fun _ => False) w w'
theorem results_row2 {P : Program} {fn : Func} {p u v : Tmp} {ty : TypeId} (h : fn.results = #[.cell p ty, .tmp u, .tmp v]) (tmps : Array Value) (w : World) (g : Nat) (t : TypeId) (cs : Array Value) (fr : Nat × Nat) (d : TypeDesc)
    (hp : tmps.getD p undef = .pointer (some ⟨g, 0, none⟩)) (hg : w.heap[g]? = some (.cells cs t fr))
    (hu : P.underlying ty = some d) (hd : (match d with | .struct _ | .array _ _ => true | _ => false) = true) (hi : (P.info? ty).map (·.size) = some cs.size) :
    (results fn tmps).run P w = .ok (.tuple #[.agg cs, tmps.getD u undef, tmps.getD v undef]) w := by
  have hp' : tmps[p]?.getD undef = .pointer (some ⟨g, 0, none⟩) := by simpa using hp
  simp [results, h, hp', asAddr, run_loadVar_row w g t ty cs fr d hg hu hd hi]
theorem info37 : (Try.prog.info? 37).map (·.size) = some 5 := by kernel_rfl
def x0 : Rq := ⟨.slice none 0 0, 0, 0, .slice none 0 0, .slice none 0 0, .slice none 0 0, .slice none 0 0, 0, 0⟩
theorem Sr.first (w : World) (rb : Nat) : Sr w rb x0 Rl.st0 := by
  refine ⟨⟨World.ownsRow_nil _ _ _ _, World.ownsRow_nil _ _ _ _, World.ownsRow_nil _ _ _ _, World.ownsRow_nil _ _ _ _, ⟨[], World.ownsRow_nil _ _ _ _, trivial⟩, rfl, rfl, rfl, rfl, by decide, by decide, fun g h => by cases h⟩, by decide, rfl, by decide⟩
theorem Sr.rv {w : World} {rb : Nat} {x : Rq} {s : Rl.St} {aC aT aL : Option Addr} {cC cT cL : Nat} (h : Sr w rb x s) (h1 : x.vC = .slice aC s.cls.length cC) (h2 : x.vT = .slice aT s.treat.length cT) (h3 : x.vL = .slice aL s.list.length cL) : Rv w (rb + 1) (.agg #[.slice aC s.cls.length cC, .int .u32 x.j, .int .u32 x.a, .slice aT s.treat.length cT, .slice aL s.list.length cL]) s := by
  refine ⟨aC, aT, aL, cC, cT, cL, by rw [h.p.jn, h.p.af], by rw [← h1]; exact h.p.cls, by rw [← h2]; exact h.p.trt, by rw [← h3]; exact h.p.lst, h.tl, h.c24, h.p.l24⟩
theorem Rv.only {w w' : World} {B : Nat} {v : Value} {s : Rl.St} {P : Nat → Prop} (h : Rv w B v s) (ho : Only P w w') (hP : ∀ g, B ≤ g → ¬ P g) : Rv w' B v s := by
  obtain ⟨aC, aT, aL, cC, cT, cL, h1, h2, h3, h4, h5⟩ := h
  exact ⟨aC, aT, aL, cC, cT, cL, h1, own_only h2 ho hP, own_only h3 ho hP, h4.only ho hP, h5⟩
def set5 (w : World) (z : Nat) (a b c d e : Value) : World := ((((w.setCell ⟨z, 0, none⟩ a).setCell ⟨z, 1, none⟩ b).setCell ⟨z, 2, none⟩ c).setCell ⟨z, 3, none⟩ d).setCell ⟨z, 4, none⟩ e
theorem set5_at {w : World} {z : Nat} {v0 v1 v2 v3 v4 : Value} {t : TypeId} (h : w.heap[z]? = some (.cells #[v0, v1, v2, v3, v4] t (0, 0))) (a b c d e : Value) : (set5 w z a b c d e).heap[z]? = some (.cells #[a, b, c, d, e] t (0, 0)) := heap_setCell_at (heap_setCell_at (heap_setCell_at (heap_setCell_at (heap_setCell_at h a) b) c) d) e
theorem set5_only (w : World) (z : Nat) (a b c d e : Value) : Only (· = z) w (set5 w z a b c d e) := (((((Only.refl (· = z) w).setCell (p := ⟨z, 0, none⟩) rfl a).setCell (p := ⟨z, 1, none⟩) rfl b).setCell (p := ⟨z, 2, none⟩) rfl c).setCell (p := ⟨z, 3, none⟩) rfl d).setCell (p := ⟨z, 4, none⟩) rfl e
theorem Only.newAt {w w' : World} (h : Only (fun b => b = w.heap.size) w w') : Only (fun _ => False) w w' := ⟨h.os, h.tape, h.output, h.size, fun g hg _ => h.block g hg (by omega)⟩
theorem hd_ne {l : Rl.Str} {i : Nat} {t : Rl.Tk} (ht : t = Rl.tk l i) (hn : t.text ≠ []) : hd t ≠ 0 := by
  have htx : t.text = (l.drop (Rl.nx l i)).take (Rl.plen (l.drop (Rl.nx l i))) := by rw [ht]; rfl
  generalize l.drop (Rl.nx l i) = r at htx
  cases r with
  | nil => rw [htx] at hn; simp at hn
  | cons b r =>
    have hb : b ≠ 0 := by
      rintro rfl
      have h1 : Rl.plen (0 :: r) = 0 := by
        unfold Rl.plen
        rw [if_neg (by rw [Rl.nml_cons, if_neg (by decide)]; omega)]
        rfl
      rw [h1] at htx
      exact hn htx
    cases hp : Rl.plen (b :: r) with
    | zero => rw [hp] at htx; exact absurd htx hn
    | succ m =>
      rw [hp, List.take_succ_cons] at htx
      unfold hd
      rw [htx]
      intro h
      simp only at h
      exact hb (UInt8.toNat_inj.1 (by show b.toNat = 0; omega))
end Go.Proofs.Ytahoepmnekconaa
