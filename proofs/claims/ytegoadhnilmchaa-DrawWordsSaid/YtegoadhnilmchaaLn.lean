/-
  Lines in memory; lists of lines that are the same; parts.
-/
import Derived.Test.YtegoadhnilmchaaSa7
import Derived.Test.YtegoadhnilmchaaSr
namespace Go.Proofs.Ytegoadhnilmchaa
open Go.RowKit Go.Maps
set_option linter.unusedVariables false
set_option linter.unusedSimpArgs false
abbrev Ln := Sp.Ln
/-- lines as cells. -/
def lnV (l : Ln) : List Value := [.int .i64 (l.a : Int), .int .i64 (l.b : Int), .int .i64 (l.w : Int), .int .u8 (l.e : Int)]
def lnC (L : List Ln) : List Value := L.flatMap lnV
theorem lnC_len : ∀ S : List Ln, (lnC S).length = S.length * 4
  | [] => rfl
  | x :: L => by
    show (lnV x ++ lnC L).length = _
    rw [List.length_append, lnC_len L]
    simp [lnV]
    omega
theorem lnC_append (L M : List Ln) : lnC (L ++ M) = lnC L ++ lnC M := by unfold lnC; rw [List.flatMap_append]
theorem lnC_snoc (L : List Ln) (l : Ln) : lnC (L ++ [l]) = lnC L ++ [.int .i64 (l.a : Int), .int .i64 (l.b : Int), .int .i64 (l.w : Int), .int .u8 (l.e : Int)] := by rw [lnC_append]; rfl
theorem lnC_at : ∀ (L : List Ln) (k : Nat) (x : Ln), L[k]? = some x → (lnC L)[k * 4]? = some (.int .i64 (x.a : Int)) ∧ (lnC L)[k * 4 + 1]? = some (.int .i64 (x.b : Int)) ∧ (lnC L)[k * 4 + 2]? = some (.int .i64 (x.w : Int)) ∧ (lnC L)[k * 4 + 3]? = some (.int .u8 (x.e : Int)) := by
  intro L
  induction L with
  | nil => intro k x h; simp at h
  | cons y L ih =>
    intro k x h
    have e : lnC (y :: L) = [.int .i64 (y.a : Int), .int .i64 (y.b : Int), .int .i64 (y.w : Int), .int .u8 (y.e : Int)] ++ lnC L := rfl
    rw [e]
    cases k with
    | zero => simp at h; subst h; exact ⟨rfl, rfl, rfl, rfl⟩
    | succ k =>
      have := ih k x (by simpa using h)
      rw [show (k + 1) * 4 = k * 4 + 4 by omega]
      exact ⟨this.1, this.2.1, this.2.2.1, this.2.2.2⟩
theorem Vw.line {w : World} {a : Option Addr} {S : List Ln} {k : Nat} {s : Ln} (h : Vw w a (lnC S)) (hk : S[k]? = some s) : ∃ b off, a = some ⟨b, off, none⟩ ∧ b < w.heap.size ∧ w.cell? ⟨b, off + k * 4, none⟩ = some (.int .i64 (s.a : Int)) ∧ w.cell? ⟨b, off + k * 4 + 1, none⟩ = some (.int .i64 (s.b : Int)) ∧ w.cell? ⟨b, off + k * 4 + 2, none⟩ = some (.int .i64 (s.w : Int)) ∧ w.cell? ⟨b, off + k * 4 + 3, none⟩ = some (.int .u8 (s.e : Int)) := by
  have hl := (List.getElem?_eq_some_iff.1 hk).1
  obtain ⟨b, off, e, hb, hc⟩ := h.cells (by rw [lnC_len]; omega)
  obtain ⟨q0, q1, q2, q3⟩ := lnC_at S k s hk
  exact ⟨b, off, e, hb, hc _ _ q0, hc _ _ q1, hc _ _ q2, hc _ _ q3⟩
/-- lines in new memory. -/
def lnP (L : List Ln) (w : World) (e : Ending) (w' : World) : Prop := ∃ (n : Nat) (a : Option Addr) (c : Nat), n = L.length ∧ e = .returned (.slice a n c) ∧ w'.ownsRow w.heap.size 43 4 (.slice a n c) n (lnC L) ∧ Only (fun _ => False) w w'
theorem infoLn : (Try.prog.info? 43).map (fun i => (i.zero, i.size, i.bytes)) = some (some (.agg #[.int .i64 0, .int .i64 0, .int .i64 0, .int .u8 0]), 4, 32) := by kernel_rfl
end Go.Proofs.Ytegoadhnilmchaa

