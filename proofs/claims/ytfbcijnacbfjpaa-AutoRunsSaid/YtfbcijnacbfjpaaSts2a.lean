/-
  What (*auto.places).states does: how it is said.
-/
import Derived.Test.YtfbcijnacbfjpaaSts1
import Derived.Deep.CutRange
import Derived.Test.YtfbcijnacbfjpaaRn
namespace Go.Proofs.Ytfbcijnacbfjpaa
open Go.RowKit Go.Maps
set_option linter.unusedVariables false
set_option linter.unusedSimpArgs false
/-- an automaton that lies in memory: its states' ways and what they tell. -/
def Aut (W : World) (lo cl : Nat) (v : Value) (nx : List (List Nat)) (o : List Nat) : Prop := ∃ (rows : List (Nat × List Nat)) (vN vO : Value), v = .agg #[vN, vO] ∧ nx = rows.map (·.2) ∧ W.ownsRow lo 43 1 vN rows.length (rows.map (rowV cl)) ∧ W.ownsRow lo 47 1 vO o.length (o.map u32V) ∧ RowsOk W lo cl rows
def noAut : Value := .agg #[.slice none 0 0, .slice none 0 0]
/-- how states ends. -/
def stsP (w : World) (cl : Nat) (R : Option (List (List Nat) × List Nat)) (e : Ending) (w' : World) : Prop :=
  (match R with
  | none => e = .returned (.tuple #[noAut, .int .i64 27])
  | some (nx, o) => ∃ v, e = .returned (.tuple #[v, .int .i64 0]) ∧ Aut w' w.heap.size cl v nx o) ∧ Only (fun _ => False) w w'
theorem sz33 : (Try.prog.info? 33).map (·.size) = some 2 := by kernel_rfl
theorem info3b : (Try.prog.info? 3).map (fun i => (i.zero, i.size, i.bytes)) = some (some (.int .i64 0), 1, 8) := by kernel_rfl
theorem info43 : (Try.prog.info? 43).map (fun i => (i.zero, i.size, i.bytes)) = some (some (.slice none 0 0), 1, 24) := by kernel_rfl
theorem info47 : (Try.prog.info? 47).map (fun i => (i.zero, i.size, i.bytes)) = some (some (.int .u32 0), 1, 4) := by kernel_rfl
theorem zero3 (w : World) : (zeroValue 3).run Try.prog w = .ok (.int .i64 0) w := by kernel_rfl
theorem wf_i64 {a : Nat} (h : a ≤ 1000) : (Lit.int .i64 (a : Int)).wf = true := by
  have e1 : IntKind.min .i64 = -9223372036854775808 := by decide
  have e2 : IntKind.max .i64 = 9223372036854775807 := by decide
  have h0 : (-9223372036854775808 : Int) ≤ (a : Int) := by omega
  have h2 : (a : Int) ≤ 9223372036854775807 := by omega
  simp only [Lit.wf, e1, e2, h0, h2, decide_true, Bool.and_self]
set_option maxRecDepth 100000 in
/-- the fresh block behind a map's first entry. -/
theorem kds_first : KDs (DataW.put (DataW.map [] : DataW Unit) (kc Try.prog 0) (.lit (.int .i64 0))) [0] := by
  have h0 : KDs (DataW.map [] : DataW Unit) [] := fun S hS => ⟨by simp; rfl, by simp; rfl⟩
  have hI : IsMap (DataW.map [] : DataW Unit) := World.ownsMap.isMap (World.ownsMap_made (H := Unit) default Try.prog 73 (plainElem Try.prog 3))
  exact kds_put hI h0 (by decide) (by simp)
theorem kc_key0 : keyOf Try.prog 73 (.agg #[.int .u64 0, .int .u64 0, .int .u64 0, .int .u64 0]) = some (kc Try.prog 0) := by
  have h := kc_key 0
  unfold sV sC at h
  rw [wd_zero, wd_zero, wd_zero, wd_zero] at h
  exact h
theorem ne_of_blk {fb7 fb1 n1 c1 n7 c7 N x : Nat} (h : (Value.slice (some ⟨fb7, 0, none⟩) n7 c7).ownBlock = (Value.slice (some ⟨fb1, 0, none⟩) n1 c1).ownBlock ∨ (Value.slice (some ⟨fb7, 0, none⟩) n7 c7).ownBlock = some N) (h1 : fb1 ≠ x) (h2 : N ≠ x) : fb7 ≠ x := by
  rcases h with h | h
  · injection h with h
    simp only at h
    rw [h]
    exact h1
  · injection h with h
    simp only at h
    rw [h]
    exact h2
theorem blk_ne {fb1 n1 c1 q : Nat} (h : fb1 ≠ q) : ¬ (Value.slice (some ⟨fb1, 0, none⟩) n1 c1).ownBlock = some q := fun e => by
  injection e with e
  exact h e
theorem own_mono {w : World} {base base' e size n : Nat} {v : Value} {xs : List Value} (h : w.ownsRow base e size v n xs) (hb : base' ≤ base) : w.ownsRow base' e size v n xs := by
  obtain ⟨hl, h | ⟨g, cap, cur, hv, h1, h2⟩⟩ := h
  · exact ⟨hl, Or.inl h⟩
  · exact ⟨hl, Or.inr ⟨g, cap, cur, hv, Nat.le_trans hb h1, h2⟩⟩
theorem u32_news (w : World) (x : Nat) : ∀ j u, [u32V x][j]? = some u → (w.alloc (.cells #[.int .u32 (x : Int)] 47)).cell? ((⟨w.heap.size, 0, none⟩ : Addr).add j) = some u := by
  intro j u hj
  rw [Addr.add_mid, Nat.zero_add, cell_of_row _ _ _ _ _ _ (heap_alloc_new _ _)]
  have e : [u32V x] = [Value.int .u32 (x : Int)] := rfl
  rw [e] at hj
  simpa using hj
/-- what is said of states, at all places. -/
def StsOk : Prop := ∀ (g cl : Nat) (p : Au.Pl) (l : List Au.Nd) (fs : Nat) (vL : Value) (w : World), Plm w g cl p fs vL (emK l) → Lw w (fun b => b < w.heap.size) vL (l.map (·.last)) → p.sets.length ≤ 200 → cl ≤ 24 → l.length ≤ 24 → (∀ x ∈ l.map (·.last), x < 2 ^ 256) → (∀ c, Au.by' p c < 2 ^ 256) →
    Calls Try.prog 26 #[.pointer (some ⟨g, 0, none⟩)] w (stsP w cl (Au.states p l fs cl 301 0 [0] [] []))
end Go.Proofs.Ytfbcijnacbfjpaa
