/-
  Lists of ranges that the call itself made; a slice of ranges that came in.
-/
import Derived.Test.YtlcpfheocenjfaaUse
import Derived.Laws.AppendOwnNone
import Derived.ProofKit
import Derived.OpenShut
import Derived.ShutString
import Derived.ChangeOld
import Derived.Deep.Strs
namespace Go.Proofs.Ytlcpfheocenjfaa
open Go.ChangeShapes Go.WideShapes Go.ChangeAt Go.RowKit Go.Maps
set_option linter.unusedVariables false
set_option linter.unusedSimpArgs false

theorem own : ownKnob Try.prog.godebug = none := by kernel_rfl
theorem info33 : (Try.prog.info? 45).map (fun i => (i.zero, i.size, i.bytes)) = some (some (.agg #[.int .i32 0, .int .i32 0, .int .i64 0]), 3, 16) := by kernel_rfl
/-- ranges as cells. -/
def rgCells (L : List Rg) : List Value := L.flatMap fun x => [.int .i32 x.lo, .int .i32 x.hi, .int .i64 x.to]
theorem rgCells_append (L M : List Rg) : rgCells (L ++ M) = rgCells L ++ rgCells M := by unfold rgCells; rw [List.flatMap_append]
theorem rgCells_len : ∀ L : List Rg, (rgCells L).length = L.length * 3
  | [] => rfl
  | x :: L => by
    show ([Value.int .i32 x.lo, Value.int .i32 x.hi, Value.int .i64 x.to] ++ rgCells L).length = _
    rw [List.length_append, rgCells_len L]
    simp
    omega
theorem rgCells_at : ∀ (L : List Rg) (k : Nat) (x : Rg), L[k]? = some x → (rgCells L)[k * 3]? = some (.int .i32 x.lo) ∧ (rgCells L)[k * 3 + 1]? = some (.int .i32 x.hi) ∧ (rgCells L)[k * 3 + 2]? = some (.int .i64 x.to) := by
  intro L
  induction L with
  | nil => intro k x h; simp at h
  | cons y L ih =>
    intro k x h
    have e : rgCells (y :: L) = [.int .i32 y.lo, .int .i32 y.hi, .int .i64 y.to] ++ rgCells L := rfl
    rw [e]
    cases k with
    | zero => simp at h; subst h; exact ⟨rfl, rfl, rfl⟩
    | succ k =>
      have := ih k x (by simpa using h)
      rw [show (k + 1) * 3 = k * 3 + 3 by omega]
      exact ⟨this.1, this.2.1, this.2.2⟩
theorem rgCells_one (L : List Rg) : ∀ u ∈ rgCells L, u.oneCell' = true := by
  intro u hu
  obtain ⟨x, _, hx⟩ := List.mem_flatMap.1 hu
  simp at hx
  rcases hx with rfl | rfl | rfl <;> rfl
theorem Sees.news {w : World} {L : List Rg} {ad : Addr} {b off cap : Nat} (h : Sees w L (some ad) b off cap) : ∀ j u, (rgCells L)[j]? = some u → w.cell? (ad.add j) = some u := by
  intro j u hj
  have hl := (List.getElem?_eq_some_iff.1 hj).1
  rw [rgCells_len] at hl
  have hn : 0 < L.length := by omega
  have had := h.adr hn
  injection had with had
  subst had
  rw [Addr.add_mid]
  obtain ⟨x, hx⟩ : ∃ x, L[j / 3]? = some x := ⟨L[j / 3]'(by omega), List.getElem?_eq_getElem _⟩
  obtain ⟨q0, q1, q2⟩ := rgCells_at L (j / 3) x hx
  have hm : j % 3 = 0 ∨ j % 3 = 1 ∨ j % 3 = 2 := by omega
  rcases hm with e | e | e
  · have ej : j = j / 3 * 3 := by omega
    rw [ej] at hj ⊢
    rw [q0] at hj
    injection hj with hj
    subst hj
    exact h.c0 _ _ hx
  · have ej : j = j / 3 * 3 + 1 := by omega
    rw [ej] at hj ⊢
    rw [q1] at hj
    injection hj with hj
    subst hj
    exact h.c1 _ _ hx
  · have ej : j = j / 3 * 3 + 2 := by omega
    rw [ej] at hj ⊢
    rw [q2] at hj
    injection hj with hj
    subst hj
    exact h.c2 _ _ hx
theorem row_sees {w : World} {base : Nat} {v : Value} {L : List Rg} (h : w.ownsRow base 45 3 v L.length (rgCells L)) :
    ∃ (a : Option Addr) (g cap : Nat), v = .slice a L.length cap ∧ Sees w L a g 0 cap ∧ (0 < L.length → base ≤ g) ∧ (a = none → cap = 0) := by
  by_cases hn : 0 < L.length
  · obtain ⟨g, cap, hv, h1, h2, h3, h4⟩ := row_form h hn
    refine ⟨_, g, cap, hv, ⟨h3, fun _ => rfl, fun _ => h2, fun j x hj => ?_, fun j x hj => ?_, fun j x hj => ?_⟩, fun _ => h1, fun e => by cases e⟩
    · have hl := (List.getElem?_eq_some_iff.1 hj).1
      rw [Nat.zero_add, h4 _ (by omega)]
      exact (rgCells_at L j x hj).1
    · have hl := (List.getElem?_eq_some_iff.1 hj).1
      rw [Nat.zero_add, h4 _ (by omega)]
      exact (rgCells_at L j x hj).2.1
    · have hl := (List.getElem?_eq_some_iff.1 hj).1
      rw [Nat.zero_add, h4 _ (by omega)]
      exact (rgCells_at L j x hj).2.2
  · have e : L = [] := List.eq_nil_of_length_eq_zero (by omega)
    subst e
    obtain ⟨hl, ⟨hv, _⟩ | ⟨g, cap, cur, hv, _⟩⟩ := h
    · exact ⟨none, 0, 0, hv, ⟨Nat.le_refl _, fun h => absurd h hn, fun h => absurd h hn, fun j x hj => by simp at hj, fun j x hj => by simp at hj, fun j x hj => by simp at hj⟩, fun h => absurd h hn, fun _ => rfl⟩
    · exact ⟨_, g, cap, hv, ⟨Nat.zero_le _, fun h => absurd h hn, fun h => absurd h hn, fun j x hj => by simp at hj, fun j x hj => by simp at hj, fun j x hj => by simp at hj⟩, fun h => absurd h hn, fun e => by cases e⟩
theorem made_empty (w : World) : (w.alloc (.cells #[] 45)).ownsRow w.heap.size 45 3 (.slice (some ⟨w.heap.size, 0, none⟩) 0 0) 0 [] := by
  refine ⟨rfl, Or.inr ⟨w.heap.size, 0, #[], rfl, Nat.le_refl _, ?_, Nat.le_refl _, Nat.zero_le _, rfl, rfl⟩⟩
  show (w.heap.push (.cells #[] 45))[w.heap.size]? = _
  simp
theorem ownsRow_below {w w' : World} {base : Nat} {e : TypeId} {size : Nat} {v : Value} {n : Nat} {xs : List Value} (h : w.ownsRow base e size v n xs) (hb : Below w.heap.size w w') : w'.ownsRow base e size v n xs := by
  obtain ⟨hl, h | ⟨g, cap, cur, hv, hg, hh, h1, h2, h3, h4⟩⟩ := h
  · exact ⟨hl, Or.inl h⟩
  · refine ⟨hl, Or.inr ⟨g, cap, cur, hv, hg, ?_, h1, h2, h3, h4⟩⟩
    rw [hb.block g (Array.getElem?_eq_some_iff.1 hh).1]
    exact hh

theorem wf_i32 {a : Int} (h : (Lit.int .i32 a).wf = true) : -2147483648 ≤ a ∧ a ≤ 2147483647 := by
  have e1 : IntKind.min .i32 = -2147483648 := by decide
  have e2 : IntKind.max .i32 = 2147483647 := by decide
  simp only [Lit.wf, e1, e2, Bool.and_eq_true, decide_eq_true_eq] at h
  exact h
theorem wf_i64 {a : Int} (h : (Lit.int .i64 a).wf = true) : -9223372036854775808 ≤ a ∧ a ≤ 9223372036854775807 := by
  have e1 : IntKind.min .i64 = -9223372036854775808 := by decide
  have e2 : IntKind.max .i64 = 9223372036854775807 := by decide
  simp only [Lit.wf, e1, e2, Bool.and_eq_true, decide_eq_true_eq] at h
  exact h
theorem u33 : ∃ f0 f1 f2 : Field, Try.prog.underlying 45 = some (.struct #[f0, f1, f2]) ∧ f0.type = 21 ∧ f1.type = 21 ∧ f2.type = 3 ∧ f0.offset = 0 ∧ f1.offset = 1 ∧ f2.offset = 2 := ⟨_, _, _, Try.underlying45, rfl, rfl, rfl, rfl, rfl, rfl⟩
theorem ranges_view {H : Type} {enc : TypeId × Value → H} {W : World} {a : Option Addr} {len cap : Nat} {d : DataW H} {p : List MemPlace}
    (h : DataW.Trod enc Try.prog W 0 (fun _ => true) true 23 (Value.slice a len cap) d p) :
    ∃ (L : List Rg) (b off : Nat), len = L.length ∧ Sees W L a b off cap ∧ Fit L ∧ cap ≤ maxLen ∧ (a = none → len = 0 ∧ cap = 0) := by
  obtain ⟨fuel, hf⟩ := h
  rcases Deep.open_slice Try.underlying23 hf with ⟨hcs, _⟩ | ⟨ad, l, c, m, n, D, Pl, hcs, _, hl, hm, hmm, _, hx⟩
  · simp [Value.cells] at hcs
    obtain ⟨rfl, rfl, rfl⟩ := hcs
    exact ⟨[], 0, 0, rfl, ⟨Nat.le_refl _, fun h => absurd h (Nat.lt_irrefl _), fun h => absurd h (Nat.lt_irrefl _), fun j x hj => by simp at hj, fun j x hj => by simp at hj, fun j x hj => by simp at hj⟩, fun x hx => (List.not_mem_nil hx).elim, Nat.zero_le _, fun _ => ⟨rfl, rfl⟩⟩
  · simp [Value.cells] at hcs
    obtain ⟨rfl, rfl, rfl⟩ := hcs
    have hlm : len ≤ m := by rw [hmm]; simpa using hl
    obtain ⟨f0, f1, f2, hu, t0, t1, t2, o0, o1, o2⟩ := u33
    have each : ∀ i, i < len → ∃ x : Rg, W.cell? (ad.add (i * 3)) = some (.int .i32 x.lo) ∧ W.cell? (ad.add (i * 3 + 1)) = some (.int .i32 x.hi) ∧ W.cell? (ad.add (i * 3 + 2)) = some (.int .i64 x.to) ∧ (-2147483648 ≤ x.lo ∧ x.lo ≤ 2147483647 ∧ -2147483648 ≤ x.hi ∧ x.hi ≤ 2147483647 ∧ -9223372036854775808 ≤ x.to ∧ x.to ≤ 9223372036854775807) := by
      intro i hi
      obtain ⟨cs', h1, h2⟩ := hx i (by omega)
      have ce : Try.prog.cellsOf 45 = 3 := by kernel_rfl
      have c21 : Try.prog.cellsOf 21 = 1 := by kernel_rfl
      have c3 : Try.prog.cellsOf 3 = 1 := by kernel_rfl
      rw [ce] at h1
      obtain ⟨_, hlen, hcell⟩ := World.cells?_some h1
      obtain ⟨y0, y1, y2, k, _, _, g0, g1, g2⟩ := Deep.trod_struct3 hu h2
      rw [t0, o0, c21] at g0
      rw [t1, o1, c21] at g1
      rw [t2, o2, c3] at g2
      match cs', hlen with
      | [v0, v1, v2], _ =>
        obtain ⟨n0, e0, _, w0⟩ := DataW.trod_int Try.underlying21 g0
        obtain ⟨n1, e1, _, w1⟩ := DataW.trod_int Try.underlying21 g1
        obtain ⟨n2, e2, _, w2⟩ := DataW.trod_int Try.underlying3 g2
        simp at e0 e1 e2
        subst e0 e1 e2
        have k0 := hcell 0 (by omega)
        have k1 := hcell 1 (by omega)
        have k2 := hcell 2 (by omega)
        rw [Deep.add_add] at k0 k1 k2
        exact ⟨⟨n0, n1, n2⟩, k0, k1, k2, (wf_i32 w0).1, (wf_i32 w0).2, (wf_i32 w1).1, (wf_i32 w1).2, (wf_i64 w2).1, (wf_i64 w2).2⟩
    have hInh : Inhabited Rg := ⟨⟨0, 0, 0⟩⟩
    obtain ⟨F, hF⟩ := Deep.choose_lt each
    have hget : ∀ {j x}, ((List.range len).map F)[j]? = some x → j < len ∧ x = F j := fun {j x} hj => by
      have hl := (List.getElem?_eq_some_iff.1 hj).1
      simp at hl
      rw [List.getElem?_map, List.getElem?_range hl] at hj
      injection hj with hj
      exact ⟨hl, hj.symm⟩
    have hfit : Fit ((List.range len).map F) := fun x hx => by
      obtain ⟨j, hj, rfl⟩ := List.mem_map.1 hx
      exact (hF j (List.mem_range.1 hj)).2.2.2
    by_cases h0 : 0 < len
    · obtain ⟨b, off, spot⟩ := ad
      have hspot : spot = none := by simpa [Addr.add] using World.cell?_spot (hF 0 h0).1
      subst hspot
      refine ⟨(List.range len).map F, b, off, by simp, ⟨by simpa using hl, fun _ => rfl, fun _ => ?_, fun j x hj => ?_, fun j x hj => ?_, fun j x hj => ?_⟩, hfit, hm, fun e => by cases e⟩
      · have := (hF 0 h0).1
        rw [Addr.add_mid] at this
        exact World.block_lt_of_cell? W _ this
      · obtain ⟨hj', rfl⟩ := hget hj
        have := (hF j hj').1
        rw [Addr.add_mid] at this
        exact this
      · obtain ⟨hj', rfl⟩ := hget hj
        have := (hF j hj').2.1
        rw [Addr.add_mid] at this
        exact this
      · obtain ⟨hj', rfl⟩ := hget hj
        have := (hF j hj').2.2.1
        rw [Addr.add_mid] at this
        exact this
    · refine ⟨(List.range len).map F, 0, 0, by simp, ⟨by simpa using hl, fun h => absurd (by simpa using h) h0, fun h => absurd (by simpa using h) h0, fun j x hj => absurd (hget hj).1 (by omega), fun j x hj => absurd (hget hj).1 (by omega), fun j x hj => absurd (hget hj).1 (by omega)⟩, hfit, hm, fun e => by cases e⟩
end Go.Proofs.Ytlcpfheocenjfaa
