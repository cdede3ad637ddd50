/-
  An argument api.Edit, as the walks want it.
-/
import Derived.Test.YtmhnghkodneodaaVc
import Derived.Test.YtmhnghkodneodaaVy
import Derived.Test.YtmhnghkodneodaaUg
import Derived.Deep.Strs
namespace Go.Proofs.Ytmhnghkodneodaa
open Go.ChangeShapes Go.WideShapes Go.ChangeAt Go.RowKit Go.Maps
set_option linter.unusedVariables false
set_option linter.unusedSimpArgs false
theorem uEdit : ∃ f0 f1 f2 : Field, Try.prog.underlying 24 = some (.struct #[f0, f1, f2]) ∧ f0.type = 3 ∧ f1.type = 3 ∧ f2.type = 22 ∧ f0.offset = 0 ∧ f1.offset = 1 ∧ f2.offset = 2 := ⟨_, _, _, Try.underlying24, rfl, rfl, rfl, rfl, rfl, rfl⟩
set_option maxRecDepth 100000 in
theorem edit_view {H : Type} {enc : TypeId × Value → H} {W : World} {v : Value} {d : DataW H} {p : List MemPlace} {b0 : Nat} (hv : Value.okWide Try.prog W .any b0 24 v)
    (h : DataW.Trod enc Try.prog W 0 (fun _ => true) true 24 v d p) (hs : ∀ n ∈ d.weights Try.prog 24, n ≤ reachBytes) : ∃ E : EdV, v = E.val ∧ E.Ok W := by
  obtain ⟨cs, rfl, hsz⟩ := okWide_struct Try.underlying24 hv
  have ce : Try.prog.cellsOf 24 = 3 := by kernel_rfl
  have c3 : Try.prog.cellsOf 3 = 1 := by kernel_rfl
  have cb : Try.prog.cellsOf 22 = 1 := by kernel_rfl
  rw [ce] at hsz
  obtain ⟨fuel, hf⟩ := h
  obtain ⟨f0, f1, f2, hu, t0, t1, t2, o0, o1, o2⟩ := uEdit
  obtain ⟨y0, y1, y2, n, hd, _, g0, g1, g2⟩ := Deep.trod_struct3 hu hf
  injection hd with hd' _
  subst hd'
  have hsW : ∀ m ∈ y2.1.weights Try.prog 22, m ≤ reachBytes := fun m hm => hs m (by
    simp only [DataW.weights, hu]
    simp [t0, t1, t2, DataW.weightsEach, hm])
  rw [t0, o0, c3] at g0
  rw [t1, o1, c3] at g1
  rw [t2, o2, cb] at g2
  obtain ⟨L⟩ := cs
  match L, hsz with
  | [v0, v1, v2], _ =>
    obtain ⟨n0, e0, _, w0⟩ := DataW.trod_int Try.underlying3 g0
    obtain ⟨n1, e1, _, w1⟩ := DataW.trod_int Try.underlying3 g1
    obtain ⟨a2, k2, L2, e2, hV, hB, hc, hm, hl, hn⟩ := bytes_cells g2
    simp [Value.cells] at e0 e1 e2
    subst e0 e1 e2
    exact ⟨⟨n0, n1, L2, a2, k2⟩, rfl, ⟨wf_i64 w0, wf_i64 w1, hV, hB, hc, hm, hl hsW, hn⟩⟩
end Go.Proofs.Ytmhnghkodneodaa
