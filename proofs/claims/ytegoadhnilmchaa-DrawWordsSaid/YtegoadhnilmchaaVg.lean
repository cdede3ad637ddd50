/-
  Arguments that came in: bits.
-/
import Derived.Test.YtegoadhnilmchaaVb
import Derived.SizedLaws
import Derived.ChangeMaps5
import Derived.ChangeOld
import Derived.OpenShut
import Derived.ShutString
import Derived.ProofKit
import Derived.Deep.Grids
namespace Go.Proofs.Ytegoadhnilmchaa
open Go.RowKit Go.Maps Go.ChangeShapes Go.WideShapes Go.ChangeAt
set_option linter.unusedVariables false
set_option linter.unusedSimpArgs false
theorem own : ownKnob Try.prog.godebug = none := by kernel_rfl
theorem wf_i32 {a : Int} (h : (Lit.int .i32 a).wf = true) : -2147483648 ≤ a ∧ a ≤ 2147483647 := by
  have e1 : IntKind.min .i32 = -2147483648 := by decide
  have e2 : IntKind.max .i32 = 2147483647 := by decide
  simp only [Lit.wf, e1, e2, Bool.and_eq_true, decide_eq_true_eq] at h
  exact h
theorem wf_i64 {a : Int} (h : (Lit.int .i64 a).wf = true) : -9223372036854775808 ≤ a ∧ a ≤ 9223372036854775807 := by
  have e1 : IntKind.min .i64 = -9223372036854775808 := by decide
  have e2 : IntKind.max .i64 = 9223372036854775807 := by decide
  simp only [Lit.wf, e1, e2, Bool.and_eq_true, decide_eq_true_eq] at h
  exact h
theorem sized_at {H : Type} {ts : List TypeId} {ds : List (DataW H)} (h : (DataW.weightsEach Try.prog ts ds).all (· ≤ reachBytes) = true) {j : Nat} {t : TypeId} {d : DataW H} (ht : ts[j]? = some t) (hd : ds[j]? = some d) : ∀ n ∈ d.weights Try.prog t, n ≤ reachBytes := fun n hn => by
  have := List.all_eq_true.1 h _ (DataW.weights_mem_each ht hd n hn)
  simpa using this
/-- a bit, in small numbers. -/
structure Bt where
  cells : Nat
  kind : Nat
  len : Nat
  opp : Nat
def btV (b : Bt) : List Value := [.int .u8 (b.cells : Int), .int .u8 (b.kind : Int), .int .u8 (b.len : Int), .int .u8 (b.opp : Int)]
def btC (L : List Bt) : List Value := L.flatMap btV
theorem flat4 {α : Type} {f : α → List Value} (hf : ∀ x, (f x).length = 4) : ∀ (L : List α) (j : Nat) (u : Value), (L.flatMap f)[j]? = some u → ∃ x, L[j / 4]? = some x ∧ (f x)[j % 4]? = some u
  | [], j, u, h => by simp at h
  | y :: L, j, u, h => by
    rw [List.flatMap_cons] at h
    by_cases hj : j < 4
    · rw [List.getElem?_append_left (by rw [hf]; exact hj)] at h
      exact ⟨y, by rw [Nat.div_eq_of_lt hj]; rfl, by rw [Nat.mod_eq_of_lt hj]; exact h⟩
    · rw [List.getElem?_append_right (by rw [hf]; omega), hf] at h
      obtain ⟨x, h1, h2⟩ := flat4 hf L (j - 4) u h
      refine ⟨x, ?_, ?_⟩
      · rw [show j / 4 = (j - 4) / 4 + 1 by omega]; exact h1
      · rw [show j % 4 = (j - 4) % 4 by omega]; exact h2
theorem quad_view {α : Type} [Inhabited α] {f : α → List Value} (hf : ∀ x, (f x).length = 4) {W : World} {ad : Addr} {len : Nat} {good : α → Prop}
    (each : ∀ i, i < len → ∃ x, (∀ r u, (f x)[r]? = some u → W.cell? (ad.add (i * 4 + r)) = some u) ∧ good x) : ∃ L : List α, L.length = len ∧ Vw W (some ad) (L.flatMap f) ∧ ∀ x ∈ L, good x := by
  obtain ⟨F, hF⟩ := Deep.choose_lt each
  refine ⟨(List.range len).map F, by simp, ?_, fun x hx => ?_⟩
  · by_cases h0 : 0 < len
    · obtain ⟨b, off, spot⟩ := ad
      have hspot : spot = none := by
        have h4 := hf (F 0)
        have := (hF 0 h0).1 0 _ (List.getElem?_eq_getElem (by omega))
        simpa [Addr.add] using World.cell?_spot this
      subst hspot
      refine Or.inr ⟨b, off, rfl, fun j u hj => ?_⟩
      obtain ⟨x, h1, h2⟩ := flat4 hf _ j u hj
      have hl := (List.getElem?_eq_some_iff.1 h1).1
      simp at hl
      rw [List.getElem?_map, List.getElem?_range (by omega)] at h1
      injection h1 with h1
      subst h1
      have := (hF (j / 4) (by omega)).1 (j % 4) u h2
      rw [Addr.add_mid, show j / 4 * 4 + j % 4 = j by omega] at this
      exact this
    · obtain rfl : len = 0 := by omega
      exact Or.inl rfl
  · obtain ⟨j, hj, rfl⟩ := List.mem_map.1 hx
    exact (hF j (List.mem_range.1 hj)).2
theorem trod_struct4 {H : Type} {enc : TypeId × Value → H} {P : Program} {w : World} {base : Nat} {spare : Nat → Bool} {held : Bool} {t : TypeId} {f0 f1 f2 f3 : Field} {fuel : Nat} {cs : List Value} {x : DataW H × List MemPlace} (ht : P.underlying t = some (.struct #[f0, f1, f2, f3])) (h : DataW.trod enc P w base spare held fuel t cs = some x) :
    ∃ y0 y1 y2 y3 n, DataW.trod enc P w base spare held n f0.type ((cs.drop f0.offset).take (P.cellsOf f0.type)) = some y0 ∧
      DataW.trod enc P w base spare held n f1.type ((cs.drop f1.offset).take (P.cellsOf f1.type)) = some y1 ∧ DataW.trod enc P w base spare held n f2.type ((cs.drop f2.offset).take (P.cellsOf f2.type)) = some y2 ∧ DataW.trod enc P w base spare held n f3.type ((cs.drop f3.offset).take (P.cellsOf f3.type)) = some y3 := by
  obtain ⟨xs, n, _, rfl, hl, hlen, hf⟩ := DataW.trod_struct ht h
  match xs, hlen with
  | [y0, y1, y2, y3], _ => exact ⟨y0, y1, y2, y3, n, by simpa using hf 0 f0 rfl, by simpa using hf 1 f1 rfl, by simpa using hf 2 f2 rfl, by simpa using hf 3 f3 rfl⟩
theorem trod_struct5 {H : Type} {enc : TypeId × Value → H} {P : Program} {w : World} {base : Nat} {spare : Nat → Bool} {held : Bool} {t : TypeId} {f0 f1 f2 f3 f4 : Field} {fuel : Nat} {cs : List Value} {x : DataW H × List MemPlace} (ht : P.underlying t = some (.struct #[f0, f1, f2, f3, f4])) (h : DataW.trod enc P w base spare held fuel t cs = some x) :
    ∃ y0 y1 y2 y3 y4 n, x.1 = .agg [y0.1, y1.1, y2.1, y3.1, y4.1] ∧ DataW.trod enc P w base spare held n f0.type ((cs.drop f0.offset).take (P.cellsOf f0.type)) = some y0 ∧
      DataW.trod enc P w base spare held n f1.type ((cs.drop f1.offset).take (P.cellsOf f1.type)) = some y1 ∧ DataW.trod enc P w base spare held n f2.type ((cs.drop f2.offset).take (P.cellsOf f2.type)) = some y2 ∧ DataW.trod enc P w base spare held n f3.type ((cs.drop f3.offset).take (P.cellsOf f3.type)) = some y3 ∧ DataW.trod enc P w base spare held n f4.type ((cs.drop f4.offset).take (P.cellsOf f4.type)) = some y4 := by
  obtain ⟨xs, n, _, rfl, hl, hlen, hf⟩ := DataW.trod_struct ht h
  match xs, hlen with
  | [y0, y1, y2, y3, y4], _ => exact ⟨y0, y1, y2, y3, y4, n, by simp, by simpa using hf 0 f0 rfl, by simpa using hf 1 f1 rfl, by simpa using hf 2 f2 rfl, by simpa using hf 3 f3 rfl, by simpa using hf 4 f4 rfl⟩
theorem uBit : ∃ f0 f1 f2 f3 : Field, Try.prog.underlying 48 = some (.struct #[f0, f1, f2, f3]) ∧ f0.type = 5 ∧ f1.type = 5 ∧ f2.type = 5 ∧ f3.type = 5 ∧ f0.offset = 0 ∧ f1.offset = 1 ∧ f2.offset = 2 ∧ f3.offset = 3 := ⟨_, _, _, _, Try.underlying48, rfl, rfl, rfl, rfl, rfl, rfl, rfl, rfl⟩
theorem wf_u8 {n : Int} (h : (Lit.int .u8 n).wf = true) : 0 ≤ n ∧ n ≤ 255 := by
  have := range_u8 (zs := [n]) (fun m hm => by simp at hm; subst hm; exact h) 0
  simpa using this
set_option maxRecDepth 100000 in
theorem bits_view {H : Type} {enc : TypeId × Value → H} {W : World} {v : Value} {d : DataW H} {p : List MemPlace} {b0 : Nat} (hv : Value.okWide Try.prog W .any b0 22 v)
    (h : DataW.Trod enc Try.prog W 0 (fun _ => true) true 22 v d p) : ∃ (a : Option Addr) (cap : Nat) (L : List Bt), v = .slice a L.length cap ∧ Vw W a (btC L) ∧ (∀ b ∈ L, b.cells < 256 ∧ b.kind < 256 ∧ b.len < 256 ∧ b.opp < 256) ∧ L.length ≤ cap ∧ cap ≤ maxLen := by
  obtain ⟨a, len, cap, rfl⟩ := okWide_slice Try.underlying22 hv
  obtain ⟨fuel, hf⟩ := h
  rcases Deep.open_slice Try.underlying22 hf with ⟨hcs, _⟩ | ⟨ad, l, c, m, n, D, Pl, hcs, _, hl, hm, hmm, _, hx⟩
  · simp [Value.cells] at hcs
    obtain ⟨rfl, rfl, rfl⟩ := hcs
    exact ⟨none, 0, [], rfl, Or.inl rfl, fun x hx => (List.not_mem_nil hx).elim, Nat.le_refl _, Nat.zero_le _⟩
  · simp [Value.cells] at hcs
    obtain ⟨rfl, rfl, rfl⟩ := hcs
    have hlm : len ≤ m := by rw [hmm]; simpa using hl
    obtain ⟨f0, f1, f2, f3, hu, t0, t1, t2, t3, o0, o1, o2, o3⟩ := uBit
    have hI : Inhabited Bt := ⟨⟨0, 0, 0, 0⟩⟩
    have each : ∀ i, i < len → ∃ x : Bt, (∀ r u, (btV x)[r]? = some u → W.cell? (ad.add (i * 4 + r)) = some u) ∧ (x.cells < 256 ∧ x.kind < 256 ∧ x.len < 256 ∧ x.opp < 256) := by
      intro i hi
      obtain ⟨cs', h1, h2⟩ := hx i (by omega)
      have ce : Try.prog.cellsOf 48 = 4 := by kernel_rfl
      have c5 : Try.prog.cellsOf 5 = 1 := by kernel_rfl
      rw [ce] at h1
      obtain ⟨_, hlen, hcell⟩ := World.cells?_some h1
      obtain ⟨y0, y1, y2, y3, k, g0, g1, g2, g3⟩ := trod_struct4 hu h2
      rw [t0, o0, c5] at g0
      rw [t1, o1, c5] at g1
      rw [t2, o2, c5] at g2
      rw [t3, o3, c5] at g3
      match cs', hlen with
      | [v0, v1, v2, v3], _ =>
        obtain ⟨n0, e0, _, w0⟩ := DataW.trod_int Try.underlying5 g0
        obtain ⟨n1, e1, _, w1⟩ := DataW.trod_int Try.underlying5 g1
        obtain ⟨n2, e2, _, w2⟩ := DataW.trod_int Try.underlying5 g2
        obtain ⟨n3, e3, _, w3⟩ := DataW.trod_int Try.underlying5 g3
        simp at e0 e1 e2 e3
        subst e0 e1 e2 e3
        have k0 := hcell 0 (by omega)
        have k1 := hcell 1 (by omega)
        have k2 := hcell 2 (by omega)
        have k3 := hcell 3 (by omega)
        rw [Deep.add_add] at k0 k1 k2 k3
        have b0 := wf_u8 w0
        have b1 := wf_u8 w1
        have b2 := wf_u8 w2
        have b3 := wf_u8 w3
        have z0 : ((n0.toNat : Nat) : Int) = n0 := by omega
        have z1 : ((n1.toNat : Nat) : Int) = n1 := by omega
        have z2 : ((n2.toNat : Nat) : Int) = n2 := by omega
        have z3 : ((n3.toNat : Nat) : Int) = n3 := by omega
        refine ⟨⟨n0.toNat, n1.toNat, n2.toNat, n3.toNat⟩, fun r u hr => ?_, by show n0.toNat < 256; omega, by show n1.toNat < 256; omega, by show n2.toNat < 256; omega, by show n3.toNat < 256; omega⟩
        unfold btV at hr
        simp only [z0, z1, z2, z3] at hr
        match r, hr with
        | 0, hr => injection hr with hr; subst hr; exact k0
        | 1, hr => injection hr with hr; subst hr; exact k1
        | 2, hr => injection hr with hr; subst hr; exact k2
        | 3, hr => injection hr with hr; subst hr; exact k3
        | r + 4, hr => simp at hr
    obtain ⟨L, hLl, hV, hg⟩ := quad_view (f := btV) (fun _ => rfl) each
    exact ⟨some ad, cap, L, by rw [hLl], hV, hg, by rw [hLl]; exact hl, hm⟩
end Go.Proofs.Ytegoadhnilmchaa

