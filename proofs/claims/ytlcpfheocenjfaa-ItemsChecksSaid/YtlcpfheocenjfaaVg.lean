/-
  More arguments that came in: bits, clusters, a case.
-/
import Derived.Test.YtlcpfheocenjfaaVf
import Derived.Test.YtlcpfheocenjfaaIk
import Derived.Deep.Grids
namespace Go.Proofs.Ytlcpfheocenjfaa
open Go.RowKit Go.Maps Go.ChangeShapes Go.WideShapes Go.ChangeAt
set_option linter.unusedVariables false
set_option linter.unusedSimpArgs false
/-- a bit, in small numbers. -/
structure Bt where
  cells : Nat
  kind : Nat
  len : Nat
  opp : Nat
def btV (b : Bt) : List Value := [.int .u8 (b.cells : Int), .int .u8 (b.kind : Int), .int .u8 (b.len : Int), .int .u8 (b.opp : Int)]
def btC (L : List Bt) : List Value := L.flatMap btV
def cgV (c : Cg) : List Value := [.int .i64 c.pl, .int .i64 c.len, .int .i64 c.cells, .int .u8 (c.kind : Int)]
theorem flat4 {α : Type} {f : α → List Value} (hf : ∀ x, (f x).length = 4) : ∀ (L : List α) (j : Nat) (u : Value), (L.flatMap f)[j]? = some u → ∃ x, L[j / 4]? = some x ∧ (f x)[j % 4]? = some u
  | [], j, u, h => by simp at h
  | y :: L, j, u, h => by
    rw [List.flatMap_cons] at h
    by_cases hj : j < 4
    · rw [List.getElem?_append_left (by rw [hf]; exact hj)] at h
      exact ⟨y, by rw [Nat.div_eq_of_lt hj]; rfl, by rw [Nat.mod_eq_of_lt hj]; exact h⟩
    · rw [List.getElem?_append_right (by rw [hf]; omega), hf] at h
      obtain ⟨x, h1, h2⟩ := flat4 hf L (j - 4) u h
      refine ⟨x, ?_, ?_⟩
      · rw [show j / 4 = (j - 4) / 4 + 1 by omega]; exact h1
      · rw [show j % 4 = (j - 4) % 4 by omega]; exact h2
theorem quad_view {α : Type} [Inhabited α] {f : α → List Value} (hf : ∀ x, (f x).length = 4) {W : World} {ad : Addr} {len : Nat} {good : α → Prop}
    (each : ∀ i, i < len → ∃ x, (∀ r u, (f x)[r]? = some u → W.cell? (ad.add (i * 4 + r)) = some u) ∧ good x) : ∃ L : List α, L.length = len ∧ Vw W (some ad) (L.flatMap f) ∧ ∀ x ∈ L, good x := by
  obtain ⟨F, hF⟩ := Deep.choose_lt each
  refine ⟨(List.range len).map F, by simp, ?_, fun x hx => ?_⟩
  · by_cases h0 : 0 < len
    · obtain ⟨b, off, spot⟩ := ad
      have hspot : spot = none := by
        have h4 := hf (F 0)
        have := (hF 0 h0).1 0 _ (List.getElem?_eq_getElem (by omega))
        simpa [Addr.add] using World.cell?_spot this
      subst hspot
      refine Or.inr ⟨b, off, rfl, fun j u hj => ?_⟩
      obtain ⟨x, h1, h2⟩ := flat4 hf _ j u hj
      have hl := (List.getElem?_eq_some_iff.1 h1).1
      simp at hl
      rw [List.getElem?_map, List.getElem?_range (by omega)] at h1
      injection h1 with h1
      subst h1
      have := (hF (j / 4) (by omega)).1 (j % 4) u h2
      rw [Addr.add_mid, show j / 4 * 4 + j % 4 = j by omega] at this
      exact this
    · obtain rfl : len = 0 := by omega
      exact Or.inl rfl
  · obtain ⟨j, hj, rfl⟩ := List.mem_map.1 hx
    exact (hF j (List.mem_range.1 hj)).2
theorem trod_struct4 {H : Type} {enc : TypeId × Value → H} {P : Program} {w : World} {base : Nat} {spare : Nat → Bool} {held : Bool} {t : TypeId} {f0 f1 f2 f3 : Field} {fuel : Nat} {cs : List Value} {x : DataW H × List MemPlace} (ht : P.underlying t = some (.struct #[f0, f1, f2, f3])) (h : DataW.trod enc P w base spare held fuel t cs = some x) :
    ∃ y0 y1 y2 y3 n, DataW.trod enc P w base spare held n f0.type ((cs.drop f0.offset).take (P.cellsOf f0.type)) = some y0 ∧
      DataW.trod enc P w base spare held n f1.type ((cs.drop f1.offset).take (P.cellsOf f1.type)) = some y1 ∧ DataW.trod enc P w base spare held n f2.type ((cs.drop f2.offset).take (P.cellsOf f2.type)) = some y2 ∧ DataW.trod enc P w base spare held n f3.type ((cs.drop f3.offset).take (P.cellsOf f3.type)) = some y3 := by
  obtain ⟨xs, n, _, rfl, hl, hlen, hf⟩ := DataW.trod_struct ht h
  match xs, hlen with
  | [y0, y1, y2, y3], _ => exact ⟨y0, y1, y2, y3, n, by simpa using hf 0 f0 rfl, by simpa using hf 1 f1 rfl, by simpa using hf 2 f2 rfl, by simpa using hf 3 f3 rfl⟩
theorem trod_struct5 {H : Type} {enc : TypeId × Value → H} {P : Program} {w : World} {base : Nat} {spare : Nat → Bool} {held : Bool} {t : TypeId} {f0 f1 f2 f3 f4 : Field} {fuel : Nat} {cs : List Value} {x : DataW H × List MemPlace} (ht : P.underlying t = some (.struct #[f0, f1, f2, f3, f4])) (h : DataW.trod enc P w base spare held fuel t cs = some x) :
    ∃ y0 y1 y2 y3 y4 n, x.1 = .agg [y0.1, y1.1, y2.1, y3.1, y4.1] ∧ DataW.trod enc P w base spare held n f0.type ((cs.drop f0.offset).take (P.cellsOf f0.type)) = some y0 ∧
      DataW.trod enc P w base spare held n f1.type ((cs.drop f1.offset).take (P.cellsOf f1.type)) = some y1 ∧ DataW.trod enc P w base spare held n f2.type ((cs.drop f2.offset).take (P.cellsOf f2.type)) = some y2 ∧ DataW.trod enc P w base spare held n f3.type ((cs.drop f3.offset).take (P.cellsOf f3.type)) = some y3 ∧ DataW.trod enc P w base spare held n f4.type ((cs.drop f4.offset).take (P.cellsOf f4.type)) = some y4 := by
  obtain ⟨xs, n, _, rfl, hl, hlen, hf⟩ := DataW.trod_struct ht h
  match xs, hlen with
  | [y0, y1, y2, y3, y4], _ => exact ⟨y0, y1, y2, y3, y4, n, by simp, by simpa using hf 0 f0 rfl, by simpa using hf 1 f1 rfl, by simpa using hf 2 f2 rfl, by simpa using hf 3 f3 rfl, by simpa using hf 4 f4 rfl⟩
theorem uBit : ∃ f0 f1 f2 f3 : Field, Try.prog.underlying 99 = some (.struct #[f0, f1, f2, f3]) ∧ f0.type = 5 ∧ f1.type = 5 ∧ f2.type = 5 ∧ f3.type = 5 ∧ f0.offset = 0 ∧ f1.offset = 1 ∧ f2.offset = 2 ∧ f3.offset = 3 := ⟨_, _, _, _, Try.underlying99, rfl, rfl, rfl, rfl, rfl, rfl, rfl, rfl⟩
theorem uClu : ∃ f0 f1 f2 f3 : Field, Try.prog.underlying 48 = some (.struct #[f0, f1, f2, f3]) ∧ f0.type = 3 ∧ f1.type = 3 ∧ f2.type = 3 ∧ f3.type = 46 ∧ f0.offset = 0 ∧ f1.offset = 1 ∧ f2.offset = 2 ∧ f3.offset = 3 := ⟨_, _, _, _, Try.underlying48, rfl, rfl, rfl, rfl, rfl, rfl, rfl, rfl⟩
theorem wf_u8 {n : Int} (h : (Lit.int .u8 n).wf = true) : 0 ≤ n ∧ n ≤ 255 := by
  have := range_u8 (zs := [n]) (fun m hm => by simp at hm; subst hm; exact h) 0
  simpa using this
set_option maxRecDepth 100000 in
theorem bits_view {H : Type} {enc : TypeId × Value → H} {W : World} {v : Value} {d : DataW H} {p : List MemPlace} {b0 : Nat} (hv : Value.okWide Try.prog W .any b0 70 v)
    (h : DataW.Trod enc Try.prog W 0 (fun _ => true) true 70 v d p) : ∃ (a : Option Addr) (cap : Nat) (L : List Bt), v = .slice a L.length cap ∧ Vw W a (btC L) ∧ (∀ b ∈ L, b.cells < 256 ∧ b.kind < 256 ∧ b.len < 256 ∧ b.opp < 256) ∧ L.length ≤ cap ∧ cap ≤ maxLen := by
  obtain ⟨a, len, cap, rfl⟩ := okWide_slice Try.underlying70 hv
  obtain ⟨fuel, hf⟩ := h
  rcases Deep.open_slice Try.underlying70 hf with ⟨hcs, _⟩ | ⟨ad, l, c, m, n, D, Pl, hcs, _, hl, hm, hmm, _, hx⟩
  · simp [Value.cells] at hcs
    obtain ⟨rfl, rfl, rfl⟩ := hcs
    exact ⟨none, 0, [], rfl, Or.inl rfl, fun x hx => (List.not_mem_nil hx).elim, Nat.le_refl _, Nat.zero_le _⟩
  · simp [Value.cells] at hcs
    obtain ⟨rfl, rfl, rfl⟩ := hcs
    have hlm : len ≤ m := by rw [hmm]; simpa using hl
    obtain ⟨f0, f1, f2, f3, hu, t0, t1, t2, t3, o0, o1, o2, o3⟩ := uBit
    have hI : Inhabited Bt := ⟨⟨0, 0, 0, 0⟩⟩
    have each : ∀ i, i < len → ∃ x : Bt, (∀ r u, (btV x)[r]? = some u → W.cell? (ad.add (i * 4 + r)) = some u) ∧ (x.cells < 256 ∧ x.kind < 256 ∧ x.len < 256 ∧ x.opp < 256) := by
      intro i hi
      obtain ⟨cs', h1, h2⟩ := hx i (by omega)
      have ce : Try.prog.cellsOf 99 = 4 := by kernel_rfl
      have c5 : Try.prog.cellsOf 5 = 1 := by kernel_rfl
      rw [ce] at h1
      obtain ⟨_, hlen, hcell⟩ := World.cells?_some h1
      obtain ⟨y0, y1, y2, y3, k, g0, g1, g2, g3⟩ := trod_struct4 hu h2
      rw [t0, o0, c5] at g0
      rw [t1, o1, c5] at g1
      rw [t2, o2, c5] at g2
      rw [t3, o3, c5] at g3
      match cs', hlen with
      | [v0, v1, v2, v3], _ =>
        obtain ⟨n0, e0, _, w0⟩ := DataW.trod_int Try.underlying5 g0
        obtain ⟨n1, e1, _, w1⟩ := DataW.trod_int Try.underlying5 g1
        obtain ⟨n2, e2, _, w2⟩ := DataW.trod_int Try.underlying5 g2
        obtain ⟨n3, e3, _, w3⟩ := DataW.trod_int Try.underlying5 g3
        simp at e0 e1 e2 e3
        subst e0 e1 e2 e3
        have k0 := hcell 0 (by omega)
        have k1 := hcell 1 (by omega)
        have k2 := hcell 2 (by omega)
        have k3 := hcell 3 (by omega)
        rw [Deep.add_add] at k0 k1 k2 k3
        have b0 := wf_u8 w0
        have b1 := wf_u8 w1
        have b2 := wf_u8 w2
        have b3 := wf_u8 w3
        have z0 : ((n0.toNat : Nat) : Int) = n0 := by omega
        have z1 : ((n1.toNat : Nat) : Int) = n1 := by omega
        have z2 : ((n2.toNat : Nat) : Int) = n2 := by omega
        have z3 : ((n3.toNat : Nat) : Int) = n3 := by omega
        refine ⟨⟨n0.toNat, n1.toNat, n2.toNat, n3.toNat⟩, fun r u hr => ?_, by show n0.toNat < 256; omega, by show n1.toNat < 256; omega, by show n2.toNat < 256; omega, by show n3.toNat < 256; omega⟩
        unfold btV at hr
        simp only [z0, z1, z2, z3] at hr
        match r, hr with
        | 0, hr => injection hr with hr; subst hr; exact k0
        | 1, hr => injection hr with hr; subst hr; exact k1
        | 2, hr => injection hr with hr; subst hr; exact k2
        | 3, hr => injection hr with hr; subst hr; exact k3
        | r + 4, hr => simp at hr
    obtain ⟨L, hLl, hV, hg⟩ := quad_view (f := btV) (fun _ => rfl) each
    exact ⟨some ad, cap, L, by rw [hLl], hV, hg, by rw [hLl]; exact hl, hm⟩
set_option maxRecDepth 100000 in
theorem clusters_view {H : Type} {enc : TypeId × Value → H} {W : World} {v : Value} {d : DataW H} {p : List MemPlace} {b0 : Nat} (hv : Value.okWide Try.prog W .any b0 34 v)
    (h : DataW.Trod enc Try.prog W 0 (fun _ => true) true 34 v d p) : ∃ (a : Option Addr) (cap : Nat) (L : List Cg), v = .slice a L.length cap ∧ Vw W a (cgC L) ∧ (∀ c ∈ L, c.kind < 256 ∧ -9223372036854775808 ≤ c.len ∧ c.len ≤ 9223372036854775807) ∧ L.length ≤ cap ∧ cap ≤ maxLen := by
  obtain ⟨a, len, cap, rfl⟩ := okWide_slice Try.underlying34 hv
  obtain ⟨fuel, hf⟩ := h
  rcases Deep.open_slice Try.underlying34 hf with ⟨hcs, _⟩ | ⟨ad, l, c, m, n, D, Pl, hcs, _, hl, hm, hmm, _, hx⟩
  · simp [Value.cells] at hcs
    obtain ⟨rfl, rfl, rfl⟩ := hcs
    exact ⟨none, 0, [], rfl, Or.inl rfl, fun x hx => (List.not_mem_nil hx).elim, Nat.le_refl _, Nat.zero_le _⟩
  · simp [Value.cells] at hcs
    obtain ⟨rfl, rfl, rfl⟩ := hcs
    have hlm : len ≤ m := by rw [hmm]; simpa using hl
    obtain ⟨f0, f1, f2, f3, hu, t0, t1, t2, t3, o0, o1, o2, o3⟩ := uClu
    have hI : Inhabited Cg := ⟨⟨0, 0, 0, 0⟩⟩
    have each : ∀ i, i < len → ∃ x : Cg, (∀ r u, (cgV x)[r]? = some u → W.cell? (ad.add (i * 4 + r)) = some u) ∧ (x.kind < 256 ∧ -9223372036854775808 ≤ x.len ∧ x.len ≤ 9223372036854775807) := by
      intro i hi
      obtain ⟨cs', h1, h2⟩ := hx i (by omega)
      have ce : Try.prog.cellsOf 48 = 4 := by kernel_rfl
      have c3 : Try.prog.cellsOf 3 = 1 := by kernel_rfl
      have c46 : Try.prog.cellsOf 46 = 1 := by kernel_rfl
      rw [ce] at h1
      obtain ⟨_, hlen, hcell⟩ := World.cells?_some h1
      obtain ⟨y0, y1, y2, y3, k, g0, g1, g2, g3⟩ := trod_struct4 hu h2
      rw [t0, o0, c3] at g0
      rw [t1, o1, c3] at g1
      rw [t2, o2, c3] at g2
      rw [t3, o3, c46] at g3
      match cs', hlen with
      | [v0, v1, v2, v3], _ =>
        obtain ⟨n0, e0, _, w0⟩ := DataW.trod_int Try.underlying3 g0
        obtain ⟨n1, e1, _, w1⟩ := DataW.trod_int Try.underlying3 g1
        obtain ⟨n2, e2, _, w2⟩ := DataW.trod_int Try.underlying3 g2
        obtain ⟨n3, e3, _, w3⟩ := DataW.trod_int Try.underlying46 g3
        simp at e0 e1 e2 e3
        subst e0 e1 e2 e3
        have k0 := hcell 0 (by omega)
        have k1 := hcell 1 (by omega)
        have k2 := hcell 2 (by omega)
        have k3 := hcell 3 (by omega)
        rw [Deep.add_add] at k0 k1 k2 k3
        have b3 := wf_u8 w3
        have z3 : ((n3.toNat : Nat) : Int) = n3 := by omega
        refine ⟨⟨n0, n1, n2, n3.toNat⟩, fun r u hr => ?_, by show n3.toNat < 256; omega, (wf_i64 w1).1, (wf_i64 w1).2⟩
        unfold cgV at hr
        simp only [z3] at hr
        match r, hr with
        | 0, hr => injection hr with hr; subst hr; exact k0
        | 1, hr => injection hr with hr; subst hr; exact k1
        | 2, hr => injection hr with hr; subst hr; exact k2
        | 3, hr => injection hr with hr; subst hr; exact k3
        | r + 4, hr => simp at hr
    obtain ⟨L, hLl, hV, hg⟩ := quad_view (f := cgV) (fun _ => rfl) each
    exact ⟨some ad, cap, L, by rw [hLl], hV, hg, by rw [hLl]; exact hl, hm⟩
/-- a case, as it came in. -/
structure Kase where
  S : List Nat
  M : List Nat
  B : List Nat
  P : List Bool
  R : List Rg
  aS : Option Addr
  aM : Option Addr
  aB : Option Addr
  aP : Option Addr
  aR : Option Addr
  cS : Nat
  cM : Nat
  cB : Nat
  cP : Nat
  cR : Nat
  bR : Nat
  oR : Nat
def Kase.val (K : Kase) : Value := .agg #[.slice K.aS K.S.length K.cS, .slice K.aM K.M.length K.cM, .slice K.aB K.B.length K.cB, .slice K.aP K.P.length K.cP, .slice K.aR K.R.length K.cR]
structure Kase.Ok (K : Kase) (w : World) : Prop where
  vS : Vw w K.aS (u8s K.S)
  bS : ∀ x ∈ K.S, x < 256
  sS : K.S.length ≤ 140737488351232
  vM : Vw w K.aM (u8s K.M)
  bM : ∀ x ∈ K.M, x < 256
  sM : K.M.length ≤ 140737488351232
  vB : Vw w K.aB (u8s K.B)
  bB : ∀ x ∈ K.B, x < 256
  sB : K.B.length ≤ 140737488351232
  vP : Vw w K.aP (bools K.P)
  sP : K.P.length ≤ maxLen
  vR : Sees w K.R K.aR K.bR K.oR K.cR
  fR : Fit K.R
theorem uCase : ∃ f0 f1 f2 f3 f4 : Field, Try.prog.underlying 60 = some (.struct #[f0, f1, f2, f3, f4]) ∧ f0.type = 22 ∧ f1.type = 22 ∧ f2.type = 22 ∧ f3.type = 58 ∧ f4.type = 23 ∧ f0.offset = 0 ∧ f1.offset = 1 ∧ f2.offset = 2 ∧ f3.offset = 3 ∧ f4.offset = 4 := ⟨_, _, _, _, _, Try.underlying60, rfl, rfl, rfl, rfl, rfl, rfl, rfl, rfl, rfl, rfl⟩
set_option maxRecDepth 100000 in
theorem bools_cells {H : Type} {enc : TypeId × Value → H} {W : World} {fuel : Nat} {cs : List Value} {x : DataW H × List MemPlace}
    (hf : DataW.trod enc Try.prog W 0 (fun _ => true) true fuel 58 cs = some x) : ∃ (a : Option Addr) (cap : Nat) (L : List Bool), cs = [.slice a L.length cap] ∧ Vw W a (bools L) ∧ L.length ≤ maxLen := by
  rcases Deep.open_bools Try.underlying58 Try.underlying4 (by kernel_rfl) hf with ⟨rfl, _⟩ | ⟨ad, len, cap, B, rfl, _, hl, hm, _, hc⟩
  · exact ⟨none, 0, [], rfl, Or.inl rfl, Nat.zero_le _⟩
  · refine ⟨some ad, cap, (List.range len).map B, by simp, ?_, by simp; omega⟩
    by_cases h0 : 0 < len
    · obtain ⟨b, off, spot⟩ := ad
      have hspot : spot = none := by simpa [Addr.add] using World.cell?_spot (hc 0 (by omega))
      subst hspot
      refine Or.inr ⟨b, off, rfl, fun j u hj => ?_⟩
      have hj' := (List.getElem?_eq_some_iff.1 hj).1
      rw [bools_len] at hj'
      simp at hj'
      rw [bools_at (L := (List.range len).map B) (k := j) (x := B j) (by rw [List.getElem?_map, List.getElem?_range hj']; rfl)] at hj
      injection hj with hj
      subst hj
      have := hc j (by omega)
      rw [Addr.add_mid] at this
      exact this
    · obtain rfl : len = 0 := by omega
      exact Or.inl rfl
set_option maxRecDepth 100000 in
theorem case_view {H : Type} {enc : TypeId × Value → H} {W : World} {v : Value} {d : DataW H} {p : List MemPlace} {b0 : Nat} (hv : Value.okWide Try.prog W .any b0 60 v)
    (h : DataW.Trod enc Try.prog W 0 (fun _ => true) true 60 v d p) (hs : ∀ n ∈ d.weights Try.prog 60, n ≤ reachBytes) : ∃ K : Kase, v = K.val ∧ K.Ok W := by
  obtain ⟨cs, rfl, hsz⟩ := okWide_struct Try.underlying60 hv
  have c60 : Try.prog.cellsOf 60 = 5 := by kernel_rfl
  have c22 : Try.prog.cellsOf 22 = 1 := by kernel_rfl
  have c58 : Try.prog.cellsOf 58 = 1 := by kernel_rfl
  have c23 : Try.prog.cellsOf 23 = 1 := by kernel_rfl
  rw [c60] at hsz
  obtain ⟨fuel, hf⟩ := h
  obtain ⟨f0, f1, f2, f3, f4, hu, t0, t1, t2, t3, t4, o0, o1, o2, o3, o4⟩ := uCase
  obtain ⟨y0, y1, y2, y3, y4, n, hd, g0, g1, g2, g3, g4⟩ := trod_struct5 hu hf
  have hd' : d = .agg [y0.1, y1.1, y2.1, y3.1, y4.1] := hd
  subst hd'
  have hsW : ∀ m ∈ DataW.weightsEach Try.prog [22, 22, 22, 58, 23] [y0.1, y1.1, y2.1, y3.1, y4.1], m ≤ reachBytes := fun m hm => hs m (by
    simp only [DataW.weights, hu]
    simpa [t0, t1, t2, t3, t4] using hm)
  rw [t0, o0, c22] at g0
  rw [t1, o1, c22] at g1
  rw [t2, o2, c22] at g2
  rw [t3, o3, c58] at g3
  rw [t4, o4, c23] at g4
  obtain ⟨L⟩ := cs
  match L, hsz with
  | [v0, v1, v2, v3, v4], _ =>
    obtain ⟨a0, k0, L0, e0, hV0, hB0, _, _, hs0, _⟩ := bytes_cells g0
    obtain ⟨a1, k1, L1, e1, hV1, hB1, _, _, hs1, _⟩ := bytes_cells g1
    obtain ⟨a2, k2, L2, e2, hV2, hB2, _, _, hs2, _⟩ := bytes_cells g2
    obtain ⟨a3, k3, L3, e3, hV3, hm3⟩ := bools_cells g3
    have e4 : ∃ a len cap, v4 = .slice a len cap := by
      rcases Deep.open_slice Try.underlying23 g4 with ⟨hcs, _⟩ | ⟨ad, l, c, m, n, D, Pl, hcs, _⟩
      · simp [Value.cells] at hcs
        exact ⟨_, _, _, hcs⟩
      · simp [Value.cells] at hcs
        exact ⟨_, _, _, hcs⟩
    obtain ⟨a4, len4, k4, rfl⟩ := e4
    obtain ⟨L4, b4, off4, rfl, hS4, hF4, _, _⟩ := ranges_view (a := a4) (d := y4.1) (p := y4.2) ⟨n, g4⟩
    simp [Value.cells] at e0 e1 e2 e3
    subst e0 e1 e2 e3
    refine ⟨⟨L0, L1, L2, L3, L4, a0, a1, a2, a3, a4, k0, k1, k2, k3, k4, b4, off4⟩, rfl, ⟨hV0, hB0, hs0 (fun m hm => hsW m ?_), hV1, hB1, hs1 (fun m hm => hsW m ?_), hV2, hB2, hs2 (fun m hm => hsW m ?_), hV3, hm3, hS4, hF4⟩⟩
    · simp [DataW.weightsEach, hm]
    · simp [DataW.weightsEach, hm]
    · simp [DataW.weightsEach, hm]
theorem blk_keep {w w' : World} {R : Nat} {o : Obj} (ho : Only (fun _ => False) w w') (h : w.heap[R]? = some o) : w'.heap[R]? = some o := (ho.block R (Array.getElem?_eq_some_iff.1 h).1 (fun h => h)).trans h
theorem blk_five {w : World} {R : Nat} {t : TypeId} {v0 v1 v2 v3 v4 : Value} (h : w.heap[R]? = some (.cells #[v0, v1, v2, v3, v4] t (0, 0))) : w.cell? ⟨R, 0, none⟩ = some v0 ∧ w.cell? ⟨R, 1, none⟩ = some v1 ∧ w.cell? ⟨R, 2, none⟩ = some v2 ∧ w.cell? ⟨R, 3, none⟩ = some v3 ∧ w.cell? ⟨R, 4, none⟩ = some v4 ∧ R < w.heap.size := ⟨cell_blk h, cell_blk h, cell_blk h, cell_blk h, cell_blk h, (Array.getElem?_eq_some_iff.1 h).1⟩
theorem blk_two {w : World} {R : Nat} {t : TypeId} {v0 v1 : Value} (h : w.heap[R]? = some (.cells #[v0, v1] t (0, 0))) : w.cell? ⟨R, 0, none⟩ = some v0 ∧ w.cell? ⟨R, 1, none⟩ = some v1 ∧ R < w.heap.size := ⟨cell_blk h, cell_blk h, (Array.getElem?_eq_some_iff.1 h).1⟩
end Go.Proofs.Ytlcpfheocenjfaa
