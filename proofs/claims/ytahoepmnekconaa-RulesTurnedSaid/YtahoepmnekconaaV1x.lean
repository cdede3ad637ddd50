/-
  The maker of rules: a plan that came in, as its walk wants it.
-/
import Derived.Test.YtahoepmnekconaaHa
import Derived.ChangeMaps5
import Derived.Deep.Strs
import Derived.OpenShut
import Derived.ProofKit
import Derived.ShutString
import Derived.WideShapes
namespace Go.Proofs.Ytahoepmnekconaa
open Go.RowKit Go.Maps
set_option linter.unusedVariables false
set_option linter.unusedSimpArgs false
/-- a rule of small numbers, and where they lie. -/
structure Pr where
  d : Nat
  la : Option Addr
  ln : Nat
  lc : Nat
  L : List Nat
  ra : Option Addr
  rn : Nat
  rc : Nat
  R : List Nat
def Pr.Ok (w : World) (x : Pr) : Prop := x.d ≤ 255 ∧ Bw w x.la x.ln x.L ∧ x.ln ≤ x.lc ∧ x.lc ≤ maxLen ∧ Bw w x.ra x.rn x.R ∧ x.rn ≤ x.rc ∧ x.rc ≤ maxLen
/-- a slice of rules holds these. -/
def Rw (w : World) (a : Option Addr) (n : Nat) (rs : List Pr) : Prop := rs.length = n ∧ ∃ b off, (0 < n → a = some ⟨b, off, none⟩ ∧ b < w.heap.size) ∧ ∀ (j : Nat) (x : Pr), rs[j]? = some x →
  x.Ok w ∧ w.cell? ⟨b, off + j * 3, none⟩ = some (.int .u8 (x.d : Int)) ∧ w.cell? ⟨b, off + (j * 3 + 1), none⟩ = some (.slice x.la x.ln x.lc) ∧ w.cell? ⟨b, off + (j * 3 + 2), none⟩ = some (.slice x.ra x.rn x.rc)
theorem Bw.keep {w w' : World} {a : Option Addr} {n : Nat} {L : List Nat} (h : Bw w a n L) (ho : Only (fun _ => False) w w') : Bw w' a n L := h.only ho (fun _ _ h => h.elim)
theorem Rw.keep {w w' : World} {a : Option Addr} {n : Nat} {rs : List Pr} (h : Rw w a n rs) (ho : Only (fun _ => False) w w') : Rw w' a n rs := by
  obtain ⟨hl, b, off, h1, h2⟩ := h
  refine ⟨hl, b, off, fun h0 => ⟨(h1 h0).1, Nat.lt_of_lt_of_le (h1 h0).2 ho.size⟩, fun j x hj => ?_⟩
  have h0 : 0 < n := by have := (List.getElem?_eq_some_iff.1 hj).1; omega
  obtain ⟨ha, hb⟩ := h1 h0
  obtain ⟨⟨o1, o2, o3, o4, o5, o6, o7⟩, c0, c1, c2⟩ := h2 j x hj
  have hblk := ho.block b hb (fun h => h)
  exact ⟨⟨o1, o2.keep ho, o3, o4, o5.keep ho, o6, o7⟩, (World.cell?_of_block (a := ⟨b, off + j * 3, none⟩) hblk).trans c0, (World.cell?_of_block (a := ⟨b, off + (j * 3 + 1), none⟩) hblk).trans c1, (World.cell?_of_block (a := ⟨b, off + (j * 3 + 2), none⟩) hblk).trans c2⟩
theorem wf_u8 {a : Int} (h : (Lit.int .u8 a).wf = true) : 0 ≤ a ∧ a ≤ 255 := by
  have e1 : IntKind.min .u8 = 0 := by decide
  have e2 : IntKind.max .u8 = 255 := by decide
  simp only [Lit.wf, e1, e2, Bool.and_eq_true, decide_eq_true_eq] at h
  exact h
theorem map_get {α : Type} {F : Nat → α} {len j : Nat} {x : α} (hj : ((List.range len).map F)[j]? = some x) : j < len ∧ x = F j := by
  have hl := (List.getElem?_eq_some_iff.1 hj).1
  simp at hl
  rw [List.getElem?_map, List.getElem?_range hl] at hj
  injection hj with hj
  exact ⟨hl, hj.symm⟩
theorem bytes_cells {H : Type} {enc : TypeId × Value → H} {W : World} {fuel : Nat} {cs : List Value} {x : DataW H × List MemPlace}
    (hf : DataW.trod enc Try.prog W 0 (fun _ => true) true fuel 24 cs = some x) : ∃ (a : Option Addr) (len cap : Nat) (L : List Nat), cs = [.slice a len cap] ∧ Bw W a len L ∧ len ≤ cap ∧ cap ≤ maxLen := by
  rcases Deep.open_slice Try.underlying24 hf with ⟨rfl, _⟩ | ⟨ad, len, cap, m, n, D, Pl, rfl, _, hl, hm, hmm, _, hx⟩
  · exact ⟨none, 0, 0, [], rfl, ⟨rfl, 0, 0, fun h => absurd h (by omega), fun j x hj => by simp at hj⟩, Nat.le_refl _, Nat.zero_le _⟩
  · have hlm : len ≤ m := by rw [hmm]; simpa using hl
    have each : ∀ i, i < len → ∃ x : Nat, W.cell? (ad.add i) = some (.int .u8 (x : Int)) ∧ x ≤ 255 := by
      intro i hi
      obtain ⟨cs', h1, h2⟩ := hx i (by omega)
      have ce : Try.prog.cellsOf 5 = 1 := by kernel_rfl
      rw [ce, Nat.mul_one] at h1
      obtain ⟨_, hlen, hcell⟩ := World.cells?_some h1
      match cs', hlen with
      | [v0], _ =>
        obtain ⟨n0, e0, _, w0⟩ := DataW.trod_int Try.underlying5 h2
        simp at e0
        subst e0
        have k0 := hcell 0 (by omega)
        rw [Deep.add_add] at k0
        obtain ⟨b1, b2⟩ := wf_u8 w0
        refine ⟨n0.toNat, ?_, by omega⟩
        rw [Int.toNat_of_nonneg b1]
        exact k0
    obtain ⟨F, hF⟩ := Deep.choose_lt each
    by_cases h0 : 0 < len
    · obtain ⟨b, off, spot⟩ := ad
      have hspot : spot = none := by simpa [Addr.add] using World.cell?_spot (hF 0 h0).1
      subst hspot
      refine ⟨some ⟨b, off, none⟩, len, cap, (List.range len).map F, rfl, ⟨by simp, b, off, fun _ => ⟨rfl, ?_⟩, fun j x hj => ?_⟩, hl, hm⟩
      · have := (hF 0 h0).1
        rw [Addr.add_mid] at this
        exact World.block_lt_of_cell? W _ this
      · obtain ⟨hj', rfl⟩ := map_get hj
        have := (hF j hj').1
        rw [Addr.add_mid] at this
        exact ⟨(hF j hj').2, this⟩
    · exact ⟨some ad, len, cap, (List.range len).map F, rfl, ⟨by simp, 0, 0, fun h => absurd h h0, fun j x hj => absurd (map_get hj).1 (by omega)⟩, hl, hm⟩
theorem u54 : ∃ f0 f1 f2 : Field, Try.prog.underlying 54 = some (.struct #[f0, f1, f2]) ∧ f0.type = 5 ∧ f1.type = 24 ∧ f2.type = 24 ∧ f0.offset = 0 ∧ f1.offset = 1 ∧ f2.offset = 2 := ⟨_, _, _, Try.underlying54, rfl, rfl, rfl, rfl, rfl, rfl⟩
theorem rules_cells {H : Type} {enc : TypeId × Value → H} {W : World} {fuel : Nat} {cs : List Value} {x : DataW H × List MemPlace}
    (hf : DataW.trod enc Try.prog W 0 (fun _ => true) true fuel 25 cs = some x) : ∃ (a : Option Addr) (len cap : Nat) (rs : List Pr), cs = [.slice a len cap] ∧ Rw W a len rs ∧ len ≤ cap ∧ cap ≤ maxLen := by
  rcases Deep.open_slice Try.underlying25 hf with ⟨rfl, _⟩ | ⟨ad, len, cap, m, n, D, Pl, rfl, _, hl, hm, hmm, _, hx⟩
  · exact ⟨none, 0, 0, [], rfl, ⟨rfl, 0, 0, fun h => absurd h (by omega), fun j x hj => by simp at hj⟩, Nat.le_refl _, Nat.zero_le _⟩
  · have hlm : len ≤ m := by rw [hmm]; simpa using hl
    obtain ⟨f0, f1, f2, hu, t0, t1, t2, o0, o1, o2⟩ := u54
    have each : ∀ i, i < len → ∃ x : Pr, x.Ok W ∧ W.cell? (ad.add (i * 3)) = some (.int .u8 (x.d : Int)) ∧ W.cell? (ad.add (i * 3 + 1)) = some (.slice x.la x.ln x.lc) ∧ W.cell? (ad.add (i * 3 + 2)) = some (.slice x.ra x.rn x.rc) := by
      intro i hi
      obtain ⟨cs', h1, h2⟩ := hx i (by omega)
      have ce : Try.prog.cellsOf 54 = 3 := by kernel_rfl
      have c5 : Try.prog.cellsOf 5 = 1 := by kernel_rfl
      have c24 : Try.prog.cellsOf 24 = 1 := by kernel_rfl
      rw [ce] at h1
      obtain ⟨_, hlen, hcell⟩ := World.cells?_some h1
      obtain ⟨y0, y1, y2, k, _, _, g0, g1, g2⟩ := Deep.trod_struct3 hu h2
      rw [t0, o0, c5] at g0
      rw [t1, o1, c24] at g1
      rw [t2, o2, c24] at g2
      match cs', hlen with
      | [v0, v1, v2], _ =>
        obtain ⟨n0, e0, _, w0⟩ := DataW.trod_int Try.underlying5 g0
        obtain ⟨a1, l1, p1, L1, e1, B1, q1, m1⟩ := bytes_cells g1
        obtain ⟨a2, l2, p2, L2, e2, B2, q2, m2⟩ := bytes_cells g2
        simp at e0 e1 e2
        subst e0 e1 e2
        have k0 := hcell 0 (by omega)
        have k1 := hcell 1 (by omega)
        have k2 := hcell 2 (by omega)
        rw [Deep.add_add] at k0 k1 k2
        obtain ⟨b1, b2⟩ := wf_u8 w0
        refine ⟨⟨n0.toNat, a1, l1, p1, L1, a2, l2, p2, L2⟩, ⟨show n0.toNat ≤ 255 by omega, B1, q1, m1, B2, q2, m2⟩, ?_, k1, k2⟩
        show _ = some (Value.int .u8 (n0.toNat : Int))
        rw [Int.toNat_of_nonneg b1]
        exact k0
    have hInh : Inhabited Pr := ⟨⟨0, none, 0, 0, [], none, 0, 0, []⟩⟩
    obtain ⟨F, hF⟩ := Deep.choose_lt each
    by_cases h0 : 0 < len
    · obtain ⟨b, off, spot⟩ := ad
      have hspot : spot = none := by simpa [Addr.add] using World.cell?_spot (hF 0 h0).2.1
      subst hspot
      refine ⟨some ⟨b, off, none⟩, len, cap, (List.range len).map F, rfl, ⟨by simp, b, off, fun _ => ⟨rfl, ?_⟩, fun j x hj => ?_⟩, hl, hm⟩
      · have := (hF 0 h0).2.1
        rw [Addr.add_mid] at this
        exact World.block_lt_of_cell? W _ this
      · obtain ⟨hj', rfl⟩ := map_get hj
        obtain ⟨k, c0, c1, c2⟩ := hF j hj'
        rw [Addr.add_mid] at c0 c1 c2
        exact ⟨k, c0, c1, c2⟩
    · exact ⟨some ad, len, cap, (List.range len).map F, rfl, ⟨by simp, 0, 0, fun h => absurd h h0, fun j x hj => absurd (map_get hj).1 (by omega)⟩, hl, hm⟩
/-- the plan's value, and what lies behind it. -/
def planV (c jo af : Nat) (aT : Option Addr) (nT cT : Nat) (aR : Option Addr) (nR cR : Nat) : Value := .agg #[.int .u8 (c : Int), .int .u8 (jo : Int), .int .u8 (af : Int), .slice aT nT cT, .slice aR nR cR]
set_option maxRecDepth 100000 in
theorem plan_view {H : Type} {enc : TypeId × Value → H} {W : World} {v : Value} {d : DataW H} {p : List MemPlace} {b0 : Nat} (hv : Value.okWide Try.prog W .any b0 27 v)
    (h : DataW.Trod enc Try.prog W 0 (fun _ => true) true 27 v d p) :
    ∃ (c jo af : Nat) (aT : Option Addr) (nT cT : Nat) (T : List Nat) (aR : Option Addr) (nR cR : Nat) (rs : List Pr), v = planV c jo af aT nT cT aR nR cR ∧ c ≤ 255 ∧ jo ≤ 255 ∧ af ≤ 255 ∧ Bw W aT nT T ∧ nT ≤ cT ∧ cT ≤ maxLen ∧ Rw W aR nR rs ∧ nR ≤ cR ∧ cR ≤ maxLen := by
  obtain ⟨cs, rfl, hs⟩ := Go.WideShapes.okWide_struct Try.underlying27 hv
  obtain ⟨fuel, hf⟩ := h
  obtain ⟨xs, n, _, _, hl, hlen, hx⟩ := DataW.trod_struct Try.underlying27 hf
  have c27 : Try.prog.cellsOf 27 = 5 := by kernel_rfl
  have c5 : Try.prog.cellsOf 5 = 1 := by kernel_rfl
  have c24 : Try.prog.cellsOf 24 = 1 := by kernel_rfl
  have c25 : Try.prog.cellsOf 25 = 1 := by kernel_rfl
  rw [c27] at hs
  obtain ⟨l⟩ := cs
  simp at hs
  match l, hs with
  | [v0, v1, v2, v3, v4], _ =>
    match xs, hlen with
    | [y0, y1, y2, y3, y4], _ =>
      have g0 : DataW.trod enc Try.prog W 0 (fun _ => true) true n 5 (([v0, v1, v2, v3, v4].drop 0).take (Try.prog.cellsOf 5)) = some y0 := hx 0 _ rfl
      have g1 : DataW.trod enc Try.prog W 0 (fun _ => true) true n 5 (([v0, v1, v2, v3, v4].drop 1).take (Try.prog.cellsOf 5)) = some y1 := hx 1 _ rfl
      have g2 : DataW.trod enc Try.prog W 0 (fun _ => true) true n 5 (([v0, v1, v2, v3, v4].drop 2).take (Try.prog.cellsOf 5)) = some y2 := hx 2 _ rfl
      have g3 : DataW.trod enc Try.prog W 0 (fun _ => true) true n 24 (([v0, v1, v2, v3, v4].drop 3).take (Try.prog.cellsOf 24)) = some y3 := hx 3 _ rfl
      have g4 : DataW.trod enc Try.prog W 0 (fun _ => true) true n 25 (([v0, v1, v2, v3, v4].drop 4).take (Try.prog.cellsOf 25)) = some y4 := hx 4 _ rfl
      rw [c5] at g0 g1 g2
      rw [c24] at g3
      rw [c25] at g4
      obtain ⟨n0, e0, _, w0⟩ := DataW.trod_int Try.underlying5 g0
      obtain ⟨n1, e1, _, w1⟩ := DataW.trod_int Try.underlying5 g1
      obtain ⟨n2, e2, _, w2⟩ := DataW.trod_int Try.underlying5 g2
      obtain ⟨a3, l3, p3, L3, e3, B3, q3, m3⟩ := bytes_cells g3
      obtain ⟨a4, l4, p4, L4, e4, B4, q4, m4⟩ := rules_cells g4
      simp at e0 e1 e2 e3 e4
      subst e0 e1 e2 e3 e4
      have b0 := wf_u8 w0
      have b1 := wf_u8 w1
      have b2 := wf_u8 w2
      refine ⟨n0.toNat, n1.toNat, n2.toNat, a3, l3, p3, L3, a4, l4, p4, L4, ?_, by omega, by omega, by omega, B3, q3, m3, B4, q4, m4⟩
      unfold planV
      rw [Int.toNat_of_nonneg b0.1, Int.toNat_of_nonneg b1.1, Int.toNat_of_nonneg b2.1]
end Go.Proofs.Ytahoepmnekconaa
namespace Go.Proofs.Ytahoepmnekconaa
open Go.RowKit Go.Maps
set_option linter.unusedVariables false
set_option linter.unusedSimpArgs false
namespace Hd
def wTreat : Str := [116, 114, 101, 97, 116, 32]
def wEq : Str := [32, 61, 32]
def wEnd : Str := [59, 10]
def wBar : Str := [32, 47, 32]
def wJoin : Str := [106, 111, 105, 110]
def wSl : Str := [32, 47]
def first (n : Nat) : Str := cat (cat [99, 108, 97, 115, 115] (names n 255 n)) [59, 10]
def second (n jo af : Nat) : Str := if jo = 0 then first n else cat (cat (cat (cat (cat (first n) [106, 111, 105, 110]) (names n jo n)) [32, 47]) (names n af n)) [59, 10]
def treat (n : Nat) (T : List Nat) (t : Str) : Nat → Str
  | 0 => t
  | k + 1 => cat (cat (cat (cat (cat (treat n T t k) [116, 114, 101, 97, 116, 32]) (name n k)) [32, 61, 32]) (name n (at' T k))) [59, 10]
def word (d : Nat) : Str := if d % 3 = 0 then [107, 101, 101, 112, 32] else if d % 3 = 1 then [109, 97, 121, 32] else [109, 117, 115, 116, 32]
def ru (n : Nat) (rs : List Pr) (t : Str) : Nat → Str
  | 0 => t
  | k + 1 => match rs[k]? with
    | none => ru n rs t k
    | some x => cat (cat (cat (cat (cat (ru n rs t k) (word x.d)) (expr n x.L)) [32, 47, 32]) (expr n x.R)) [59, 10]
def text (n jo af : Nat) (T : List Nat) (rs : List Pr) : Str := ru n rs (treat n T (second n jo af) (min T.length n)) (min rs.length 10)
theorem first_len (n : Nat) (h : n ≤ 6) : (first n).length ≤ 19 ∧ 7 ≤ (first n).length := by
  have := names_len n 255 n
  unfold first
  simp only [cat_len, List.length_cons, List.length_nil]
  omega
theorem second_len (n jo af : Nat) (h : n ≤ 6) : (second n jo af).length ≤ 51 ∧ 7 ≤ (second n jo af).length := by
  have := first_len n h
  have h1 := names_len n jo n
  have h2 := names_len n af n
  unfold second
  split
  · omega
  · simp only [cat_len, List.length_cons, List.length_nil]
    omega
theorem treat_len (n : Nat) (T : List Nat) (t : Str) : ∀ k, (treat n T t k).length = t.length + 13 * k
  | 0 => rfl
  | k + 1 => by
    rw [treat]
    simp only [cat_len, List.length_cons, List.length_nil, treat_len n T t k, name]
    omega
theorem expr_len (n : Nat) (L : List Nat) (h : n ≤ 6) : (expr n L).length ≤ 432 := by
  unfold expr
  split
  · simp
  · have := (ex_ok n (L.take 30) h 3 0 (by omega)).2
    omega
theorem word_len (d : Nat) : (word d).length ≤ 5 ∧ 4 ≤ (word d).length := by
  unfold word
  repeat' split
  all_goals simp
theorem ru_len (n : Nat) (rs : List Pr) (t : Str) (h : n ≤ 6) : ∀ k, (ru n rs t k).length ≤ t.length + 874 * k ∧ t.length ≤ (ru n rs t k).length
  | 0 => ⟨Nat.le_refl _, Nat.le_refl _⟩
  | k + 1 => by
    have ih := ru_len n rs t h k
    rw [ru]
    split
    · omega
    · rename_i x hx
      have h1 := expr_len n x.L h
      have h2 := expr_len n x.R h
      have h3 := word_len x.d
      simp only [cat_len, List.length_cons, List.length_nil]
      omega
theorem text_len (n jo af : Nat) (T : List Nat) (rs : List Pr) (h : n ≤ 6) : (text n jo af T rs).length ≤ 9000 ∧ 7 ≤ (text n jo af T rs).length := by
  have h1 := second_len n jo af h
  have h2 := treat_len n T (second n jo af) (min T.length n)
  have h3 := ru_len n rs (treat n T (second n jo af) (min T.length n)) h (min rs.length 10)
  unfold text
  omega
end Hd
/-- a plan in a block. -/
def Pbx (w : World) (g : Nat) (c jo af : Nat) (aT : Option Addr) (nT cT : Nat) (aR : Option Addr) (nR cR : Nat) : Prop := w.heap[g]? = some (.cells #[.int .u8 (c : Int), .int .u8 (jo : Int), .int .u8 (af : Int), .slice aT nT cT, .slice aR nR cR] 27 (0, 0))
namespace Pbx
variable {w w' : World} {g c jo af : Nat} {aT : Option Addr} {nT cT : Nat} {aR : Option Addr} {nR cR : Nat}
theorem keep (h : Pbx w g c jo af aT nT cT aR nR cR) (ho : Only (fun _ => False) w w') : Pbx w' g c jo af aT nT cT aR nR cR := (ho.block g (Array.getElem?_eq_some_iff.1 h).1 (fun h => h)).trans h
theorem c1 (h : Pbx w g c jo af aT nT cT aR nR cR) : w.cell? ⟨g, 1, none⟩ = some (.int .u8 (jo : Int)) := (cell_of_row _ _ _ _ _ _ h).trans rfl
theorem c2 (h : Pbx w g c jo af aT nT cT aR nR cR) : w.cell? ⟨g, 2, none⟩ = some (.int .u8 (af : Int)) := (cell_of_row _ _ _ _ _ _ h).trans rfl
theorem c3 (h : Pbx w g c jo af aT nT cT aR nR cR) : w.cell? ⟨g, 3, none⟩ = some (.slice aT nT cT) := (cell_of_row _ _ _ _ _ _ h).trans rfl
theorem c4 (h : Pbx w g c jo af aT nT cT aR nR cR) : w.cell? ⟨g, 4, none⟩ = some (.slice aR nR cR) := (cell_of_row _ _ _ _ _ _ h).trans rfl
end Pbx
set_option maxRecDepth 100000 in
set_option maxHeartbeats 4000000 in
theorem count_hand (c jo af : Nat) (aT : Option Addr) (nT cT : Nat) (aR : Option Addr) (nR cR : Nat) (w : World) (hc : c ≤ 255) :
    Calls Try.prog 14 #[planV c jo af aT nT cT aR nR cR] w fun e w' => e = .returned (.int .i64 ((1 + c % 6 : Nat) : Int)) ∧ Only (fun _ => False) w w' := by
  unfold planV
  have t1 : 0 ≤ (c : Int) % 6 := by omega
  have t2 : (c : Int) % 6 < 6 := by omega
  go_enter Try.func14, Try.ntmps14
  go_wp2_with fail
  go_ret
  exact ⟨by refine congrArg (fun z => Ending.returned (Value.int .i64 z)) ?_; omega, (Only.refl _ w).alloc _⟩
end Go.Proofs.Ytahoepmnekconaa
namespace Go.Proofs.Ytahoepmnekconaa
open Go.RowKit Go.Maps
set_option linter.unusedVariables false
set_option linter.unusedSimpArgs false
set_option maxRecDepth 100000 in
set_option maxHeartbeats 4000000 in
theorem expr_hand2 (n : Nat) (a : Option Addr) (k cap : Nat) (L : List Nat) (w : World) (hn : 1 ≤ n) (hn6 : n ≤ 6) (hB : Bw w a k L) (hkc : k ≤ cap) :
    Calls Try.prog 18 #[.int .i64 (n : Int), .slice a k cap] w fun e w' => e = .returned (.string (bs (Hd.expr n L))) ∧ Only (fun _ => False) w w' := by
  have hl : L.length = k := hB.1
  have HB : Hid (Bw w a k L) := hB
  by_cases h0 : k = 0
  · subst h0
    rw [show Hd.expr n L = [] by unfold Hd.expr; rw [if_pos hl]]
    clear hB hl
    go_enter Try.func18, Try.ntmps18
    go_wp2_with fail
    go_ret
    exact ⟨rfl, Only.refl _ w⟩
  · rw [show Hd.expr n L = (Hd.ex n (L.take 30) 3 0).1 by unfold Hd.expr; rw [if_neg (by omega)]]
    obtain ⟨b, off, ha, hb⟩ : ∃ b off, a = some ⟨b, off, none⟩ ∧ b < w.heap.size := by
      obtain ⟨_, b, off, h1, _⟩ := hB
      exact ⟨b, off, (h1 (by omega)).1, (h1 (by omega)).2⟩
    subst ha
    have t1 : ¬ (k : Int) = 0 := by omega
    have t2 : decide ((k : Int) = 0) = false := decide_eq_false t1
    by_cases h30 : k ≤ 30
    · rw [show L.take 30 = L from List.take_of_length_le (by omega)]
      have HBT : Hid (Bw w (some ⟨b, off, none⟩) k L) := HB.out
      have t3 : (k : Int) ≤ 30 := by omega
      clear hB hl
      go_enter Try.func18, Try.ntmps18
      go_wp2_with fail
      refine (ex_all n w.heap.size (some ⟨b, off, none⟩) k cap L hn hn6 (by omega) (fun o e => by injection e with e; injection e with e1 e2; omega) 0 _ (by unfold Rb; show (w.heap.push _)[w.heap.size]? = _; simp; try rfl) (HBT.out.only ((Only.refl (fun _ => False) w).alloc _) (fun _ _ h => h.elim)) (by omega)).mono ?_
      rintro e w1 ⟨rfl, hR1, ho1⟩
      go_wp2_with fail
      go_ret
      exact ⟨rfl, Only.newAt (((Only.refl _ w).alloc _).trans ho1)⟩
    · have HBT : Hid (Bw w (some ⟨b, off, none⟩) 30 (L.take 30)) := HB.out.take 30 (by omega)
      have t3 : ¬ (k : Int) ≤ 30 := by omega
      clear hB hl
      go_enter Try.func18, Try.ntmps18
      go_wp2_with fail
      refine (ex_all n w.heap.size (some ⟨b, off, none⟩) 30 cap (L.take 30) hn hn6 (by omega) (fun o e => by injection e with e; injection e with e1 e2; omega) 0 _ (by unfold Rb; show (w.heap.push _)[w.heap.size]? = _; simp; try rfl) (HBT.out.only ((Only.refl (fun _ => False) w).alloc _) (fun _ _ h => h.elim)) (by omega)).mono ?_
      rintro e w1 ⟨rfl, hR1, ho1⟩
      go_wp2_with fail
      go_ret
      exact ⟨rfl, Only.newAt (((Only.refl _ w).alloc _).trans ho1)⟩
set_option maxRecDepth 100000 in
set_option maxHeartbeats 8000000 in
theorem text_hand0 (c af : Nat) (aT : Option Addr) (nT cT : Nat) (T : List Nat) (aR : Option Addr) (nR cR : Nat) (rs : List Pr) (w : World) (hc : c ≤ 255) (haf : af ≤ 255) (hT : Bw w aT nT T) (hR : Rw w aR nR rs) :
    Calls Try.prog 11 #[planV c 0 af aT nT cT aR nR cR] w fun e w' => e = .returned (.string (bs (Hd.text (1 + c % 6) 0 af T rs))) ∧ Only (fun _ => False) w w' := by
  have HT : Hid (Bw w aT nT T) := hT
  have HR : Hid (Rw w aR nR rs) := hR
  have HC : Hid (Bw w aT nT T) := hT
  obtain ⟨n, hn⟩ : ∃ n, n = 1 + c % 6 := ⟨_, rfl⟩
  have HN : Hid (n = 1 + c % 6) := hn
  have hn1 : 1 ≤ n := by omega
  have hn6 : n ≤ 6 := by omega
  rw [← hn]
  have sF := (Hd.first_len n hn6).1
  obtain ⟨mN, sN, lN⟩ := sz (Hd.names n 255 n)
  have hNl := Hd.names_len n 255 n
  have mNl : mN ≤ 12 := by omega
  have e1 : (⟨#[99, 108, 97, 115, 115]⟩ : ByteArray) ++ bs (Hd.names n 255 n) = bs (Hd.cat [99, 108, 97, 115, 115] (Hd.names n 255 n)) := catL _ _
  have s1 : (bs (Hd.cat [99, 108, 97, 115, 115] (Hd.names n 255 n))).size = 5 + mN := cat_sz (bs_size _) sN
  have e2 : bs (Hd.cat [99, 108, 97, 115, 115] (Hd.names n 255 n)) ++ (⟨#[59, 10]⟩ : ByteArray) = bs (Hd.first n) := catR _ _
  obtain ⟨m1, sm1, lm1⟩ := sz (Hd.first n)
  have hm1 : m1 ≤ 19 := by omega
  clear hT hR hn lN hNl lm1 sF
  obtain ⟨bx, hbx⟩ : ∃ bx, bx = w.alloc (.cells #[.int .u8 (c : Int), .int .u8 0, .int .u8 (af : Int), .slice aT nT cT, .slice aR nR cR] 27) := ⟨_, rfl⟩
  have HBX : Hid (bx = w.alloc (.cells #[.int .u8 (c : Int), .int .u8 0, .int .u8 (af : Int), .slice aT nT cT, .slice aR nR cR] 27)) := hbx
  have HP0 : Hid (Pbx bx w.heap.size c 0 af aT nT cT aR nR cR) := by rw [hbx]; exact heap_alloc_new w _
  clear hbx
  unfold planV
  go_enter Try.func11, Try.ntmps11
  go_wp2_with (first | (go_at_call 14; refine (count_hand c 0 af aT nT cT aR nR cR _ hc).mono ?_; rintro e w1 ⟨rfl, ho1⟩; rw [← HN.out]; rw [← HBX.out] at ho1; have HO1 : Hid (Only (fun _ => False) bx w1) := ho1; have HP1 : Hid (Pbx w1 w.heap.size c 0 af aT nT cT aR nR cR) := HP0.out.keep ho1; clear ho1) | (go_at_call 16; refine (names_hand n 255 _ hn1 hn6 (by omega)).mono ?_; rintro e w2 ⟨rfl, ho2⟩; have HP2 : Hid (Pbx w2 w.heap.size c 0 af aT nT cT aR nR cR) := HP1.out.keep ho2; have d1 : w2.cell? ⟨w.heap.size, 1, none⟩ = some (.int .u8 0) := HP2.out.c1; have d3 := HP2.out.c3; have HO2 : Hid (Only (fun _ => False) bx w2) := HO1.out.trans ho2; clear ho2))
  clear d1 d3
  go_loopg [4, 5] 6 (fun g out i wr => ∃ (k : Nat) (W : World), W = wr ∧ g = 6 - k ∧ k ≤ n ∧ k ≤ nT ∧ out = .string (bs (Hd.treat n T (Hd.first n) k)) ∧ i = .int .i64 (k : Int) ∧ Only (fun _ => False) bx W)
  case atStart => exact ⟨0, _, rfl, rfl, by omega, by omega, rfl, rfl, HO2.out⟩
  case round =>
    obtain ⟨k, W, hW, rfl, hk, hkT, rfl, rfl, hOr⟩ := hrel
    subst hW
    have HOr : Hid (Only (fun _ => False) bx W) := hOr
    have hP : Pbx W w.heap.size c 0 af aT nT cT aR nR cR := HP0.out.keep hOr
    have HP : Hid (Pbx W w.heap.size c 0 af aT nT cT aR nR cR) := hP
    have d3 := hP.c3
    have hTW : Bw W aT nT T := HT.out.keep (((Only.refl (fun _ => False) w).alloc _).trans (HBX.out ▸ hOr))
    have HTW : Hid (Bw W aT nT T) := hTW
    obtain ⟨X, hX⟩ : ∃ X, X = Hd.treat n T (Hd.first n) k := ⟨_, rfl⟩
    have HX : Hid (X = Hd.treat n T (Hd.first n) k) := hX
    have lX : X.length ≤ 19 + 13 * k := by rw [hX, Hd.treat_len]; have := (Hd.first_len n hn6).1; omega
    rw [← hX]
    obtain ⟨mX, sX, lmX⟩ := sz X
    have hmX : mX ≤ 97 := by omega
    clear hX lX lmX hP hOr
    by_cases hlt : k < nT
    · by_cases hln : k < n
      · obtain ⟨hl, b, off, h1, h2⟩ := hTW
        obtain ⟨ha, hb⟩ := h1 (by omega)
        obtain ⟨x, hx⟩ : ∃ x, T[k]? = some x := ⟨T[k]'(by omega), List.getElem?_eq_getElem _⟩
        obtain ⟨hx2, hcx⟩ := h2 k x hx
        have HAT : Hid (Hd.at' T k = x) := by show Hd.at' T k = x; unfold Hd.at'; rw [hx]; rfl
        have HA : Hid (aT = some ⟨b, off, none⟩) := ha
        have hKp : ∀ w' : World, Only (fun _ => False) W w' → (w'.cell? ⟨w.heap.size, 3, none⟩ = some (.slice (some ⟨b, off, none⟩) nT cT) ∧ w'.cell? ⟨b, off + k, none⟩ = some (.int .u8 (x : Int))) := fun w' ho => ⟨by rw [← ha]; exact (HP.out.keep ho).c3, (World.cell?_of_block (a := ⟨b, off + k, none⟩) (ho.block b hb (fun h => h))).trans hcx⟩
        have HKp : Hid (∀ w' : World, Only (fun _ => False) W w' → (w'.cell? ⟨w.heap.size, 3, none⟩ = some (.slice (some ⟨b, off, none⟩) nT cT) ∧ w'.cell? ⟨b, off + k, none⟩ = some (.int .u8 (x : Int)))) := hKp
        have t1 : (k : Int) < (nT : Int) := by omega
        have t2 : (k : Int) < (n : Int) := by omega
        have e3 : bs X ++ (⟨#[116, 114, 101, 97, 116, 32]⟩ : ByteArray) = bs (Hd.cat X [116, 114, 101, 97, 116, 32]) := catR _ _
        obtain ⟨Y1, hY1⟩ : ∃ Y, Y = Hd.cat X [116, 114, 101, 97, 116, 32] := ⟨_, rfl⟩
        rw [← hY1] at e3
        obtain ⟨m3, s3, l3⟩ := sz Y1
        have e4 : bs Y1 ++ bs (Hd.name n k) = bs (Hd.cat Y1 (Hd.name n k)) := bs_cat _ _
        obtain ⟨Y2, hY2⟩ : ∃ Y, Y = Hd.cat Y1 (Hd.name n k) := ⟨_, rfl⟩
        rw [← hY2] at e4
        obtain ⟨m4, s4, l4⟩ := sz Y2
        have e5 : bs Y2 ++ (⟨#[32, 61, 32]⟩ : ByteArray) = bs (Hd.cat Y2 [32, 61, 32]) := catR _ _
        obtain ⟨Y3, hY3⟩ : ∃ Y, Y = Hd.cat Y2 [32, 61, 32] := ⟨_, rfl⟩
        rw [← hY3] at e5
        obtain ⟨m5, s5, l5⟩ := sz Y3
        have e6 : bs Y3 ++ bs (Hd.name n x) = bs (Hd.cat Y3 (Hd.name n x)) := bs_cat _ _
        obtain ⟨Y4, hY4⟩ : ∃ Y, Y = Hd.cat Y3 (Hd.name n x) := ⟨_, rfl⟩
        rw [← hY4] at e6
        obtain ⟨m6, s6, l6⟩ := sz Y4
        have e7 : bs Y4 ++ (⟨#[59, 10]⟩ : ByteArray) = bs (Hd.cat Y4 [59, 10]) := catR _ _
        obtain ⟨Y5, hY5⟩ : ∃ Y, Y = Hd.cat Y4 [59, 10] := ⟨_, rfl⟩
        rw [← hY5] at e7
        have HY5 : Hid (Y5 = Hd.cat (Hd.cat (Hd.cat (Hd.cat (Hd.cat X [116, 114, 101, 97, 116, 32]) (Hd.name n k)) [32, 61, 32]) (Hd.name n x)) [59, 10]) := by show Y5 = _; rw [hY5, hY4, hY3, hY2, hY1]
        have b3 : m3 = X.length + 6 := by rw [l3, hY1, Hd.cat_len]; rfl
        have b4 : m4 = m3 + 1 := by rw [l4, hY2, Hd.cat_len, l3]; rfl
        have b5 : m5 = m4 + 3 := by rw [l5, hY3, Hd.cat_len, l4]; rfl
        have b6 : m6 = m5 + 1 := by rw [l6, hY4, Hd.cat_len, l5]; rfl
        have hXl : X.length ≤ 97 := by have := bs_size X; omega
        have b3' : m3 ≤ 200 := by omega
        have b4' : m4 ≤ 200 := by omega
        have b5' : m5 ≤ 200 := by omega
        have b6' : m6 ≤ 200 := by omega
        clear b3 b4 b5 b6 l3 l4 l5 l6 hY1 hY2 hY3 hY4 hY5 hXl
        have sk : (bs (Hd.name n k)).size = 1 := bs_size _
        have sx : (bs (Hd.name n x)).size = 1 := bs_size _
        have hwx : IntKind.i64.wrap (x : Int) = (x : Int) := by simp only [IntKind.wrap]; first | omega | (simp; omega) | (unfold IntKind.bits; simp; omega)
        have z6 : (⟨#[116, 114, 101, 97, 116, 32]⟩ : ByteArray).size = 6 := rfl
        have z3 : (⟨#[32, 61, 32]⟩ : ByteArray).size = 3 := rfl
        have z2 : (⟨#[59, 10]⟩ : ByteArray).size = 2 := rfl
        have p1 : (9223372036854775807 < mX + 6) = False := eq_false (by omega)
        have q1 : (9223372036854775801 < mX) = False := eq_false (by omega)
        have p2 : (9223372036854775807 < m3 + 1) = False := eq_false (by omega)
        have q2 : (9223372036854775806 < m3) = False := eq_false (by omega)
        have p3 : (9223372036854775807 < m4 + 3) = False := eq_false (by omega)
        have q3 : (9223372036854775804 < m4) = False := eq_false (by omega)
        have p4 : (9223372036854775807 < m5 + 1) = False := eq_false (by omega)
        have q4 : (9223372036854775806 < m5) = False := eq_false (by omega)
        have p5 : (9223372036854775807 < m6 + 2) = False := eq_false (by omega)
        have q5 : (9223372036854775805 < m6) = False := eq_false (by omega)
        clear h1 h2 hl hx hcx hKp e1 s1 e2 sN sm1 mNl hm1 d3
        subst ha
        have d3 : W.cell? ⟨w.heap.size, 3, none⟩ = some (.slice (some ⟨b, off, none⟩) nT cT) := HP.out.c3
        go_wp2_with fail
        go_region_held3 (fun w' => w'.cell? ⟨w.heap.size, 3, none⟩ = some (.slice (some ⟨b, off, none⟩) nT cT) ∧ w'.cell? ⟨b, off + k, none⟩ = some (.int .u8 (x : Int))) ((first | exact HKp.out _ ((Only.refl (fun _ => False) W).drew) | exact HKp.out _ ho4 | exact HKp.out _ ho3)) ((first | (go_at_call 17; have hgd := ho3; refine (name_nat n x _ hn1 hn6 hx2).mono ?_; clear hgd; rintro en w4 ⟨rfl, ho4'⟩; have ho4 : Only (fun _ => False) W w4 := ho3.trans ho4'; clear ho4') | (go_at_call 17; refine (name_nat n k _ hn1 hn6 (by omega)).mono ?_; rintro en w3 ⟨rfl, ho3'⟩; have ho3 : Only (fun _ => False) W w3 := ((Only.refl (fun _ => False) W).drew).trans ho3'; clear ho3')))
        go_wp2_with fail
        go_roundg (6 - (k + 1))
        case measure => omega
        case rel => exact ⟨k + 1, _, rfl, rfl, by omega, by omega, by rw [HY5.out, HX.out, Hd.treat, HAT.out], by go_num, HOr.out.trans ho4⟩
      · have hmin : k = min T.length n := by have := HTW.out.1; omega
        have t1 : (k : Int) < (nT : Int) := by omega
        have t2 : ¬ (k : Int) < (n : Int) := by omega
        have t3 : decide ((k : Int) < (n : Int)) = false := decide_eq_false t2
        have HMIN : Hid (k = min T.length n) := hmin
        clear hTW hmin e1 s1 e2 sN sm1 mNl hm1
        go_wp2_with fail
        obtain ⟨W2, hW2⟩ : ∃ W2, W2 = W.alloc (.cells #[.string ⟨#[107, 101, 101, 112, 32]⟩, .string ⟨#[109, 97, 121, 32]⟩, .string ⟨#[109, 117, 115, 116, 32]⟩] 9) := ⟨_, rfl⟩
        have HW2 : Hid (W2 = W.alloc (.cells #[.string ⟨#[107, 101, 101, 112, 32]⟩, .string ⟨#[109, 97, 121, 32]⟩, .string ⟨#[109, 117, 115, 116, 32]⟩] 9)) := hW2
        have HOW : Hid (Only (fun _ => False) bx W2) := by rw [hW2]; exact HOr.out.alloc _
        have HWD : Hid (W2.heap[W.heap.size]? = some (.cells #[.string ⟨#[107, 101, 101, 112, 32]⟩, .string ⟨#[109, 97, 121, 32]⟩, .string ⟨#[109, 117, 115, 116, 32]⟩] 9 (0, 0))) := by rw [hW2]; exact heap_alloc_new W _
        have lX2 : X.length ≤ 97 := by have := bs_size X; omega
        clear hW2
        go_loopg [4, 7] 10 (fun g out i wr => ∃ (q : Nat) (V : World), V = wr ∧ g = 10 - q ∧ q ≤ 10 ∧ q ≤ nR ∧ out = .string (bs (Hd.ru n rs X q)) ∧ i = .int .i64 (q : Int) ∧ Only (fun _ => False) W2 V)
        case atStart => exact ⟨0, _, rfl, rfl, by omega, by omega, rfl, rfl, by rw [HW2.out]; exact Only.refl _ _⟩
        case round =>
          obtain ⟨q, V, hV, rfl, hq, hqR, rfl, rfl, hOv⟩ := hrel
          subst hV
          have HOv : Hid (Only (fun _ => False) W2 V) := hOv
          have hOb : Only (fun _ => False) bx V := HOW.out.trans hOv
          have HP4 : Hid (Pbx V w.heap.size c 0 af aT nT cT aR nR cR) := HP0.out.keep hOb
          have HOw : Hid (Only (fun _ => False) w V) := ((Only.refl (fun _ => False) w).alloc _).trans (HBX.out ▸ hOb)
          have HRW : Hid (Rw V aR nR rs) := HR.out.keep HOw.out
          have d4 := HP4.out.c4
          obtain ⟨Z, hZ⟩ : ∃ Z, Z = Hd.ru n rs X q := ⟨_, rfl⟩
          have HZ : Hid (Z = Hd.ru n rs X q) := hZ
          have lZ : Z.length ≤ 97 + 874 * q := by rw [hZ]; have := (Hd.ru_len n rs X hn6 q).1; omega
          rw [← hZ]
          obtain ⟨mZ, sZ, lmZ⟩ := sz Z
          have hmZ : mZ ≤ 9000 := by omega
          clear hZ lZ lmZ hOb hOv
          by_cases hlt2 : q < nR
          · by_cases hlq : q < 10
            · obtain ⟨hl, b, off, h1, h2⟩ := HRW.out
              obtain ⟨ha, hb⟩ := h1 (by omega)
              obtain ⟨y, hy⟩ : ∃ y, rs[q]? = some y := ⟨rs[q]'(by omega), List.getElem?_eq_getElem _⟩
              have HY : Hid (rs[q]? = some y) := hy
              obtain ⟨o, c0, c1, c2⟩ := h2 q y hy
              clear hy h1 h2 hl
              obtain ⟨yd, la, ln, lc, L, ra, rn, rc, R⟩ := y
              obtain ⟨o1, o2, o3, o4, o5, o6, o7⟩ := o
              dsimp only at o1 o2 o3 o4 o5 o6 o7 c0 c1 c2
              have HL : Hid (Bw V la ln L) := o2
              have HRr : Hid (Bw V ra rn R) := o5
              clear o2 o5 o4 o7
              obtain ⟨e, he⟩ : ∃ e, e = yd % 3 := ⟨_, rfl⟩
              have hme : (yd : Int) % 3 = (e : Int) := by omega
              have he3 : e < 3 := by omega
              have HE3 : Hid (e = yd % 3) := he
              have hKp : ∀ w' : World, Only (fun _ => False) V w' → (w'.cell? ⟨w.heap.size, 4, none⟩ = some (.slice (some ⟨b, off, none⟩) nR cR) ∧ w'.cell? ⟨b, off + q * 3, none⟩ = some (.int .u8 (yd : Int)) ∧ w'.cell? ⟨b, off + q * 3 + 1, none⟩ = some (.slice la ln lc) ∧ w'.cell? ⟨b, off + q * 3 + 2, none⟩ = some (.slice ra rn rc) ∧ w'.cell? ⟨W.heap.size, ((yd : Int) % 3).toNat, none⟩ = some (.string (bs (Hd.word yd)))) := fun w' ho => by
                have hblk := ho.block b hb (fun h => h)
                refine ⟨by rw [← ha]; exact (HP4.out.keep ho).c4, (World.cell?_of_block (a := ⟨b, off + q * 3, none⟩) hblk).trans c0, (World.cell?_of_block (a := ⟨b, off + q * 3 + 1, none⟩) hblk).trans c1, (World.cell?_of_block (a := ⟨b, off + q * 3 + 2, none⟩) hblk).trans c2, ?_⟩
                have hg : w'.heap[W.heap.size]? = some (.cells #[.string ⟨#[107, 101, 101, 112, 32]⟩, .string ⟨#[109, 97, 121, 32]⟩, .string ⟨#[109, 117, 115, 116, 32]⟩] 9 (0, 0)) := ((HOv.out.trans ho).block _ (Array.getElem?_eq_some_iff.1 HWD.out).1 (fun h => h)).trans HWD.out
                rw [show ((yd : Int) % 3).toNat = e by omega, cell_of_row _ _ _ _ _ _ hg]
                unfold Hd.word
                rw [← HE3.out]
                rcases (show e = 0 ∨ e = 1 ∨ e = 2 by omega) with r | r | r
                · subst r; rfl
                · subst r; rfl
                · subst r; rfl
              have HKp : Hid (∀ w' : World, Only (fun _ => False) V w' → (w'.cell? ⟨w.heap.size, 4, none⟩ = some (.slice (some ⟨b, off, none⟩) nR cR) ∧ w'.cell? ⟨b, off + q * 3, none⟩ = some (.int .u8 (yd : Int)) ∧ w'.cell? ⟨b, off + q * 3 + 1, none⟩ = some (.slice la ln lc) ∧ w'.cell? ⟨b, off + q * 3 + 2, none⟩ = some (.slice ra rn rc) ∧ w'.cell? ⟨W.heap.size, ((yd : Int) % 3).toNat, none⟩ = some (.string (bs (Hd.word yd))))) := hKp
              clear hKp c0 c1 c2 he
              have hE : e = 0 ∨ e = 1 ∨ e = 2 := by omega
              have t4 : (q : Int) < (nR : Int) := by omega
              have t5 : (q : Int) < 10 := by omega
              have htm : (yd : Int).tmod 3 = (yd : Int) % 3 := Int.tmod_eq_emod_of_nonneg (by omega)
              have t6 : (0 : Int) ≤ (yd : Int) % 3 := by omega
              have t7 : (yd : Int) % 3 < 3 := by omega
              have hwe : IntKind.u8.wrap ((yd : Int) % 3) = (yd : Int) % 3 := by simp only [IntKind.wrap]; first | omega | (simp; omega) | (unfold IntKind.bits; simp; omega)
              obtain ⟨mW, sW, lW⟩ := sz (Hd.word yd)
              obtain ⟨mL, sL, lL⟩ := sz (Hd.expr n L)
              obtain ⟨mR, sR, lR⟩ := sz (Hd.expr n R)
              have hW5 := (Hd.word_len yd).1
              have hL4 := Hd.expr_len n L hn6
              have hR4 := Hd.expr_len n R hn6
              have f1 : bs Z ++ bs (Hd.word yd) = bs (Hd.cat Z (Hd.word yd)) := bs_cat _ _
              obtain ⟨Z1, hZ1⟩ : ∃ Zz, Zz = Hd.cat Z (Hd.word yd) := ⟨_, rfl⟩
              rw [← hZ1] at f1
              have f2 : bs Z1 ++ bs (Hd.expr n L) = bs (Hd.cat Z1 (Hd.expr n L)) := bs_cat _ _
              obtain ⟨Z2, hZ2⟩ : ∃ Zz, Zz = Hd.cat Z1 (Hd.expr n L) := ⟨_, rfl⟩
              rw [← hZ2] at f2
              have f3 : bs Z2 ++ (⟨#[32, 47, 32]⟩ : ByteArray) = bs (Hd.cat Z2 [32, 47, 32]) := catR _ _
              obtain ⟨Z3, hZ3⟩ : ∃ Zz, Zz = Hd.cat Z2 [32, 47, 32] := ⟨_, rfl⟩
              rw [← hZ3] at f3
              have f4 : bs Z3 ++ bs (Hd.expr n R) = bs (Hd.cat Z3 (Hd.expr n R)) := bs_cat _ _
              obtain ⟨Z4, hZ4⟩ : ∃ Zz, Zz = Hd.cat Z3 (Hd.expr n R) := ⟨_, rfl⟩
              rw [← hZ4] at f4
              have f5 : bs Z4 ++ (⟨#[59, 10]⟩ : ByteArray) = bs (Hd.cat Z4 [59, 10]) := catR _ _
              obtain ⟨Z5, hZ5⟩ : ∃ Zz, Zz = Hd.cat Z4 [59, 10] := ⟨_, rfl⟩
              rw [← hZ5] at f5
              have HZ5 : Hid (Z5 = Hd.cat (Hd.cat (Hd.cat (Hd.cat (Hd.cat Z (Hd.word yd)) (Hd.expr n L)) [32, 47, 32]) (Hd.expr n R)) [59, 10]) := by show Z5 = _; rw [hZ5, hZ4, hZ3, hZ2, hZ1]
              obtain ⟨n1, r1, l1⟩ := sz Z1
              obtain ⟨n2, r2, l2⟩ := sz Z2
              obtain ⟨n3, r3, l3⟩ := sz Z3
              obtain ⟨n4, r4, l4⟩ := sz Z4
              have b1 : n1 = mZ + mW := by rw [l1, hZ1, Hd.cat_len, lW]; have := bs_size Z; omega
              have b2 : n2 = n1 + mL := by rw [l2, hZ2, Hd.cat_len, lL, l1]
              have b3 : n3 = n2 + 3 := by rw [l3, hZ3, Hd.cat_len, l2]; rfl
              have b4 : n4 = n3 + mR := by rw [l4, hZ4, Hd.cat_len, lR, l3]
              have g1 : n1 ≤ 20000 := by omega
              have g2 : n2 ≤ 20000 := by omega
              have g3 : n3 ≤ 20000 := by omega
              have g4 : n4 ≤ 20000 := by omega
              have gW : mW ≤ 5 := by omega
              have gL : mL ≤ 432 := by omega
              have gR : mR ≤ 432 := by omega
              clear b1 b2 b3 b4 l1 l2 l3 l4 lW lL lR hZ1 hZ2 hZ3 hZ4 hZ5 hW5 hL4 hR4
              have z3 : (⟨#[32, 47, 32]⟩ : ByteArray).size = 3 := rfl
              have z2 : (⟨#[59, 10]⟩ : ByteArray).size = 2 := rfl
              have p1 : (9223372036854775807 < mZ + mW) = False := eq_false (by omega)
              have p2 : (9223372036854775807 < n1 + mL) = False := eq_false (by omega)
              have p3 : (9223372036854775807 < n2 + 3) = False := eq_false (by omega)
              have p3' : (9223372036854775804 < n2) = False := eq_false (by omega)
              have p4 : (9223372036854775807 < n3 + mR) = False := eq_false (by omega)
              have p5 : (9223372036854775807 < n4 + 2) = False := eq_false (by omega)
              have p5' : (9223372036854775805 < n4) = False := eq_false (by omega)
              subst ha
              clear he3 hme hE
              go_wp2_with fail
              go_region_held3 (fun w' => w'.cell? ⟨w.heap.size, 4, none⟩ = some (.slice (some ⟨b, off, none⟩) nR cR) ∧ w'.cell? ⟨b, off + q * 3, none⟩ = some (.int .u8 (yd : Int)) ∧ w'.cell? ⟨b, off + q * 3 + 1, none⟩ = some (.slice la ln lc) ∧ w'.cell? ⟨b, off + q * 3 + 2, none⟩ = some (.slice ra rn rc) ∧ w'.cell? ⟨W.heap.size, ((yd : Int) % 3).toNat, none⟩ = some (.string (bs (Hd.word yd)))) ((first | exact HKp.out _ ((Only.refl (fun _ => False) V).drew) | exact HKp.out _ ho6 | exact HKp.out _ ho5)) ((first | (go_at_call 18; have hgd := ho5; refine (expr_hand2 n ra rn rc R _ hn1 hn6 (HRr.out.keep ho5) o6).mono ?_; clear hgd; rintro en w6 ⟨rfl, ho6'⟩; have ho6 : Only (fun _ => False) V w6 := ho5.trans ho6'; clear ho6') | (go_at_call 18; refine (expr_hand2 n la ln lc L _ hn1 hn6 (HL.out.keep ((Only.refl (fun _ => False) V).drew)) o3).mono ?_; rintro en w5 ⟨rfl, ho5'⟩; have ho5 : Only (fun _ => False) V w5 := ((Only.refl (fun _ => False) V).drew).trans ho5'; clear ho5')))
              go_wp2_with fail
              go_roundg (10 - (q + 1))
              case measure => omega
              case rel => exact ⟨q + 1, _, rfl, rfl, by omega, by omega, by rw [HZ5.out, HZ.out, Hd.ru, HY.out], by go_num, HOv.out.trans ho6⟩
            · have t4 : (q : Int) < (nR : Int) := by omega
              have t5 : ¬ (q : Int) < 10 := by omega
              have t6 : decide ((q : Int) < 10) = false := decide_eq_false t5
              have HTX : Hid (Z = Hd.text n 0 af T rs) := by
                show Z = _
                have hqm : q = min rs.length 10 := by have := HRW.out.1; omega
                rw [HZ.out, HX.out, HMIN.out, hqm]
                unfold Hd.text Hd.second
                rw [if_pos rfl]
              go_wp2_with fail
              go_ret
              exact ⟨(by show Ending.returned (Value.string (bs Z)) = _; rw [HTX.out]), HOw.out⟩
          · have t4 : ¬ (q : Int) < (nR : Int) := by omega
            have t6 : decide ((q : Int) < (nR : Int)) = false := decide_eq_false t4
            have HTX : Hid (Z = Hd.text n 0 af T rs) := by
              show Z = _
              have hqm : q = min rs.length 10 := by have := HRW.out.1; omega
              rw [HZ.out, HX.out, HMIN.out, hqm]
              unfold Hd.text Hd.second
              rw [if_pos rfl]
            go_wp2_with fail
            go_ret
            exact ⟨(by show Ending.returned (Value.string (bs Z)) = _; rw [HTX.out]), HOw.out⟩
    · have hmin : k = min T.length n := by have := HTW.out.1; omega
      have t2 : ¬ (k : Int) < (nT : Int) := by omega
      have t3 : decide ((k : Int) < (nT : Int)) = false := decide_eq_false t2
      have HMIN : Hid (k = min T.length n) := hmin
      clear hTW hmin e1 s1 e2 sN sm1 mNl hm1
      go_wp2_with fail
      obtain ⟨W2, hW2⟩ : ∃ W2, W2 = W.alloc (.cells #[.string ⟨#[107, 101, 101, 112, 32]⟩, .string ⟨#[109, 97, 121, 32]⟩, .string ⟨#[109, 117, 115, 116, 32]⟩] 9) := ⟨_, rfl⟩
      have HW2 : Hid (W2 = W.alloc (.cells #[.string ⟨#[107, 101, 101, 112, 32]⟩, .string ⟨#[109, 97, 121, 32]⟩, .string ⟨#[109, 117, 115, 116, 32]⟩] 9)) := hW2
      have HOW : Hid (Only (fun _ => False) bx W2) := by rw [hW2]; exact HOr.out.alloc _
      have HWD : Hid (W2.heap[W.heap.size]? = some (.cells #[.string ⟨#[107, 101, 101, 112, 32]⟩, .string ⟨#[109, 97, 121, 32]⟩, .string ⟨#[109, 117, 115, 116, 32]⟩] 9 (0, 0))) := by rw [hW2]; exact heap_alloc_new W _
      have lX2 : X.length ≤ 97 := by have := bs_size X; omega
      clear hW2
      go_loopg [4, 7] 10 (fun g out i wr => ∃ (q : Nat) (V : World), V = wr ∧ g = 10 - q ∧ q ≤ 10 ∧ q ≤ nR ∧ out = .string (bs (Hd.ru n rs X q)) ∧ i = .int .i64 (q : Int) ∧ Only (fun _ => False) W2 V)
      case atStart => exact ⟨0, _, rfl, rfl, by omega, by omega, rfl, rfl, by rw [HW2.out]; exact Only.refl _ _⟩
      case round =>
        obtain ⟨q, V, hV, rfl, hq, hqR, rfl, rfl, hOv⟩ := hrel
        subst hV
        have HOv : Hid (Only (fun _ => False) W2 V) := hOv
        have hOb : Only (fun _ => False) bx V := HOW.out.trans hOv
        have HP4 : Hid (Pbx V w.heap.size c 0 af aT nT cT aR nR cR) := HP0.out.keep hOb
        have HOw : Hid (Only (fun _ => False) w V) := ((Only.refl (fun _ => False) w).alloc _).trans (HBX.out ▸ hOb)
        have HRW : Hid (Rw V aR nR rs) := HR.out.keep HOw.out
        have d4 := HP4.out.c4
        obtain ⟨Z, hZ⟩ : ∃ Z, Z = Hd.ru n rs X q := ⟨_, rfl⟩
        have HZ : Hid (Z = Hd.ru n rs X q) := hZ
        have lZ : Z.length ≤ 97 + 874 * q := by rw [hZ]; have := (Hd.ru_len n rs X hn6 q).1; omega
        rw [← hZ]
        obtain ⟨mZ, sZ, lmZ⟩ := sz Z
        have hmZ : mZ ≤ 9000 := by omega
        clear hZ lZ lmZ hOb hOv
        by_cases hlt2 : q < nR
        · by_cases hlq : q < 10
          · obtain ⟨hl, b, off, h1, h2⟩ := HRW.out
            obtain ⟨ha, hb⟩ := h1 (by omega)
            obtain ⟨y, hy⟩ : ∃ y, rs[q]? = some y := ⟨rs[q]'(by omega), List.getElem?_eq_getElem _⟩
            have HY : Hid (rs[q]? = some y) := hy
            obtain ⟨o, c0, c1, c2⟩ := h2 q y hy
            clear hy h1 h2 hl
            obtain ⟨yd, la, ln, lc, L, ra, rn, rc, R⟩ := y
            obtain ⟨o1, o2, o3, o4, o5, o6, o7⟩ := o
            dsimp only at o1 o2 o3 o4 o5 o6 o7 c0 c1 c2
            have HL : Hid (Bw V la ln L) := o2
            have HRr : Hid (Bw V ra rn R) := o5
            clear o2 o5 o4 o7
            obtain ⟨e, he⟩ : ∃ e, e = yd % 3 := ⟨_, rfl⟩
            have hme : (yd : Int) % 3 = (e : Int) := by omega
            have he3 : e < 3 := by omega
            have HE3 : Hid (e = yd % 3) := he
            have hKp : ∀ w' : World, Only (fun _ => False) V w' → (w'.cell? ⟨w.heap.size, 4, none⟩ = some (.slice (some ⟨b, off, none⟩) nR cR) ∧ w'.cell? ⟨b, off + q * 3, none⟩ = some (.int .u8 (yd : Int)) ∧ w'.cell? ⟨b, off + q * 3 + 1, none⟩ = some (.slice la ln lc) ∧ w'.cell? ⟨b, off + q * 3 + 2, none⟩ = some (.slice ra rn rc) ∧ w'.cell? ⟨W.heap.size, ((yd : Int) % 3).toNat, none⟩ = some (.string (bs (Hd.word yd)))) := fun w' ho => by
              have hblk := ho.block b hb (fun h => h)
              refine ⟨by rw [← ha]; exact (HP4.out.keep ho).c4, (World.cell?_of_block (a := ⟨b, off + q * 3, none⟩) hblk).trans c0, (World.cell?_of_block (a := ⟨b, off + q * 3 + 1, none⟩) hblk).trans c1, (World.cell?_of_block (a := ⟨b, off + q * 3 + 2, none⟩) hblk).trans c2, ?_⟩
              have hg : w'.heap[W.heap.size]? = some (.cells #[.string ⟨#[107, 101, 101, 112, 32]⟩, .string ⟨#[109, 97, 121, 32]⟩, .string ⟨#[109, 117, 115, 116, 32]⟩] 9 (0, 0)) := ((HOv.out.trans ho).block _ (Array.getElem?_eq_some_iff.1 HWD.out).1 (fun h => h)).trans HWD.out
              rw [show ((yd : Int) % 3).toNat = e by omega, cell_of_row _ _ _ _ _ _ hg]
              unfold Hd.word
              rw [← HE3.out]
              rcases (show e = 0 ∨ e = 1 ∨ e = 2 by omega) with r | r | r
              · subst r; rfl
              · subst r; rfl
              · subst r; rfl
            have HKp : Hid (∀ w' : World, Only (fun _ => False) V w' → (w'.cell? ⟨w.heap.size, 4, none⟩ = some (.slice (some ⟨b, off, none⟩) nR cR) ∧ w'.cell? ⟨b, off + q * 3, none⟩ = some (.int .u8 (yd : Int)) ∧ w'.cell? ⟨b, off + q * 3 + 1, none⟩ = some (.slice la ln lc) ∧ w'.cell? ⟨b, off + q * 3 + 2, none⟩ = some (.slice ra rn rc) ∧ w'.cell? ⟨W.heap.size, ((yd : Int) % 3).toNat, none⟩ = some (.string (bs (Hd.word yd))))) := hKp
            clear hKp c0 c1 c2 he
            have hE : e = 0 ∨ e = 1 ∨ e = 2 := by omega
            have t4 : (q : Int) < (nR : Int) := by omega
            have t5 : (q : Int) < 10 := by omega
            have htm : (yd : Int).tmod 3 = (yd : Int) % 3 := Int.tmod_eq_emod_of_nonneg (by omega)
            have t6 : (0 : Int) ≤ (yd : Int) % 3 := by omega
            have t7 : (yd : Int) % 3 < 3 := by omega
            have hwe : IntKind.u8.wrap ((yd : Int) % 3) = (yd : Int) % 3 := by simp only [IntKind.wrap]; first | omega | (simp; omega) | (unfold IntKind.bits; simp; omega)
            obtain ⟨mW, sW, lW⟩ := sz (Hd.word yd)
            obtain ⟨mL, sL, lL⟩ := sz (Hd.expr n L)
            obtain ⟨mR, sR, lR⟩ := sz (Hd.expr n R)
            have hW5 := (Hd.word_len yd).1
            have hL4 := Hd.expr_len n L hn6
            have hR4 := Hd.expr_len n R hn6
            have f1 : bs Z ++ bs (Hd.word yd) = bs (Hd.cat Z (Hd.word yd)) := bs_cat _ _
            obtain ⟨Z1, hZ1⟩ : ∃ Zz, Zz = Hd.cat Z (Hd.word yd) := ⟨_, rfl⟩
            rw [← hZ1] at f1
            have f2 : bs Z1 ++ bs (Hd.expr n L) = bs (Hd.cat Z1 (Hd.expr n L)) := bs_cat _ _
            obtain ⟨Z2, hZ2⟩ : ∃ Zz, Zz = Hd.cat Z1 (Hd.expr n L) := ⟨_, rfl⟩
            rw [← hZ2] at f2
            have f3 : bs Z2 ++ (⟨#[32, 47, 32]⟩ : ByteArray) = bs (Hd.cat Z2 [32, 47, 32]) := catR _ _
            obtain ⟨Z3, hZ3⟩ : ∃ Zz, Zz = Hd.cat Z2 [32, 47, 32] := ⟨_, rfl⟩
            rw [← hZ3] at f3
            have f4 : bs Z3 ++ bs (Hd.expr n R) = bs (Hd.cat Z3 (Hd.expr n R)) := bs_cat _ _
            obtain ⟨Z4, hZ4⟩ : ∃ Zz, Zz = Hd.cat Z3 (Hd.expr n R) := ⟨_, rfl⟩
            rw [← hZ4] at f4
            have f5 : bs Z4 ++ (⟨#[59, 10]⟩ : ByteArray) = bs (Hd.cat Z4 [59, 10]) := catR _ _
            obtain ⟨Z5, hZ5⟩ : ∃ Zz, Zz = Hd.cat Z4 [59, 10] := ⟨_, rfl⟩
            rw [← hZ5] at f5
            have HZ5 : Hid (Z5 = Hd.cat (Hd.cat (Hd.cat (Hd.cat (Hd.cat Z (Hd.word yd)) (Hd.expr n L)) [32, 47, 32]) (Hd.expr n R)) [59, 10]) := by show Z5 = _; rw [hZ5, hZ4, hZ3, hZ2, hZ1]
            obtain ⟨n1, r1, l1⟩ := sz Z1
            obtain ⟨n2, r2, l2⟩ := sz Z2
            obtain ⟨n3, r3, l3⟩ := sz Z3
            obtain ⟨n4, r4, l4⟩ := sz Z4
            have b1 : n1 = mZ + mW := by rw [l1, hZ1, Hd.cat_len, lW]; have := bs_size Z; omega
            have b2 : n2 = n1 + mL := by rw [l2, hZ2, Hd.cat_len, lL, l1]
            have b3 : n3 = n2 + 3 := by rw [l3, hZ3, Hd.cat_len, l2]; rfl
            have b4 : n4 = n3 + mR := by rw [l4, hZ4, Hd.cat_len, lR, l3]
            have g1 : n1 ≤ 20000 := by omega
            have g2 : n2 ≤ 20000 := by omega
            have g3 : n3 ≤ 20000 := by omega
            have g4 : n4 ≤ 20000 := by omega
            have gW : mW ≤ 5 := by omega
            have gL : mL ≤ 432 := by omega
            have gR : mR ≤ 432 := by omega
            clear b1 b2 b3 b4 l1 l2 l3 l4 lW lL lR hZ1 hZ2 hZ3 hZ4 hZ5 hW5 hL4 hR4
            have z3 : (⟨#[32, 47, 32]⟩ : ByteArray).size = 3 := rfl
            have z2 : (⟨#[59, 10]⟩ : ByteArray).size = 2 := rfl
            have p1 : (9223372036854775807 < mZ + mW) = False := eq_false (by omega)
            have p2 : (9223372036854775807 < n1 + mL) = False := eq_false (by omega)
            have p3 : (9223372036854775807 < n2 + 3) = False := eq_false (by omega)
            have p3' : (9223372036854775804 < n2) = False := eq_false (by omega)
            have p4 : (9223372036854775807 < n3 + mR) = False := eq_false (by omega)
            have p5 : (9223372036854775807 < n4 + 2) = False := eq_false (by omega)
            have p5' : (9223372036854775805 < n4) = False := eq_false (by omega)
            subst ha
            clear he3 hme hE
            go_wp2_with fail
            go_region_held3 (fun w' => w'.cell? ⟨w.heap.size, 4, none⟩ = some (.slice (some ⟨b, off, none⟩) nR cR) ∧ w'.cell? ⟨b, off + q * 3, none⟩ = some (.int .u8 (yd : Int)) ∧ w'.cell? ⟨b, off + q * 3 + 1, none⟩ = some (.slice la ln lc) ∧ w'.cell? ⟨b, off + q * 3 + 2, none⟩ = some (.slice ra rn rc) ∧ w'.cell? ⟨W.heap.size, ((yd : Int) % 3).toNat, none⟩ = some (.string (bs (Hd.word yd)))) ((first | exact HKp.out _ ((Only.refl (fun _ => False) V).drew) | exact HKp.out _ ho6 | exact HKp.out _ ho5)) ((first | (go_at_call 18; have hgd := ho5; refine (expr_hand2 n ra rn rc R _ hn1 hn6 (HRr.out.keep ho5) o6).mono ?_; clear hgd; rintro en w6 ⟨rfl, ho6'⟩; have ho6 : Only (fun _ => False) V w6 := ho5.trans ho6'; clear ho6') | (go_at_call 18; refine (expr_hand2 n la ln lc L _ hn1 hn6 (HL.out.keep ((Only.refl (fun _ => False) V).drew)) o3).mono ?_; rintro en w5 ⟨rfl, ho5'⟩; have ho5 : Only (fun _ => False) V w5 := ((Only.refl (fun _ => False) V).drew).trans ho5'; clear ho5')))
            go_wp2_with fail
            go_roundg (10 - (q + 1))
            case measure => omega
            case rel => exact ⟨q + 1, _, rfl, rfl, by omega, by omega, by rw [HZ5.out, HZ.out, Hd.ru, HY.out], by go_num, HOv.out.trans ho6⟩
          · have t4 : (q : Int) < (nR : Int) := by omega
            have t5 : ¬ (q : Int) < 10 := by omega
            have t6 : decide ((q : Int) < 10) = false := decide_eq_false t5
            have HTX : Hid (Z = Hd.text n 0 af T rs) := by
              show Z = _
              have hqm : q = min rs.length 10 := by have := HRW.out.1; omega
              rw [HZ.out, HX.out, HMIN.out, hqm]
              unfold Hd.text Hd.second
              rw [if_pos rfl]
            go_wp2_with fail
            go_ret
            exact ⟨(by show Ending.returned (Value.string (bs Z)) = _; rw [HTX.out]), HOw.out⟩
        · have t4 : ¬ (q : Int) < (nR : Int) := by omega
          have t6 : decide ((q : Int) < (nR : Int)) = false := decide_eq_false t4
          have HTX : Hid (Z = Hd.text n 0 af T rs) := by
            show Z = _
            have hqm : q = min rs.length 10 := by have := HRW.out.1; omega
            rw [HZ.out, HX.out, HMIN.out, hqm]
            unfold Hd.text Hd.second
            rw [if_pos rfl]
          go_wp2_with fail
          go_ret
          exact ⟨(by show Ending.returned (Value.string (bs Z)) = _; rw [HTX.out]), HOw.out⟩
end Go.Proofs.Ytahoepmnekconaa
namespace Go.Proofs.Ytahoepmnekconaa
open Go.RowKit Go.Maps
set_option linter.unusedVariables false
set_option linter.unusedSimpArgs false
set_option maxRecDepth 100000 in
set_option maxHeartbeats 8000000 in
theorem text_hand1 (c jo af : Nat) (aT : Option Addr) (nT cT : Nat) (T : List Nat) (aR : Option Addr) (nR cR : Nat) (rs : List Pr) (w : World) (hc : c ≤ 255) (hjo : jo ≤ 255) (hj0 : jo ≠ 0) (haf : af ≤ 255) (hT : Bw w aT nT T) (hR : Rw w aR nR rs) :
    Calls Try.prog 11 #[planV c jo af aT nT cT aR nR cR] w fun e w' => e = .returned (.string (bs (Hd.text (1 + c % 6) jo af T rs))) ∧ Only (fun _ => False) w w' := by
  have HT : Hid (Bw w aT nT T) := hT
  have HR : Hid (Rw w aR nR rs) := hR
  have HC : Hid (Bw w aT nT T) := hT
  obtain ⟨n, hn⟩ : ∃ n, n = 1 + c % 6 := ⟨_, rfl⟩
  have HN : Hid (n = 1 + c % 6) := hn
  have hn1 : 1 ≤ n := by omega
  have hn6 : n ≤ 6 := by omega
  rw [← hn]
  have sF := (Hd.first_len n hn6).1
  obtain ⟨mN, sN, lN⟩ := sz (Hd.names n 255 n)
  have hNl := Hd.names_len n 255 n
  have mNl : mN ≤ 12 := by omega
  have e1 : (⟨#[99, 108, 97, 115, 115]⟩ : ByteArray) ++ bs (Hd.names n 255 n) = bs (Hd.cat [99, 108, 97, 115, 115] (Hd.names n 255 n)) := catL _ _
  have s1 : (bs (Hd.cat [99, 108, 97, 115, 115] (Hd.names n 255 n))).size = 5 + mN := cat_sz (bs_size _) sN
  have e2 : bs (Hd.cat [99, 108, 97, 115, 115] (Hd.names n 255 n)) ++ (⟨#[59, 10]⟩ : ByteArray) = bs (Hd.first n) := catR _ _
  obtain ⟨F, hF⟩ : ∃ F, F = Hd.first n := ⟨_, rfl⟩
  rw [← hF] at e2
  obtain ⟨v0, r0, l0⟩ := sz F
  obtain ⟨mJ, sJ, lJ⟩ := sz (Hd.names n jo n)
  obtain ⟨mA, sA, lA⟩ := sz (Hd.names n af n)
  have f1 : bs F ++ (⟨#[106, 111, 105, 110]⟩ : ByteArray) = bs (Hd.cat F [106, 111, 105, 110]) := catR _ _
  obtain ⟨F1, hF1⟩ : ∃ Zz, Zz = Hd.cat F [106, 111, 105, 110] := ⟨_, rfl⟩
  rw [← hF1] at f1
  obtain ⟨v1, r1, l1⟩ := sz F1
  have f2 : bs F1 ++ bs (Hd.names n jo n) = bs (Hd.cat F1 (Hd.names n jo n)) := bs_cat _ _
  obtain ⟨F2, hF2⟩ : ∃ Zz, Zz = Hd.cat F1 (Hd.names n jo n) := ⟨_, rfl⟩
  rw [← hF2] at f2
  obtain ⟨v2, r2, l2⟩ := sz F2
  have f3 : bs F2 ++ (⟨#[32, 47]⟩ : ByteArray) = bs (Hd.cat F2 [32, 47]) := catR _ _
  obtain ⟨F3, hF3⟩ : ∃ Zz, Zz = Hd.cat F2 [32, 47] := ⟨_, rfl⟩
  rw [← hF3] at f3
  obtain ⟨v3, r3, l3⟩ := sz F3
  have f4 : bs F3 ++ bs (Hd.names n af n) = bs (Hd.cat F3 (Hd.names n af n)) := bs_cat _ _
  obtain ⟨F4, hF4⟩ : ∃ Zz, Zz = Hd.cat F3 (Hd.names n af n) := ⟨_, rfl⟩
  rw [← hF4] at f4
  obtain ⟨v4, r4, l4⟩ := sz F4
  have f5 : bs F4 ++ (⟨#[59, 10]⟩ : ByteArray) = bs (Hd.cat F4 [59, 10]) := catR _ _
  obtain ⟨F5, hF5⟩ : ∃ Zz, Zz = Hd.cat F4 [59, 10] := ⟨_, rfl⟩
  rw [← hF5] at f5
  obtain ⟨v5, r5, l5⟩ := sz F5
  have HF5 : Hid (F5 = Hd.second n jo af) := by show F5 = _; unfold Hd.second; rw [if_neg hj0, hF5, hF4, hF3, hF2, hF1, hF]
  have y0 := (Hd.first_len n hn6).1
  have yJ := Hd.names_len n jo n
  have yA := Hd.names_len n af n
  have x1 : v1 = v0 + 4 := by rw [l1, hF1, Hd.cat_len, l0]; rfl
  have x2 : v2 = v1 + mJ := by rw [l2, hF2, Hd.cat_len, l1, lJ]
  have x3 : v3 = v2 + 2 := by rw [l3, hF3, Hd.cat_len, l2]; rfl
  have x4 : v4 = v3 + mA := by rw [l4, hF4, Hd.cat_len, l3, lA]
  have u0 : v0 ≤ 100 := by rw [l0, hF]; omega
  have u1 : v1 ≤ 100 := by rw [hF] at l0; omega
  have u2 : v2 ≤ 100 := by rw [hF] at l0; omega
  have u3 : v3 ≤ 100 := by rw [hF] at l0; omega
  have u4 : v4 ≤ 100 := by rw [hF] at l0; omega
  have uJ : mJ ≤ 12 := by omega
  have uA : mA ≤ 12 := by omega
  have z4 : (⟨#[106, 111, 105, 110]⟩ : ByteArray).size = 4 := rfl
  have z2 : (⟨#[32, 47]⟩ : ByteArray).size = 2 := rfl
  have z2' : (⟨#[59, 10]⟩ : ByteArray).size = 2 := rfl
  have p1 : (9223372036854775807 < v0 + 4) = False := eq_false (by omega)
  have p1' : (9223372036854775803 < v0) = False := eq_false (by omega)
  have p2 : (9223372036854775807 < v1 + mJ) = False := eq_false (by omega)
  have p3 : (9223372036854775807 < v2 + 2) = False := eq_false (by omega)
  have p3' : (9223372036854775805 < v2) = False := eq_false (by omega)
  have p4 : (9223372036854775807 < v3 + mA) = False := eq_false (by omega)
  have p5 : (9223372036854775807 < v4 + 2) = False := eq_false (by omega)
  have p5' : (9223372036854775805 < v4) = False := eq_false (by omega)
  have tj : ¬ (jo : Int) = 0 := by omega
  have tj2 : ((jo : Int) == 0) = false := by simpa using hj0
  clear x1 x2 x3 x4 l0 l1 l2 l3 l4 l5 lJ lA hF hF1 hF2 hF3 hF4 hF5 y0 yJ yA
  clear hT hR hn lN hNl sF
  obtain ⟨bx, hbx⟩ : ∃ bx, bx = w.alloc (.cells #[.int .u8 (c : Int), .int .u8 (jo : Int), .int .u8 (af : Int), .slice aT nT cT, .slice aR nR cR] 27) := ⟨_, rfl⟩
  have HBX : Hid (bx = w.alloc (.cells #[.int .u8 (c : Int), .int .u8 (jo : Int), .int .u8 (af : Int), .slice aT nT cT, .slice aR nR cR] 27)) := hbx
  have HP0 : Hid (Pbx bx w.heap.size c jo af aT nT cT aR nR cR) := by rw [hbx]; exact heap_alloc_new w _
  clear hbx
  unfold planV
  go_enter Try.func11, Try.ntmps11
  go_wp2_with (first | (go_at_call 14; refine (count_hand c jo af aT nT cT aR nR cR _ hc).mono ?_; rintro e w1 ⟨rfl, ho1⟩; rw [← HN.out]; rw [← HBX.out] at ho1; have HO1 : Hid (Only (fun _ => False) bx w1) := ho1; have HP1 : Hid (Pbx w1 w.heap.size c jo af aT nT cT aR nR cR) := HP0.out.keep ho1; clear ho1) | (go_at_call 16; refine (names_hand n 255 _ hn1 hn6 (by omega)).mono ?_; rintro e w2 ⟨rfl, ho2⟩; have HP2 : Hid (Pbx w2 w.heap.size c jo af aT nT cT aR nR cR) := HP1.out.keep ho2; have d1 : w2.cell? ⟨w.heap.size, 1, none⟩ = some (.int .u8 (jo : Int)) := HP2.out.c1; have d2 := HP2.out.c2; have HO2 : Hid (Only (fun _ => False) bx w2) := HO1.out.trans ho2; clear ho2))
  clear d1 d2
  have HKj : Hid (∀ w' : World, Only (fun _ => False) w2 w' → (w'.cell? ⟨w.heap.size, 1, none⟩ = some (.int .u8 (jo : Int)) ∧ w'.cell? ⟨w.heap.size, 2, none⟩ = some (.int .u8 (af : Int)))) := (fun w' ho => ⟨(HP2.out.keep ho).c1, (HP2.out.keep ho).c2⟩ : ∀ w' : World, Only (fun _ => False) w2 w' → (w'.cell? ⟨w.heap.size, 1, none⟩ = some (.int .u8 (jo : Int)) ∧ w'.cell? ⟨w.heap.size, 2, none⟩ = some (.int .u8 (af : Int))))
  go_region_held3 (fun w' => w'.cell? ⟨w.heap.size, 1, none⟩ = some (.int .u8 (jo : Int)) ∧ w'.cell? ⟨w.heap.size, 2, none⟩ = some (.int .u8 (af : Int))) ((first | exact HKj.out _ ((Only.refl (fun _ => False) w2).drew) | exact HKj.out _ ho4 | exact HKj.out _ ho3)) ((first | (go_at_call 16; have hgd := ho3; refine (names_hand n af _ hn1 hn6 haf).mono ?_; clear hgd; rintro en w4 ⟨rfl, ho4'⟩; have ho4 : Only (fun _ => False) w2 w4 := ho3.trans ho4'; clear ho4') | (go_at_call 16; refine (names_hand n jo _ hn1 hn6 hjo).mono ?_; rintro en w3 ⟨rfl, ho3'⟩; have ho3 : Only (fun _ => False) w2 w3 := ((Only.refl (fun _ => False) w2).drew).trans ho3'; clear ho3')))
  rw [HF5.out]
  have HO4 : Hid (Only (fun _ => False) bx w4) := HO2.out.trans ho4
  clear ho3 ho4 f1 f2 f3 f4 f5 r0 r1 r2 r3 r4 r5 sJ sA p1 p1' p2 p3 p3' p4 p5 p5' z4 z2 z2' u0 u1 u2 u3 u4 uJ uA
  go_wp2_with fail
  go_loopg [4, 5] 6 (fun g out i wr => ∃ (k : Nat) (W : World), W = wr ∧ g = 6 - k ∧ k ≤ n ∧ k ≤ nT ∧ out = .string (bs (Hd.treat n T (Hd.second n jo af) k)) ∧ i = .int .i64 (k : Int) ∧ Only (fun _ => False) bx W)
  case atStart => exact ⟨0, _, rfl, rfl, by omega, by omega, rfl, rfl, HO4.out⟩
  case round =>
    obtain ⟨k, W, hW, rfl, hk, hkT, rfl, rfl, hOr⟩ := hrel
    subst hW
    have HOr : Hid (Only (fun _ => False) bx W) := hOr
    have hP : Pbx W w.heap.size c jo af aT nT cT aR nR cR := HP0.out.keep hOr
    have HP : Hid (Pbx W w.heap.size c jo af aT nT cT aR nR cR) := hP
    have d3 := hP.c3
    have hTW : Bw W aT nT T := HT.out.keep (((Only.refl (fun _ => False) w).alloc _).trans (HBX.out ▸ hOr))
    have HTW : Hid (Bw W aT nT T) := hTW
    obtain ⟨X, hX⟩ : ∃ X, X = Hd.treat n T (Hd.second n jo af) k := ⟨_, rfl⟩
    have HX : Hid (X = Hd.treat n T (Hd.second n jo af) k) := hX
    have lX : X.length ≤ 51 + 13 * k := by rw [hX, Hd.treat_len]; have := (Hd.second_len n jo af hn6).1; omega
    rw [← hX]
    obtain ⟨mX, sX, lmX⟩ := sz X
    have hmX : mX ≤ 129 := by omega
    clear hX lX lmX hP hOr
    by_cases hlt : k < nT
    · by_cases hln : k < n
      · obtain ⟨hl, b, off, h1, h2⟩ := hTW
        obtain ⟨ha, hb⟩ := h1 (by omega)
        obtain ⟨x, hx⟩ : ∃ x, T[k]? = some x := ⟨T[k]'(by omega), List.getElem?_eq_getElem _⟩
        obtain ⟨hx2, hcx⟩ := h2 k x hx
        have HAT : Hid (Hd.at' T k = x) := by show Hd.at' T k = x; unfold Hd.at'; rw [hx]; rfl
        have HA : Hid (aT = some ⟨b, off, none⟩) := ha
        have hKp : ∀ w' : World, Only (fun _ => False) W w' → (w'.cell? ⟨w.heap.size, 3, none⟩ = some (.slice (some ⟨b, off, none⟩) nT cT) ∧ w'.cell? ⟨b, off + k, none⟩ = some (.int .u8 (x : Int))) := fun w' ho => ⟨by rw [← ha]; exact (HP.out.keep ho).c3, (World.cell?_of_block (a := ⟨b, off + k, none⟩) (ho.block b hb (fun h => h))).trans hcx⟩
        have HKp : Hid (∀ w' : World, Only (fun _ => False) W w' → (w'.cell? ⟨w.heap.size, 3, none⟩ = some (.slice (some ⟨b, off, none⟩) nT cT) ∧ w'.cell? ⟨b, off + k, none⟩ = some (.int .u8 (x : Int)))) := hKp
        have t1 : (k : Int) < (nT : Int) := by omega
        have t2 : (k : Int) < (n : Int) := by omega
        have e3 : bs X ++ (⟨#[116, 114, 101, 97, 116, 32]⟩ : ByteArray) = bs (Hd.cat X [116, 114, 101, 97, 116, 32]) := catR _ _
        obtain ⟨Y1, hY1⟩ : ∃ Y, Y = Hd.cat X [116, 114, 101, 97, 116, 32] := ⟨_, rfl⟩
        rw [← hY1] at e3
        obtain ⟨m3, s3, l3⟩ := sz Y1
        have e4 : bs Y1 ++ bs (Hd.name n k) = bs (Hd.cat Y1 (Hd.name n k)) := bs_cat _ _
        obtain ⟨Y2, hY2⟩ : ∃ Y, Y = Hd.cat Y1 (Hd.name n k) := ⟨_, rfl⟩
        rw [← hY2] at e4
        obtain ⟨m4, s4, l4⟩ := sz Y2
        have e5 : bs Y2 ++ (⟨#[32, 61, 32]⟩ : ByteArray) = bs (Hd.cat Y2 [32, 61, 32]) := catR _ _
        obtain ⟨Y3, hY3⟩ : ∃ Y, Y = Hd.cat Y2 [32, 61, 32] := ⟨_, rfl⟩
        rw [← hY3] at e5
        obtain ⟨m5, s5, l5⟩ := sz Y3
        have e6 : bs Y3 ++ bs (Hd.name n x) = bs (Hd.cat Y3 (Hd.name n x)) := bs_cat _ _
        obtain ⟨Y4, hY4⟩ : ∃ Y, Y = Hd.cat Y3 (Hd.name n x) := ⟨_, rfl⟩
        rw [← hY4] at e6
        obtain ⟨m6, s6, l6⟩ := sz Y4
        have e7 : bs Y4 ++ (⟨#[59, 10]⟩ : ByteArray) = bs (Hd.cat Y4 [59, 10]) := catR _ _
        obtain ⟨Y5, hY5⟩ : ∃ Y, Y = Hd.cat Y4 [59, 10] := ⟨_, rfl⟩
        rw [← hY5] at e7
        have HY5 : Hid (Y5 = Hd.cat (Hd.cat (Hd.cat (Hd.cat (Hd.cat X [116, 114, 101, 97, 116, 32]) (Hd.name n k)) [32, 61, 32]) (Hd.name n x)) [59, 10]) := by show Y5 = _; rw [hY5, hY4, hY3, hY2, hY1]
        have b3 : m3 = X.length + 6 := by rw [l3, hY1, Hd.cat_len]; rfl
        have b4 : m4 = m3 + 1 := by rw [l4, hY2, Hd.cat_len, l3]; rfl
        have b5 : m5 = m4 + 3 := by rw [l5, hY3, Hd.cat_len, l4]; rfl
        have b6 : m6 = m5 + 1 := by rw [l6, hY4, Hd.cat_len, l5]; rfl
        have hXl : X.length ≤ 129 := by have := bs_size X; omega
        have b3' : m3 ≤ 200 := by omega
        have b4' : m4 ≤ 200 := by omega
        have b5' : m5 ≤ 200 := by omega
        have b6' : m6 ≤ 200 := by omega
        clear b3 b4 b5 b6 l3 l4 l5 l6 hY1 hY2 hY3 hY4 hY5 hXl
        have sk : (bs (Hd.name n k)).size = 1 := bs_size _
        have sx : (bs (Hd.name n x)).size = 1 := bs_size _
        have hwx : IntKind.i64.wrap (x : Int) = (x : Int) := by simp only [IntKind.wrap]; first | omega | (simp; omega) | (unfold IntKind.bits; simp; omega)
        have z6 : (⟨#[116, 114, 101, 97, 116, 32]⟩ : ByteArray).size = 6 := rfl
        have z3 : (⟨#[32, 61, 32]⟩ : ByteArray).size = 3 := rfl
        have z2 : (⟨#[59, 10]⟩ : ByteArray).size = 2 := rfl
        have p1 : (9223372036854775807 < mX + 6) = False := eq_false (by omega)
        have q1 : (9223372036854775801 < mX) = False := eq_false (by omega)
        have p2 : (9223372036854775807 < m3 + 1) = False := eq_false (by omega)
        have q2 : (9223372036854775806 < m3) = False := eq_false (by omega)
        have p3 : (9223372036854775807 < m4 + 3) = False := eq_false (by omega)
        have q3 : (9223372036854775804 < m4) = False := eq_false (by omega)
        have p4 : (9223372036854775807 < m5 + 1) = False := eq_false (by omega)
        have q4 : (9223372036854775806 < m5) = False := eq_false (by omega)
        have p5 : (9223372036854775807 < m6 + 2) = False := eq_false (by omega)
        have q5 : (9223372036854775805 < m6) = False := eq_false (by omega)
        clear h1 h2 hl hx hcx hKp e1 s1 e2 sN mNl d3
        subst ha
        have d3 : W.cell? ⟨w.heap.size, 3, none⟩ = some (.slice (some ⟨b, off, none⟩) nT cT) := HP.out.c3
        go_wp2_with fail
        go_region_held3 (fun w' => w'.cell? ⟨w.heap.size, 3, none⟩ = some (.slice (some ⟨b, off, none⟩) nT cT) ∧ w'.cell? ⟨b, off + k, none⟩ = some (.int .u8 (x : Int))) ((first | exact HKp.out _ ((Only.refl (fun _ => False) W).drew) | exact HKp.out _ ho4 | exact HKp.out _ ho3)) ((first | (go_at_call 17; have hgd := ho3; refine (name_nat n x _ hn1 hn6 hx2).mono ?_; clear hgd; rintro en w4 ⟨rfl, ho4'⟩; have ho4 : Only (fun _ => False) W w4 := ho3.trans ho4'; clear ho4') | (go_at_call 17; refine (name_nat n k _ hn1 hn6 (by omega)).mono ?_; rintro en w3 ⟨rfl, ho3'⟩; have ho3 : Only (fun _ => False) W w3 := ((Only.refl (fun _ => False) W).drew).trans ho3'; clear ho3')))
        go_wp2_with fail
        go_roundg (6 - (k + 1))
        case measure => omega
        case rel => exact ⟨k + 1, _, rfl, rfl, by omega, by omega, by rw [HY5.out, HX.out, Hd.treat, HAT.out], by go_num, HOr.out.trans ho4⟩
      · have hmin : k = min T.length n := by have := HTW.out.1; omega
        have t1 : (k : Int) < (nT : Int) := by omega
        have t2 : ¬ (k : Int) < (n : Int) := by omega
        have t3 : decide ((k : Int) < (n : Int)) = false := decide_eq_false t2
        have HMIN : Hid (k = min T.length n) := hmin
        clear hTW hmin e1 s1 e2 sN mNl
        go_wp2_with fail
        obtain ⟨W2, hW2⟩ : ∃ W2, W2 = W.alloc (.cells #[.string ⟨#[107, 101, 101, 112, 32]⟩, .string ⟨#[109, 97, 121, 32]⟩, .string ⟨#[109, 117, 115, 116, 32]⟩] 9) := ⟨_, rfl⟩
        have HW2 : Hid (W2 = W.alloc (.cells #[.string ⟨#[107, 101, 101, 112, 32]⟩, .string ⟨#[109, 97, 121, 32]⟩, .string ⟨#[109, 117, 115, 116, 32]⟩] 9)) := hW2
        have HOW : Hid (Only (fun _ => False) bx W2) := by rw [hW2]; exact HOr.out.alloc _
        have HWD : Hid (W2.heap[W.heap.size]? = some (.cells #[.string ⟨#[107, 101, 101, 112, 32]⟩, .string ⟨#[109, 97, 121, 32]⟩, .string ⟨#[109, 117, 115, 116, 32]⟩] 9 (0, 0))) := by rw [hW2]; exact heap_alloc_new W _
        have lX2 : X.length ≤ 129 := by have := bs_size X; omega
        clear hW2
        go_loopg [4, 7] 10 (fun g out i wr => ∃ (q : Nat) (V : World), V = wr ∧ g = 10 - q ∧ q ≤ 10 ∧ q ≤ nR ∧ out = .string (bs (Hd.ru n rs X q)) ∧ i = .int .i64 (q : Int) ∧ Only (fun _ => False) W2 V)
        case atStart => exact ⟨0, _, rfl, rfl, by omega, by omega, rfl, rfl, by rw [HW2.out]; exact Only.refl _ _⟩
        case round =>
          obtain ⟨q, V, hV, rfl, hq, hqR, rfl, rfl, hOv⟩ := hrel
          subst hV
          have HOv : Hid (Only (fun _ => False) W2 V) := hOv
          have hOb : Only (fun _ => False) bx V := HOW.out.trans hOv
          have HP4 : Hid (Pbx V w.heap.size c jo af aT nT cT aR nR cR) := HP0.out.keep hOb
          have HOw : Hid (Only (fun _ => False) w V) := ((Only.refl (fun _ => False) w).alloc _).trans (HBX.out ▸ hOb)
          have HRW : Hid (Rw V aR nR rs) := HR.out.keep HOw.out
          have d4 := HP4.out.c4
          obtain ⟨Z, hZ⟩ : ∃ Z, Z = Hd.ru n rs X q := ⟨_, rfl⟩
          have HZ : Hid (Z = Hd.ru n rs X q) := hZ
          have lZ : Z.length ≤ 129 + 874 * q := by rw [hZ]; have := (Hd.ru_len n rs X hn6 q).1; omega
          rw [← hZ]
          obtain ⟨mZ, sZ, lmZ⟩ := sz Z
          have hmZ : mZ ≤ 9000 := by omega
          clear hZ lZ lmZ hOb hOv
          by_cases hlt2 : q < nR
          · by_cases hlq : q < 10
            · obtain ⟨hl, b, off, h1, h2⟩ := HRW.out
              obtain ⟨ha, hb⟩ := h1 (by omega)
              obtain ⟨y, hy⟩ : ∃ y, rs[q]? = some y := ⟨rs[q]'(by omega), List.getElem?_eq_getElem _⟩
              have HY : Hid (rs[q]? = some y) := hy
              obtain ⟨o, c0, c1, c2⟩ := h2 q y hy
              clear hy h1 h2 hl
              obtain ⟨yd, la, ln, lc, L, ra, rn, rc, R⟩ := y
              obtain ⟨o1, o2, o3, o4, o5, o6, o7⟩ := o
              dsimp only at o1 o2 o3 o4 o5 o6 o7 c0 c1 c2
              have HL : Hid (Bw V la ln L) := o2
              have HRr : Hid (Bw V ra rn R) := o5
              clear o2 o5 o4 o7
              obtain ⟨e, he⟩ : ∃ e, e = yd % 3 := ⟨_, rfl⟩
              have hme : (yd : Int) % 3 = (e : Int) := by omega
              have he3 : e < 3 := by omega
              have HE3 : Hid (e = yd % 3) := he
              have hKp : ∀ w' : World, Only (fun _ => False) V w' → (w'.cell? ⟨w.heap.size, 4, none⟩ = some (.slice (some ⟨b, off, none⟩) nR cR) ∧ w'.cell? ⟨b, off + q * 3, none⟩ = some (.int .u8 (yd : Int)) ∧ w'.cell? ⟨b, off + q * 3 + 1, none⟩ = some (.slice la ln lc) ∧ w'.cell? ⟨b, off + q * 3 + 2, none⟩ = some (.slice ra rn rc) ∧ w'.cell? ⟨W.heap.size, ((yd : Int) % 3).toNat, none⟩ = some (.string (bs (Hd.word yd)))) := fun w' ho => by
                have hblk := ho.block b hb (fun h => h)
                refine ⟨by rw [← ha]; exact (HP4.out.keep ho).c4, (World.cell?_of_block (a := ⟨b, off + q * 3, none⟩) hblk).trans c0, (World.cell?_of_block (a := ⟨b, off + q * 3 + 1, none⟩) hblk).trans c1, (World.cell?_of_block (a := ⟨b, off + q * 3 + 2, none⟩) hblk).trans c2, ?_⟩
                have hg : w'.heap[W.heap.size]? = some (.cells #[.string ⟨#[107, 101, 101, 112, 32]⟩, .string ⟨#[109, 97, 121, 32]⟩, .string ⟨#[109, 117, 115, 116, 32]⟩] 9 (0, 0)) := ((HOv.out.trans ho).block _ (Array.getElem?_eq_some_iff.1 HWD.out).1 (fun h => h)).trans HWD.out
                rw [show ((yd : Int) % 3).toNat = e by omega, cell_of_row _ _ _ _ _ _ hg]
                unfold Hd.word
                rw [← HE3.out]
                rcases (show e = 0 ∨ e = 1 ∨ e = 2 by omega) with r | r | r
                · subst r; rfl
                · subst r; rfl
                · subst r; rfl
              have HKp : Hid (∀ w' : World, Only (fun _ => False) V w' → (w'.cell? ⟨w.heap.size, 4, none⟩ = some (.slice (some ⟨b, off, none⟩) nR cR) ∧ w'.cell? ⟨b, off + q * 3, none⟩ = some (.int .u8 (yd : Int)) ∧ w'.cell? ⟨b, off + q * 3 + 1, none⟩ = some (.slice la ln lc) ∧ w'.cell? ⟨b, off + q * 3 + 2, none⟩ = some (.slice ra rn rc) ∧ w'.cell? ⟨W.heap.size, ((yd : Int) % 3).toNat, none⟩ = some (.string (bs (Hd.word yd))))) := hKp
              clear hKp c0 c1 c2 he
              have hE : e = 0 ∨ e = 1 ∨ e = 2 := by omega
              have t4 : (q : Int) < (nR : Int) := by omega
              have t5 : (q : Int) < 10 := by omega
              have htm : (yd : Int).tmod 3 = (yd : Int) % 3 := Int.tmod_eq_emod_of_nonneg (by omega)
              have t6 : (0 : Int) ≤ (yd : Int) % 3 := by omega
              have t7 : (yd : Int) % 3 < 3 := by omega
              have hwe : IntKind.u8.wrap ((yd : Int) % 3) = (yd : Int) % 3 := by simp only [IntKind.wrap]; first | omega | (simp; omega) | (unfold IntKind.bits; simp; omega)
              obtain ⟨mW, sW, lW⟩ := sz (Hd.word yd)
              obtain ⟨mL, sL, lL⟩ := sz (Hd.expr n L)
              obtain ⟨mR, sR, lR⟩ := sz (Hd.expr n R)
              have hW5 := (Hd.word_len yd).1
              have hL4 := Hd.expr_len n L hn6
              have hR4 := Hd.expr_len n R hn6
              have f1 : bs Z ++ bs (Hd.word yd) = bs (Hd.cat Z (Hd.word yd)) := bs_cat _ _
              obtain ⟨Z1, hZ1⟩ : ∃ Zz, Zz = Hd.cat Z (Hd.word yd) := ⟨_, rfl⟩
              rw [← hZ1] at f1
              have f2 : bs Z1 ++ bs (Hd.expr n L) = bs (Hd.cat Z1 (Hd.expr n L)) := bs_cat _ _
              obtain ⟨Z2, hZ2⟩ : ∃ Zz, Zz = Hd.cat Z1 (Hd.expr n L) := ⟨_, rfl⟩
              rw [← hZ2] at f2
              have f3 : bs Z2 ++ (⟨#[32, 47, 32]⟩ : ByteArray) = bs (Hd.cat Z2 [32, 47, 32]) := catR _ _
              obtain ⟨Z3, hZ3⟩ : ∃ Zz, Zz = Hd.cat Z2 [32, 47, 32] := ⟨_, rfl⟩
              rw [← hZ3] at f3
              have f4 : bs Z3 ++ bs (Hd.expr n R) = bs (Hd.cat Z3 (Hd.expr n R)) := bs_cat _ _
              obtain ⟨Z4, hZ4⟩ : ∃ Zz, Zz = Hd.cat Z3 (Hd.expr n R) := ⟨_, rfl⟩
              rw [← hZ4] at f4
              have f5 : bs Z4 ++ (⟨#[59, 10]⟩ : ByteArray) = bs (Hd.cat Z4 [59, 10]) := catR _ _
              obtain ⟨Z5, hZ5⟩ : ∃ Zz, Zz = Hd.cat Z4 [59, 10] := ⟨_, rfl⟩
              rw [← hZ5] at f5
              have HZ5 : Hid (Z5 = Hd.cat (Hd.cat (Hd.cat (Hd.cat (Hd.cat Z (Hd.word yd)) (Hd.expr n L)) [32, 47, 32]) (Hd.expr n R)) [59, 10]) := by show Z5 = _; rw [hZ5, hZ4, hZ3, hZ2, hZ1]
              obtain ⟨n1, r1, l1⟩ := sz Z1
              obtain ⟨n2, r2, l2⟩ := sz Z2
              obtain ⟨n3, r3, l3⟩ := sz Z3
              obtain ⟨n4, r4, l4⟩ := sz Z4
              have b1 : n1 = mZ + mW := by rw [l1, hZ1, Hd.cat_len, lW]; have := bs_size Z; omega
              have b2 : n2 = n1 + mL := by rw [l2, hZ2, Hd.cat_len, lL, l1]
              have b3 : n3 = n2 + 3 := by rw [l3, hZ3, Hd.cat_len, l2]; rfl
              have b4 : n4 = n3 + mR := by rw [l4, hZ4, Hd.cat_len, lR, l3]
              have g1 : n1 ≤ 20000 := by omega
              have g2 : n2 ≤ 20000 := by omega
              have g3 : n3 ≤ 20000 := by omega
              have g4 : n4 ≤ 20000 := by omega
              have gW : mW ≤ 5 := by omega
              have gL : mL ≤ 432 := by omega
              have gR : mR ≤ 432 := by omega
              clear b1 b2 b3 b4 l1 l2 l3 l4 lW lL lR hZ1 hZ2 hZ3 hZ4 hZ5 hW5 hL4 hR4
              have z3 : (⟨#[32, 47, 32]⟩ : ByteArray).size = 3 := rfl
              have z2 : (⟨#[59, 10]⟩ : ByteArray).size = 2 := rfl
              have p1 : (9223372036854775807 < mZ + mW) = False := eq_false (by omega)
              have p2 : (9223372036854775807 < n1 + mL) = False := eq_false (by omega)
              have p3 : (9223372036854775807 < n2 + 3) = False := eq_false (by omega)
              have p3' : (9223372036854775804 < n2) = False := eq_false (by omega)
              have p4 : (9223372036854775807 < n3 + mR) = False := eq_false (by omega)
              have p5 : (9223372036854775807 < n4 + 2) = False := eq_false (by omega)
              have p5' : (9223372036854775805 < n4) = False := eq_false (by omega)
              subst ha
              clear he3 hme hE
              go_wp2_with fail
              go_region_held3 (fun w' => w'.cell? ⟨w.heap.size, 4, none⟩ = some (.slice (some ⟨b, off, none⟩) nR cR) ∧ w'.cell? ⟨b, off + q * 3, none⟩ = some (.int .u8 (yd : Int)) ∧ w'.cell? ⟨b, off + q * 3 + 1, none⟩ = some (.slice la ln lc) ∧ w'.cell? ⟨b, off + q * 3 + 2, none⟩ = some (.slice ra rn rc) ∧ w'.cell? ⟨W.heap.size, ((yd : Int) % 3).toNat, none⟩ = some (.string (bs (Hd.word yd)))) ((first | exact HKp.out _ ((Only.refl (fun _ => False) V).drew) | exact HKp.out _ ho6 | exact HKp.out _ ho5)) ((first | (go_at_call 18; have hgd := ho5; refine (expr_hand2 n ra rn rc R _ hn1 hn6 (HRr.out.keep ho5) o6).mono ?_; clear hgd; rintro en w6 ⟨rfl, ho6'⟩; have ho6 : Only (fun _ => False) V w6 := ho5.trans ho6'; clear ho6') | (go_at_call 18; refine (expr_hand2 n la ln lc L _ hn1 hn6 (HL.out.keep ((Only.refl (fun _ => False) V).drew)) o3).mono ?_; rintro en w5 ⟨rfl, ho5'⟩; have ho5 : Only (fun _ => False) V w5 := ((Only.refl (fun _ => False) V).drew).trans ho5'; clear ho5')))
              go_wp2_with fail
              go_roundg (10 - (q + 1))
              case measure => omega
              case rel => exact ⟨q + 1, _, rfl, rfl, by omega, by omega, by rw [HZ5.out, HZ.out, Hd.ru, HY.out], by go_num, HOv.out.trans ho6⟩
            · have t4 : (q : Int) < (nR : Int) := by omega
              have t5 : ¬ (q : Int) < 10 := by omega
              have t6 : decide ((q : Int) < 10) = false := decide_eq_false t5
              have HTX : Hid (Z = Hd.text n jo af T rs) := by
                show Z = _
                have hqm : q = min rs.length 10 := by have := HRW.out.1; omega
                rw [HZ.out, HX.out, HMIN.out, hqm]
                unfold Hd.text
                rfl
              go_wp2_with fail
              go_ret
              exact ⟨(by show Ending.returned (Value.string (bs Z)) = _; rw [HTX.out]), HOw.out⟩
          · have t4 : ¬ (q : Int) < (nR : Int) := by omega
            have t6 : decide ((q : Int) < (nR : Int)) = false := decide_eq_false t4
            have HTX : Hid (Z = Hd.text n jo af T rs) := by
              show Z = _
              have hqm : q = min rs.length 10 := by have := HRW.out.1; omega
              rw [HZ.out, HX.out, HMIN.out, hqm]
              unfold Hd.text
              rfl
            go_wp2_with fail
            go_ret
            exact ⟨(by show Ending.returned (Value.string (bs Z)) = _; rw [HTX.out]), HOw.out⟩
    · have hmin : k = min T.length n := by have := HTW.out.1; omega
      have t2 : ¬ (k : Int) < (nT : Int) := by omega
      have t3 : decide ((k : Int) < (nT : Int)) = false := decide_eq_false t2
      have HMIN : Hid (k = min T.length n) := hmin
      clear hTW hmin e1 s1 e2 sN mNl
      go_wp2_with fail
      obtain ⟨W2, hW2⟩ : ∃ W2, W2 = W.alloc (.cells #[.string ⟨#[107, 101, 101, 112, 32]⟩, .string ⟨#[109, 97, 121, 32]⟩, .string ⟨#[109, 117, 115, 116, 32]⟩] 9) := ⟨_, rfl⟩
      have HW2 : Hid (W2 = W.alloc (.cells #[.string ⟨#[107, 101, 101, 112, 32]⟩, .string ⟨#[109, 97, 121, 32]⟩, .string ⟨#[109, 117, 115, 116, 32]⟩] 9)) := hW2
      have HOW : Hid (Only (fun _ => False) bx W2) := by rw [hW2]; exact HOr.out.alloc _
      have HWD : Hid (W2.heap[W.heap.size]? = some (.cells #[.string ⟨#[107, 101, 101, 112, 32]⟩, .string ⟨#[109, 97, 121, 32]⟩, .string ⟨#[109, 117, 115, 116, 32]⟩] 9 (0, 0))) := by rw [hW2]; exact heap_alloc_new W _
      have lX2 : X.length ≤ 129 := by have := bs_size X; omega
      clear hW2
      go_loopg [4, 7] 10 (fun g out i wr => ∃ (q : Nat) (V : World), V = wr ∧ g = 10 - q ∧ q ≤ 10 ∧ q ≤ nR ∧ out = .string (bs (Hd.ru n rs X q)) ∧ i = .int .i64 (q : Int) ∧ Only (fun _ => False) W2 V)
      case atStart => exact ⟨0, _, rfl, rfl, by omega, by omega, rfl, rfl, by rw [HW2.out]; exact Only.refl _ _⟩
      case round =>
        obtain ⟨q, V, hV, rfl, hq, hqR, rfl, rfl, hOv⟩ := hrel
        subst hV
        have HOv : Hid (Only (fun _ => False) W2 V) := hOv
        have hOb : Only (fun _ => False) bx V := HOW.out.trans hOv
        have HP4 : Hid (Pbx V w.heap.size c jo af aT nT cT aR nR cR) := HP0.out.keep hOb
        have HOw : Hid (Only (fun _ => False) w V) := ((Only.refl (fun _ => False) w).alloc _).trans (HBX.out ▸ hOb)
        have HRW : Hid (Rw V aR nR rs) := HR.out.keep HOw.out
        have d4 := HP4.out.c4
        obtain ⟨Z, hZ⟩ : ∃ Z, Z = Hd.ru n rs X q := ⟨_, rfl⟩
        have HZ : Hid (Z = Hd.ru n rs X q) := hZ
        have lZ : Z.length ≤ 129 + 874 * q := by rw [hZ]; have := (Hd.ru_len n rs X hn6 q).1; omega
        rw [← hZ]
        obtain ⟨mZ, sZ, lmZ⟩ := sz Z
        have hmZ : mZ ≤ 9000 := by omega
        clear hZ lZ lmZ hOb hOv
        by_cases hlt2 : q < nR
        · by_cases hlq : q < 10
          · obtain ⟨hl, b, off, h1, h2⟩ := HRW.out
            obtain ⟨ha, hb⟩ := h1 (by omega)
            obtain ⟨y, hy⟩ : ∃ y, rs[q]? = some y := ⟨rs[q]'(by omega), List.getElem?_eq_getElem _⟩
            have HY : Hid (rs[q]? = some y) := hy
            obtain ⟨o, c0, c1, c2⟩ := h2 q y hy
            clear hy h1 h2 hl
            obtain ⟨yd, la, ln, lc, L, ra, rn, rc, R⟩ := y
            obtain ⟨o1, o2, o3, o4, o5, o6, o7⟩ := o
            dsimp only at o1 o2 o3 o4 o5 o6 o7 c0 c1 c2
            have HL : Hid (Bw V la ln L) := o2
            have HRr : Hid (Bw V ra rn R) := o5
            clear o2 o5 o4 o7
            obtain ⟨e, he⟩ : ∃ e, e = yd % 3 := ⟨_, rfl⟩
            have hme : (yd : Int) % 3 = (e : Int) := by omega
            have he3 : e < 3 := by omega
            have HE3 : Hid (e = yd % 3) := he
            have hKp : ∀ w' : World, Only (fun _ => False) V w' → (w'.cell? ⟨w.heap.size, 4, none⟩ = some (.slice (some ⟨b, off, none⟩) nR cR) ∧ w'.cell? ⟨b, off + q * 3, none⟩ = some (.int .u8 (yd : Int)) ∧ w'.cell? ⟨b, off + q * 3 + 1, none⟩ = some (.slice la ln lc) ∧ w'.cell? ⟨b, off + q * 3 + 2, none⟩ = some (.slice ra rn rc) ∧ w'.cell? ⟨W.heap.size, ((yd : Int) % 3).toNat, none⟩ = some (.string (bs (Hd.word yd)))) := fun w' ho => by
              have hblk := ho.block b hb (fun h => h)
              refine ⟨by rw [← ha]; exact (HP4.out.keep ho).c4, (World.cell?_of_block (a := ⟨b, off + q * 3, none⟩) hblk).trans c0, (World.cell?_of_block (a := ⟨b, off + q * 3 + 1, none⟩) hblk).trans c1, (World.cell?_of_block (a := ⟨b, off + q * 3 + 2, none⟩) hblk).trans c2, ?_⟩
              have hg : w'.heap[W.heap.size]? = some (.cells #[.string ⟨#[107, 101, 101, 112, 32]⟩, .string ⟨#[109, 97, 121, 32]⟩, .string ⟨#[109, 117, 115, 116, 32]⟩] 9 (0, 0)) := ((HOv.out.trans ho).block _ (Array.getElem?_eq_some_iff.1 HWD.out).1 (fun h => h)).trans HWD.out
              rw [show ((yd : Int) % 3).toNat = e by omega, cell_of_row _ _ _ _ _ _ hg]
              unfold Hd.word
              rw [← HE3.out]
              rcases (show e = 0 ∨ e = 1 ∨ e = 2 by omega) with r | r | r
              · subst r; rfl
              · subst r; rfl
              · subst r; rfl
            have HKp : Hid (∀ w' : World, Only (fun _ => False) V w' → (w'.cell? ⟨w.heap.size, 4, none⟩ = some (.slice (some ⟨b, off, none⟩) nR cR) ∧ w'.cell? ⟨b, off + q * 3, none⟩ = some (.int .u8 (yd : Int)) ∧ w'.cell? ⟨b, off + q * 3 + 1, none⟩ = some (.slice la ln lc) ∧ w'.cell? ⟨b, off + q * 3 + 2, none⟩ = some (.slice ra rn rc) ∧ w'.cell? ⟨W.heap.size, ((yd : Int) % 3).toNat, none⟩ = some (.string (bs (Hd.word yd))))) := hKp
            clear hKp c0 c1 c2 he
            have hE : e = 0 ∨ e = 1 ∨ e = 2 := by omega
            have t4 : (q : Int) < (nR : Int) := by omega
            have t5 : (q : Int) < 10 := by omega
            have htm : (yd : Int).tmod 3 = (yd : Int) % 3 := Int.tmod_eq_emod_of_nonneg (by omega)
            have t6 : (0 : Int) ≤ (yd : Int) % 3 := by omega
            have t7 : (yd : Int) % 3 < 3 := by omega
            have hwe : IntKind.u8.wrap ((yd : Int) % 3) = (yd : Int) % 3 := by simp only [IntKind.wrap]; first | omega | (simp; omega) | (unfold IntKind.bits; simp; omega)
            obtain ⟨mW, sW, lW⟩ := sz (Hd.word yd)
            obtain ⟨mL, sL, lL⟩ := sz (Hd.expr n L)
            obtain ⟨mR, sR, lR⟩ := sz (Hd.expr n R)
            have hW5 := (Hd.word_len yd).1
            have hL4 := Hd.expr_len n L hn6
            have hR4 := Hd.expr_len n R hn6
            have f1 : bs Z ++ bs (Hd.word yd) = bs (Hd.cat Z (Hd.word yd)) := bs_cat _ _
            obtain ⟨Z1, hZ1⟩ : ∃ Zz, Zz = Hd.cat Z (Hd.word yd) := ⟨_, rfl⟩
            rw [← hZ1] at f1
            have f2 : bs Z1 ++ bs (Hd.expr n L) = bs (Hd.cat Z1 (Hd.expr n L)) := bs_cat _ _
            obtain ⟨Z2, hZ2⟩ : ∃ Zz, Zz = Hd.cat Z1 (Hd.expr n L) := ⟨_, rfl⟩
            rw [← hZ2] at f2
            have f3 : bs Z2 ++ (⟨#[32, 47, 32]⟩ : ByteArray) = bs (Hd.cat Z2 [32, 47, 32]) := catR _ _
            obtain ⟨Z3, hZ3⟩ : ∃ Zz, Zz = Hd.cat Z2 [32, 47, 32] := ⟨_, rfl⟩
            rw [← hZ3] at f3
            have f4 : bs Z3 ++ bs (Hd.expr n R) = bs (Hd.cat Z3 (Hd.expr n R)) := bs_cat _ _
            obtain ⟨Z4, hZ4⟩ : ∃ Zz, Zz = Hd.cat Z3 (Hd.expr n R) := ⟨_, rfl⟩
            rw [← hZ4] at f4
            have f5 : bs Z4 ++ (⟨#[59, 10]⟩ : ByteArray) = bs (Hd.cat Z4 [59, 10]) := catR _ _
            obtain ⟨Z5, hZ5⟩ : ∃ Zz, Zz = Hd.cat Z4 [59, 10] := ⟨_, rfl⟩
            rw [← hZ5] at f5
            have HZ5 : Hid (Z5 = Hd.cat (Hd.cat (Hd.cat (Hd.cat (Hd.cat Z (Hd.word yd)) (Hd.expr n L)) [32, 47, 32]) (Hd.expr n R)) [59, 10]) := by show Z5 = _; rw [hZ5, hZ4, hZ3, hZ2, hZ1]
            obtain ⟨n1, r1, l1⟩ := sz Z1
            obtain ⟨n2, r2, l2⟩ := sz Z2
            obtain ⟨n3, r3, l3⟩ := sz Z3
            obtain ⟨n4, r4, l4⟩ := sz Z4
            have b1 : n1 = mZ + mW := by rw [l1, hZ1, Hd.cat_len, lW]; have := bs_size Z; omega
            have b2 : n2 = n1 + mL := by rw [l2, hZ2, Hd.cat_len, lL, l1]
            have b3 : n3 = n2 + 3 := by rw [l3, hZ3, Hd.cat_len, l2]; rfl
            have b4 : n4 = n3 + mR := by rw [l4, hZ4, Hd.cat_len, lR, l3]
            have g1 : n1 ≤ 20000 := by omega
            have g2 : n2 ≤ 20000 := by omega
            have g3 : n3 ≤ 20000 := by omega
            have g4 : n4 ≤ 20000 := by omega
            have gW : mW ≤ 5 := by omega
            have gL : mL ≤ 432 := by omega
            have gR : mR ≤ 432 := by omega
            clear b1 b2 b3 b4 l1 l2 l3 l4 lW lL lR hZ1 hZ2 hZ3 hZ4 hZ5 hW5 hL4 hR4
            have z3 : (⟨#[32, 47, 32]⟩ : ByteArray).size = 3 := rfl
            have z2 : (⟨#[59, 10]⟩ : ByteArray).size = 2 := rfl
            have p1 : (9223372036854775807 < mZ + mW) = False := eq_false (by omega)
            have p2 : (9223372036854775807 < n1 + mL) = False := eq_false (by omega)
            have p3 : (9223372036854775807 < n2 + 3) = False := eq_false (by omega)
            have p3' : (9223372036854775804 < n2) = False := eq_false (by omega)
            have p4 : (9223372036854775807 < n3 + mR) = False := eq_false (by omega)
            have p5 : (9223372036854775807 < n4 + 2) = False := eq_false (by omega)
            have p5' : (9223372036854775805 < n4) = False := eq_false (by omega)
            subst ha
            clear he3 hme hE
            go_wp2_with fail
            go_region_held3 (fun w' => w'.cell? ⟨w.heap.size, 4, none⟩ = some (.slice (some ⟨b, off, none⟩) nR cR) ∧ w'.cell? ⟨b, off + q * 3, none⟩ = some (.int .u8 (yd : Int)) ∧ w'.cell? ⟨b, off + q * 3 + 1, none⟩ = some (.slice la ln lc) ∧ w'.cell? ⟨b, off + q * 3 + 2, none⟩ = some (.slice ra rn rc) ∧ w'.cell? ⟨W.heap.size, ((yd : Int) % 3).toNat, none⟩ = some (.string (bs (Hd.word yd)))) ((first | exact HKp.out _ ((Only.refl (fun _ => False) V).drew) | exact HKp.out _ ho6 | exact HKp.out _ ho5)) ((first | (go_at_call 18; have hgd := ho5; refine (expr_hand2 n ra rn rc R _ hn1 hn6 (HRr.out.keep ho5) o6).mono ?_; clear hgd; rintro en w6 ⟨rfl, ho6'⟩; have ho6 : Only (fun _ => False) V w6 := ho5.trans ho6'; clear ho6') | (go_at_call 18; refine (expr_hand2 n la ln lc L _ hn1 hn6 (HL.out.keep ((Only.refl (fun _ => False) V).drew)) o3).mono ?_; rintro en w5 ⟨rfl, ho5'⟩; have ho5 : Only (fun _ => False) V w5 := ((Only.refl (fun _ => False) V).drew).trans ho5'; clear ho5')))
            go_wp2_with fail
            go_roundg (10 - (q + 1))
            case measure => omega
            case rel => exact ⟨q + 1, _, rfl, rfl, by omega, by omega, by rw [HZ5.out, HZ.out, Hd.ru, HY.out], by go_num, HOv.out.trans ho6⟩
          · have t4 : (q : Int) < (nR : Int) := by omega
            have t5 : ¬ (q : Int) < 10 := by omega
            have t6 : decide ((q : Int) < 10) = false := decide_eq_false t5
            have HTX : Hid (Z = Hd.text n jo af T rs) := by
              show Z = _
              have hqm : q = min rs.length 10 := by have := HRW.out.1; omega
              rw [HZ.out, HX.out, HMIN.out, hqm]
              unfold Hd.text
              rfl
            go_wp2_with fail
            go_ret
            exact ⟨(by show Ending.returned (Value.string (bs Z)) = _; rw [HTX.out]), HOw.out⟩
        · have t4 : ¬ (q : Int) < (nR : Int) := by omega
          have t6 : decide ((q : Int) < (nR : Int)) = false := decide_eq_false t4
          have HTX : Hid (Z = Hd.text n jo af T rs) := by
            show Z = _
            have hqm : q = min rs.length 10 := by have := HRW.out.1; omega
            rw [HZ.out, HX.out, HMIN.out, hqm]
            unfold Hd.text
            rfl
          go_wp2_with fail
          go_ret
          exact ⟨(by show Ending.returned (Value.string (bs Z)) = _; rw [HTX.out]), HOw.out⟩
end Go.Proofs.Ytahoepmnekconaa
namespace Go.Proofs.Ytahoepmnekconaa
open Go.RowKit Go.Maps
set_option linter.unusedVariables false
set_option linter.unusedSimpArgs false
theorem laidOut : laidOutB Try.prog = true := by kernel_rfl
theorem Pbx.c0 {w : World} {g c jo af : Nat} {aT : Option Addr} {nT cT : Nat} {aR : Option Addr} {nR cR : Nat} (h : Pbx w g c jo af aT nT cT aR nR cR) : w.cell? ⟨g, 0, none⟩ = some (.int .u8 (c : Int)) := (cell_of_row _ _ _ _ _ _ h).trans rfl
theorem text_hand (c jo af : Nat) (aT : Option Addr) (nT cT : Nat) (T : List Nat) (aR : Option Addr) (nR cR : Nat) (rs : List Pr) (w : World) (hc : c ≤ 255) (hjo : jo ≤ 255) (haf : af ≤ 255) (hT : Bw w aT nT T) (hR : Rw w aR nR rs) :
    Calls Try.prog 11 #[planV c jo af aT nT cT aR nR cR] w fun e w' => e = .returned (.string (bs (Hd.text (1 + c % 6) jo af T rs))) ∧ Only (fun _ => False) w w' := by
  by_cases h : jo = 0
  · subst h
    exact text_hand0 c af aT nT cT T aR nR cR rs w hc haf hT hR
  · exact text_hand1 c jo af aT nT cT T aR nR cR rs w hc hjo h haf hT hR
/-- a text of a plan, of which no more is told than its size. -/
theorem text_some (c jo af : Nat) (aT : Option Addr) (nT cT : Nat) (T : List Nat) (aR : Option Addr) (nR cR : Nat) (rs : List Pr) (w : World) (hc : c ≤ 255) (hjo : jo ≤ 255) (haf : af ≤ 255) (hT : Bw w aT nT T) (hR : Rw w aR nR rs) :
    Calls Try.prog 11 #[planV c jo af aT nT cT aR nR cR] w fun e w' => ∃ S : ByteArray, e = .returned (.string S) ∧ 7 ≤ S.size ∧ S.size ≤ 9000 ∧ Only (fun _ => False) w w' := by
  refine (text_hand c jo af aT nT cT T aR nR cR rs w hc hjo haf hT hR).mono ?_
  rintro e w' ⟨rfl, ho⟩
  have := Hd.text_len (1 + c % 6) jo af T rs (by omega)
  exact ⟨_, rfl, by rw [bs_size]; exact this.2, by rw [bs_size]; exact this.1, ho⟩
end Go.Proofs.Ytahoepmnekconaa
