/-
  The reference's maker: an expression's node.
-/
import Derived.Test.YtfbcijnacbfjpaaRkx
import Derived.Test.YtfbcijnacbfjpaaMchx
import Derived.Deep.CutRange
import Derived.Deep.AppendLies
import Derived.Deep.RegionLaw
namespace Go.Proofs.Ytfbcijnacbfjpaa
open Go.RowKit Go.Maps
set_option linter.unusedVariables false
set_option linter.unusedSimpArgs false
open Rl (Ex)
/-- a node in a block. -/
def Nod (W : World) (ob : Nat) (b : Bool) (fb lb n : Nat) : Prop := W.heap[ob]? = some (.cells #[.bool b, .slice (some ⟨fb, 0, none⟩) n n, .slice (some ⟨lb, 0, none⟩) n n] 89 (0, 0))
def nodV (b : Bool) (fb lb n : Nat) : Value := .agg #[.bool b, .slice (some ⟨fb, 0, none⟩) n n, .slice (some ⟨lb, 0, none⟩) n n]
/-- how 'of' ends. -/
def ofP (w : World) (g B n : Nat) (vN : Value) (q0 : Nat) (rb : Nat → Nat) (R : Option (Au.Nd × Au.Pl)) (e : Ending) (w' : World) : Prop :=
  match R with
  | none => False
  | some (x, p1) => ∃ fb lb vS, e = .returned (nodV x.none fb lb n) ∧ w.heap.size ≤ fb ∧ w.heap.size ≤ lb ∧ Bk w' fb n x.first ∧ Bk w' lb n x.last ∧ Mkr w' g B n p1 vS vN q0 rb ∧ Frz B n rb w w'
/-- behind the first lines of 'of'. -/
structure Ofs (w W : World) (o s k : Value) (ob : Nat) (b : Bool) (fb lb n x y : Nat) : Prop where
  nd : Nod W ob b fb lb n
  f : Bk W fb n x
  l : Bk W lb n y
  bx : W.heap[w.heap.size]? = some (.cells #[o, s, k] 49 (0, 0))
  rs : W.heap[w.heap.size + 1]? = some (.cells #[.bool false, .slice none 0 0, .slice none 0 0] 89 (0, 0))
  hf : w.heap.size ≤ fb
  hl : w.heap.size ≤ lb
  ho : w.heap.size + 1 < ob
theorem five (w : World) (A0 A1 A2 A3 A4 : Obj) : (((((w.alloc A0).alloc A1).alloc A2).alloc A3).alloc A4).drew.heap[w.heap.size]? = some A0 ∧ (((((w.alloc A0).alloc A1).alloc A2).alloc A3).alloc A4).drew.heap[w.heap.size + 1]? = some A1 ∧ (((((w.alloc A0).alloc A1).alloc A2).alloc A3).alloc A4).drew.heap[w.heap.size + 1 + 1]? = some A2 ∧ (((((w.alloc A0).alloc A1).alloc A2).alloc A3).alloc A4).drew.heap[w.heap.size + 1 + 1 + 1]? = some A3 ∧ (((((w.alloc A0).alloc A1).alloc A2).alloc A3).alloc A4).drew.heap[w.heap.size + 1 + 1 + 1 + 1]? = some A4 := by
  have up : ∀ (v : World) (A B : Obj) (q : Nat), v.heap[q]? = some B → (v.alloc A).heap[q]? = some B := fun v A B q h => (Below.heap_alloc _ _ _ (Array.getElem?_eq_some_iff.1 h).1).trans h
  have nw : ∀ (v : World) (A : Obj) (q : Nat), q = v.heap.size → (v.alloc A).heap[q]? = some A := fun v A q h => by rw [h]; exact heap_alloc_new _ _
  refine ⟨?_, ?_, ?_, ?_, ?_⟩
  · exact up _ _ _ _ (up _ _ _ _ (up _ _ _ _ (up _ _ _ _ (nw _ _ _ rfl))))
  · exact up _ _ _ _ (up _ _ _ _ (up _ _ _ _ (nw _ _ _ (by simp))))
  · exact up _ _ _ _ (up _ _ _ _ (nw _ _ _ (by simp)))
  · exact up _ _ _ _ (nw _ _ _ (by simp))
  · exact nw _ _ _ (by simp)
theorem sz89 : (Try.prog.info? 89).map (·.size) = some 3 := by kernel_rfl
/-- blocks of nodes turn: the maker's memory stands. -/
theorem Mkr.keepN {W W' : World} {g B n : Nat} {p : Au.Pl} {vS vN : Value} {q0 : Nat} {rb : Nat → Nat} (h : Mkr W g B n p vS vN q0 rb) {P : Nat → Prop} (ho : Only P W W') (hP : ∀ q, P q → q < W.heap.size → ∃ cs z, W.heap[q]? = some (.cells cs 89 z)) : Mkr W' g B n p vS vN q0 rb := by
  obtain ⟨h1, h2, h3, h4, h5, h6, h7, h8, h9⟩ := h
  have no : ∀ q cs t z, W.heap[q]? = some (.cells cs t z) → t ≠ 89 → ¬ P q := fun q cs t z hq ht hp => by
    obtain ⟨cs', z', h'⟩ := hP q hp (Array.getElem?_eq_some_iff.1 hq).1
    exact tag_ne hq h' ht rfl
  refine ⟨(ho.block g (Array.getElem?_eq_some_iff.1 h1).1 (no _ _ _ _ h1 (by decide))).trans h1, own_keepT h2 ho (fun q hq hp => ?_), h3, h4, fun i hi => ?_, fun h0 => ?_, fun i hi => (h7 i hi).only ho (no _ _ _ _ (h7 i hi) (by decide)), h8, h9⟩
  · obtain ⟨_, ⟨hv, _⟩ | ⟨g', cap, cur, hv, _, hh, _⟩⟩ := h2
    · rw [hv] at hq; cases hq
    · rw [hv] at hq
      injection hq with hq
      simp only at hq
      rw [hq] at hh
      exact no _ _ _ _ hh (by decide) hp
  · obtain ⟨cs, z, h⟩ := h6 (by omega)
    have hl := World.block_lt_of_cell? W _ (h5 i hi)
    exact (World.cell?_of_block (a := ⟨q0, i, none⟩) (ho.block q0 hl (no _ _ _ _ h (by decide)))).trans (h5 i hi)
  · obtain ⟨cs, z, h⟩ := h6 h0
    exact ⟨cs, z, (ho.block q0 (Array.getElem?_eq_some_iff.1 h).1 (no _ _ _ _ h (by decide))).trans h⟩
theorem Frz.new {B n : Nat} {rb : Nat → Nat} {w W W' : World} (h : Frz B n rb w W) {P : Nat → Prop} (ho : Only P W W') (hP : ∀ q, P q → w.heap.size ≤ q) (hB : B ≤ w.heap.size) : Frz B n rb w W' :=
  ⟨h.1.trans (ho.mono (fun q hq => Nat.le_trans hB (hP q hq))), fun q cs t z hq h1 h2 h3 => by
    have hl := (Array.getElem?_eq_some_iff.1 hq).1
    exact (ho.block q (Nat.lt_of_lt_of_le hl h.1.size) (fun hp => by have := hP q hp; omega)).trans (h.2 q cs t z hq h1 h2 h3)⟩
theorem Ofs.frz {w W W' : World} {o s k : Value} {ob : Nat} {b : Bool} {fb lb n x y B m : Nat} {rb : Nat → Nat} (h : Ofs w W o s k ob b fb lb n x y) (hz : Frz B m rb W W') (hr : ∀ i, i < m → rb i < w.heap.size) : Ofs w W' o s k ob b fb lb n x y := by
  obtain ⟨h1, h2, h3, h4, h5, h6, h7, h8⟩ := h
  exact ⟨hz.2 _ _ _ _ h1 (by decide) (by decide) (fun i hi => by have := hr i hi; omega), hz.bk h2 (fun i hi => by have := hr i hi; omega), hz.bk h3 (fun i hi => by have := hr i hi; omega), hz.2 _ _ _ _ h4 (by decide) (by decide) (fun i hi => by have := hr i hi; omega), hz.2 _ _ _ _ h5 (by decide) (by decide) (fun i hi => by have := hr i hi; omega), h6, h7, h8⟩
theorem Ofs.setB {w W : World} {o s k : Value} {ob : Nat} {b : Bool} {fb lb n x y : Nat} (h : Ofs w W o s k ob b fb lb n x y) (b' : Bool) : Ofs w (W.setCell ⟨ob, 0, none⟩ (.bool b')) o s k ob b' fb lb n x y := by
  obtain ⟨h1, h2, h3, h4, h5, h6, h7, h8⟩ := h
  have ho : Only (· = ob) W (W.setCell ⟨ob, 0, none⟩ (.bool b')) := (Only.refl (· = ob) _).setCell (p := ⟨ob, 0, none⟩) rfl _
  exact ⟨heap_setCell_at h1 _, h2.only ho (tag_ne h2 h1 (by decide)), h3.only ho (tag_ne h3 h1 (by decide)), (ho.block _ (Array.getElem?_eq_some_iff.1 h4).1 (by omega)).trans h4, (ho.block _ (Array.getElem?_eq_some_iff.1 h5).1 (by omega)).trans h5, h6, h7, h8⟩
theorem Ofs.setF {w W : World} {o s k : Value} {ob : Nat} {b : Bool} {fb lb n x y : Nat} (h : Ofs w W o s k ob b fb lb n x y) {f' x' : Nat} (hf : Bk W f' n x') (hl : w.heap.size ≤ f') : Ofs w (W.setCell ⟨ob, 1, none⟩ (.slice (some ⟨f', 0, none⟩) n n)) o s k ob b f' lb n x' y := by
  obtain ⟨h1, h2, h3, h4, h5, h6, h7, h8⟩ := h
  have ho : Only (· = ob) W (W.setCell ⟨ob, 1, none⟩ (.slice (some ⟨f', 0, none⟩) n n)) := (Only.refl (· = ob) _).setCell (p := ⟨ob, 1, none⟩) rfl _
  exact ⟨heap_setCell_at h1 _, hf.only ho (tag_ne hf h1 (by decide)), h3.only ho (tag_ne h3 h1 (by decide)), (ho.block _ (Array.getElem?_eq_some_iff.1 h4).1 (by omega)).trans h4, (ho.block _ (Array.getElem?_eq_some_iff.1 h5).1 (by omega)).trans h5, hl, h7, h8⟩
theorem Ofs.setL {w W : World} {o s k : Value} {ob : Nat} {b : Bool} {fb lb n x y : Nat} (h : Ofs w W o s k ob b fb lb n x y) {f' x' : Nat} (hf : Bk W f' n x') (hl : w.heap.size ≤ f') : Ofs w (W.setCell ⟨ob, 2, none⟩ (.slice (some ⟨f', 0, none⟩) n n)) o s k ob b fb f' n x x' := by
  obtain ⟨h1, h2, h3, h4, h5, h6, h7, h8⟩ := h
  have ho : Only (· = ob) W (W.setCell ⟨ob, 2, none⟩ (.slice (some ⟨f', 0, none⟩) n n)) := (Only.refl (· = ob) _).setCell (p := ⟨ob, 2, none⟩) rfl _
  exact ⟨heap_setCell_at h1 _, h2.only ho (tag_ne h2 h1 (by decide)), hf.only ho (tag_ne hf h1 (by decide)), (ho.block _ (Array.getElem?_eq_some_iff.1 h4).1 (by omega)).trans h4, (ho.block _ (Array.getElem?_eq_some_iff.1 h5).1 (by omega)).trans h5, h6, hl, h8⟩
theorem Ofs.keep {w W W' : World} {o s k : Value} {ob : Nat} {b : Bool} {fb lb n x y : Nat} (h : Ofs w W o s k ob b fb lb n x y) (ho : Only (fun _ => False) W W') : Ofs w W' o s k ob b fb lb n x y := h.frz (B := 0) (m := 0) (rb := fun _ => 0) (Frz.of0 ho) (fun i hi => absurd hi (Nat.not_lt_zero i))
/-- a cell of the node is turned. -/
theorem Ofs.cellN {w W : World} {o s k : Value} {ob : Nat} {b : Bool} {fb lb n x y : Nat} (h : Ofs w W o s k ob b fb lb n x y) {g B m : Nat} {p : Au.Pl} {vS vN : Value} {q0 : Nat} {rb : Nat → Nat} (hM : Mkr W g B m p vS vN q0 rb) (hZ : Frz B m rb w W) (hB : B ≤ w.heap.size) (i : Nat) (u : Value) : Mkr (W.setCell ⟨ob, i, none⟩ u) g B m p vS vN q0 rb ∧ Frz B m rb w (W.setCell ⟨ob, i, none⟩ u) := by
  have ho : Only (· = ob) W (W.setCell ⟨ob, i, none⟩ u) := (Only.refl (· = ob) _).setCell (p := ⟨ob, i, none⟩) rfl _
  exact ⟨hM.keepN ho (fun q hq _ => by subst hq; exact ⟨_, _, h.nd⟩), hZ.new ho (fun q hq => by have := h.ho; omega) hB⟩
/-- the world behind the last lines. -/
def fin (w W : World) (b : Bool) (fb lb n : Nat) : World := ((W.setCell ⟨w.heap.size + 1, 0, none⟩ (.bool b)).setCell ⟨w.heap.size + 1, 1, none⟩ (.slice (some ⟨fb, 0, none⟩) n n)).setCell ⟨w.heap.size + 1, 2, none⟩ (.slice (some ⟨lb, 0, none⟩) n n)
theorem Ofs.finR {w W : World} {o s k : Value} {ob : Nat} {b : Bool} {fb lb n x y : Nat} (h : Ofs w W o s k ob b fb lb n x y) : (fin w W b fb lb n).heap[w.heap.size + 1]? = some (.cells #[.bool b, .slice (some ⟨fb, 0, none⟩) n n, .slice (some ⟨lb, 0, none⟩) n n] 89 (0, 0)) ∧ Only (· = w.heap.size + 1) W (fin w W b fb lb n) := by
  refine ⟨heap_setCell_at (heap_setCell_at (heap_setCell_at h.rs _) _) _, ?_⟩
  unfold fin
  exact Only.setCell (S := (· = w.heap.size + 1)) (Only.setCell (S := (· = w.heap.size + 1)) (Only.setCell (S := (· = w.heap.size + 1)) (Only.refl _ _) (p := ⟨w.heap.size + 1, 0, none⟩) rfl _) (p := ⟨w.heap.size + 1, 1, none⟩) rfl _) (p := ⟨w.heap.size + 1, 2, none⟩) rfl _
theorem Ofs.fin {w W : World} {o s k : Value} {ob : Nat} {nd : Au.Nd} {fb lb n : Nat} (h : Ofs w W o s k ob nd.none fb lb n nd.first nd.last) {g B : Nat} {p : Au.Pl} {vS vN : Value} {q0 : Nat} {rb : Nat → Nat} (hM : Mkr W g B n p vS vN q0 rb) (hZ : Frz B n rb w W) (hB : B ≤ w.heap.size) : ofP w g B n vN q0 rb (some (nd, p)) (.returned (nodV nd.none fb lb n)) (fin w W nd.none fb lb n) := by
  obtain ⟨r1, r2⟩ := h.finR
  exact ⟨fb, lb, vS, rfl, h.hf, h.hl, h.f.only r2 (tag_ne h.f h.rs (by decide)), h.l.only r2 (tag_ne h.l h.rs (by decide)), hM.keepN r2 (fun q hq _ => by subst hq; exact ⟨_, _, h.rs⟩), hZ.new r2 (fun q hq => by omega) hB⟩
set_option maxRecDepth 100000 in
set_option maxHeartbeats 4000000 in
theorem of_other (g B n : Nat) (p : Au.Pl) (vS vN : Value) (q0 : Nat) (rb : Nat → Nat) (op set : Int) (a : Option Addr) (m c : Nat) (w : World) (hM : Mkr w g B n p vS vN q0 rb) (hB : B ≤ w.heap.size) (hn : n ≤ 200) (h : op < 1 ∨ 6 < op) :
    Calls Try.prog 28 #[.pointer (some ⟨g, 0, none⟩), .agg #[.int .u8 op, .int .u32 set, .slice a m c], .int .i64 (n : Int)] w (ofP w g B n vN q0 rb (some (⟨true, 0, 0⟩, p))) := by
  have q1 : (op == 1) = false := by simp; omega
  have q2 : (op == 2) = false := by simp; omega
  have q3 : (op == 3) = false := by simp; omega
  have q4 : (op == 4) = false := by simp; omega
  have q5 : (op == 5) = false := by simp; omega
  have q6 : (op == 6) = false := by simp; omega
  have HM : Hid (Mkr w g B n p vS vN q0 rb) := hM
  clear h hM
  have hmk := fun (w : World) => run_make_row' (P := Try.prog) 86 4 (.bool false) 1 Try.underlying86 info4 rfl .i64 .i64 n (by omega) (by omega) w
  go_enter Try.func28, Try.ntmps28
  go_wp2_with fail
  go_cut [7] from 13 to 17 (fun v wq => ∃ (ob fb lb : Nat) (W : World), W = wq ∧ v = .pointer (some ⟨ob, 0, none⟩) ∧ Ofs w W (.int .u8 op) (.int .u32 set) (.slice a m c) ob false fb lb n 0 0 ∧ fb ≠ lb ∧ Only (fun _ => False) w W)
  case first =>
    go_region_with fail
    all_goals
      go_wp2_with fail
      go_meet
      case rel =>
        rw [bA_made]
        first
          | exact ⟨w.heap.size + 1 + 1 + 1 + 1, w.heap.size + 1 + 1, w.heap.size + 1 + 1 + 1, _, rfl, rfl, ⟨(five w _ _ _ _ _).2.2.2.2, (five w _ _ _ _ _).2.2.1, (five w _ _ _ _ _).2.2.2.1, (five w _ _ _ _ _).1, (five w _ _ _ _ _).2.1, by omega, by omega, by omega⟩, by omega, ((((((Only.refl _ _).alloc _).alloc _).alloc _).alloc _).alloc _).drew⟩
          | exact ⟨w.heap.size + 1 + 1 + 1, w.heap.size + 1 + 1, w.heap.size + 1 + 1 + 1 + 1, _, rfl, rfl, ⟨(five w _ _ _ _ _).2.2.2.1, (five w _ _ _ _ _).2.2.1, (five w _ _ _ _ _).2.2.2.2, (five w _ _ _ _ _).1, (five w _ _ _ _ _).2.1, by omega, by omega, by omega⟩, by omega, ((((((Only.refl _ _).alloc _).alloc _).alloc _).alloc _).alloc _).drew⟩
          | exact ⟨w.heap.size + 1 + 1 + 1 + 1, w.heap.size + 1 + 1 + 1, w.heap.size + 1 + 1, _, rfl, rfl, ⟨(five w _ _ _ _ _).2.2.2.2, (five w _ _ _ _ _).2.2.2.1, (five w _ _ _ _ _).2.2.1, (five w _ _ _ _ _).1, (five w _ _ _ _ _).2.1, by omega, by omega, by omega⟩, by omega, ((((((Only.refl _ _).alloc _).alloc _).alloc _).alloc _).alloc _).drew⟩
          | exact ⟨w.heap.size + 1 + 1 + 1, w.heap.size + 1 + 1 + 1 + 1, w.heap.size + 1 + 1, _, rfl, rfl, ⟨(five w _ _ _ _ _).2.2.2.1, (five w _ _ _ _ _).2.2.2.2, (five w _ _ _ _ _).2.2.1, (five w _ _ _ _ _).1, (five w _ _ _ _ _).2.1, by omega, by omega, by omega⟩, by omega, ((((((Only.refl _ _).alloc _).alloc _).alloc _).alloc _).alloc _).drew⟩
          | exact ⟨w.heap.size + 1 + 1, w.heap.size + 1 + 1 + 1, w.heap.size + 1 + 1 + 1 + 1, _, rfl, rfl, ⟨(five w _ _ _ _ _).2.2.1, (five w _ _ _ _ _).2.2.2.1, (five w _ _ _ _ _).2.2.2.2, (five w _ _ _ _ _).1, (five w _ _ _ _ _).2.1, by omega, by omega, by omega⟩, by omega, ((((((Only.refl _ _).alloc _).alloc _).alloc _).alloc _).alloc _).drew⟩
          | exact ⟨w.heap.size + 1 + 1, w.heap.size + 1 + 1 + 1 + 1, w.heap.size + 1 + 1 + 1, _, rfl, rfl, ⟨(five w _ _ _ _ _).2.2.1, (five w _ _ _ _ _).2.2.2.2, (five w _ _ _ _ _).2.2.2.1, (five w _ _ _ _ _).1, (five w _ _ _ _ _).2.1, by omega, by omega, by omega⟩, by omega, ((((((Only.refl _ _).alloc _).alloc _).alloc _).alloc _).alloc _).drew⟩
  case rest =>
    obtain ⟨ob, fb, lb, W, hW, rfl, hS, hNE, hO⟩ := hcut
    subst hW
    have HNE : Hid (fb ≠ lb) := hNE
    clear hNE
    have HS : Hid (Ofs w W (.int .u8 op) (.int .u32 set) (.slice a m c) ob false fb lb n 0 0) := hS
    have HO : Hid (Only (fun _ => False) w W) := hO
    have r0 : W.cell? ⟨w.heap.size + 1, 0, none⟩ = some (.bool false) := cell_blk hS.rs
    have r1 : W.cell? ⟨w.heap.size + 1, 1, none⟩ = some (.slice none 0 0) := cell_blk hS.rs
    have r2 : W.cell? ⟨w.heap.size + 1, 2, none⟩ = some (.slice none 0 0) := cell_blk hS.rs
    have rf := fz_blk hS.rs
    have c0 : W.cell? ⟨ob, 0, none⟩ = some (.bool false) := cell_blk hS.nd
    have c1 : W.cell? ⟨ob, 1, none⟩ = some (.slice (some ⟨fb, 0, none⟩) n n) := cell_blk hS.nd
    have c2 : W.cell? ⟨ob, 2, none⟩ = some (.slice (some ⟨lb, 0, none⟩) n n) := cell_blk hS.nd
    have cf := fz_blk hS.nd
    have b0 : W.cell? ⟨w.heap.size, 0, none⟩ = some (.int .u8 op) := cell_blk hS.bx
    have b1 : W.cell? ⟨w.heap.size, 1, none⟩ = some (.int .u32 set) := cell_blk hS.bx
    have b2 : W.cell? ⟨w.heap.size, 2, none⟩ = some (.slice a m c) := cell_blk hS.bx
    have hob : ob < W.heap.size := (Array.getElem?_eq_some_iff.1 hS.nd).1
    have hobn := hS.ho
    have hbl : w.heap.size < W.heap.size := by omega
    have hrl : w.heap.size + 1 < W.heap.size := by omega
    have hne : ¬ w.heap.size + 1 = ob := by omega
    have hne2 : ¬ w.heap.size = ob := by omega
    have hne3 : ¬ ob = w.heap.size + 1 := by omega
    have hne4 : ¬ ob = w.heap.size := by omega
    clear hS hO
    have HX : Hid (Ofs w (W.setCell ⟨ob, 0, none⟩ (.bool true)) (.int .u8 op) (.int .u32 set) (.slice a m c) ob true fb lb n 0 0) := HS.out.setB true
    have HY : Hid (Mkr (W.setCell ⟨ob, 0, none⟩ (.bool true)) g B n p vS vN q0 rb ∧ Frz B n rb w (W.setCell ⟨ob, 0, none⟩ (.bool true))) := HS.out.cellN (HM.out.keep HO.out) (Frz.of0 HO.out) hB 0 _
    go_wp2_with fail
    refine bodyPost_ret (v := nodV true fb lb n) (results_cell_row rfl _ _ (w.heap.size + 1) 89 #[.bool true, .slice (some ⟨fb, 0, none⟩) n n, .slice (some ⟨lb, 0, none⟩) n n] (0, 0) _ rfl (Ofs.finR HX.out).1 Try.underlying89 rfl sz89) rfl ?_
    exact Ofs.fin (nd := ⟨true, 0, 0⟩) HX.out HY.out.1 HY.out.2 hB
end Go.Proofs.Ytfbcijnacbfjpaa
namespace Go.Proofs.Ytfbcijnacbfjpaa
open Go.RowKit Go.Maps
set_option linter.unusedVariables false
set_option linter.unusedSimpArgs false
open Rl (Ex)
theorem info47' : (Try.prog.info? 47).map (fun i => (i.zero, i.size, i.bytes)) = some (some (.int .u32 0), 1, 4) := by kernel_rfl
theorem Mkr.push {W W2 : World} {g B n : Nat} {p : Au.Pl} {vS vN : Value} {q0 : Nat} {rb : Nat → Nat} (h : Mkr W g B n p vS vN q0 rb) {v' : Value} {set : Int} (hown : W2.ownsRow B 47 1 v' (p.sets.length + 1) (u32s p.sets ++ [.int .u32 set])) (hg : Only (fun q => vS.ownBlock = some q) W W2) :
    Mkr (W2.setCell ⟨g, 0, none⟩ v') g B n { p with sets := p.sets ++ [set] } v' vN q0 rb ∧ Frz B n rb W (W2.setCell ⟨g, 0, none⟩ v') ∧ W2.heap[g]? = some (.cells #[vS, vN] 85 (0, 0)) := by
  obtain ⟨h1, h2, h3, h4, h5, h6, h7, h8, h9⟩ := h
  have no : ∀ (q : Nat) (cs : Array Value) (t : TypeId) (z : Nat × Nat), W.heap[q]? = some (.cells cs t z) → t ≠ 47 → ¬ vS.ownBlock = some q := fun q cs t z hq ht hp => by
    obtain ⟨_, ⟨hv, _⟩ | ⟨g', cap, cur, hv, _, hh, _⟩⟩ := h2
    · rw [hv] at hp; cases hp
    · rw [hv] at hp
      injection hp with hp
      simp only at hp
      rw [hp] at hh
      exact tag_ne hq hh ht rfl
  have low : ∀ q, vS.ownBlock = some q → B ≤ q := fun q hq => (h2.lt q hq).1
  have k1 : W2.heap[g]? = some (.cells #[vS, vN] 85 (0, 0)) := (hg.block g (Array.getElem?_eq_some_iff.1 h1).1 (no _ _ _ _ h1 (by decide))).trans h1
  have ho : Only (· = g) W2 (W2.setCell ⟨g, 0, none⟩ v') := (Only.refl (· = g) _).setCell (p := ⟨g, 0, none⟩) rfl _
  have keep : ∀ (q : Nat) (cs : Array Value) (t : TypeId) (z : Nat × Nat), W.heap[q]? = some (.cells cs t z) → t ≠ 47 → t ≠ 85 → (W2.setCell ⟨g, 0, none⟩ v').heap[q]? = some (.cells cs t z) := fun q cs t z hq ht ht2 => by
    have e1 := (hg.block q (Array.getElem?_eq_some_iff.1 hq).1 (no _ _ _ _ hq ht)).trans hq
    exact (ho.block q (Array.getElem?_eq_some_iff.1 e1).1 (tag_ne e1 k1 ht2)).trans e1
  refine ⟨⟨heap_setCell_at k1 _, ?_, h3, h4, fun i hi => ?_, fun h0 => ?_, fun i hi => keep _ _ _ _ (h7 i hi) (by decide) (by decide), h8, h9⟩, ⟨?_, fun q cs t z hq ht1 ht2 _ => keep q cs t z hq ht2 ht1⟩, k1⟩
  · have e : (p.sets ++ [set]).length = p.sets.length + 1 := by simp
    show (W2.setCell ⟨g, 0, none⟩ v').ownsRow B 47 1 v' (p.sets ++ [set]).length (u32s (p.sets ++ [set]))
    rw [e]
    have e2 : u32s (p.sets ++ [set]) = u32s p.sets ++ [.int .u32 set] := by simp [u32s]
    rw [e2]
    refine own_keepT hown ho (fun q hq hp => ?_)
    subst hp
    obtain ⟨_, ⟨hv, _⟩ | ⟨g', cap, cur, hv, _, hh, _⟩⟩ := hown
    · rw [hv] at hq; cases hq
    · rw [hv] at hq
      injection hq with hq
      simp only at hq
      rw [hq] at hh
      exact tag_ne hh k1 (by decide) rfl
  · obtain ⟨cs, z, h⟩ := h6 (by omega)
    have := keep _ _ _ _ h (by decide) (by decide)
    exact (World.cell?_of_block (a := ⟨q0, i, none⟩) (this.trans h.symm)).trans (h5 i hi)
  · obtain ⟨cs, z, h⟩ := h6 h0
    exact ⟨cs, z, keep _ _ _ _ h (by decide) (by decide)⟩
  · exact (hg.mono low).trans (ho.mono (fun q hq => by omega))
theorem push_facts {W w1 : World} {g B n : Nat} {p : Au.Pl} {aS : Option Addr} {cS : Nat} {vN : Value} {q0 : Nat} {rb : Nat → Nat} {L : Nat} {set : Int} (h : Mkr (W.alloc (.cells #[.int .u32 set] 47)) g B n p (.slice aS L cS) vN q0 rb) (hL : L = p.sets.length) {v' : Value} (hown : w1.ownsRow B 47 1 v' (L + 1) (u32s p.sets ++ [.int .u32 set])) (hgrow : (W.alloc (.cells #[.int .u32 set] 47)).drew.grownBy w1 (Value.slice aS L cS).ownBlock) :
    Hid (Mkr (w1.setCell ⟨g, 0, none⟩ v') g B n { p with sets := p.sets ++ [set] } v' vN q0 rb ∧ Frz B n rb W (w1.setCell ⟨g, 0, none⟩ v')) ∧ w1.cell? ⟨g, 0, none⟩ = some (.slice aS L cS) ∧ w1.frozen? ⟨g, 0, none⟩ = false := by
  have hO : Only (fun q => (Value.slice aS L cS).ownBlock = some q) (W.alloc (.cells #[.int .u32 set] 47)) w1 := ((Only.refl _ (W.alloc (.cells #[.int .u32 set] 47))).drew).grown hgrow (fun k h => h)
  obtain ⟨k1, k2, k3⟩ := h.push (by rw [← hL]; exact hown) hO
  exact ⟨⟨k1, (Frz.of0 ((Only.refl _ _).alloc _)).trans k2⟩, cell_blk k3, fz_blk k3 0⟩
theorem Ofs.bitF {w W : World} {o s k : Value} {ob : Nat} {b : Bool} {fb lb n x y : Nat} (h : Ofs w W o s k ob b fb lb n x y) (hne : fb ≠ lb) (i : Nat) : Ofs w (W.setCell ⟨fb, i, none⟩ (.bool true)) o s k ob b fb lb n (x ||| 2 ^ i) y := by
  obtain ⟨h1, h2, h3, h4, h5, h6, h7, h8⟩ := h
  have ho : Only (· = fb) W (W.setCell ⟨fb, i, none⟩ (.bool true)) := (Only.refl (· = fb) _).setCell (p := ⟨fb, i, none⟩) rfl _
  exact ⟨(ho.block _ (Array.getElem?_eq_some_iff.1 h1).1 (tag_ne h1 h2 (by decide))).trans h1, h2.setb true (bA_or _ _ _), h3.only ho (fun e => hne e.symm), (ho.block _ (Array.getElem?_eq_some_iff.1 h4).1 (tag_ne h4 h2 (by decide))).trans h4, (ho.block _ (Array.getElem?_eq_some_iff.1 h5).1 (tag_ne h5 h2 (by decide))).trans h5, h6, h7, h8⟩
theorem Ofs.bitL {w W : World} {o s k : Value} {ob : Nat} {b : Bool} {fb lb n x y : Nat} (h : Ofs w W o s k ob b fb lb n x y) (hne : fb ≠ lb) (i : Nat) : Ofs w (W.setCell ⟨lb, i, none⟩ (.bool true)) o s k ob b fb lb n x (y ||| 2 ^ i) := by
  obtain ⟨h1, h2, h3, h4, h5, h6, h7, h8⟩ := h
  have ho : Only (· = lb) W (W.setCell ⟨lb, i, none⟩ (.bool true)) := (Only.refl (· = lb) _).setCell (p := ⟨lb, i, none⟩) rfl _
  exact ⟨(ho.block _ (Array.getElem?_eq_some_iff.1 h1).1 (tag_ne h1 h3 (by decide))).trans h1, h2.only ho hne, h3.setb true (bA_or _ _ _), (ho.block _ (Array.getElem?_eq_some_iff.1 h4).1 (tag_ne h4 h3 (by decide))).trans h4, (ho.block _ (Array.getElem?_eq_some_iff.1 h5).1 (tag_ne h5 h3 (by decide))).trans h5, h6, h7, h8⟩
/-- a new row of bools is turned: the maker's memory stands. -/
theorem Mkr.newBk {w W : World} {g B n : Nat} {p : Au.Pl} {vS vN : Value} {q0 : Nat} {rb : Nat → Nat} (h : Mkr W g B n p vS vN q0 rb) (hZ : Frz B n rb w W) (hB : B ≤ w.heap.size) (hr : ∀ i, i < n → rb i < w.heap.size) {q m s : Nat} (hq : Bk W q m s) (hl : w.heap.size ≤ q) (i : Nat) (u : Value) : Mkr (W.setCell ⟨q, i, none⟩ u) g B n p vS vN q0 rb ∧ Frz B n rb w (W.setCell ⟨q, i, none⟩ u) := by
  have ho : Only (· = q) W (W.setCell ⟨q, i, none⟩ u) := (Only.refl (· = q) _).setCell (p := ⟨q, i, none⟩) rfl _
  refine ⟨?_, hZ.new ho (fun r hr => by omega) hB⟩
  obtain ⟨h1, h2, h3, h4, h5, h6, h7, h8, h9⟩ := h
  refine ⟨(ho.block g (Array.getElem?_eq_some_iff.1 h1).1 (tag_ne h1 hq (by decide))).trans h1, own_keepT h2 ho (fun r hr hp => ?_), h3, h4, fun i hi => ?_, fun h0 => ?_, fun i hi => (h7 i hi).only ho (by have := hr i hi; omega), h8, h9⟩
  · subst hp
    obtain ⟨_, ⟨hv, _⟩ | ⟨g', cap, cur, hv, _, hh, _⟩⟩ := h2
    · rw [hv] at hr; cases hr
    · rw [hv] at hr
      injection hr with hr
      simp only at hr
      rw [hr] at hh
      exact tag_ne hh hq (by decide) rfl
  · obtain ⟨cs, z, h⟩ := h6 (by omega)
    have hl := World.block_lt_of_cell? W _ (h5 i hi)
    exact (World.cell?_of_block (a := ⟨q0, i, none⟩) (ho.block q0 hl (tag_ne h hq (by decide)))).trans (h5 i hi)
  · obtain ⟨cs, z, h⟩ := h6 h0
    exact ⟨cs, z, (ho.block q0 (Array.getElem?_eq_some_iff.1 h).1 (tag_ne h hq (by decide))).trans h⟩
set_option maxRecDepth 100000 in
set_option maxHeartbeats 8000000 in
theorem of_set (g B n : Nat) (p : Au.Pl) (vS vN : Value) (q0 : Nat) (rb : Nat → Nat) (set : Int) (a : Option Addr) (m c : Nat) (w : World) (hM : Mkr w g B n p vS vN q0 rb) (hB : B ≤ w.heap.size) (hn : n ≤ 200) (hk : p.sets.length < n) :
    Calls Try.prog 28 #[.pointer (some ⟨g, 0, none⟩), .agg #[.int .u8 1, .int .u32 set, .slice a m c], .int .i64 (n : Int)] w (ofP w g B n vN q0 rb (some (⟨false, 2 ^ p.sets.length, 2 ^ p.sets.length⟩, { p with sets := p.sets ++ [set] }))) := by
  have HM : Hid (Mkr w g B n p vS vN q0 rb) := hM
  obtain ⟨aS, cS, rfl⟩ := own_form hM.st
  have HR : Hid (∀ i, i < n → rb i < w.heap.size) := fun i hi => (hM.rw i hi).lt
  clear hM
  obtain ⟨i5, h5, h50, h51, h52⟩ := info_parts info47'
  obtain ⟨L, hL⟩ : ∃ L, L = p.sets.length := ⟨_, rfl⟩
  have HL : Hid (L = p.sets.length) := hL
  rw [← hL] at hk ⊢
  rw [← hL] at HM
  clear hL
  have hmk := fun (w : World) => run_make_row' (P := Try.prog) 86 4 (.bool false) 1 Try.underlying86 info4 rfl .i64 .i64 n (by omega) (by omega) w
  go_enter Try.func28, Try.ntmps28
  go_wp2_with fail
  go_cut [7] from 13 to 17 (fun v wq => ∃ (ob fb lb : Nat) (W : World), W = wq ∧ v = .pointer (some ⟨ob, 0, none⟩) ∧ Ofs w W (.int .u8 1) (.int .u32 set) (.slice a m c) ob false fb lb n 0 0 ∧ fb ≠ lb ∧ Only (fun _ => False) w W)
  case first =>
    go_region_with fail
    all_goals
      go_wp2_with fail
      go_meet
      case rel =>
        rw [bA_made]
        first
          | exact ⟨w.heap.size + 1 + 1 + 1 + 1, w.heap.size + 1 + 1, w.heap.size + 1 + 1 + 1, _, rfl, rfl, ⟨(five w _ _ _ _ _).2.2.2.2, (five w _ _ _ _ _).2.2.1, (five w _ _ _ _ _).2.2.2.1, (five w _ _ _ _ _).1, (five w _ _ _ _ _).2.1, by omega, by omega, by omega⟩, by omega, ((((((Only.refl _ _).alloc _).alloc _).alloc _).alloc _).alloc _).drew⟩
          | exact ⟨w.heap.size + 1 + 1 + 1, w.heap.size + 1 + 1, w.heap.size + 1 + 1 + 1 + 1, _, rfl, rfl, ⟨(five w _ _ _ _ _).2.2.2.1, (five w _ _ _ _ _).2.2.1, (five w _ _ _ _ _).2.2.2.2, (five w _ _ _ _ _).1, (five w _ _ _ _ _).2.1, by omega, by omega, by omega⟩, by omega, ((((((Only.refl _ _).alloc _).alloc _).alloc _).alloc _).alloc _).drew⟩
          | exact ⟨w.heap.size + 1 + 1 + 1 + 1, w.heap.size + 1 + 1 + 1, w.heap.size + 1 + 1, _, rfl, rfl, ⟨(five w _ _ _ _ _).2.2.2.2, (five w _ _ _ _ _).2.2.2.1, (five w _ _ _ _ _).2.2.1, (five w _ _ _ _ _).1, (five w _ _ _ _ _).2.1, by omega, by omega, by omega⟩, by omega, ((((((Only.refl _ _).alloc _).alloc _).alloc _).alloc _).alloc _).drew⟩
          | exact ⟨w.heap.size + 1 + 1 + 1, w.heap.size + 1 + 1 + 1 + 1, w.heap.size + 1 + 1, _, rfl, rfl, ⟨(five w _ _ _ _ _).2.2.2.1, (five w _ _ _ _ _).2.2.2.2, (five w _ _ _ _ _).2.2.1, (five w _ _ _ _ _).1, (five w _ _ _ _ _).2.1, by omega, by omega, by omega⟩, by omega, ((((((Only.refl _ _).alloc _).alloc _).alloc _).alloc _).alloc _).drew⟩
          | exact ⟨w.heap.size + 1 + 1, w.heap.size + 1 + 1 + 1, w.heap.size + 1 + 1 + 1 + 1, _, rfl, rfl, ⟨(five w _ _ _ _ _).2.2.1, (five w _ _ _ _ _).2.2.2.1, (five w _ _ _ _ _).2.2.2.2, (five w _ _ _ _ _).1, (five w _ _ _ _ _).2.1, by omega, by omega, by omega⟩, by omega, ((((((Only.refl _ _).alloc _).alloc _).alloc _).alloc _).alloc _).drew⟩
          | exact ⟨w.heap.size + 1 + 1, w.heap.size + 1 + 1 + 1 + 1, w.heap.size + 1 + 1 + 1, _, rfl, rfl, ⟨(five w _ _ _ _ _).2.2.1, (five w _ _ _ _ _).2.2.2.2, (five w _ _ _ _ _).2.2.2.1, (five w _ _ _ _ _).1, (five w _ _ _ _ _).2.1, by omega, by omega, by omega⟩, by omega, ((((((Only.refl _ _).alloc _).alloc _).alloc _).alloc _).alloc _).drew⟩
  case rest =>
    obtain ⟨ob, fb, lb, W, hW, rfl, hS, hNE, hO⟩ := hcut
    subst hW
    have HNE : Hid (fb ≠ lb) := hNE
    clear hNE
    have HS : Hid (Ofs w W (.int .u8 1) (.int .u32 set) (.slice a m c) ob false fb lb n 0 0) := hS
    have HO : Hid (Only (fun _ => False) w W) := hO
    have r0 : W.cell? ⟨w.heap.size + 1, 0, none⟩ = some (.bool false) := cell_blk hS.rs
    have r1 : W.cell? ⟨w.heap.size + 1, 1, none⟩ = some (.slice none 0 0) := cell_blk hS.rs
    have r2 : W.cell? ⟨w.heap.size + 1, 2, none⟩ = some (.slice none 0 0) := cell_blk hS.rs
    have rf := fz_blk hS.rs
    have c0 : W.cell? ⟨ob, 0, none⟩ = some (.bool false) := cell_blk hS.nd
    have c1 : W.cell? ⟨ob, 1, none⟩ = some (.slice (some ⟨fb, 0, none⟩) n n) := cell_blk hS.nd
    have c2 : W.cell? ⟨ob, 2, none⟩ = some (.slice (some ⟨lb, 0, none⟩) n n) := cell_blk hS.nd
    have cf := fz_blk hS.nd
    have b0 : W.cell? ⟨w.heap.size, 0, none⟩ = some (.int .u8 1) := cell_blk hS.bx
    have b1 : W.cell? ⟨w.heap.size, 1, none⟩ = some (.int .u32 set) := cell_blk hS.bx
    have b2 : W.cell? ⟨w.heap.size, 2, none⟩ = some (.slice a m c) := cell_blk hS.bx
    have hob : ob < W.heap.size := (Array.getElem?_eq_some_iff.1 hS.nd).1
    have hobn := hS.ho
    have hbl : w.heap.size < W.heap.size := by omega
    have hrl : w.heap.size + 1 < W.heap.size := by omega
    have hne : ¬ w.heap.size + 1 = ob := by omega
    have hne2 : ¬ w.heap.size = ob := by omega
    have hne3 : ¬ ob = w.heap.size + 1 := by omega
    have hne4 : ¬ ob = w.heap.size := by omega
    have HMW : Hid (Mkr W g B n p (.slice aS L cS) vN q0 rb) := HM.out.keep hO
    have e0 : W.cell? ⟨g, 0, none⟩ = some (.slice aS L cS) := cell_blk HMW.out.blk
    have ef := fz_blk HMW.out.blk
    have egl : g < W.heap.size := (Array.getElem?_eq_some_iff.1 HMW.out.blk).1
    have HMX : Hid (Mkr (W.alloc (.cells #[.int .u32 set] 47)) g B n p (.slice aS L cS) vN q0 rb) := HMW.out.keep ((Only.refl _ _).alloc _)
    have HST : Hid ((W.alloc (.cells #[.int .u32 set] 47)).ownsRow B 47 1 (.slice aS L cS) L (u32s p.sets)) := by have := HMX.out.st; rw [← HL.out] at this; exact this
    clear hS hO
    go_wp2_with fail
    go_cut [] from 28 to 38 (fun wq => ∃ (W2 : World) (v' : Value), W2 = wq ∧ Mkr W2 g B n { p with sets := p.sets ++ [set] } v' vN q0 rb ∧ Frz B n rb W W2)
    case first =>
      go_region_law (refine step_append_lies _ (by rfl) _ _ _ (by rfl) B 47 i5 _ 1 4 Try.underlying31 h5 h50 h51 h52 rfl (by decide) (.slice aS L cS) L (u32s p.sets) (by rfl) (HST.out.drew) ⟨W.heap.size, 0, none⟩ 1 1 [.int .u32 set] (by rfl) rfl (World.news_of_block (heap_alloc_new W (.cells #[.int .u32 set] 47))) (fun u hu => by simp at hu; subst hu; rfl) (by decide) (by unfold maxLen; omega) (by omega) (by simp; omega) (W.heap.size + 1) (by simp) ?_; intro gq cq w1 hown1 hgrow hat hlt; obtain ⟨HPU, q0', qf⟩ := push_facts HMX.out HL.out hown1 hgrow; clear hown1 hgrow hat)
      all_goals
        go_wp2_with fail
        go_meet
        case rel => exact ⟨_, _, rfl, HPU.out.1, HPU.out.2⟩
    case rest =>
      obtain ⟨W2, v', hW2, hM2, hZ2⟩ := hcut
      subst hW2
      have HM2 : Hid (Mkr W2 g B n { p with sets := p.sets ++ [set] } v' vN q0 rb) := hM2
      have HZ2 : Hid (Frz B n rb w W2) := (Frz.of0 HO.out).trans hZ2
      have hS2 := HS.out.frz hZ2 HR.out
      have HS2 : Hid (Ofs w W2 (.int .u8 1) (.int .u32 set) (.slice a m c) ob false fb lb n 0 0) := hS2
      have hfl : fb ≠ lb := HNE.out
      have HS3 : Hid (Ofs w (W2.setCell ⟨fb, L, none⟩ (.bool true)) (.int .u8 1) (.int .u32 set) (.slice a m c) ob false fb lb n (0 ||| 2 ^ L) 0) := hS2.bitF hfl L
      have HM3 : Hid (Mkr (W2.setCell ⟨fb, L, none⟩ (.bool true)) g B n { p with sets := p.sets ++ [set] } v' vN q0 rb ∧ Frz B n rb w (W2.setCell ⟨fb, L, none⟩ (.bool true))) := hM2.newBk HZ2.out hB HR.out hS2.f hS2.hf L _
      have HX : Hid (Ofs w ((W2.setCell ⟨fb, L, none⟩ (.bool true)).setCell ⟨lb, L, none⟩ (.bool true)) (.int .u8 1) (.int .u32 set) (.slice a m c) ob false fb lb n (0 ||| 2 ^ L) (0 ||| 2 ^ L)) := HS3.out.bitL hfl L
      have HM4 : Hid (Mkr ((W2.setCell ⟨fb, L, none⟩ (.bool true)).setCell ⟨lb, L, none⟩ (.bool true)) g B n { p with sets := p.sets ++ [set] } v' vN q0 rb ∧ Frz B n rb w ((W2.setCell ⟨fb, L, none⟩ (.bool true)).setCell ⟨lb, L, none⟩ (.bool true))) := HM3.out.1.newBk HM3.out.2 hB HR.out HS3.out.l HS3.out.hl L _
      have d0 : W2.cell? ⟨ob, 0, none⟩ = some (.bool false) := cell_blk hS2.nd
      have d1 : W2.cell? ⟨ob, 1, none⟩ = some (.slice (some ⟨fb, 0, none⟩) n n) := cell_blk hS2.nd
      have d2 : W2.cell? ⟨ob, 2, none⟩ = some (.slice (some ⟨lb, 0, none⟩) n n) := cell_blk hS2.nd
      have d3 := hS2.f.cell L hk
      have d4 := hS2.l.cell L hk
      have d5 := hS2.f.fz L
      have d6 := hS2.l.fz L
      have d7 : W2.cell? ⟨w.heap.size + 1, 0, none⟩ = some (.bool false) := cell_blk hS2.rs
      have d8 : W2.cell? ⟨w.heap.size + 1, 1, none⟩ = some (.slice none 0 0) := cell_blk hS2.rs
      have d9 : W2.cell? ⟨w.heap.size + 1, 2, none⟩ = some (.slice none 0 0) := cell_blk hS2.rs
      have d10 := fz_blk hS2.rs
      have u1 : ¬ fb = ob := tag_ne hS2.f hS2.nd (by decide)
      have u2 : ¬ lb = ob := tag_ne hS2.l hS2.nd (by decide)
      have u3 : ¬ fb = w.heap.size + 1 := tag_ne hS2.f hS2.rs (by decide)
      have u4 : ¬ lb = w.heap.size + 1 := tag_ne hS2.l hS2.rs (by decide)
      have u5 : ¬ ob = fb := fun h => u1 h.symm
      have u6 : ¬ ob = lb := fun h => u2 h.symm
      have u7 : ¬ w.heap.size + 1 = fb := fun h => u3 h.symm
      have u8 : ¬ w.heap.size + 1 = lb := fun h => u4 h.symm
      have u9 : ¬ fb = lb := hfl
      have u10 : ¬ lb = fb := fun h => hfl h.symm
      have l1 := hS2.f.lt
      have l2 := hS2.l.lt
      have l3 : ob < W2.heap.size := (Array.getElem?_eq_some_iff.1 hS2.nd).1
      have l4 : w.heap.size + 1 < W2.heap.size := (Array.getElem?_eq_some_iff.1 hS2.rs).1
      clear hM2 hZ2 hS2 hfl c0 c1 c2 cf b0 b1 b2 r0 r1 r2 rf e0 ef egl
      go_wp2_with fail
      refine bodyPost_ret (v := nodV false fb lb n) (results_cell_row rfl _ _ (w.heap.size + 1) 89 #[.bool false, .slice (some ⟨fb, 0, none⟩) n n, .slice (some ⟨lb, 0, none⟩) n n] (0, 0) _ rfl (Ofs.finR HX.out).1 Try.underlying89 rfl sz89) rfl ?_
      have := Ofs.fin (nd := ⟨false, 0 ||| 2 ^ L, 0 ||| 2 ^ L⟩) HX.out HM4.out.1 HM4.out.2 hB
      rw [Nat.zero_or] at this
      exact this
end Go.Proofs.Ytfbcijnacbfjpaa
namespace Go.Proofs.Ytfbcijnacbfjpaa
open Go.RowKit Go.Maps
set_option linter.unusedVariables false
set_option linter.unusedSimpArgs false
open Rl (Ex)
def OfOk (e : Ex) : Prop := ∀ (F : Nat → Prop) (g B n : Nat) (p : Au.Pl) (vS vN : Value) (q0 : Nat) (rb : Nat → Nat) (v : Value) (w : World), Te w F e v → (∀ b, F b → b < B) → Mkr w g B n p vS vN q0 rb → B ≤ w.heap.size → p.sets.length + Au.cnt e ≤ n → n ≤ 200 →
    Calls Try.prog 28 #[.pointer (some ⟨g, 0, none⟩), v, .int .i64 (n : Int)] w (ofP w g B n vN q0 rb (Au.node e p))
theorem Tes.get' {w : World} {F : Nat → Prop} : ∀ (es : List Ex) (b off i : Nat) (e : Ex), Tes w F es b off → es[i]? = some e → ∃ o s k, w.cell? ⟨b, off + i * 3, none⟩ = some o ∧ w.cell? ⟨b, off + i * 3 + 1, none⟩ = some s ∧ w.cell? ⟨b, off + i * 3 + 2, none⟩ = some k ∧ Te w F e (.agg #[o, s, k])
  | e0 :: es, b, off, 0, e, ht, h => by
    injection h with h
    subst h
    unfold Tes at ht
    exact ht.1
  | e0 :: es, b, off, i + 1, e, ht, h => by
    unfold Tes at ht
    obtain ⟨o, s, k, h0, h1, h2, h3⟩ := Tes.get' es b (off + 3) i e ht.2 (by simpa using h)
    rw [show off + 3 + i * 3 = off + (i + 1) * 3 by omega] at h0 h1 h2
    exact ⟨o, s, k, h0, h1, h2, h3⟩
/-- a kid, wherever the maker has come to. -/
theorem kid_at {w W : World} {F : Nat → Prop} {kids : List Ex} {a : Option Addr} {c B n : Nat} {rb : Nat → Nat} (hL : Lf w F kids a c) (hF : ∀ b, F b → b < B) (hZ : Frz B n rb w W) {i : Nat} {kd : Ex} (hi : kids[i]? = some kd) :
    ∃ kb ko op set a' n' c', a = some ⟨kb, ko, none⟩ ∧ kb < W.heap.size ∧ W.cell? ⟨kb, ko + i * 3, none⟩ = some (.int .u8 op) ∧ W.cell? ⟨kb, ko + i * 3 + 1, none⟩ = some (.int .u32 set) ∧ W.cell? ⟨kb, ko + i * 3 + 2, none⟩ = some (.slice a' n' c') ∧ Te W F kd (.agg #[.int .u8 op, .int .u32 set, .slice a' n' c']) := by
  obtain ⟨kb, ko, rfl, hFb, hTes⟩ := hL.2.2 (by intro e; rw [e] at hi; simp at hi)
  obtain ⟨o0, s0, k0, d0, d1, d2, hTe⟩ := Tes.get' kids kb ko i kd hTes hi
  have hKp : Kp w W F := Kp.only hZ.1 (fun b hb => by have := hF b hb; omega)
  obtain ⟨op, set, a', n', c', hv⟩ : ∃ op set a' n' c', Value.agg #[o0, s0, k0] = .agg #[.int .u8 op, .int .u32 set, .slice a' n' c'] := by
    obtain ⟨o, s, kids⟩ := kd
    obtain ⟨a, cap, h, _⟩ := hTe.kids
    exact ⟨o, s, a, _, cap, h⟩
  simp only [Value.agg.injEq, Array.mk.injEq, List.cons.injEq, and_true] at hv
  obtain ⟨rfl, rfl, rfl⟩ := hv
  exact ⟨kb, ko, op, set, a', n', c', rfl, Nat.lt_of_lt_of_le (World.block_lt_of_cell? w _ d0) hZ.1.size, hKp kb hFb _ _ d0, hKp kb hFb _ _ d1, hKp kb hFb _ _ d2, Te.keep hKp (fun _ h => h) kd _ hTe⟩
theorem Nod.cs {W : World} {ob fb lb n : Nat} {b : Bool} (h : Nod W ob b fb lb n) : W.cell? ⟨ob, 0, none⟩ = some (.bool b) ∧ W.cell? ⟨ob, 1, none⟩ = some (.slice (some ⟨fb, 0, none⟩) n n) ∧ W.cell? ⟨ob, 2, none⟩ = some (.slice (some ⟨lb, 0, none⟩) n n) ∧ (∀ k, W.frozen? ⟨ob, k, none⟩ = false) ∧ ob < W.heap.size := ⟨cell_blk h, cell_blk h, cell_blk h, fz_blk h, (Array.getElem?_eq_some_iff.1 h).1⟩
theorem Ofs.bxs {w W : World} {o s k : Value} {ob : Nat} {b : Bool} {fb lb n x y : Nat} (h : Ofs w W o s k ob b fb lb n x y) : W.cell? ⟨w.heap.size, 0, none⟩ = some o ∧ W.cell? ⟨w.heap.size, 1, none⟩ = some s ∧ W.cell? ⟨w.heap.size, 2, none⟩ = some k ∧ w.heap.size < W.heap.size := ⟨cell_blk h.bx, cell_blk h.bx, cell_blk h.bx, (Array.getElem?_eq_some_iff.1 h.bx).1⟩
theorem Ofs.rss {w W : World} {o s k : Value} {ob : Nat} {b : Bool} {fb lb n x y : Nat} (h : Ofs w W o s k ob b fb lb n x y) : W.cell? ⟨w.heap.size + 1, 0, none⟩ = some (.bool false) ∧ W.cell? ⟨w.heap.size + 1, 1, none⟩ = some (.slice none 0 0) ∧ W.cell? ⟨w.heap.size + 1, 2, none⟩ = some (.slice none 0 0) ∧ (∀ k, W.frozen? ⟨w.heap.size + 1, k, none⟩ = false) ∧ w.heap.size + 1 < W.heap.size := ⟨cell_blk h.rs, cell_blk h.rs, cell_blk h.rs, fz_blk h.rs, (Array.getElem?_eq_some_iff.1 h.rs).1⟩
/-- the kid's node is there beside. -/
structure Kid (w W : World) (xb fx lx n : Nat) (x : Au.Nd) : Prop where
  nd : Nod W xb x.none fx lx n
  f : Bk W fx n x.first
  l : Bk W lx n x.last
  hf : w.heap.size ≤ fx
  hl : w.heap.size ≤ lx
theorem Kid.keep {w W W' : World} {xb fx lx n : Nat} {x : Au.Nd} (h : Kid w W xb fx lx n x) (ho : Only (fun _ => False) W W') : Kid w W' xb fx lx n x := ⟨(ho.block xb (Array.getElem?_eq_some_iff.1 h.nd).1 (fun h => h)).trans h.nd, h.f.keep ho, h.l.keep ho, h.hf, h.hl⟩
theorem Kid.frz {w W W' : World} {xb fx lx n B m : Nat} {x : Au.Nd} {rb : Nat → Nat} (h : Kid w W xb fx lx n x) (hz : Frz B m rb W W') (hr : ∀ i, i < m → rb i < w.heap.size) (hx : w.heap.size ≤ xb) : Kid w W' xb fx lx n x :=
  ⟨hz.2 _ _ _ _ h.nd (by decide) (by decide) (fun i hi => by have := hr i hi; omega), hz.bk h.f (fun i hi => by have := hr i hi; have := h.hf; omega), hz.bk h.l (fun i hi => by have := hr i hi; have := h.hl; omega), h.hf, h.hl⟩
theorem Kid.set {w W : World} {xb fx lx n : Nat} {x : Au.Nd} (h : Kid w W xb fx lx n x) {ob fb lb m : Nat} {b : Bool} (hN : Nod W ob b fb lb m) (hne : xb ≠ ob) (i : Nat) (u : Value) : Kid w (W.setCell ⟨ob, i, none⟩ u) xb fx lx n x := by
  have ho : Only (· = ob) W (W.setCell ⟨ob, i, none⟩ u) := (Only.refl (· = ob) _).setCell (p := ⟨ob, i, none⟩) rfl _
  exact ⟨(ho.block _ (Array.getElem?_eq_some_iff.1 h.nd).1 hne).trans h.nd, h.f.only ho (tag_ne h.f hN (by decide)), h.l.only ho (tag_ne h.l hN (by decide)), h.hf, h.hl⟩
/-- behind a kid's node. -/
theorem after28 {w W1 w2 : World} {o s k : Value} {ob : Nat} {b : Bool} {fb lb n of ol g B : Nat} {p2 : Au.Pl} {vS2 vN : Value} {q0 : Nat} {rb : Nat → Nat} {x : Au.Nd} {fx lx : Nat} (hS : Ofs w W1 o s k ob b fb lb n of ol) (hZ : Frz B n rb w W1) (hR : ∀ i, i < n → rb i < w.heap.size) (hfx : W1.heap.size ≤ fx) (hlx : W1.heap.size ≤ lx) (hBf : Bk w2 fx n x.first) (hBl : Bk w2 lx n x.last) (hM : Mkr w2 g B n p2 vS2 vN q0 rb) (hZ2 : Frz B n rb W1 w2) (hB : B ≤ w.heap.size) :
    Hid (Ofs w (w2.alloc (.cells #[.bool x.none, .slice (some ⟨fx, 0, none⟩) n n, .slice (some ⟨lx, 0, none⟩) n n] 89)) o s k ob b fb lb n of ol) ∧ Hid (Kid w (w2.alloc (.cells #[.bool x.none, .slice (some ⟨fx, 0, none⟩) n n, .slice (some ⟨lx, 0, none⟩) n n] 89)) w2.heap.size fx lx n x) ∧ Hid (Mkr (w2.alloc (.cells #[.bool x.none, .slice (some ⟨fx, 0, none⟩) n n, .slice (some ⟨lx, 0, none⟩) n n] 89)) g B n p2 vS2 vN q0 rb) ∧ Hid (Frz B n rb w (w2.alloc (.cells #[.bool x.none, .slice (some ⟨fx, 0, none⟩) n n, .slice (some ⟨lx, 0, none⟩) n n] 89))) ∧ Hid (w2.heap.size ≠ ob ∧ w.heap.size ≤ w2.heap.size) ∧
    w2.cell? ⟨ob, 0, none⟩ = some (.bool b) ∧ w2.cell? ⟨ob, 1, none⟩ = some (.slice (some ⟨fb, 0, none⟩) n n) ∧ w2.cell? ⟨ob, 2, none⟩ = some (.slice (some ⟨lb, 0, none⟩) n n) ∧ (∀ k, w2.frozen? ⟨ob, k, none⟩ = false) ∧ ob < w2.heap.size ∧
    w2.cell? ⟨w.heap.size, 0, none⟩ = some o ∧ w2.cell? ⟨w.heap.size, 1, none⟩ = some s ∧ w2.cell? ⟨w.heap.size, 2, none⟩ = some k ∧ w.heap.size < w2.heap.size ∧ ¬ ob = w2.heap.size := by
  have hS2 := hS.frz hZ2 hR
  have ha : Only (fun _ => False) w2 (w2.alloc (.cells #[.bool x.none, .slice (some ⟨fx, 0, none⟩) n n, .slice (some ⟨lx, 0, none⟩) n n] 89)) := (Only.refl _ _).alloc _
  obtain ⟨y0, y1, y2, yf, yl⟩ := hS2.nd.cs
  obtain ⟨b0, b1, b2, b3⟩ := hS2.bxs
  have h1 := hZ.1.size
  have h2 := hZ2.1.size
  exact ⟨hS2.keep ha, ⟨heap_alloc_new _ _, hBf.keep ha, hBl.keep ha, by omega, by omega⟩, hM.keep ha, (hZ.trans hZ2).trans (Frz.of0 ha), ⟨by omega, by omega⟩, y0, y1, y2, yf, yl, b0, b1, b2, b3, by omega⟩
theorem after47 {w W w4 : World} {o s k : Value} {ob : Nat} {b : Bool} {fb lb n of ol g B : Nat} {p4 : Au.Pl} {vS2 vN : Value} {q0 : Nat} {rb : Nat → Nat} {x : Au.Nd} {xb fx lx : Nat} (hS : Ofs w W o s k ob b fb lb n of ol) (hK : Kid w W xb fx lx n x) (hZ : Frz B n rb w W) (hR : ∀ i, i < n → rb i < w.heap.size) (hM : Mkr w4 g B n p4 vS2 vN q0 rb) (hZ4 : Frz B n rb W w4) (hx : Hid (xb ≠ ob ∧ w.heap.size ≤ xb)) :
    Hid (Ofs w w4 o s k ob b fb lb n of ol) ∧ Hid (Kid w w4 xb fx lx n x) ∧ Hid (Mkr w4 g B n p4 vS2 vN q0 rb) ∧ Hid (Frz B n rb w w4) ∧
    w4.cell? ⟨ob, 0, none⟩ = some (.bool b) ∧ w4.cell? ⟨ob, 1, none⟩ = some (.slice (some ⟨fb, 0, none⟩) n n) ∧ w4.cell? ⟨ob, 2, none⟩ = some (.slice (some ⟨lb, 0, none⟩) n n) ∧ (∀ k, w4.frozen? ⟨ob, k, none⟩ = false) ∧ ob < w4.heap.size ∧
    w4.cell? ⟨xb, 0, none⟩ = some (.bool x.none) ∧ w4.cell? ⟨xb, 1, none⟩ = some (.slice (some ⟨fx, 0, none⟩) n n) ∧ w4.cell? ⟨xb, 2, none⟩ = some (.slice (some ⟨lx, 0, none⟩) n n) ∧ ¬ xb = ob ∧ xb < w4.heap.size := by
  have hS2 := hS.frz hZ4 hR
  have hK2 := hK.frz hZ4 hR hx.out.2
  obtain ⟨y0, y1, y2, yf, yl⟩ := hS2.nd.cs
  obtain ⟨z0, z1, z2, zf, zl⟩ := hK2.nd.cs
  exact ⟨hS2, hK2, hM, hZ.trans hZ4, y0, y1, y2, yf, yl, z0, z1, z2, hx.out.1, zl⟩
theorem afterF {w W w5 : World} {o s k : Value} {ob : Nat} {b : Bool} {fb lb n of ol g B : Nat} {p4 : Au.Pl} {vS2 vN : Value} {q0 : Nat} {rb : Nat → Nat} {x : Au.Nd} {xb fx lx y : Nat} {q : Nat} (hq : W.heap.size = q) (hS : Ofs w W o s k ob b fb lb n of ol) (hK : Kid w W xb fx lx n x) (hM : Mkr W g B n p4 vS2 vN q0 rb) (hZ : Frz B n rb w W) (hBk : Bk w5 W.heap.size n y) (hO : Only (fun _ => False) W w5) (hx : Hid (xb ≠ ob ∧ w.heap.size ≤ xb)) (hB : B ≤ w.heap.size) :
    Hid (Ofs w (w5.setCell ⟨ob, 1, none⟩ (.slice (some ⟨q, 0, none⟩) n n)) o s k ob b q lb n y ol) ∧ Hid (Kid w (w5.setCell ⟨ob, 1, none⟩ (.slice (some ⟨q, 0, none⟩) n n)) xb fx lx n x) ∧ Hid (Mkr (w5.setCell ⟨ob, 1, none⟩ (.slice (some ⟨q, 0, none⟩) n n)) g B n p4 vS2 vN q0 rb) ∧ Hid (Frz B n rb w (w5.setCell ⟨ob, 1, none⟩ (.slice (some ⟨q, 0, none⟩) n n))) ∧
    w5.cell? ⟨ob, 0, none⟩ = some (.bool b) ∧ w5.cell? ⟨ob, 1, none⟩ = some (.slice (some ⟨fb, 0, none⟩) n n) ∧ w5.cell? ⟨ob, 2, none⟩ = some (.slice (some ⟨lb, 0, none⟩) n n) ∧ (∀ k, w5.frozen? ⟨ob, k, none⟩ = false) ∧ ob < w5.heap.size ∧
    w5.cell? ⟨xb, 0, none⟩ = some (.bool x.none) ∧ w5.cell? ⟨xb, 1, none⟩ = some (.slice (some ⟨fx, 0, none⟩) n n) ∧ w5.cell? ⟨xb, 2, none⟩ = some (.slice (some ⟨lx, 0, none⟩) n n) ∧ ¬ xb = ob ∧ xb < w5.heap.size := by
  rw [hq] at hBk
  have hS2 := hS.keep hO
  have hK2 := hK.keep hO
  obtain ⟨y0, y1, y2, yf, yl⟩ := hS2.nd.cs
  obtain ⟨z0, z1, z2, zf, zl⟩ := hK2.nd.cs
  obtain ⟨k1, k2⟩ := hS2.cellN (hM.keep hO) (hZ.trans (Frz.of0 hO)) hB 1 (.slice (some ⟨q, 0, none⟩) n n)
  exact ⟨hS2.setF hBk (by rw [← hq]; exact hZ.1.size), hK2.set hS2.nd hx.out.1 _ _, k1, k2, y0, y1, y2, yf, yl, z0, z1, z2, hx.out.1, zl⟩
theorem afterL {w W w5 : World} {o s k : Value} {ob : Nat} {b : Bool} {fb lb n of ol g B : Nat} {p4 : Au.Pl} {vS2 vN : Value} {q0 : Nat} {rb : Nat → Nat} {x : Au.Nd} {xb fx lx y : Nat} {q : Nat} (hq : W.heap.size = q) (hS : Ofs w W o s k ob b fb lb n of ol) (hK : Kid w W xb fx lx n x) (hM : Mkr W g B n p4 vS2 vN q0 rb) (hZ : Frz B n rb w W) (hBk : Bk w5 W.heap.size n y) (hO : Only (fun _ => False) W w5) (hx : Hid (xb ≠ ob ∧ w.heap.size ≤ xb)) (hB : B ≤ w.heap.size) :
    Hid (Ofs w (w5.setCell ⟨ob, 2, none⟩ (.slice (some ⟨q, 0, none⟩) n n)) o s k ob b fb q n of y) ∧ Hid (Kid w (w5.setCell ⟨ob, 2, none⟩ (.slice (some ⟨q, 0, none⟩) n n)) xb fx lx n x) ∧ Hid (Mkr (w5.setCell ⟨ob, 2, none⟩ (.slice (some ⟨q, 0, none⟩) n n)) g B n p4 vS2 vN q0 rb) ∧ Hid (Frz B n rb w (w5.setCell ⟨ob, 2, none⟩ (.slice (some ⟨q, 0, none⟩) n n))) ∧
    w5.cell? ⟨ob, 0, none⟩ = some (.bool b) ∧ w5.cell? ⟨ob, 1, none⟩ = some (.slice (some ⟨fb, 0, none⟩) n n) ∧ w5.cell? ⟨ob, 2, none⟩ = some (.slice (some ⟨lb, 0, none⟩) n n) ∧ (∀ k, w5.frozen? ⟨ob, k, none⟩ = false) ∧ ob < w5.heap.size ∧
    w5.cell? ⟨xb, 0, none⟩ = some (.bool x.none) ∧ w5.cell? ⟨xb, 1, none⟩ = some (.slice (some ⟨fx, 0, none⟩) n n) ∧ w5.cell? ⟨xb, 2, none⟩ = some (.slice (some ⟨lx, 0, none⟩) n n) ∧ ¬ xb = ob ∧ xb < w5.heap.size := by
  rw [hq] at hBk
  have hS2 := hS.keep hO
  have hK2 := hK.keep hO
  obtain ⟨y0, y1, y2, yf, yl⟩ := hS2.nd.cs
  obtain ⟨z0, z1, z2, zf, zl⟩ := hK2.nd.cs
  obtain ⟨k1, k2⟩ := hS2.cellN (hM.keep hO) (hZ.trans (Frz.of0 hO)) hB 2 (.slice (some ⟨q, 0, none⟩) n n)
  exact ⟨hS2.setL hBk (by rw [← hq]; exact hZ.1.size), hK2.set hS2.nd hx.out.1 _ _, k1, k2, y0, y1, y2, yf, yl, z0, z1, z2, hx.out.1, zl⟩
set_option maxRecDepth 100000 in
set_option maxHeartbeats 8000000 in
theorem of_seq (F : Nat → Prop) (g B n : Nat) (p : Au.Pl) (vS vN : Value) (q0 : Nat) (rb : Nat → Nat) (set : Int) (kids : List Ex) (a : Option Addr) (c : Nat) (w : World) (ih : ∀ k ∈ kids, OfOk k) (hL : Lf w F kids a c) (hF : ∀ b, F b → b < B) (hM : Mkr w g B n p vS vN q0 rb) (hB : B ≤ w.heap.size) (hn : n ≤ 200) (hk : p.sets.length + Au.cnts kids ≤ n) :
    Calls Try.prog 28 #[.pointer (some ⟨g, 0, none⟩), .agg #[.int .u8 2, .int .u32 set, .slice a kids.length c], .int .i64 (n : Int)] w (ofP w g B n vN q0 rb (Au.seqs kids ⟨true, 0, 0⟩ p)) := by
  have HM : Hid (Mkr w g B n p vS vN q0 rb) := hM
  have HR : Hid (∀ i, i < n → rb i < w.heap.size) := fun i hi => (hM.rw i hi).lt
  have HIH : Hid (∀ k ∈ kids, OfOk k) := ih
  have HL : Hid (Lf w F kids a c) := hL
  have HF : Hid (∀ b, F b → b < B) := hF
  have HK : Hid (p.sets.length + Au.cnts kids ≤ n) := hk
  have hKm := hL.2.1
  obtain ⟨K, hKe⟩ : ∃ K, K = kids.length := ⟨_, rfl⟩
  have HKE : Hid (K = kids.length) := hKe
  rw [← hKe] at hKm ⊢
  unfold maxLen at hKm
  clear hM ih hL hF hk hKe
  have hmk := fun (w : World) => run_make_row' (P := Try.prog) 86 4 (.bool false) 1 Try.underlying86 info4 rfl .i64 .i64 n (by omega) (by omega) w
  go_enter Try.func28, Try.ntmps28
  go_wp2_with fail
  go_cut [7] from 13 to 17 (fun v wq => ∃ (ob fb lb : Nat) (W : World), W = wq ∧ v = .pointer (some ⟨ob, 0, none⟩) ∧ Ofs w W (.int .u8 2) (.int .u32 set) (.slice a K c) ob false fb lb n 0 0 ∧ fb ≠ lb ∧ Only (fun _ => False) w W)
  case first =>
    go_region_with fail
    all_goals
      go_wp2_with fail
      go_meet
      case rel =>
        rw [bA_made]
        first
          | exact ⟨w.heap.size + 1 + 1 + 1 + 1, w.heap.size + 1 + 1, w.heap.size + 1 + 1 + 1, _, rfl, rfl, ⟨(five w _ _ _ _ _).2.2.2.2, (five w _ _ _ _ _).2.2.1, (five w _ _ _ _ _).2.2.2.1, (five w _ _ _ _ _).1, (five w _ _ _ _ _).2.1, by omega, by omega, by omega⟩, by omega, ((((((Only.refl _ _).alloc _).alloc _).alloc _).alloc _).alloc _).drew⟩
          | exact ⟨w.heap.size + 1 + 1 + 1, w.heap.size + 1 + 1, w.heap.size + 1 + 1 + 1 + 1, _, rfl, rfl, ⟨(five w _ _ _ _ _).2.2.2.1, (five w _ _ _ _ _).2.2.1, (five w _ _ _ _ _).2.2.2.2, (five w _ _ _ _ _).1, (five w _ _ _ _ _).2.1, by omega, by omega, by omega⟩, by omega, ((((((Only.refl _ _).alloc _).alloc _).alloc _).alloc _).alloc _).drew⟩
          | exact ⟨w.heap.size + 1 + 1 + 1 + 1, w.heap.size + 1 + 1 + 1, w.heap.size + 1 + 1, _, rfl, rfl, ⟨(five w _ _ _ _ _).2.2.2.2, (five w _ _ _ _ _).2.2.2.1, (five w _ _ _ _ _).2.2.1, (five w _ _ _ _ _).1, (five w _ _ _ _ _).2.1, by omega, by omega, by omega⟩, by omega, ((((((Only.refl _ _).alloc _).alloc _).alloc _).alloc _).alloc _).drew⟩
          | exact ⟨w.heap.size + 1 + 1 + 1, w.heap.size + 1 + 1 + 1 + 1, w.heap.size + 1 + 1, _, rfl, rfl, ⟨(five w _ _ _ _ _).2.2.2.1, (five w _ _ _ _ _).2.2.2.2, (five w _ _ _ _ _).2.2.1, (five w _ _ _ _ _).1, (five w _ _ _ _ _).2.1, by omega, by omega, by omega⟩, by omega, ((((((Only.refl _ _).alloc _).alloc _).alloc _).alloc _).alloc _).drew⟩
          | exact ⟨w.heap.size + 1 + 1, w.heap.size + 1 + 1 + 1, w.heap.size + 1 + 1 + 1 + 1, _, rfl, rfl, ⟨(five w _ _ _ _ _).2.2.1, (five w _ _ _ _ _).2.2.2.1, (five w _ _ _ _ _).2.2.2.2, (five w _ _ _ _ _).1, (five w _ _ _ _ _).2.1, by omega, by omega, by omega⟩, by omega, ((((((Only.refl _ _).alloc _).alloc _).alloc _).alloc _).alloc _).drew⟩
          | exact ⟨w.heap.size + 1 + 1, w.heap.size + 1 + 1 + 1 + 1, w.heap.size + 1 + 1 + 1, _, rfl, rfl, ⟨(five w _ _ _ _ _).2.2.1, (five w _ _ _ _ _).2.2.2.2, (five w _ _ _ _ _).2.2.2.1, (five w _ _ _ _ _).1, (five w _ _ _ _ _).2.1, by omega, by omega, by omega⟩, by omega, ((((((Only.refl _ _).alloc _).alloc _).alloc _).alloc _).alloc _).drew⟩
  case rest =>
    obtain ⟨ob, fb, lb, W, hW, rfl, hS, hNE, hO⟩ := hcut
    subst hW
    have HNE : Hid (fb ≠ lb) := hNE
    clear hNE
    have HS : Hid (Ofs w W (.int .u8 2) (.int .u32 set) (.slice a K c) ob false fb lb n 0 0) := hS
    have HO : Hid (Only (fun _ => False) w W) := hO
    have r0 : W.cell? ⟨w.heap.size + 1, 0, none⟩ = some (.bool false) := cell_blk hS.rs
    have r1 : W.cell? ⟨w.heap.size + 1, 1, none⟩ = some (.slice none 0 0) := cell_blk hS.rs
    have r2 : W.cell? ⟨w.heap.size + 1, 2, none⟩ = some (.slice none 0 0) := cell_blk hS.rs
    have rf := fz_blk hS.rs
    have c0 : W.cell? ⟨ob, 0, none⟩ = some (.bool false) := cell_blk hS.nd
    have c1 : W.cell? ⟨ob, 1, none⟩ = some (.slice (some ⟨fb, 0, none⟩) n n) := cell_blk hS.nd
    have c2 : W.cell? ⟨ob, 2, none⟩ = some (.slice (some ⟨lb, 0, none⟩) n n) := cell_blk hS.nd
    have cf := fz_blk hS.nd
    have b0 : W.cell? ⟨w.heap.size, 0, none⟩ = some (.int .u8 2) := cell_blk hS.bx
    have b1 : W.cell? ⟨w.heap.size, 1, none⟩ = some (.int .u32 set) := cell_blk hS.bx
    have b2 : W.cell? ⟨w.heap.size, 2, none⟩ = some (.slice a K c) := cell_blk hS.bx
    have hob : ob < W.heap.size := (Array.getElem?_eq_some_iff.1 hS.nd).1
    have hobn := hS.ho
    have hbl : w.heap.size < W.heap.size := by omega
    have hrl : w.heap.size + 1 < W.heap.size := by omega
    have hne : ¬ w.heap.size + 1 = ob := by omega
    have hne2 : ¬ w.heap.size = ob := by omega
    have hne3 : ¬ ob = w.heap.size + 1 := by omega
    have hne4 : ¬ ob = w.heap.size := by omega
    have HS0 : Hid (Ofs w (W.setCell ⟨ob, 0, none⟩ (.bool true)) (.int .u8 2) (.int .u32 set) (.slice a K c) ob true fb lb n 0 0) := HS.out.setB true
    have HM0 : Hid (Mkr (W.setCell ⟨ob, 0, none⟩ (.bool true)) g B n p vS vN q0 rb ∧ Frz B n rb w (W.setCell ⟨ob, 0, none⟩ (.bool true))) := HS.out.cellN (HM.out.keep HO.out) (Frz.of0 HO.out) hB 0 _
    clear hS hO
    go_wp2_with fail
    go_loopg [9] K (fun gh v wr => ∃ (i : Nat) (W1 : World) (o : Au.Nd) (p1 : Au.Pl) (vS1 : Value) (fb1 lb1 : Nat), W1 = wr ∧ gh = K - i ∧ i ≤ K ∧ v = .int .i64 (i : Int) ∧ Au.seqs (kids.drop i) o p1 = Au.seqs kids ⟨true, 0, 0⟩ p ∧ p1.sets.length + Au.cnts (kids.drop i) ≤ n ∧ Ofs w W1 (.int .u8 2) (.int .u32 set) (.slice a K c) ob o.none fb1 lb1 n o.first o.last ∧ Mkr W1 g B n p1 vS1 vN q0 rb ∧ Frz B n rb w W1)
    case atStart => exact ⟨0, _, ⟨true, 0, 0⟩, p, vS, fb, lb, rfl, rfl, Nat.zero_le _, rfl, rfl, HK.out, HS0.out, HM0.out.1, HM0.out.2⟩
    case round =>
      obtain ⟨i, W1, o, p1, vS1, fb1, lb1, hW1, rfl, hi, rfl, hseq, hcn, hS1, hM1, hZ1⟩ := hrel
      subst hW1
      have HS1 : Hid (Ofs w W1 (.int .u8 2) (.int .u32 set) (.slice a K c) ob o.none fb1 lb1 n o.first o.last) := hS1
      have HM1 : Hid (Mkr W1 g B n p1 vS1 vN q0 rb) := hM1
      have HZ1 : Hid (Frz B n rb w W1) := hZ1
      have HSQ : Hid (Au.seqs (kids.drop i) o p1 = Au.seqs kids ⟨true, 0, 0⟩ p) := hseq
      have HCN : Hid (p1.sets.length + Au.cnts (kids.drop i) ≤ n) := hcn
      clear c0 c1 c2 cf b0 b1 b2 r0 r1 r2 rf hseq hcn hM1 hZ1
      obtain ⟨b0, b1, b2, hb3⟩ := hS1.bxs
      clear hS1
      by_cases hlt : i < K
      · have t1 : (i : Int) < (K : Int) := by omega
        obtain ⟨kd, hkd⟩ : ∃ kd, kids[i]? = some kd := ⟨_, List.getElem?_eq_getElem (by rw [← HKE.out]; exact hlt)⟩
        obtain ⟨kb, ko, op', set', a', n', c', rfl, hkl, d0, d1, d2, hTe⟩ := kid_at HL.out HF.out HZ1.out hkd
        have hdr : kids.drop i = kd :: kids.drop (i + 1) := by
          have hlt' : i < kids.length := by rw [← HKE.out]; exact hlt
          rw [List.drop_eq_getElem_cons hlt']
          congr 1
          exact (List.getElem?_eq_some_iff.1 hkd).2
        have hcn2 := HCN.out
        rw [hdr] at hcn2
        simp only [Au.cnts] at hcn2
        have hnc := Au.node_cnt kd p1 (by omega)
        have HC : Hid (Calls Try.prog 28 #[.pointer (some ⟨g, 0, none⟩), .agg #[.int .u8 op', .int .u32 set', .slice a' n' c'], .int .i64 (n : Int)] W1 (ofP W1 g B n vN q0 rb (Au.node kd p1))) := HIH.out kd (List.mem_of_getElem? hkd) F g B n p1 vS1 vN q0 rb _ W1 hTe HF.out HM1.out (Nat.le_trans hB HZ1.out.1.size) (by omega) hn
        have hsq := HSQ.out
        rw [hdr] at hsq
        simp only [Au.seqs] at hsq
        cases hnd : Au.node kd p1 with
        | none => rw [hnd] at hnc; simp only at hnc; omega
        | some r =>
          obtain ⟨x, p2⟩ := r
          rw [hnd] at hnc hsq
          simp only at hnc hsq
          have HND : Hid (Au.node kd p1 = some (x, p2)) := hnd
          have HSQ2 : Hid (Au.seqs (kids.drop (i + 1)) (Au.seq1 o x) (Au.chain p2 o.last x.first) = Au.seqs kids ⟨true, 0, 0⟩ p) := hsq
          have HC2 : Hid (p2.sets.length + Au.cnts (kids.drop (i + 1)) ≤ n) := by unfold Hid; omega
          clear hnd hnc hsq hcn2 hdr hkd hTe
          obtain ⟨on, of, ol⟩ := o
          obtain ⟨xn, xf, xl⟩ := x
          simp only at HS1 HSQ2
          cases on with
          | true =>
            cases xn with
            | true =>
              go_wp2_with (first | (go_at_call 28; have hc := HC.out; rw [HND.out] at hc; refine hc.mono ?_; clear hc; rintro e w2 ⟨fx, lx, vS2, rfl, hfx, hlx, hBf, hBl, hM2, hZ2⟩; obtain ⟨HS3, HK3, HM3, HZ3, hxo, j0, j1, j2, jf, jl, k0, k1, k2, kf, kl⟩ := after28 HS1.out HZ1.out HR.out hfx hlx hBf hBl hM2 hZ2 hB; clear hfx hlx hBf hBl hM2 hZ2; unfold nodV) | (go_at_call 47; refine (link_any g B n p2 vS2 vN q0 rb lb1 n fx n ol xf _ HM3.out HS3.out.l HK3.out.f (fun i hi => by have := HR.out i hi; have := HS3.out.hl; omega) (fun i hi => by have := HR.out i hi; have := HK3.out.hf; omega) hn).mono ?_; rintro e w4 ⟨rfl, hM4, hZ4⟩; obtain ⟨HS4, HK4, HM4, HZ4, y0, y1, y2, yf, yl, z0, z1, z2, zf, zl⟩ := after47 HS3.out HK3.out HZ3.out HR.out hM4 hZ4 hxo; clear hM4 hZ4 j0 j1 j2 jf jl k0 k1 k2 kf kl))
              obtain ⟨HQ5, ho5⟩ : True ∧ True := ⟨trivial, trivial⟩
              refine (rboth_any fb1 fx n n n of xf _ HS4.out.f.bn HK4.out.f.bn hn).mono ?_
              rintro e w5 ⟨rfl, hB5, hO5⟩
              obtain ⟨HS5, HK5, HM5, HZ5, y0', y1', y2', yf', yl', z0', z1', z2', zf', zl'⟩ := afterF (q := w4.heap.size) rfl HS4.out HK4.out HM4.out HZ4.out hB5 hO5 hxo hB
              clear hB5 hO5 y0 y1 y2 yf yl z0 z1 z2 zf zl ho5 HQ5
              go_wp2_with fail
              refine (rboth_any lb1 lx n n n ol xl _ HS5.out.l.bn HK5.out.l.bn hn).mono ?_
              rintro e w6 ⟨rfl, hB6, hO6⟩
              obtain ⟨HS6, HK6, HM6, HZ6, y0q, y1q, y2q, yfq, ylq, z0q, z1q, z2q, zfq, zlq⟩ := afterL (q := w5.heap.size) (by first | rfl | simp) HS5.out HK5.out HM5.out HZ5.out hB6 hO6 hxo hB
              clear hB6 hO6
              go_wp2_with fail
              go_roundg (K - (i + 1))
              case measure => omega
              case rel => exact ⟨i + 1, _, Au.seq1 ⟨true, of, ol⟩ ⟨true, xf, xl⟩, Au.chain p2 ol xf, vS2, w4.heap.size, _, rfl, rfl, by omega, by go_num, HSQ2.out, HC2.out, HS6.out.setB true, (HS6.out.cellN HM6.out HZ6.out hB 0 _).1, (HS6.out.cellN HM6.out HZ6.out hB 0 _).2⟩
            | false =>
              go_wp2_with (first | (go_at_call 28; have hc := HC.out; rw [HND.out] at hc; refine hc.mono ?_; clear hc; rintro e w2 ⟨fx, lx, vS2, rfl, hfx, hlx, hBf, hBl, hM2, hZ2⟩; obtain ⟨HS3, HK3, HM3, HZ3, hxo, j0, j1, j2, jf, jl, k0, k1, k2, kf, kl⟩ := after28 HS1.out HZ1.out HR.out hfx hlx hBf hBl hM2 hZ2 hB; clear hfx hlx hBf hBl hM2 hZ2; unfold nodV) | (go_at_call 47; refine (link_any g B n p2 vS2 vN q0 rb lb1 n fx n ol xf _ HM3.out HS3.out.l HK3.out.f (fun i hi => by have := HR.out i hi; have := HS3.out.hl; omega) (fun i hi => by have := HR.out i hi; have := HK3.out.hf; omega) hn).mono ?_; rintro e w4 ⟨rfl, hM4, hZ4⟩; obtain ⟨HS4, HK4, HM4, HZ4, y0, y1, y2, yf, yl, z0, z1, z2, zf, zl⟩ := after47 HS3.out HK3.out HZ3.out HR.out hM4 hZ4 hxo; clear hM4 hZ4 j0 j1 j2 jf jl k0 k1 k2 kf kl))
              obtain ⟨HQ5, ho5⟩ : True ∧ True := ⟨trivial, trivial⟩
              refine (rboth_any fb1 fx n n n of xf _ HS4.out.f.bn HK4.out.f.bn hn).mono ?_
              rintro e w5 ⟨rfl, hB5, hO5⟩
              obtain ⟨HS5, HK5, HM5, HZ5, y0', y1', y2', yf', yl', z0', z1', z2', zf', zl'⟩ := afterF (q := w4.heap.size) rfl HS4.out HK4.out HM4.out HZ4.out hB5 hO5 hxo hB
              clear hB5 hO5 y0 y1 y2 yf yl z0 z1 z2 zf zl ho5 HQ5
              go_wp2_with fail
              go_roundg (K - (i + 1))
              case measure => omega
              case rel => exact ⟨i + 1, _, Au.seq1 ⟨true, of, ol⟩ ⟨false, xf, xl⟩, Au.chain p2 ol xf, vS2, w4.heap.size, lx, rfl, rfl, by omega, by go_num, HSQ2.out, HC2.out, (HS5.out.setL HK5.out.l HK5.out.hl).setB false, ((HS5.out.setL HK5.out.l HK5.out.hl).cellN (HS5.out.cellN HM5.out HZ5.out hB 2 _).1 (HS5.out.cellN HM5.out HZ5.out hB 2 _).2 hB 0 _).1, ((HS5.out.setL HK5.out.l HK5.out.hl).cellN (HS5.out.cellN HM5.out HZ5.out hB 2 _).1 (HS5.out.cellN HM5.out HZ5.out hB 2 _).2 hB 0 _).2⟩
          | false =>
            cases xn with
            | true =>
              go_wp2_with (first | (go_at_call 28; have hc := HC.out; rw [HND.out] at hc; refine hc.mono ?_; clear hc; rintro e w2 ⟨fx, lx, vS2, rfl, hfx, hlx, hBf, hBl, hM2, hZ2⟩; obtain ⟨HS3, HK3, HM3, HZ3, hxo, j0, j1, j2, jf, jl, k0, k1, k2, kf, kl⟩ := after28 HS1.out HZ1.out HR.out hfx hlx hBf hBl hM2 hZ2 hB; clear hfx hlx hBf hBl hM2 hZ2; unfold nodV) | (go_at_call 47; refine (link_any g B n p2 vS2 vN q0 rb lb1 n fx n ol xf _ HM3.out HS3.out.l HK3.out.f (fun i hi => by have := HR.out i hi; have := HS3.out.hl; omega) (fun i hi => by have := HR.out i hi; have := HK3.out.hf; omega) hn).mono ?_; rintro e w4 ⟨rfl, hM4, hZ4⟩; obtain ⟨HS4, HK4, HM4, HZ4, y0, y1, y2, yf, yl, z0, z1, z2, zf, zl⟩ := after47 HS3.out HK3.out HZ3.out HR.out hM4 hZ4 hxo; clear hM4 hZ4 j0 j1 j2 jf jl k0 k1 k2 kf kl))
              refine (rboth_any lb1 lx n n n ol xl _ HS4.out.l.bn HK4.out.l.bn hn).mono ?_
              rintro e w6 ⟨rfl, hB6, hO6⟩
              obtain ⟨HS6, HK6, HM6, HZ6, y0q, y1q, y2q, yfq, ylq, z0q, z1q, z2q, zfq, zlq⟩ := afterL (q := w4.heap.size) (by first | rfl | simp) HS4.out HK4.out HM4.out HZ4.out hB6 hO6 hxo hB
              clear hB6 hO6
              go_wp2_with fail
              go_roundg (K - (i + 1))
              case measure => omega
              case rel => exact ⟨i + 1, _, Au.seq1 ⟨false, of, ol⟩ ⟨true, xf, xl⟩, Au.chain p2 ol xf, vS2, fb1, _, rfl, rfl, by omega, by go_num, HSQ2.out, HC2.out, HS6.out.setB false, (HS6.out.cellN HM6.out HZ6.out hB 0 _).1, (HS6.out.cellN HM6.out HZ6.out hB 0 _).2⟩
            | false =>
              go_wp2_with (first | (go_at_call 28; have hc := HC.out; rw [HND.out] at hc; refine hc.mono ?_; clear hc; rintro e w2 ⟨fx, lx, vS2, rfl, hfx, hlx, hBf, hBl, hM2, hZ2⟩; obtain ⟨HS3, HK3, HM3, HZ3, hxo, j0, j1, j2, jf, jl, k0, k1, k2, kf, kl⟩ := after28 HS1.out HZ1.out HR.out hfx hlx hBf hBl hM2 hZ2 hB; clear hfx hlx hBf hBl hM2 hZ2; unfold nodV) | (go_at_call 47; refine (link_any g B n p2 vS2 vN q0 rb lb1 n fx n ol xf _ HM3.out HS3.out.l HK3.out.f (fun i hi => by have := HR.out i hi; have := HS3.out.hl; omega) (fun i hi => by have := HR.out i hi; have := HK3.out.hf; omega) hn).mono ?_; rintro e w4 ⟨rfl, hM4, hZ4⟩; obtain ⟨HS4, HK4, HM4, HZ4, y0, y1, y2, yf, yl, z0, z1, z2, zf, zl⟩ := after47 HS3.out HK3.out HZ3.out HR.out hM4 hZ4 hxo; clear hM4 hZ4 j0 j1 j2 jf jl k0 k1 k2 kf kl))
              go_roundg (K - (i + 1))
              case measure => omega
              case rel => exact ⟨i + 1, _, Au.seq1 ⟨false, of, ol⟩ ⟨false, xf, xl⟩, Au.chain p2 ol xf, vS2, fb1, lx, rfl, rfl, by omega, by go_num, HSQ2.out, HC2.out, (HS4.out.setL HK4.out.l HK4.out.hl).setB false, ((HS4.out.setL HK4.out.l HK4.out.hl).cellN (HS4.out.cellN HM4.out HZ4.out hB 2 _).1 (HS4.out.cellN HM4.out HZ4.out hB 2 _).2 hB 0 _).1, ((HS4.out.setL HK4.out.l HK4.out.hl).cellN (HS4.out.cellN HM4.out HZ4.out hB 2 _).1 (HS4.out.cellN HM4.out HZ4.out hB 2 _).2 hB 0 _).2⟩
      · have t2 : decide ((i : Int) < (K : Int)) = false := decide_eq_false (by omega)
        obtain rfl : i = K := by omega
        have hsq := HSQ.out
        rw [List.drop_eq_nil_of_le (by rw [← HKE.out]; exact Nat.le_refl _)] at hsq
        simp only [Au.seqs] at hsq
        have HE : Hid (Au.seqs kids ⟨true, 0, 0⟩ p = some (o, p1)) := hsq.symm
        clear hsq
        obtain ⟨y0, y1, y2, yf, yl⟩ := HS1.out.nd.cs
        obtain ⟨r0, r1, r2, rf, rl⟩ := HS1.out.rss
        go_wp2_with fail
        rw [HE.out]
        refine bodyPost_ret (v := nodV o.none fb1 lb1 n) (results_cell_row rfl _ _ (w.heap.size + 1) 89 #[.bool o.none, .slice (some ⟨fb1, 0, none⟩) n n, .slice (some ⟨lb1, 0, none⟩) n n] (0, 0) _ rfl (Ofs.finR HS1.out).1 Try.underlying89 rfl sz89) rfl ?_
        exact Ofs.fin HS1.out HM1.out HZ1.out hB
set_option maxRecDepth 100000 in
set_option maxHeartbeats 8000000 in
theorem of_alt (F : Nat → Prop) (g B n : Nat) (p : Au.Pl) (vS vN : Value) (q0 : Nat) (rb : Nat → Nat) (set : Int) (kids : List Ex) (a : Option Addr) (c : Nat) (w : World) (ih : ∀ k ∈ kids, OfOk k) (hL : Lf w F kids a c) (hF : ∀ b, F b → b < B) (hM : Mkr w g B n p vS vN q0 rb) (hB : B ≤ w.heap.size) (hn : n ≤ 200) (hk : p.sets.length + Au.cnts kids ≤ n) :
    Calls Try.prog 28 #[.pointer (some ⟨g, 0, none⟩), .agg #[.int .u8 3, .int .u32 set, .slice a kids.length c], .int .i64 (n : Int)] w (ofP w g B n vN q0 rb (Au.alts kids ⟨false, 0, 0⟩ p)) := by
  have HM : Hid (Mkr w g B n p vS vN q0 rb) := hM
  have HR : Hid (∀ i, i < n → rb i < w.heap.size) := fun i hi => (hM.rw i hi).lt
  have HIH : Hid (∀ k ∈ kids, OfOk k) := ih
  have HL : Hid (Lf w F kids a c) := hL
  have HF : Hid (∀ b, F b → b < B) := hF
  have HK : Hid (p.sets.length + Au.cnts kids ≤ n) := hk
  have hKm := hL.2.1
  obtain ⟨K, hKe⟩ : ∃ K, K = kids.length := ⟨_, rfl⟩
  have HKE : Hid (K = kids.length) := hKe
  rw [← hKe] at hKm ⊢
  unfold maxLen at hKm
  clear hM ih hL hF hk hKe
  have hmk := fun (w : World) => run_make_row' (P := Try.prog) 86 4 (.bool false) 1 Try.underlying86 info4 rfl .i64 .i64 n (by omega) (by omega) w
  go_enter Try.func28, Try.ntmps28
  go_wp2_with fail
  go_cut [7] from 13 to 17 (fun v wq => ∃ (ob fb lb : Nat) (W : World), W = wq ∧ v = .pointer (some ⟨ob, 0, none⟩) ∧ Ofs w W (.int .u8 3) (.int .u32 set) (.slice a K c) ob false fb lb n 0 0 ∧ fb ≠ lb ∧ Only (fun _ => False) w W)
  case first =>
    go_region_with fail
    all_goals
      go_wp2_with fail
      go_meet
      case rel =>
        rw [bA_made]
        first
          | exact ⟨w.heap.size + 1 + 1 + 1 + 1, w.heap.size + 1 + 1, w.heap.size + 1 + 1 + 1, _, rfl, rfl, ⟨(five w _ _ _ _ _).2.2.2.2, (five w _ _ _ _ _).2.2.1, (five w _ _ _ _ _).2.2.2.1, (five w _ _ _ _ _).1, (five w _ _ _ _ _).2.1, by omega, by omega, by omega⟩, by omega, ((((((Only.refl _ _).alloc _).alloc _).alloc _).alloc _).alloc _).drew⟩
          | exact ⟨w.heap.size + 1 + 1 + 1, w.heap.size + 1 + 1, w.heap.size + 1 + 1 + 1 + 1, _, rfl, rfl, ⟨(five w _ _ _ _ _).2.2.2.1, (five w _ _ _ _ _).2.2.1, (five w _ _ _ _ _).2.2.2.2, (five w _ _ _ _ _).1, (five w _ _ _ _ _).2.1, by omega, by omega, by omega⟩, by omega, ((((((Only.refl _ _).alloc _).alloc _).alloc _).alloc _).alloc _).drew⟩
          | exact ⟨w.heap.size + 1 + 1 + 1 + 1, w.heap.size + 1 + 1 + 1, w.heap.size + 1 + 1, _, rfl, rfl, ⟨(five w _ _ _ _ _).2.2.2.2, (five w _ _ _ _ _).2.2.2.1, (five w _ _ _ _ _).2.2.1, (five w _ _ _ _ _).1, (five w _ _ _ _ _).2.1, by omega, by omega, by omega⟩, by omega, ((((((Only.refl _ _).alloc _).alloc _).alloc _).alloc _).alloc _).drew⟩
          | exact ⟨w.heap.size + 1 + 1 + 1, w.heap.size + 1 + 1 + 1 + 1, w.heap.size + 1 + 1, _, rfl, rfl, ⟨(five w _ _ _ _ _).2.2.2.1, (five w _ _ _ _ _).2.2.2.2, (five w _ _ _ _ _).2.2.1, (five w _ _ _ _ _).1, (five w _ _ _ _ _).2.1, by omega, by omega, by omega⟩, by omega, ((((((Only.refl _ _).alloc _).alloc _).alloc _).alloc _).alloc _).drew⟩
          | exact ⟨w.heap.size + 1 + 1, w.heap.size + 1 + 1 + 1, w.heap.size + 1 + 1 + 1 + 1, _, rfl, rfl, ⟨(five w _ _ _ _ _).2.2.1, (five w _ _ _ _ _).2.2.2.1, (five w _ _ _ _ _).2.2.2.2, (five w _ _ _ _ _).1, (five w _ _ _ _ _).2.1, by omega, by omega, by omega⟩, by omega, ((((((Only.refl _ _).alloc _).alloc _).alloc _).alloc _).alloc _).drew⟩
          | exact ⟨w.heap.size + 1 + 1, w.heap.size + 1 + 1 + 1 + 1, w.heap.size + 1 + 1 + 1, _, rfl, rfl, ⟨(five w _ _ _ _ _).2.2.1, (five w _ _ _ _ _).2.2.2.2, (five w _ _ _ _ _).2.2.2.1, (five w _ _ _ _ _).1, (five w _ _ _ _ _).2.1, by omega, by omega, by omega⟩, by omega, ((((((Only.refl _ _).alloc _).alloc _).alloc _).alloc _).alloc _).drew⟩
  case rest =>
    obtain ⟨ob, fb, lb, W, hW, rfl, hS, hNE, hO⟩ := hcut
    subst hW
    have HNE : Hid (fb ≠ lb) := hNE
    clear hNE
    have HS : Hid (Ofs w W (.int .u8 3) (.int .u32 set) (.slice a K c) ob false fb lb n 0 0) := hS
    have HO : Hid (Only (fun _ => False) w W) := hO
    have r0 : W.cell? ⟨w.heap.size + 1, 0, none⟩ = some (.bool false) := cell_blk hS.rs
    have r1 : W.cell? ⟨w.heap.size + 1, 1, none⟩ = some (.slice none 0 0) := cell_blk hS.rs
    have r2 : W.cell? ⟨w.heap.size + 1, 2, none⟩ = some (.slice none 0 0) := cell_blk hS.rs
    have rf := fz_blk hS.rs
    have c0 : W.cell? ⟨ob, 0, none⟩ = some (.bool false) := cell_blk hS.nd
    have c1 : W.cell? ⟨ob, 1, none⟩ = some (.slice (some ⟨fb, 0, none⟩) n n) := cell_blk hS.nd
    have c2 : W.cell? ⟨ob, 2, none⟩ = some (.slice (some ⟨lb, 0, none⟩) n n) := cell_blk hS.nd
    have cf := fz_blk hS.nd
    have b0 : W.cell? ⟨w.heap.size, 0, none⟩ = some (.int .u8 3) := cell_blk hS.bx
    have b1 : W.cell? ⟨w.heap.size, 1, none⟩ = some (.int .u32 set) := cell_blk hS.bx
    have b2 : W.cell? ⟨w.heap.size, 2, none⟩ = some (.slice a K c) := cell_blk hS.bx
    have hob : ob < W.heap.size := (Array.getElem?_eq_some_iff.1 hS.nd).1
    have hobn := hS.ho
    have hbl : w.heap.size < W.heap.size := by omega
    have hrl : w.heap.size + 1 < W.heap.size := by omega
    have hne : ¬ w.heap.size + 1 = ob := by omega
    have hne2 : ¬ w.heap.size = ob := by omega
    have hne3 : ¬ ob = w.heap.size + 1 := by omega
    have hne4 : ¬ ob = w.heap.size := by omega
    have HS0 : Hid (Ofs w W (.int .u8 3) (.int .u32 set) (.slice a K c) ob false fb lb n 0 0) := HS.out
    have HM0 : Hid (Mkr W g B n p vS vN q0 rb ∧ Frz B n rb w W) := ⟨HM.out.keep HO.out, Frz.of0 HO.out⟩
    clear hS hO
    go_wp2_with fail
    go_loopg [11] K (fun gh v wr => ∃ (i : Nat) (W1 : World) (o : Au.Nd) (p1 : Au.Pl) (vS1 : Value) (fb1 lb1 : Nat), W1 = wr ∧ gh = K - i ∧ i ≤ K ∧ v = .int .i64 (i : Int) ∧ Au.alts (kids.drop i) o p1 = Au.alts kids ⟨false, 0, 0⟩ p ∧ p1.sets.length + Au.cnts (kids.drop i) ≤ n ∧ Ofs w W1 (.int .u8 3) (.int .u32 set) (.slice a K c) ob o.none fb1 lb1 n o.first o.last ∧ Mkr W1 g B n p1 vS1 vN q0 rb ∧ Frz B n rb w W1)
    case atStart => exact ⟨0, _, ⟨false, 0, 0⟩, p, vS, fb, lb, rfl, rfl, Nat.zero_le _, rfl, rfl, HK.out, HS0.out, HM0.out.1, HM0.out.2⟩
    case round =>
      obtain ⟨i, W1, o, p1, vS1, fb1, lb1, hW1, rfl, hi, rfl, hseq, hcn, hS1, hM1, hZ1⟩ := hrel
      subst hW1
      have HS1 : Hid (Ofs w W1 (.int .u8 3) (.int .u32 set) (.slice a K c) ob o.none fb1 lb1 n o.first o.last) := hS1
      have HM1 : Hid (Mkr W1 g B n p1 vS1 vN q0 rb) := hM1
      have HZ1 : Hid (Frz B n rb w W1) := hZ1
      have HSQ : Hid (Au.alts (kids.drop i) o p1 = Au.alts kids ⟨false, 0, 0⟩ p) := hseq
      have HCN : Hid (p1.sets.length + Au.cnts (kids.drop i) ≤ n) := hcn
      clear c0 c1 c2 cf b0 b1 b2 r0 r1 r2 rf hseq hcn hM1 hZ1
      obtain ⟨b0, b1, b2, hb3⟩ := hS1.bxs
      clear hS1
      by_cases hlt : i < K
      · have t1 : (i : Int) < (K : Int) := by omega
        obtain ⟨kd, hkd⟩ : ∃ kd, kids[i]? = some kd := ⟨_, List.getElem?_eq_getElem (by rw [← HKE.out]; exact hlt)⟩
        obtain ⟨kb, ko, op', set', a', n', c', rfl, hkl, d0, d1, d2, hTe⟩ := kid_at HL.out HF.out HZ1.out hkd
        have hdr : kids.drop i = kd :: kids.drop (i + 1) := by
          have hlt' : i < kids.length := by rw [← HKE.out]; exact hlt
          rw [List.drop_eq_getElem_cons hlt']
          congr 1
          exact (List.getElem?_eq_some_iff.1 hkd).2
        have hcn2 := HCN.out
        rw [hdr] at hcn2
        simp only [Au.cnts] at hcn2
        have hnc := Au.node_cnt kd p1 (by omega)
        have HC : Hid (Calls Try.prog 28 #[.pointer (some ⟨g, 0, none⟩), .agg #[.int .u8 op', .int .u32 set', .slice a' n' c'], .int .i64 (n : Int)] W1 (ofP W1 g B n vN q0 rb (Au.node kd p1))) := HIH.out kd (List.mem_of_getElem? hkd) F g B n p1 vS1 vN q0 rb _ W1 hTe HF.out HM1.out (Nat.le_trans hB HZ1.out.1.size) (by omega) hn
        have hsq := HSQ.out
        rw [hdr] at hsq
        simp only [Au.alts] at hsq
        cases hnd : Au.node kd p1 with
        | none => rw [hnd] at hnc; simp only at hnc; omega
        | some r =>
          obtain ⟨x, p2⟩ := r
          rw [hnd] at hnc hsq
          simp only at hnc hsq
          have HND : Hid (Au.node kd p1 = some (x, p2)) := hnd
          have HSQ2 : Hid (Au.alts (kids.drop (i + 1)) (Au.alt1 o x) p2 = Au.alts kids ⟨false, 0, 0⟩ p) := hsq
          have HC2 : Hid (p2.sets.length + Au.cnts (kids.drop (i + 1)) ≤ n) := by unfold Hid; omega
          clear hnd hnc hsq hcn2 hdr hkd hTe
          obtain ⟨on, of, ol⟩ := o
          obtain ⟨xn, xf, xl⟩ := x
          simp only at HS1 HSQ2
          go_wp2_with (go_at_call 28; have hc := HC.out; rw [HND.out] at hc; refine hc.mono ?_; clear hc; rintro e w2 ⟨fx, lx, vS2, rfl, hfx, hlx, hBf, hBl, hM2, hZ2⟩; obtain ⟨HS3, HK3, HM3, HZ3, hxo, j0, j1, j2, jf, jl, k0, k1, k2, kf, kl⟩ := after28 HS1.out HZ1.out HR.out hfx hlx hBf hBl hM2 hZ2 hB; clear hfx hlx hBf hBl hM2 hZ2; unfold nodV)
          refine (rboth_any fb1 fx n n n of xf _ HS3.out.f.bn HK3.out.f.bn hn).mono ?_
          rintro e w5 ⟨rfl, hB5, hO5⟩
          obtain ⟨HS5, HK5, HM5, HZ5, y0', y1', y2', yf', yl', z0', z1', z2', zf', zl'⟩ := afterF (q := w2.heap.size + 1) (by simp) HS3.out HK3.out HM3.out HZ3.out hB5 hO5 hxo hB
          clear hB5 hO5 j0 j1 j2 jf jl k0 k1 k2 kf kl
          go_wp2_with fail
          refine (rboth_any lb1 lx n n n ol xl _ HS5.out.l.bn HK5.out.l.bn hn).mono ?_
          rintro e w6 ⟨rfl, hB6, hO6⟩
          obtain ⟨HS6, HK6, HM6, HZ6, y0q, y1q, y2q, yfq, ylq, z0q, z1q, z2q, zfq, zlq⟩ := afterL (q := w5.heap.size) (by simp) HS5.out HK5.out HM5.out HZ5.out hB6 hO6 hxo hB
          clear hB6 hO6 y0' y1' y2' yf' yl' z0' z1' z2' zf' zl'
          cases on with
          | true =>
            go_wp2_with fail
            go_roundg (K - (i + 1))
            case measure => omega
            case rel => exact ⟨i + 1, _, Au.alt1 ⟨true, of, ol⟩ ⟨xn, xf, xl⟩, p2, vS2, _, _, rfl, rfl, by omega, by go_num, HSQ2.out, HC2.out, HS6.out.setB true, (HS6.out.cellN HM6.out HZ6.out hB 0 _).1, (HS6.out.cellN HM6.out HZ6.out hB 0 _).2⟩
          | false =>
            go_wp2_with fail
            go_roundg (K - (i + 1))
            case measure => omega
            case rel => exact ⟨i + 1, _, Au.alt1 ⟨false, of, ol⟩ ⟨xn, xf, xl⟩, p2, vS2, _, _, rfl, rfl, by omega, by go_num, HSQ2.out, HC2.out, HS6.out.setB xn, (HS6.out.cellN HM6.out HZ6.out hB 0 _).1, (HS6.out.cellN HM6.out HZ6.out hB 0 _).2⟩
      · have t2 : decide ((i : Int) < (K : Int)) = false := decide_eq_false (by omega)
        obtain rfl : i = K := by omega
        have hsq := HSQ.out
        rw [List.drop_eq_nil_of_le (by rw [← HKE.out]; exact Nat.le_refl _)] at hsq
        simp only [Au.alts] at hsq
        have HE : Hid (Au.alts kids ⟨false, 0, 0⟩ p = some (o, p1)) := hsq.symm
        clear hsq
        obtain ⟨y0, y1, y2, yf, yl⟩ := HS1.out.nd.cs
        obtain ⟨r0, r1, r2, rf, rl⟩ := HS1.out.rss
        go_wp2_with fail
        rw [HE.out]
        refine bodyPost_ret (v := nodV o.none fb1 lb1 n) (results_cell_row rfl _ _ (w.heap.size + 1) 89 #[.bool o.none, .slice (some ⟨fb1, 0, none⟩) n n, .slice (some ⟨lb1, 0, none⟩) n n] (0, 0) _ rfl (Ofs.finR HS1.out).1 Try.underlying89 rfl sz89) rfl ?_
        exact Ofs.fin HS1.out HM1.out HZ1.out hB
end Go.Proofs.Ytfbcijnacbfjpaa
namespace Go.Proofs.Ytfbcijnacbfjpaa
open Go.RowKit Go.Maps
set_option linter.unusedVariables false
set_option linter.unusedSimpArgs false
open Rl (Ex)
theorem Ofs.setAll {w W : World} {o s k : Value} {ob : Nat} {b : Bool} {fb lb n x y : Nat} (h : Ofs w W o s k ob b fb lb n x y) {nd : Au.Nd} {fx lx : Nat} (hf : Bk W fx n nd.first) (hl : Bk W lx n nd.last) (h1 : w.heap.size ≤ fx) (h2 : w.heap.size ≤ lx) {g B m : Nat} {p : Au.Pl} {vS vN : Value} {q0 : Nat} {rb : Nat → Nat} (hM : Mkr W g B m p vS vN q0 rb) (hZ : Frz B m rb w W) (hB : B ≤ w.heap.size) :
    Hid (Ofs w (((W.setCell ⟨ob, 0, none⟩ (.bool nd.none)).setCell ⟨ob, 1, none⟩ (.slice (some ⟨fx, 0, none⟩) n n)).setCell ⟨ob, 2, none⟩ (.slice (some ⟨lx, 0, none⟩) n n)) o s k ob nd.none fx lx n nd.first nd.last) ∧ Hid (Mkr (((W.setCell ⟨ob, 0, none⟩ (.bool nd.none)).setCell ⟨ob, 1, none⟩ (.slice (some ⟨fx, 0, none⟩) n n)).setCell ⟨ob, 2, none⟩ (.slice (some ⟨lx, 0, none⟩) n n)) g B m p vS vN q0 rb) ∧ Hid (Frz B m rb w (((W.setCell ⟨ob, 0, none⟩ (.bool nd.none)).setCell ⟨ob, 1, none⟩ (.slice (some ⟨fx, 0, none⟩) n n)).setCell ⟨ob, 2, none⟩ (.slice (some ⟨lx, 0, none⟩) n n))) := by
  have a1 := h.setB nd.none
  obtain ⟨m1, z1⟩ := h.cellN hM hZ hB 0 (.bool nd.none)
  have f1 : Bk (W.setCell ⟨ob, 0, none⟩ (.bool nd.none)) fx n nd.first := hf.other (p := ⟨ob, 0, none⟩) (tag_ne h.nd hf (by decide)) _
  have l1 : Bk (W.setCell ⟨ob, 0, none⟩ (.bool nd.none)) lx n nd.last := hl.other (p := ⟨ob, 0, none⟩) (tag_ne h.nd hl (by decide)) _
  have a2 := a1.setF f1 h1
  obtain ⟨m2, z2⟩ := a1.cellN m1 z1 hB 1 (.slice (some ⟨fx, 0, none⟩) n n)
  have l2 := l1.other (p := ⟨ob, 1, none⟩) (tag_ne a1.nd l1 (by decide)) (.slice (some ⟨fx, 0, none⟩) n n)
  have a3 := a2.setL l2 h2
  obtain ⟨m3, z3⟩ := a2.cellN m2 z2 hB 2 (.slice (some ⟨lx, 0, none⟩) n n)
  exact ⟨a3, m3, z3⟩
set_option maxRecDepth 100000 in
set_option maxHeartbeats 8000000 in
theorem of_one4e (g B n : Nat) (p : Au.Pl) (vS vN : Value) (q0 : Nat) (rb : Nat → Nat) (set : Int) (a : Option Addr) (c : Nat) (w : World) (hM : Mkr w g B n p vS vN q0 rb) (hB : B ≤ w.heap.size) (hn : n ≤ 200) :
    Calls Try.prog 28 #[.pointer (some ⟨g, 0, none⟩), .agg #[.int .u8 4, .int .u32 set, .slice a 0 c], .int .i64 (n : Int)] w (ofP w g B n vN q0 rb (some (⟨true, 0, 0⟩, (Au.chain p 0 0)))) := by
  have HM : Hid (Mkr w g B n p vS vN q0 rb) := hM
  have HR : Hid (∀ i, i < n → rb i < w.heap.size) := fun i hi => (hM.rw i hi).lt
  clear hM
  have hmk := fun (w : World) => run_make_row' (P := Try.prog) 86 4 (.bool false) 1 Try.underlying86 info4 rfl .i64 .i64 n (by omega) (by omega) w
  go_enter Try.func28, Try.ntmps28
  go_wp2_with fail
  go_cut [7] from 13 to 17 (fun v wq => ∃ (ob fb lb : Nat) (W : World), W = wq ∧ v = .pointer (some ⟨ob, 0, none⟩) ∧ Ofs w W (.int .u8 4) (.int .u32 set) (.slice a 0 c) ob false fb lb n 0 0 ∧ fb ≠ lb ∧ Only (fun _ => False) w W)
  case first =>
    go_region_with fail
    all_goals
      go_wp2_with fail
      go_meet
      case rel =>
        rw [bA_made]
        first
          | exact ⟨w.heap.size + 1 + 1 + 1 + 1, w.heap.size + 1 + 1, w.heap.size + 1 + 1 + 1, _, rfl, rfl, ⟨(five w _ _ _ _ _).2.2.2.2, (five w _ _ _ _ _).2.2.1, (five w _ _ _ _ _).2.2.2.1, (five w _ _ _ _ _).1, (five w _ _ _ _ _).2.1, by omega, by omega, by omega⟩, by omega, ((((((Only.refl _ _).alloc _).alloc _).alloc _).alloc _).alloc _).drew⟩
          | exact ⟨w.heap.size + 1 + 1 + 1, w.heap.size + 1 + 1, w.heap.size + 1 + 1 + 1 + 1, _, rfl, rfl, ⟨(five w _ _ _ _ _).2.2.2.1, (five w _ _ _ _ _).2.2.1, (five w _ _ _ _ _).2.2.2.2, (five w _ _ _ _ _).1, (five w _ _ _ _ _).2.1, by omega, by omega, by omega⟩, by omega, ((((((Only.refl _ _).alloc _).alloc _).alloc _).alloc _).alloc _).drew⟩
          | exact ⟨w.heap.size + 1 + 1 + 1 + 1, w.heap.size + 1 + 1 + 1, w.heap.size + 1 + 1, _, rfl, rfl, ⟨(five w _ _ _ _ _).2.2.2.2, (five w _ _ _ _ _).2.2.2.1, (five w _ _ _ _ _).2.2.1, (five w _ _ _ _ _).1, (five w _ _ _ _ _).2.1, by omega, by omega, by omega⟩, by omega, ((((((Only.refl _ _).alloc _).alloc _).alloc _).alloc _).alloc _).drew⟩
          | exact ⟨w.heap.size + 1 + 1 + 1, w.heap.size + 1 + 1 + 1 + 1, w.heap.size + 1 + 1, _, rfl, rfl, ⟨(five w _ _ _ _ _).2.2.2.1, (five w _ _ _ _ _).2.2.2.2, (five w _ _ _ _ _).2.2.1, (five w _ _ _ _ _).1, (five w _ _ _ _ _).2.1, by omega, by omega, by omega⟩, by omega, ((((((Only.refl _ _).alloc _).alloc _).alloc _).alloc _).alloc _).drew⟩
          | exact ⟨w.heap.size + 1 + 1, w.heap.size + 1 + 1 + 1, w.heap.size + 1 + 1 + 1 + 1, _, rfl, rfl, ⟨(five w _ _ _ _ _).2.2.1, (five w _ _ _ _ _).2.2.2.1, (five w _ _ _ _ _).2.2.2.2, (five w _ _ _ _ _).1, (five w _ _ _ _ _).2.1, by omega, by omega, by omega⟩, by omega, ((((((Only.refl _ _).alloc _).alloc _).alloc _).alloc _).alloc _).drew⟩
          | exact ⟨w.heap.size + 1 + 1, w.heap.size + 1 + 1 + 1 + 1, w.heap.size + 1 + 1 + 1, _, rfl, rfl, ⟨(five w _ _ _ _ _).2.2.1, (five w _ _ _ _ _).2.2.2.2, (five w _ _ _ _ _).2.2.2.1, (five w _ _ _ _ _).1, (five w _ _ _ _ _).2.1, by omega, by omega, by omega⟩, by omega, ((((((Only.refl _ _).alloc _).alloc _).alloc _).alloc _).alloc _).drew⟩
  case rest =>
    obtain ⟨ob, fb, lb, W, hW, rfl, hS, hNE, hO⟩ := hcut
    subst hW
    have HNE : Hid (fb ≠ lb) := hNE
    clear hNE
    have HS : Hid (Ofs w W (.int .u8 4) (.int .u32 set) (.slice a 0 c) ob false fb lb n 0 0) := hS
    have HO : Hid (Only (fun _ => False) w W) := hO
    have r0 : W.cell? ⟨w.heap.size + 1, 0, none⟩ = some (.bool false) := cell_blk hS.rs
    have r1 : W.cell? ⟨w.heap.size + 1, 1, none⟩ = some (.slice none 0 0) := cell_blk hS.rs
    have r2 : W.cell? ⟨w.heap.size + 1, 2, none⟩ = some (.slice none 0 0) := cell_blk hS.rs
    have rf := fz_blk hS.rs
    have c0 : W.cell? ⟨ob, 0, none⟩ = some (.bool false) := cell_blk hS.nd
    have c1 : W.cell? ⟨ob, 1, none⟩ = some (.slice (some ⟨fb, 0, none⟩) n n) := cell_blk hS.nd
    have c2 : W.cell? ⟨ob, 2, none⟩ = some (.slice (some ⟨lb, 0, none⟩) n n) := cell_blk hS.nd
    have cf := fz_blk hS.nd
    have b0 : W.cell? ⟨w.heap.size, 0, none⟩ = some (.int .u8 4) := cell_blk hS.bx
    have b1 : W.cell? ⟨w.heap.size, 1, none⟩ = some (.int .u32 set) := cell_blk hS.bx
    have b2 : W.cell? ⟨w.heap.size, 2, none⟩ = some (.slice a 0 c) := cell_blk hS.bx
    have hob : ob < W.heap.size := (Array.getElem?_eq_some_iff.1 hS.nd).1
    have hobn := hS.ho
    have hbl : w.heap.size < W.heap.size := by omega
    have hrl : w.heap.size + 1 < W.heap.size := by omega
    have hne : ¬ w.heap.size + 1 = ob := by omega
    have hne2 : ¬ w.heap.size = ob := by omega
    have hne3 : ¬ ob = w.heap.size + 1 := by omega
    have hne4 : ¬ ob = w.heap.size := by omega
    have HM1 : Hid (Mkr W g B n p vS vN q0 rb) := HM.out.keep HO.out
    have HZ1 : Hid (Frz B n rb w W) := Frz.of0 HO.out
    clear hS hO
    go_wp2_with (first | (go_at_call 47; refine (link_any g B n p vS vN q0 rb lb n fb n 0 0 _ HM1.out HS.out.l HS.out.f (fun i hi => by have := HR.out i hi; have := HS.out.hl; omega) (fun i hi => by have := HR.out i hi; have := HS.out.hf; omega) hn).mono ?_; rintro e w4 ⟨rfl, hM4, hZ4⟩; have hS4 := HS.out.frz hZ4 HR.out; have HS4 : Hid (Ofs w w4 (.int .u8 4) (.int .u32 set) _ ob false fb lb n 0 0) := hS4; have HM4 : Hid (Mkr w4 g B n (Au.chain p 0 0) vS vN q0 rb) := hM4; have HZ4 : Hid (Frz B n rb w w4) := HZ1.out.trans hZ4; obtain ⟨u0, u1, u2, uf, ul⟩ := hS4.nd.cs; obtain ⟨v0, v1, v2, vl⟩ := hS4.bxs; obtain ⟨s0, s1, s2, sf, sl⟩ := hS4.rss; clear hM4 hZ4 hS4))
    have HX := HS4.out.setB true
    obtain ⟨HY, HW⟩ := HS4.out.cellN HM4.out HZ4.out hB 0 (.bool true)
    refine bodyPost_ret (v := nodV true fb lb n) (results_cell_row rfl _ _ (w.heap.size + 1) 89 #[.bool true, .slice (some ⟨fb, 0, none⟩) n n, .slice (some ⟨lb, 0, none⟩) n n] (0, 0) _ rfl (Ofs.finR HX).1 Try.underlying89 rfl sz89) rfl ?_
    exact Ofs.fin (nd := ⟨true, 0, 0⟩) HX HY HW hB
set_option maxRecDepth 100000 in
set_option maxHeartbeats 8000000 in
theorem of_one4 (F : Nat → Prop) (g B n : Nat) (p : Au.Pl) (vS vN : Value) (q0 : Nat) (rb : Nat → Nat) (set : Int) (kd : Ex) (kids : List Ex) (a : Option Addr) (c : Nat) (w : World) (ih : OfOk kd) (hL : Lf w F (kd :: kids) a c) (hF : ∀ b, F b → b < B) (hM : Mkr w g B n p vS vN q0 rb) (hB : B ≤ w.heap.size) (hn : n ≤ 200) (hk : p.sets.length + Au.cnt kd ≤ n) (xn : Bool) (xf xl : Nat) (p2 : Au.Pl) (hnd : Au.node kd p = some (⟨xn, xf, xl⟩, p2)) :
    Calls Try.prog 28 #[.pointer (some ⟨g, 0, none⟩), .agg #[.int .u8 4, .int .u32 set, .slice a (kd :: kids).length c], .int .i64 (n : Int)] w (ofP w g B n vN q0 rb (some (⟨true, xf, xl⟩, (Au.chain p2 xl xf)))) := by
  have HM : Hid (Mkr w g B n p vS vN q0 rb) := hM
  have HR : Hid (∀ i, i < n → rb i < w.heap.size) := fun i hi => (hM.rw i hi).lt
  have HIH : Hid (OfOk kd) := ih
  have HL : Hid (Lf w F (kd :: kids) a c) := hL
  have HF : Hid (∀ b, F b → b < B) := hF
  have HK : Hid (p.sets.length + Au.cnt kd ≤ n) := hk
  have HND : Hid (Au.node kd p = some (⟨xn, xf, xl⟩, p2)) := hnd
  have hKm := hL.2.1
  obtain ⟨K, hKe⟩ : ∃ K, K = (kd :: kids).length := ⟨_, rfl⟩
  have hK0 : 0 < K := by rw [hKe]; simp
  rw [← hKe] at hKm ⊢
  unfold maxLen at hKm
  clear hM ih hL hF hk hKe hnd
  have hmk := fun (w : World) => run_make_row' (P := Try.prog) 86 4 (.bool false) 1 Try.underlying86 info4 rfl .i64 .i64 n (by omega) (by omega) w
  go_enter Try.func28, Try.ntmps28
  go_wp2_with fail
  go_cut [7] from 13 to 17 (fun v wq => ∃ (ob fb lb : Nat) (W : World), W = wq ∧ v = .pointer (some ⟨ob, 0, none⟩) ∧ Ofs w W (.int .u8 4) (.int .u32 set) (.slice a K c) ob false fb lb n 0 0 ∧ fb ≠ lb ∧ Only (fun _ => False) w W)
  case first =>
    go_region_with fail
    all_goals
      go_wp2_with fail
      go_meet
      case rel =>
        rw [bA_made]
        first
          | exact ⟨w.heap.size + 1 + 1 + 1 + 1, w.heap.size + 1 + 1, w.heap.size + 1 + 1 + 1, _, rfl, rfl, ⟨(five w _ _ _ _ _).2.2.2.2, (five w _ _ _ _ _).2.2.1, (five w _ _ _ _ _).2.2.2.1, (five w _ _ _ _ _).1, (five w _ _ _ _ _).2.1, by omega, by omega, by omega⟩, by omega, ((((((Only.refl _ _).alloc _).alloc _).alloc _).alloc _).alloc _).drew⟩
          | exact ⟨w.heap.size + 1 + 1 + 1, w.heap.size + 1 + 1, w.heap.size + 1 + 1 + 1 + 1, _, rfl, rfl, ⟨(five w _ _ _ _ _).2.2.2.1, (five w _ _ _ _ _).2.2.1, (five w _ _ _ _ _).2.2.2.2, (five w _ _ _ _ _).1, (five w _ _ _ _ _).2.1, by omega, by omega, by omega⟩, by omega, ((((((Only.refl _ _).alloc _).alloc _).alloc _).alloc _).alloc _).drew⟩
          | exact ⟨w.heap.size + 1 + 1 + 1 + 1, w.heap.size + 1 + 1 + 1, w.heap.size + 1 + 1, _, rfl, rfl, ⟨(five w _ _ _ _ _).2.2.2.2, (five w _ _ _ _ _).2.2.2.1, (five w _ _ _ _ _).2.2.1, (five w _ _ _ _ _).1, (five w _ _ _ _ _).2.1, by omega, by omega, by omega⟩, by omega, ((((((Only.refl _ _).alloc _).alloc _).alloc _).alloc _).alloc _).drew⟩
          | exact ⟨w.heap.size + 1 + 1 + 1, w.heap.size + 1 + 1 + 1 + 1, w.heap.size + 1 + 1, _, rfl, rfl, ⟨(five w _ _ _ _ _).2.2.2.1, (five w _ _ _ _ _).2.2.2.2, (five w _ _ _ _ _).2.2.1, (five w _ _ _ _ _).1, (five w _ _ _ _ _).2.1, by omega, by omega, by omega⟩, by omega, ((((((Only.refl _ _).alloc _).alloc _).alloc _).alloc _).alloc _).drew⟩
          | exact ⟨w.heap.size + 1 + 1, w.heap.size + 1 + 1 + 1, w.heap.size + 1 + 1 + 1 + 1, _, rfl, rfl, ⟨(five w _ _ _ _ _).2.2.1, (five w _ _ _ _ _).2.2.2.1, (five w _ _ _ _ _).2.2.2.2, (five w _ _ _ _ _).1, (five w _ _ _ _ _).2.1, by omega, by omega, by omega⟩, by omega, ((((((Only.refl _ _).alloc _).alloc _).alloc _).alloc _).alloc _).drew⟩
          | exact ⟨w.heap.size + 1 + 1, w.heap.size + 1 + 1 + 1 + 1, w.heap.size + 1 + 1 + 1, _, rfl, rfl, ⟨(five w _ _ _ _ _).2.2.1, (five w _ _ _ _ _).2.2.2.2, (five w _ _ _ _ _).2.2.2.1, (five w _ _ _ _ _).1, (five w _ _ _ _ _).2.1, by omega, by omega, by omega⟩, by omega, ((((((Only.refl _ _).alloc _).alloc _).alloc _).alloc _).alloc _).drew⟩
  case rest =>
    obtain ⟨ob, fb, lb, W, hW, rfl, hS, hNE, hO⟩ := hcut
    subst hW
    have HNE : Hid (fb ≠ lb) := hNE
    clear hNE
    have HS : Hid (Ofs w W (.int .u8 4) (.int .u32 set) (.slice a K c) ob false fb lb n 0 0) := hS
    have HO : Hid (Only (fun _ => False) w W) := hO
    have r0 : W.cell? ⟨w.heap.size + 1, 0, none⟩ = some (.bool false) := cell_blk hS.rs
    have r1 : W.cell? ⟨w.heap.size + 1, 1, none⟩ = some (.slice none 0 0) := cell_blk hS.rs
    have r2 : W.cell? ⟨w.heap.size + 1, 2, none⟩ = some (.slice none 0 0) := cell_blk hS.rs
    have rf := fz_blk hS.rs
    have c0 : W.cell? ⟨ob, 0, none⟩ = some (.bool false) := cell_blk hS.nd
    have c1 : W.cell? ⟨ob, 1, none⟩ = some (.slice (some ⟨fb, 0, none⟩) n n) := cell_blk hS.nd
    have c2 : W.cell? ⟨ob, 2, none⟩ = some (.slice (some ⟨lb, 0, none⟩) n n) := cell_blk hS.nd
    have cf := fz_blk hS.nd
    have b0 : W.cell? ⟨w.heap.size, 0, none⟩ = some (.int .u8 4) := cell_blk hS.bx
    have b1 : W.cell? ⟨w.heap.size, 1, none⟩ = some (.int .u32 set) := cell_blk hS.bx
    have b2 : W.cell? ⟨w.heap.size, 2, none⟩ = some (.slice a K c) := cell_blk hS.bx
    have hob : ob < W.heap.size := (Array.getElem?_eq_some_iff.1 hS.nd).1
    have hobn := hS.ho
    have hbl : w.heap.size < W.heap.size := by omega
    have hrl : w.heap.size + 1 < W.heap.size := by omega
    have hne : ¬ w.heap.size + 1 = ob := by omega
    have hne2 : ¬ w.heap.size = ob := by omega
    have hne3 : ¬ ob = w.heap.size + 1 := by omega
    have hne4 : ¬ ob = w.heap.size := by omega
    have HZ1 : Hid (Frz B n rb w W) := Frz.of0 HO.out
    obtain ⟨kb, ko, op', set', a', n', c', rfl, hkl, d0, d1, d2, hTe⟩ := kid_at (i := 0) HL.out HF.out HZ1.out rfl
    have HC : Hid (Calls Try.prog 28 #[.pointer (some ⟨g, 0, none⟩), .agg #[.int .u8 op', .int .u32 set', .slice a' n' c'], .int .i64 (n : Int)] W (ofP W g B n vN q0 rb (Au.node kd p))) := HIH.out F g B n p vS vN q0 rb _ W hTe HF.out (HM.out.keep HO.out) (Nat.le_trans hB HZ1.out.1.size) HK.out hn
    simp only [Nat.zero_mul, Nat.add_zero] at d0 d1 d2
    clear hS hO hTe
    go_wp2_with (first | (go_at_call 28; have hc := HC.out; rw [HND.out] at hc; refine hc.mono ?_; clear hc; rintro e w2 ⟨fx, lx, vS2, rfl, hfx, hlx, hBf, hBl, hM2, hZ2⟩; have hS2 := HS.out.frz hZ2 HR.out; obtain ⟨HS2, HM2, HZ2⟩ := hS2.setAll (nd := ⟨xn, xf, xl⟩) hBf hBl (Nat.le_trans HZ1.out.1.size hfx) (Nat.le_trans HZ1.out.1.size hlx) hM2 (HZ1.out.trans hZ2) hB; obtain ⟨y0, y1, y2, yf, yl⟩ := hS2.nd.cs; obtain ⟨b0', b1', b2', hb3'⟩ := hS2.bxs; obtain ⟨r0', r1', r2', rf', rl'⟩ := hS2.rss; clear hfx hlx hBf hBl hM2 hZ2 hS2 c0 c1 c2 cf b0 b1 b2 r0 r1 r2 rf d0 d1 d2; unfold nodV) | (go_at_call 47; refine (link_any g B n p2 vS2 vN q0 rb lx n fx n xl xf _ HM2.out HS2.out.l HS2.out.f (fun i hi => by have := HR.out i hi; have := HS2.out.hl; omega) (fun i hi => by have := HR.out i hi; have := HS2.out.hf; omega) hn).mono ?_; rintro e w4 ⟨rfl, hM4, hZ4⟩; have hS4 := HS2.out.frz hZ4 HR.out; have HS4 : Hid (Ofs w w4 (.int .u8 4) (.int .u32 set) _ ob xn fx lx n xf xl) := hS4; have HM4 : Hid (Mkr w4 g B n (Au.chain p2 xl xf) vS2 vN q0 rb) := hM4; have HZ4 : Hid (Frz B n rb w w4) := HZ2.out.trans hZ4; obtain ⟨u0, u1, u2, uf, ul⟩ := hS4.nd.cs; obtain ⟨v0, v1, v2, vl⟩ := hS4.bxs; obtain ⟨s0, s1, s2, sf, sl⟩ := hS4.rss; clear hM4 hZ4 hS4))
    have HX := HS4.out.setB true
    obtain ⟨HY, HW⟩ := HS4.out.cellN HM4.out HZ4.out hB 0 (.bool true)
    refine bodyPost_ret (v := nodV true fx lx n) (results_cell_row rfl _ _ (w.heap.size + 1) 89 #[.bool true, .slice (some ⟨fx, 0, none⟩) n n, .slice (some ⟨lx, 0, none⟩) n n] (0, 0) _ rfl (Ofs.finR HX).1 Try.underlying89 rfl sz89) rfl ?_
    exact Ofs.fin (nd := ⟨true, xf, xl⟩) HX HY HW hB
set_option maxRecDepth 100000 in
set_option maxHeartbeats 8000000 in
theorem of_one5e (g B n : Nat) (p : Au.Pl) (vS vN : Value) (q0 : Nat) (rb : Nat → Nat) (set : Int) (a : Option Addr) (c : Nat) (w : World) (hM : Mkr w g B n p vS vN q0 rb) (hB : B ≤ w.heap.size) (hn : n ≤ 200) :
    Calls Try.prog 28 #[.pointer (some ⟨g, 0, none⟩), .agg #[.int .u8 5, .int .u32 set, .slice a 0 c], .int .i64 (n : Int)] w (ofP w g B n vN q0 rb (some (⟨false, 0, 0⟩, (Au.chain p 0 0)))) := by
  have HM : Hid (Mkr w g B n p vS vN q0 rb) := hM
  have HR : Hid (∀ i, i < n → rb i < w.heap.size) := fun i hi => (hM.rw i hi).lt
  clear hM
  have hmk := fun (w : World) => run_make_row' (P := Try.prog) 86 4 (.bool false) 1 Try.underlying86 info4 rfl .i64 .i64 n (by omega) (by omega) w
  go_enter Try.func28, Try.ntmps28
  go_wp2_with fail
  go_cut [7] from 13 to 17 (fun v wq => ∃ (ob fb lb : Nat) (W : World), W = wq ∧ v = .pointer (some ⟨ob, 0, none⟩) ∧ Ofs w W (.int .u8 5) (.int .u32 set) (.slice a 0 c) ob false fb lb n 0 0 ∧ fb ≠ lb ∧ Only (fun _ => False) w W)
  case first =>
    go_region_with fail
    all_goals
      go_wp2_with fail
      go_meet
      case rel =>
        rw [bA_made]
        first
          | exact ⟨w.heap.size + 1 + 1 + 1 + 1, w.heap.size + 1 + 1, w.heap.size + 1 + 1 + 1, _, rfl, rfl, ⟨(five w _ _ _ _ _).2.2.2.2, (five w _ _ _ _ _).2.2.1, (five w _ _ _ _ _).2.2.2.1, (five w _ _ _ _ _).1, (five w _ _ _ _ _).2.1, by omega, by omega, by omega⟩, by omega, ((((((Only.refl _ _).alloc _).alloc _).alloc _).alloc _).alloc _).drew⟩
          | exact ⟨w.heap.size + 1 + 1 + 1, w.heap.size + 1 + 1, w.heap.size + 1 + 1 + 1 + 1, _, rfl, rfl, ⟨(five w _ _ _ _ _).2.2.2.1, (five w _ _ _ _ _).2.2.1, (five w _ _ _ _ _).2.2.2.2, (five w _ _ _ _ _).1, (five w _ _ _ _ _).2.1, by omega, by omega, by omega⟩, by omega, ((((((Only.refl _ _).alloc _).alloc _).alloc _).alloc _).alloc _).drew⟩
          | exact ⟨w.heap.size + 1 + 1 + 1 + 1, w.heap.size + 1 + 1 + 1, w.heap.size + 1 + 1, _, rfl, rfl, ⟨(five w _ _ _ _ _).2.2.2.2, (five w _ _ _ _ _).2.2.2.1, (five w _ _ _ _ _).2.2.1, (five w _ _ _ _ _).1, (five w _ _ _ _ _).2.1, by omega, by omega, by omega⟩, by omega, ((((((Only.refl _ _).alloc _).alloc _).alloc _).alloc _).alloc _).drew⟩
          | exact ⟨w.heap.size + 1 + 1 + 1, w.heap.size + 1 + 1 + 1 + 1, w.heap.size + 1 + 1, _, rfl, rfl, ⟨(five w _ _ _ _ _).2.2.2.1, (five w _ _ _ _ _).2.2.2.2, (five w _ _ _ _ _).2.2.1, (five w _ _ _ _ _).1, (five w _ _ _ _ _).2.1, by omega, by omega, by omega⟩, by omega, ((((((Only.refl _ _).alloc _).alloc _).alloc _).alloc _).alloc _).drew⟩
          | exact ⟨w.heap.size + 1 + 1, w.heap.size + 1 + 1 + 1, w.heap.size + 1 + 1 + 1 + 1, _, rfl, rfl, ⟨(five w _ _ _ _ _).2.2.1, (five w _ _ _ _ _).2.2.2.1, (five w _ _ _ _ _).2.2.2.2, (five w _ _ _ _ _).1, (five w _ _ _ _ _).2.1, by omega, by omega, by omega⟩, by omega, ((((((Only.refl _ _).alloc _).alloc _).alloc _).alloc _).alloc _).drew⟩
          | exact ⟨w.heap.size + 1 + 1, w.heap.size + 1 + 1 + 1 + 1, w.heap.size + 1 + 1 + 1, _, rfl, rfl, ⟨(five w _ _ _ _ _).2.2.1, (five w _ _ _ _ _).2.2.2.2, (five w _ _ _ _ _).2.2.2.1, (five w _ _ _ _ _).1, (five w _ _ _ _ _).2.1, by omega, by omega, by omega⟩, by omega, ((((((Only.refl _ _).alloc _).alloc _).alloc _).alloc _).alloc _).drew⟩
  case rest =>
    obtain ⟨ob, fb, lb, W, hW, rfl, hS, hNE, hO⟩ := hcut
    subst hW
    have HNE : Hid (fb ≠ lb) := hNE
    clear hNE
    have HS : Hid (Ofs w W (.int .u8 5) (.int .u32 set) (.slice a 0 c) ob false fb lb n 0 0) := hS
    have HO : Hid (Only (fun _ => False) w W) := hO
    have r0 : W.cell? ⟨w.heap.size + 1, 0, none⟩ = some (.bool false) := cell_blk hS.rs
    have r1 : W.cell? ⟨w.heap.size + 1, 1, none⟩ = some (.slice none 0 0) := cell_blk hS.rs
    have r2 : W.cell? ⟨w.heap.size + 1, 2, none⟩ = some (.slice none 0 0) := cell_blk hS.rs
    have rf := fz_blk hS.rs
    have c0 : W.cell? ⟨ob, 0, none⟩ = some (.bool false) := cell_blk hS.nd
    have c1 : W.cell? ⟨ob, 1, none⟩ = some (.slice (some ⟨fb, 0, none⟩) n n) := cell_blk hS.nd
    have c2 : W.cell? ⟨ob, 2, none⟩ = some (.slice (some ⟨lb, 0, none⟩) n n) := cell_blk hS.nd
    have cf := fz_blk hS.nd
    have b0 : W.cell? ⟨w.heap.size, 0, none⟩ = some (.int .u8 5) := cell_blk hS.bx
    have b1 : W.cell? ⟨w.heap.size, 1, none⟩ = some (.int .u32 set) := cell_blk hS.bx
    have b2 : W.cell? ⟨w.heap.size, 2, none⟩ = some (.slice a 0 c) := cell_blk hS.bx
    have hob : ob < W.heap.size := (Array.getElem?_eq_some_iff.1 hS.nd).1
    have hobn := hS.ho
    have hbl : w.heap.size < W.heap.size := by omega
    have hrl : w.heap.size + 1 < W.heap.size := by omega
    have hne : ¬ w.heap.size + 1 = ob := by omega
    have hne2 : ¬ w.heap.size = ob := by omega
    have hne3 : ¬ ob = w.heap.size + 1 := by omega
    have hne4 : ¬ ob = w.heap.size := by omega
    have HM1 : Hid (Mkr W g B n p vS vN q0 rb) := HM.out.keep HO.out
    have HZ1 : Hid (Frz B n rb w W) := Frz.of0 HO.out
    clear hS hO
    go_wp2_with (first | (go_at_call 47; refine (link_any g B n p vS vN q0 rb lb n fb n 0 0 _ HM1.out HS.out.l HS.out.f (fun i hi => by have := HR.out i hi; have := HS.out.hl; omega) (fun i hi => by have := HR.out i hi; have := HS.out.hf; omega) hn).mono ?_; rintro e w4 ⟨rfl, hM4, hZ4⟩; have hS4 := HS.out.frz hZ4 HR.out; have HS4 : Hid (Ofs w w4 (.int .u8 5) (.int .u32 set) _ ob false fb lb n 0 0) := hS4; have HM4 : Hid (Mkr w4 g B n (Au.chain p 0 0) vS vN q0 rb) := hM4; have HZ4 : Hid (Frz B n rb w w4) := HZ1.out.trans hZ4; obtain ⟨u0, u1, u2, uf, ul⟩ := hS4.nd.cs; obtain ⟨v0, v1, v2, vl⟩ := hS4.bxs; obtain ⟨s0, s1, s2, sf, sl⟩ := hS4.rss; clear hM4 hZ4 hS4))
    refine bodyPost_ret (v := nodV false fb lb n) (results_cell_row rfl _ _ (w.heap.size + 1) 89 #[.bool false, .slice (some ⟨fb, 0, none⟩) n n, .slice (some ⟨lb, 0, none⟩) n n] (0, 0) _ rfl (Ofs.finR HS4.out).1 Try.underlying89 rfl sz89) rfl ?_
    exact Ofs.fin (nd := ⟨false, 0, 0⟩) HS4.out HM4.out HZ4.out hB
set_option maxRecDepth 100000 in
set_option maxHeartbeats 8000000 in
theorem of_one5 (F : Nat → Prop) (g B n : Nat) (p : Au.Pl) (vS vN : Value) (q0 : Nat) (rb : Nat → Nat) (set : Int) (kd : Ex) (kids : List Ex) (a : Option Addr) (c : Nat) (w : World) (ih : OfOk kd) (hL : Lf w F (kd :: kids) a c) (hF : ∀ b, F b → b < B) (hM : Mkr w g B n p vS vN q0 rb) (hB : B ≤ w.heap.size) (hn : n ≤ 200) (hk : p.sets.length + Au.cnt kd ≤ n) (xn : Bool) (xf xl : Nat) (p2 : Au.Pl) (hnd : Au.node kd p = some (⟨xn, xf, xl⟩, p2)) :
    Calls Try.prog 28 #[.pointer (some ⟨g, 0, none⟩), .agg #[.int .u8 5, .int .u32 set, .slice a (kd :: kids).length c], .int .i64 (n : Int)] w (ofP w g B n vN q0 rb (some (⟨xn, xf, xl⟩, (Au.chain p2 xl xf)))) := by
  have HM : Hid (Mkr w g B n p vS vN q0 rb) := hM
  have HR : Hid (∀ i, i < n → rb i < w.heap.size) := fun i hi => (hM.rw i hi).lt
  have HIH : Hid (OfOk kd) := ih
  have HL : Hid (Lf w F (kd :: kids) a c) := hL
  have HF : Hid (∀ b, F b → b < B) := hF
  have HK : Hid (p.sets.length + Au.cnt kd ≤ n) := hk
  have HND : Hid (Au.node kd p = some (⟨xn, xf, xl⟩, p2)) := hnd
  have hKm := hL.2.1
  obtain ⟨K, hKe⟩ : ∃ K, K = (kd :: kids).length := ⟨_, rfl⟩
  have hK0 : 0 < K := by rw [hKe]; simp
  rw [← hKe] at hKm ⊢
  unfold maxLen at hKm
  clear hM ih hL hF hk hKe hnd
  have hmk := fun (w : World) => run_make_row' (P := Try.prog) 86 4 (.bool false) 1 Try.underlying86 info4 rfl .i64 .i64 n (by omega) (by omega) w
  go_enter Try.func28, Try.ntmps28
  go_wp2_with fail
  go_cut [7] from 13 to 17 (fun v wq => ∃ (ob fb lb : Nat) (W : World), W = wq ∧ v = .pointer (some ⟨ob, 0, none⟩) ∧ Ofs w W (.int .u8 5) (.int .u32 set) (.slice a K c) ob false fb lb n 0 0 ∧ fb ≠ lb ∧ Only (fun _ => False) w W)
  case first =>
    go_region_with fail
    all_goals
      go_wp2_with fail
      go_meet
      case rel =>
        rw [bA_made]
        first
          | exact ⟨w.heap.size + 1 + 1 + 1 + 1, w.heap.size + 1 + 1, w.heap.size + 1 + 1 + 1, _, rfl, rfl, ⟨(five w _ _ _ _ _).2.2.2.2, (five w _ _ _ _ _).2.2.1, (five w _ _ _ _ _).2.2.2.1, (five w _ _ _ _ _).1, (five w _ _ _ _ _).2.1, by omega, by omega, by omega⟩, by omega, ((((((Only.refl _ _).alloc _).alloc _).alloc _).alloc _).alloc _).drew⟩
          | exact ⟨w.heap.size + 1 + 1 + 1, w.heap.size + 1 + 1, w.heap.size + 1 + 1 + 1 + 1, _, rfl, rfl, ⟨(five w _ _ _ _ _).2.2.2.1, (five w _ _ _ _ _).2.2.1, (five w _ _ _ _ _).2.2.2.2, (five w _ _ _ _ _).1, (five w _ _ _ _ _).2.1, by omega, by omega, by omega⟩, by omega, ((((((Only.refl _ _).alloc _).alloc _).alloc _).alloc _).alloc _).drew⟩
          | exact ⟨w.heap.size + 1 + 1 + 1 + 1, w.heap.size + 1 + 1 + 1, w.heap.size + 1 + 1, _, rfl, rfl, ⟨(five w _ _ _ _ _).2.2.2.2, (five w _ _ _ _ _).2.2.2.1, (five w _ _ _ _ _).2.2.1, (five w _ _ _ _ _).1, (five w _ _ _ _ _).2.1, by omega, by omega, by omega⟩, by omega, ((((((Only.refl _ _).alloc _).alloc _).alloc _).alloc _).alloc _).drew⟩
          | exact ⟨w.heap.size + 1 + 1 + 1, w.heap.size + 1 + 1 + 1 + 1, w.heap.size + 1 + 1, _, rfl, rfl, ⟨(five w _ _ _ _ _).2.2.2.1, (five w _ _ _ _ _).2.2.2.2, (five w _ _ _ _ _).2.2.1, (five w _ _ _ _ _).1, (five w _ _ _ _ _).2.1, by omega, by omega, by omega⟩, by omega, ((((((Only.refl _ _).alloc _).alloc _).alloc _).alloc _).alloc _).drew⟩
          | exact ⟨w.heap.size + 1 + 1, w.heap.size + 1 + 1 + 1, w.heap.size + 1 + 1 + 1 + 1, _, rfl, rfl, ⟨(five w _ _ _ _ _).2.2.1, (five w _ _ _ _ _).2.2.2.1, (five w _ _ _ _ _).2.2.2.2, (five w _ _ _ _ _).1, (five w _ _ _ _ _).2.1, by omega, by omega, by omega⟩, by omega, ((((((Only.refl _ _).alloc _).alloc _).alloc _).alloc _).alloc _).drew⟩
          | exact ⟨w.heap.size + 1 + 1, w.heap.size + 1 + 1 + 1 + 1, w.heap.size + 1 + 1 + 1, _, rfl, rfl, ⟨(five w _ _ _ _ _).2.2.1, (five w _ _ _ _ _).2.2.2.2, (five w _ _ _ _ _).2.2.2.1, (five w _ _ _ _ _).1, (five w _ _ _ _ _).2.1, by omega, by omega, by omega⟩, by omega, ((((((Only.refl _ _).alloc _).alloc _).alloc _).alloc _).alloc _).drew⟩
  case rest =>
    obtain ⟨ob, fb, lb, W, hW, rfl, hS, hNE, hO⟩ := hcut
    subst hW
    have HNE : Hid (fb ≠ lb) := hNE
    clear hNE
    have HS : Hid (Ofs w W (.int .u8 5) (.int .u32 set) (.slice a K c) ob false fb lb n 0 0) := hS
    have HO : Hid (Only (fun _ => False) w W) := hO
    have r0 : W.cell? ⟨w.heap.size + 1, 0, none⟩ = some (.bool false) := cell_blk hS.rs
    have r1 : W.cell? ⟨w.heap.size + 1, 1, none⟩ = some (.slice none 0 0) := cell_blk hS.rs
    have r2 : W.cell? ⟨w.heap.size + 1, 2, none⟩ = some (.slice none 0 0) := cell_blk hS.rs
    have rf := fz_blk hS.rs
    have c0 : W.cell? ⟨ob, 0, none⟩ = some (.bool false) := cell_blk hS.nd
    have c1 : W.cell? ⟨ob, 1, none⟩ = some (.slice (some ⟨fb, 0, none⟩) n n) := cell_blk hS.nd
    have c2 : W.cell? ⟨ob, 2, none⟩ = some (.slice (some ⟨lb, 0, none⟩) n n) := cell_blk hS.nd
    have cf := fz_blk hS.nd
    have b0 : W.cell? ⟨w.heap.size, 0, none⟩ = some (.int .u8 5) := cell_blk hS.bx
    have b1 : W.cell? ⟨w.heap.size, 1, none⟩ = some (.int .u32 set) := cell_blk hS.bx
    have b2 : W.cell? ⟨w.heap.size, 2, none⟩ = some (.slice a K c) := cell_blk hS.bx
    have hob : ob < W.heap.size := (Array.getElem?_eq_some_iff.1 hS.nd).1
    have hobn := hS.ho
    have hbl : w.heap.size < W.heap.size := by omega
    have hrl : w.heap.size + 1 < W.heap.size := by omega
    have hne : ¬ w.heap.size + 1 = ob := by omega
    have hne2 : ¬ w.heap.size = ob := by omega
    have hne3 : ¬ ob = w.heap.size + 1 := by omega
    have hne4 : ¬ ob = w.heap.size := by omega
    have HZ1 : Hid (Frz B n rb w W) := Frz.of0 HO.out
    obtain ⟨kb, ko, op', set', a', n', c', rfl, hkl, d0, d1, d2, hTe⟩ := kid_at (i := 0) HL.out HF.out HZ1.out rfl
    have HC : Hid (Calls Try.prog 28 #[.pointer (some ⟨g, 0, none⟩), .agg #[.int .u8 op', .int .u32 set', .slice a' n' c'], .int .i64 (n : Int)] W (ofP W g B n vN q0 rb (Au.node kd p))) := HIH.out F g B n p vS vN q0 rb _ W hTe HF.out (HM.out.keep HO.out) (Nat.le_trans hB HZ1.out.1.size) HK.out hn
    simp only [Nat.zero_mul, Nat.add_zero] at d0 d1 d2
    clear hS hO hTe
    go_wp2_with (first | (go_at_call 28; have hc := HC.out; rw [HND.out] at hc; refine hc.mono ?_; clear hc; rintro e w2 ⟨fx, lx, vS2, rfl, hfx, hlx, hBf, hBl, hM2, hZ2⟩; have hS2 := HS.out.frz hZ2 HR.out; obtain ⟨HS2, HM2, HZ2⟩ := hS2.setAll (nd := ⟨xn, xf, xl⟩) hBf hBl (Nat.le_trans HZ1.out.1.size hfx) (Nat.le_trans HZ1.out.1.size hlx) hM2 (HZ1.out.trans hZ2) hB; obtain ⟨y0, y1, y2, yf, yl⟩ := hS2.nd.cs; obtain ⟨b0', b1', b2', hb3'⟩ := hS2.bxs; obtain ⟨r0', r1', r2', rf', rl'⟩ := hS2.rss; clear hfx hlx hBf hBl hM2 hZ2 hS2 c0 c1 c2 cf b0 b1 b2 r0 r1 r2 rf d0 d1 d2; unfold nodV) | (go_at_call 47; refine (link_any g B n p2 vS2 vN q0 rb lx n fx n xl xf _ HM2.out HS2.out.l HS2.out.f (fun i hi => by have := HR.out i hi; have := HS2.out.hl; omega) (fun i hi => by have := HR.out i hi; have := HS2.out.hf; omega) hn).mono ?_; rintro e w4 ⟨rfl, hM4, hZ4⟩; have hS4 := HS2.out.frz hZ4 HR.out; have HS4 : Hid (Ofs w w4 (.int .u8 5) (.int .u32 set) _ ob xn fx lx n xf xl) := hS4; have HM4 : Hid (Mkr w4 g B n (Au.chain p2 xl xf) vS2 vN q0 rb) := hM4; have HZ4 : Hid (Frz B n rb w w4) := HZ2.out.trans hZ4; obtain ⟨u0, u1, u2, uf, ul⟩ := hS4.nd.cs; obtain ⟨v0, v1, v2, vl⟩ := hS4.bxs; obtain ⟨s0, s1, s2, sf, sl⟩ := hS4.rss; clear hM4 hZ4 hS4))
    refine bodyPost_ret (v := nodV xn fx lx n) (results_cell_row rfl _ _ (w.heap.size + 1) 89 #[.bool xn, .slice (some ⟨fx, 0, none⟩) n n, .slice (some ⟨lx, 0, none⟩) n n] (0, 0) _ rfl (Ofs.finR HS4.out).1 Try.underlying89 rfl sz89) rfl ?_
    exact Ofs.fin (nd := ⟨xn, xf, xl⟩) HS4.out HM4.out HZ4.out hB
set_option maxRecDepth 100000 in
set_option maxHeartbeats 8000000 in
theorem of_one6e (g B n : Nat) (p : Au.Pl) (vS vN : Value) (q0 : Nat) (rb : Nat → Nat) (set : Int) (a : Option Addr) (c : Nat) (w : World) (hM : Mkr w g B n p vS vN q0 rb) (hB : B ≤ w.heap.size) (hn : n ≤ 200) :
    Calls Try.prog 28 #[.pointer (some ⟨g, 0, none⟩), .agg #[.int .u8 6, .int .u32 set, .slice a 0 c], .int .i64 (n : Int)] w (ofP w g B n vN q0 rb (some (⟨true, 0, 0⟩, p))) := by
  have HM : Hid (Mkr w g B n p vS vN q0 rb) := hM
  have HR : Hid (∀ i, i < n → rb i < w.heap.size) := fun i hi => (hM.rw i hi).lt
  clear hM
  have hmk := fun (w : World) => run_make_row' (P := Try.prog) 86 4 (.bool false) 1 Try.underlying86 info4 rfl .i64 .i64 n (by omega) (by omega) w
  go_enter Try.func28, Try.ntmps28
  go_wp2_with fail
  go_cut [7] from 13 to 17 (fun v wq => ∃ (ob fb lb : Nat) (W : World), W = wq ∧ v = .pointer (some ⟨ob, 0, none⟩) ∧ Ofs w W (.int .u8 6) (.int .u32 set) (.slice a 0 c) ob false fb lb n 0 0 ∧ fb ≠ lb ∧ Only (fun _ => False) w W)
  case first =>
    go_region_with fail
    all_goals
      go_wp2_with fail
      go_meet
      case rel =>
        rw [bA_made]
        first
          | exact ⟨w.heap.size + 1 + 1 + 1 + 1, w.heap.size + 1 + 1, w.heap.size + 1 + 1 + 1, _, rfl, rfl, ⟨(five w _ _ _ _ _).2.2.2.2, (five w _ _ _ _ _).2.2.1, (five w _ _ _ _ _).2.2.2.1, (five w _ _ _ _ _).1, (five w _ _ _ _ _).2.1, by omega, by omega, by omega⟩, by omega, ((((((Only.refl _ _).alloc _).alloc _).alloc _).alloc _).alloc _).drew⟩
          | exact ⟨w.heap.size + 1 + 1 + 1, w.heap.size + 1 + 1, w.heap.size + 1 + 1 + 1 + 1, _, rfl, rfl, ⟨(five w _ _ _ _ _).2.2.2.1, (five w _ _ _ _ _).2.2.1, (five w _ _ _ _ _).2.2.2.2, (five w _ _ _ _ _).1, (five w _ _ _ _ _).2.1, by omega, by omega, by omega⟩, by omega, ((((((Only.refl _ _).alloc _).alloc _).alloc _).alloc _).alloc _).drew⟩
          | exact ⟨w.heap.size + 1 + 1 + 1 + 1, w.heap.size + 1 + 1 + 1, w.heap.size + 1 + 1, _, rfl, rfl, ⟨(five w _ _ _ _ _).2.2.2.2, (five w _ _ _ _ _).2.2.2.1, (five w _ _ _ _ _).2.2.1, (five w _ _ _ _ _).1, (five w _ _ _ _ _).2.1, by omega, by omega, by omega⟩, by omega, ((((((Only.refl _ _).alloc _).alloc _).alloc _).alloc _).alloc _).drew⟩
          | exact ⟨w.heap.size + 1 + 1 + 1, w.heap.size + 1 + 1 + 1 + 1, w.heap.size + 1 + 1, _, rfl, rfl, ⟨(five w _ _ _ _ _).2.2.2.1, (five w _ _ _ _ _).2.2.2.2, (five w _ _ _ _ _).2.2.1, (five w _ _ _ _ _).1, (five w _ _ _ _ _).2.1, by omega, by omega, by omega⟩, by omega, ((((((Only.refl _ _).alloc _).alloc _).alloc _).alloc _).alloc _).drew⟩
          | exact ⟨w.heap.size + 1 + 1, w.heap.size + 1 + 1 + 1, w.heap.size + 1 + 1 + 1 + 1, _, rfl, rfl, ⟨(five w _ _ _ _ _).2.2.1, (five w _ _ _ _ _).2.2.2.1, (five w _ _ _ _ _).2.2.2.2, (five w _ _ _ _ _).1, (five w _ _ _ _ _).2.1, by omega, by omega, by omega⟩, by omega, ((((((Only.refl _ _).alloc _).alloc _).alloc _).alloc _).alloc _).drew⟩
          | exact ⟨w.heap.size + 1 + 1, w.heap.size + 1 + 1 + 1 + 1, w.heap.size + 1 + 1 + 1, _, rfl, rfl, ⟨(five w _ _ _ _ _).2.2.1, (five w _ _ _ _ _).2.2.2.2, (five w _ _ _ _ _).2.2.2.1, (five w _ _ _ _ _).1, (five w _ _ _ _ _).2.1, by omega, by omega, by omega⟩, by omega, ((((((Only.refl _ _).alloc _).alloc _).alloc _).alloc _).alloc _).drew⟩
  case rest =>
    obtain ⟨ob, fb, lb, W, hW, rfl, hS, hNE, hO⟩ := hcut
    subst hW
    have HNE : Hid (fb ≠ lb) := hNE
    clear hNE
    have HS : Hid (Ofs w W (.int .u8 6) (.int .u32 set) (.slice a 0 c) ob false fb lb n 0 0) := hS
    have HO : Hid (Only (fun _ => False) w W) := hO
    have r0 : W.cell? ⟨w.heap.size + 1, 0, none⟩ = some (.bool false) := cell_blk hS.rs
    have r1 : W.cell? ⟨w.heap.size + 1, 1, none⟩ = some (.slice none 0 0) := cell_blk hS.rs
    have r2 : W.cell? ⟨w.heap.size + 1, 2, none⟩ = some (.slice none 0 0) := cell_blk hS.rs
    have rf := fz_blk hS.rs
    have c0 : W.cell? ⟨ob, 0, none⟩ = some (.bool false) := cell_blk hS.nd
    have c1 : W.cell? ⟨ob, 1, none⟩ = some (.slice (some ⟨fb, 0, none⟩) n n) := cell_blk hS.nd
    have c2 : W.cell? ⟨ob, 2, none⟩ = some (.slice (some ⟨lb, 0, none⟩) n n) := cell_blk hS.nd
    have cf := fz_blk hS.nd
    have b0 : W.cell? ⟨w.heap.size, 0, none⟩ = some (.int .u8 6) := cell_blk hS.bx
    have b1 : W.cell? ⟨w.heap.size, 1, none⟩ = some (.int .u32 set) := cell_blk hS.bx
    have b2 : W.cell? ⟨w.heap.size, 2, none⟩ = some (.slice a 0 c) := cell_blk hS.bx
    have hob : ob < W.heap.size := (Array.getElem?_eq_some_iff.1 hS.nd).1
    have hobn := hS.ho
    have hbl : w.heap.size < W.heap.size := by omega
    have hrl : w.heap.size + 1 < W.heap.size := by omega
    have hne : ¬ w.heap.size + 1 = ob := by omega
    have hne2 : ¬ w.heap.size = ob := by omega
    have hne3 : ¬ ob = w.heap.size + 1 := by omega
    have hne4 : ¬ ob = w.heap.size := by omega
    have HM1 : Hid (Mkr W g B n p vS vN q0 rb) := HM.out.keep HO.out
    have HZ1 : Hid (Frz B n rb w W) := Frz.of0 HO.out
    clear hS hO
    go_wp2_with fail
    have HX := HS.out.setB true
    obtain ⟨HY, HW⟩ := HS.out.cellN HM1.out HZ1.out hB 0 (.bool true)
    refine bodyPost_ret (v := nodV true fb lb n) (results_cell_row rfl _ _ (w.heap.size + 1) 89 #[.bool true, .slice (some ⟨fb, 0, none⟩) n n, .slice (some ⟨lb, 0, none⟩) n n] (0, 0) _ rfl (Ofs.finR HX).1 Try.underlying89 rfl sz89) rfl ?_
    exact Ofs.fin (nd := ⟨true, 0, 0⟩) HX HY HW hB
set_option maxRecDepth 100000 in
set_option maxHeartbeats 8000000 in
theorem of_one6 (F : Nat → Prop) (g B n : Nat) (p : Au.Pl) (vS vN : Value) (q0 : Nat) (rb : Nat → Nat) (set : Int) (kd : Ex) (kids : List Ex) (a : Option Addr) (c : Nat) (w : World) (ih : OfOk kd) (hL : Lf w F (kd :: kids) a c) (hF : ∀ b, F b → b < B) (hM : Mkr w g B n p vS vN q0 rb) (hB : B ≤ w.heap.size) (hn : n ≤ 200) (hk : p.sets.length + Au.cnt kd ≤ n) (xn : Bool) (xf xl : Nat) (p2 : Au.Pl) (hnd : Au.node kd p = some (⟨xn, xf, xl⟩, p2)) :
    Calls Try.prog 28 #[.pointer (some ⟨g, 0, none⟩), .agg #[.int .u8 6, .int .u32 set, .slice a (kd :: kids).length c], .int .i64 (n : Int)] w (ofP w g B n vN q0 rb (some (⟨true, xf, xl⟩, p2))) := by
  have HM : Hid (Mkr w g B n p vS vN q0 rb) := hM
  have HR : Hid (∀ i, i < n → rb i < w.heap.size) := fun i hi => (hM.rw i hi).lt
  have HIH : Hid (OfOk kd) := ih
  have HL : Hid (Lf w F (kd :: kids) a c) := hL
  have HF : Hid (∀ b, F b → b < B) := hF
  have HK : Hid (p.sets.length + Au.cnt kd ≤ n) := hk
  have HND : Hid (Au.node kd p = some (⟨xn, xf, xl⟩, p2)) := hnd
  have hKm := hL.2.1
  obtain ⟨K, hKe⟩ : ∃ K, K = (kd :: kids).length := ⟨_, rfl⟩
  have hK0 : 0 < K := by rw [hKe]; simp
  rw [← hKe] at hKm ⊢
  unfold maxLen at hKm
  clear hM ih hL hF hk hKe hnd
  have hmk := fun (w : World) => run_make_row' (P := Try.prog) 86 4 (.bool false) 1 Try.underlying86 info4 rfl .i64 .i64 n (by omega) (by omega) w
  go_enter Try.func28, Try.ntmps28
  go_wp2_with fail
  go_cut [7] from 13 to 17 (fun v wq => ∃ (ob fb lb : Nat) (W : World), W = wq ∧ v = .pointer (some ⟨ob, 0, none⟩) ∧ Ofs w W (.int .u8 6) (.int .u32 set) (.slice a K c) ob false fb lb n 0 0 ∧ fb ≠ lb ∧ Only (fun _ => False) w W)
  case first =>
    go_region_with fail
    all_goals
      go_wp2_with fail
      go_meet
      case rel =>
        rw [bA_made]
        first
          | exact ⟨w.heap.size + 1 + 1 + 1 + 1, w.heap.size + 1 + 1, w.heap.size + 1 + 1 + 1, _, rfl, rfl, ⟨(five w _ _ _ _ _).2.2.2.2, (five w _ _ _ _ _).2.2.1, (five w _ _ _ _ _).2.2.2.1, (five w _ _ _ _ _).1, (five w _ _ _ _ _).2.1, by omega, by omega, by omega⟩, by omega, ((((((Only.refl _ _).alloc _).alloc _).alloc _).alloc _).alloc _).drew⟩
          | exact ⟨w.heap.size + 1 + 1 + 1, w.heap.size + 1 + 1, w.heap.size + 1 + 1 + 1 + 1, _, rfl, rfl, ⟨(five w _ _ _ _ _).2.2.2.1, (five w _ _ _ _ _).2.2.1, (five w _ _ _ _ _).2.2.2.2, (five w _ _ _ _ _).1, (five w _ _ _ _ _).2.1, by omega, by omega, by omega⟩, by omega, ((((((Only.refl _ _).alloc _).alloc _).alloc _).alloc _).alloc _).drew⟩
          | exact ⟨w.heap.size + 1 + 1 + 1 + 1, w.heap.size + 1 + 1 + 1, w.heap.size + 1 + 1, _, rfl, rfl, ⟨(five w _ _ _ _ _).2.2.2.2, (five w _ _ _ _ _).2.2.2.1, (five w _ _ _ _ _).2.2.1, (five w _ _ _ _ _).1, (five w _ _ _ _ _).2.1, by omega, by omega, by omega⟩, by omega, ((((((Only.refl _ _).alloc _).alloc _).alloc _).alloc _).alloc _).drew⟩
          | exact ⟨w.heap.size + 1 + 1 + 1, w.heap.size + 1 + 1 + 1 + 1, w.heap.size + 1 + 1, _, rfl, rfl, ⟨(five w _ _ _ _ _).2.2.2.1, (five w _ _ _ _ _).2.2.2.2, (five w _ _ _ _ _).2.2.1, (five w _ _ _ _ _).1, (five w _ _ _ _ _).2.1, by omega, by omega, by omega⟩, by omega, ((((((Only.refl _ _).alloc _).alloc _).alloc _).alloc _).alloc _).drew⟩
          | exact ⟨w.heap.size + 1 + 1, w.heap.size + 1 + 1 + 1, w.heap.size + 1 + 1 + 1 + 1, _, rfl, rfl, ⟨(five w _ _ _ _ _).2.2.1, (five w _ _ _ _ _).2.2.2.1, (five w _ _ _ _ _).2.2.2.2, (five w _ _ _ _ _).1, (five w _ _ _ _ _).2.1, by omega, by omega, by omega⟩, by omega, ((((((Only.refl _ _).alloc _).alloc _).alloc _).alloc _).alloc _).drew⟩
          | exact ⟨w.heap.size + 1 + 1, w.heap.size + 1 + 1 + 1 + 1, w.heap.size + 1 + 1 + 1, _, rfl, rfl, ⟨(five w _ _ _ _ _).2.2.1, (five w _ _ _ _ _).2.2.2.2, (five w _ _ _ _ _).2.2.2.1, (five w _ _ _ _ _).1, (five w _ _ _ _ _).2.1, by omega, by omega, by omega⟩, by omega, ((((((Only.refl _ _).alloc _).alloc _).alloc _).alloc _).alloc _).drew⟩
  case rest =>
    obtain ⟨ob, fb, lb, W, hW, rfl, hS, hNE, hO⟩ := hcut
    subst hW
    have HNE : Hid (fb ≠ lb) := hNE
    clear hNE
    have HS : Hid (Ofs w W (.int .u8 6) (.int .u32 set) (.slice a K c) ob false fb lb n 0 0) := hS
    have HO : Hid (Only (fun _ => False) w W) := hO
    have r0 : W.cell? ⟨w.heap.size + 1, 0, none⟩ = some (.bool false) := cell_blk hS.rs
    have r1 : W.cell? ⟨w.heap.size + 1, 1, none⟩ = some (.slice none 0 0) := cell_blk hS.rs
    have r2 : W.cell? ⟨w.heap.size + 1, 2, none⟩ = some (.slice none 0 0) := cell_blk hS.rs
    have rf := fz_blk hS.rs
    have c0 : W.cell? ⟨ob, 0, none⟩ = some (.bool false) := cell_blk hS.nd
    have c1 : W.cell? ⟨ob, 1, none⟩ = some (.slice (some ⟨fb, 0, none⟩) n n) := cell_blk hS.nd
    have c2 : W.cell? ⟨ob, 2, none⟩ = some (.slice (some ⟨lb, 0, none⟩) n n) := cell_blk hS.nd
    have cf := fz_blk hS.nd
    have b0 : W.cell? ⟨w.heap.size, 0, none⟩ = some (.int .u8 6) := cell_blk hS.bx
    have b1 : W.cell? ⟨w.heap.size, 1, none⟩ = some (.int .u32 set) := cell_blk hS.bx
    have b2 : W.cell? ⟨w.heap.size, 2, none⟩ = some (.slice a K c) := cell_blk hS.bx
    have hob : ob < W.heap.size := (Array.getElem?_eq_some_iff.1 hS.nd).1
    have hobn := hS.ho
    have hbl : w.heap.size < W.heap.size := by omega
    have hrl : w.heap.size + 1 < W.heap.size := by omega
    have hne : ¬ w.heap.size + 1 = ob := by omega
    have hne2 : ¬ w.heap.size = ob := by omega
    have hne3 : ¬ ob = w.heap.size + 1 := by omega
    have hne4 : ¬ ob = w.heap.size := by omega
    have HZ1 : Hid (Frz B n rb w W) := Frz.of0 HO.out
    obtain ⟨kb, ko, op', set', a', n', c', rfl, hkl, d0, d1, d2, hTe⟩ := kid_at (i := 0) HL.out HF.out HZ1.out rfl
    have HC : Hid (Calls Try.prog 28 #[.pointer (some ⟨g, 0, none⟩), .agg #[.int .u8 op', .int .u32 set', .slice a' n' c'], .int .i64 (n : Int)] W (ofP W g B n vN q0 rb (Au.node kd p))) := HIH.out F g B n p vS vN q0 rb _ W hTe HF.out (HM.out.keep HO.out) (Nat.le_trans hB HZ1.out.1.size) HK.out hn
    simp only [Nat.zero_mul, Nat.add_zero] at d0 d1 d2
    clear hS hO hTe
    go_wp2_with (first | (go_at_call 28; have hc := HC.out; rw [HND.out] at hc; refine hc.mono ?_; clear hc; rintro e w2 ⟨fx, lx, vS2, rfl, hfx, hlx, hBf, hBl, hM2, hZ2⟩; have hS2 := HS.out.frz hZ2 HR.out; obtain ⟨HS2, HM2, HZ2⟩ := hS2.setAll (nd := ⟨xn, xf, xl⟩) hBf hBl (Nat.le_trans HZ1.out.1.size hfx) (Nat.le_trans HZ1.out.1.size hlx) hM2 (HZ1.out.trans hZ2) hB; obtain ⟨y0, y1, y2, yf, yl⟩ := hS2.nd.cs; obtain ⟨b0', b1', b2', hb3'⟩ := hS2.bxs; obtain ⟨r0', r1', r2', rf', rl'⟩ := hS2.rss; clear hfx hlx hBf hBl hM2 hZ2 hS2 c0 c1 c2 cf b0 b1 b2 r0 r1 r2 rf d0 d1 d2; unfold nodV))
    have HX := HS2.out.setB true
    obtain ⟨HY, HW⟩ := HS2.out.cellN HM2.out HZ2.out hB 0 (.bool true)
    refine bodyPost_ret (v := nodV true fx lx n) (results_cell_row rfl _ _ (w.heap.size + 1) 89 #[.bool true, .slice (some ⟨fx, 0, none⟩) n n, .slice (some ⟨lx, 0, none⟩) n n] (0, 0) _ rfl (Ofs.finR HX).1 Try.underlying89 rfl sz89) rfl ?_
    exact Ofs.fin (nd := ⟨true, xf, xl⟩) HX HY HW hB
theorem of_step (op set : Int) (kids : List Ex) (ih : ∀ k ∈ kids, OfOk k) : OfOk (.mk op set kids) := by
  intro F g B n p vS vN q0 rb v w hT hF hM hB hk hn
  obtain ⟨a, cap, rfl, hs0, hs1, hL⟩ := hT.kids
  unfold Au.node
  unfold Au.cnt at hk
  by_cases o1 : op = 1
  · subst o1
    rw [if_pos rfl] at hk ⊢
    rw [if_neg (by omega)]
    exact of_set g B n p vS vN q0 rb set a _ cap w hM hB hn (by omega)
  rw [if_neg o1] at hk ⊢
  by_cases o2 : op = 2
  · subst o2
    rw [if_pos (Or.inl rfl)] at hk
    rw [if_pos rfl]
    exact of_seq F g B n p vS vN q0 rb set kids a cap w ih hL hF hM hB hn hk
  rw [if_neg o2]
  by_cases o3 : op = 3
  · subst o3
    rw [if_pos (Or.inr rfl)] at hk
    rw [if_pos rfl]
    exact of_alt F g B n p vS vN q0 rb set kids a cap w ih hL hF hM hB hn hk
  rw [if_neg o3]
  rw [if_neg (show ¬ (op = 2 ∨ op = 3) by omega)] at hk
  have hone : op = 4 ∨ op = 5 ∨ op = 6 → (∃ x p1, Au.one kids p = some (x, p1)) := fun h => by
    rw [if_pos h] at hk
    cases kids with
    | nil => exact ⟨_, _, rfl⟩
    | cons kd ks =>
      have h := Au.node_cnt kd p (by simp only [Au.cnt1] at hk; omega)
      simp only [Au.one]
      simp only [Au.cnt1] at hk
      cases hnd : Au.node kd p with
      | none => rw [hnd] at h; simp only at h; omega
      | some r => exact ⟨r.1, r.2, rfl⟩
  by_cases o4 : op = 4
  · subst o4
    rw [if_pos rfl]
    rw [if_pos (by omega)] at hk
    obtain ⟨⟨xn, xf, xl⟩, p1, hx⟩ := hone (by omega)
    rw [hx]
    cases kids with
    | nil =>
      simp only [Au.one] at hx
      injection hx with hx
      injection hx with hx hp
      injection hx with h1 h2 h3
      subst h1 h2 h3 hp
      exact of_one4e g B n p vS vN q0 rb set a cap w hM hB hn
    | cons kd ks =>
      simp only [Au.one] at hx
      simp only [Au.cnt1] at hk
      exact of_one4 F g B n p vS vN q0 rb set kd ks a cap w (ih kd (by simp)) hL hF hM hB hn hk xn xf xl p1 hx
  rw [if_neg o4]
  by_cases o5 : op = 5
  · subst o5
    rw [if_pos rfl]
    rw [if_pos (by omega)] at hk
    obtain ⟨⟨xn, xf, xl⟩, p1, hx⟩ := hone (by omega)
    rw [hx]
    cases kids with
    | nil =>
      simp only [Au.one] at hx
      injection hx with hx
      injection hx with hx hp
      injection hx with h1 h2 h3
      subst h1 h2 h3 hp
      exact of_one5e g B n p vS vN q0 rb set a cap w hM hB hn
    | cons kd ks =>
      simp only [Au.one] at hx
      simp only [Au.cnt1] at hk
      exact of_one5 F g B n p vS vN q0 rb set kd ks a cap w (ih kd (by simp)) hL hF hM hB hn hk xn xf xl p1 hx
  rw [if_neg o5]
  by_cases o6 : op = 6
  · subst o6
    rw [if_pos rfl]
    rw [if_pos (by omega)] at hk
    obtain ⟨⟨xn, xf, xl⟩, p1, hx⟩ := hone (by omega)
    rw [hx]
    cases kids with
    | nil =>
      simp only [Au.one] at hx
      injection hx with hx
      injection hx with hx hp
      injection hx with h1 h2 h3
      subst h1 h2 h3 hp
      exact of_one6e g B n p vS vN q0 rb set a cap w hM hB hn
    | cons kd ks =>
      simp only [Au.one] at hx
      simp only [Au.cnt1] at hk
      exact of_one6 F g B n p vS vN q0 rb set kd ks a cap w (ih kd (by simp)) hL hF hM hB hn hk xn xf xl p1 hx
  rw [if_neg o6]
  exact of_other g B n p vS vN q0 rb op set a _ cap w hM hB hn (by omega)
theorem of_any : ∀ (e : Ex), OfOk e := by
  intro e
  apply Ex.rec (motive_1 := fun e => OfOk e) (motive_2 := fun es => ∀ k ∈ es, OfOk k)
  · exact fun op set kids ih => of_step op set kids ih
  · exact fun k hk => absurd hk (by simp)
  · intro e es h1 h2 k hk
    rcases List.mem_cons.1 hk with rfl | hk
    · exact h1
    · exact h2 k hk
end Go.Proofs.Ytfbcijnacbfjpaa
namespace Go.Proofs.Ytfbcijnacbfjpaa
open Go.RowKit Go.Maps
set_option linter.unusedVariables false
set_option linter.unusedSimpArgs false
open Rl (Ex)
mutual
/-- no kind of an expression is below 0. -/
def Nn : Ex → Prop
  | .mk op _ kids => 0 ≤ op ∧ Nns kids
def Nns : List Ex → Prop
  | [] => True
  | e :: es => Nn e ∧ Nns es
end
theorem Nns.mem : ∀ {es : List Ex} {e : Ex}, Nns es → e ∈ es → Nn e
  | e0 :: es, e, h, hm => by
    unfold Nns at h
    rcases List.mem_cons.1 hm with rfl | hm
    · exact h.1
    · exact Nns.mem h.2 hm
def CntOk (e : Ex) : Prop := ∀ (F : Nat → Prop) (v : Value) (w : World), Te w F e v → Nn e → Au.cnt e ≤ 1000000000000000 →
    Calls Try.prog 46 #[v] w fun e' w' => e' = .returned (.int .i64 (Au.cnt e : Int)) ∧ Only (fun _ => False) w w'
theorem cnts_take : ∀ (es : List Ex) (i : Nat) (e : Ex), es[i]? = some e → Au.cnts (es.take (i + 1)) = Au.cnts (es.take i) + Au.cnt e
  | e0 :: es, 0, e, h => by
    injection h with h
    subst h
    simp [Au.cnts]
  | e0 :: es, i + 1, e, h => by
    have := cnts_take es i e (by simpa using h)
    simp only [List.take_succ_cons, Au.cnts]
    omega
theorem cnts_take_le : ∀ (es : List Ex) (i : Nat), Au.cnts (es.take i) ≤ Au.cnts es
  | [], i => by simp
  | e :: es, 0 => by simp [Au.cnts]
  | e :: es, i + 1 => by
    have := cnts_take_le es i
    simp only [List.take_succ_cons, Au.cnts]
    omega
theorem cnt1_take (es : List Ex) : Au.cnt1 es = Au.cnts (es.take 1) := by
  cases es with
  | nil => rfl
  | cons e es => simp [Au.cnt1, Au.cnts]
theorem kid_at0 {w W : World} {F : Nat → Prop} {kids : List Ex} {a : Option Addr} {c : Nat} (hL : Lf w F kids a c) (ho : Only (fun _ => False) w W) {i : Nat} {kd : Ex} (hi : kids[i]? = some kd) :
    ∃ kb ko op set a' n' c', a = some ⟨kb, ko, none⟩ ∧ kb < W.heap.size ∧ W.cell? ⟨kb, ko + i * 3, none⟩ = some (.int .u8 op) ∧ W.cell? ⟨kb, ko + i * 3 + 1, none⟩ = some (.int .u32 set) ∧ W.cell? ⟨kb, ko + i * 3 + 2, none⟩ = some (.slice a' n' c') ∧ Te W F kd (.agg #[.int .u8 op, .int .u32 set, .slice a' n' c']) := by
  obtain ⟨kb, ko, rfl, hFb, hTes⟩ := hL.2.2 (by intro e; rw [e] at hi; simp at hi)
  obtain ⟨o0, s0, k0, d0, d1, d2, hTe⟩ := Tes.get' kids kb ko i kd hTes hi
  have hKp : Kp w W F := Kp.only ho (fun b hb h => h)
  obtain ⟨op, set, a', n', c', hv⟩ : ∃ op set a' n' c', Value.agg #[o0, s0, k0] = .agg #[.int .u8 op, .int .u32 set, .slice a' n' c'] := by
    obtain ⟨o, s, kids⟩ := kd
    obtain ⟨a, cap, h, _⟩ := hTe.kids
    exact ⟨o, s, a, _, cap, h⟩
  simp only [Value.agg.injEq, Array.mk.injEq, List.cons.injEq, and_true] at hv
  obtain ⟨rfl, rfl, rfl⟩ := hv
  exact ⟨kb, ko, op, set, a', n', c', rfl, Nat.lt_of_lt_of_le (World.block_lt_of_cell? w _ d0) ho.size, hKp kb hFb _ _ d0, hKp kb hFb _ _ d1, hKp kb hFb _ _ d2, Te.keep hKp (fun _ h => h) kd _ hTe⟩
set_option maxRecDepth 100000 in
set_option maxHeartbeats 8000000 in
theorem cnt_all (F : Nat → Prop) (op set : Int) (kids : List Ex) (a : Option Addr) (c : Nat) (w : World) (ih : ∀ k ∈ kids, CntOk k) (hL : Lf w F kids a c) (hN : Nns kids) (ho : op = 2 ∨ op = 3) (hT : Au.cnts kids ≤ 1000000000000000) :
    Calls Try.prog 46 #[.agg #[.int .u8 op, .int .u32 set, .slice a kids.length c]] w fun e' w' => e' = .returned (.int .i64 (Au.cnts kids : Int)) ∧ Only (fun _ => False) w w' := by
  have HT : Hid (Au.cnts (kids.take kids.length) ≤ 1000000000000000) := by rw [List.take_length]; exact hT
  clear hT
  have HIH : Hid (∀ k ∈ kids, CntOk k) := ih
  have HL : Hid (Lf w F kids a c) := hL
  have HN : Hid (Nns kids) := hN
  have hKm := hL.2.1
  obtain ⟨K, hKe⟩ : ∃ K, K = kids.length := ⟨_, rfl⟩
  have HKE : Hid (K = kids.length) := hKe
  rw [← hKe] at hKm ⊢
  unfold maxLen at hKm
  rw [← hKe] at HT
  clear ih hL hN hKe
  have HTK : Hid (kids.take K = kids) := by rw [HKE.out]; exact List.take_length
  rcases ho with rfl | rfl
  all_goals
    by_cases h1 : (1 : Int) < (K : Int)
    all_goals
      go_enter Try.func46, Try.ntmps46
      go_wp2_with fail
      go_loopg [4, 5] K (fun gh vn vi wr => ∃ (i : Nat) (W : World), W = wr ∧ gh = K - i ∧ i ≤ K ∧ vi = .int .i64 (i : Int) ∧ vn = .int .i64 (Au.cnts (kids.take i) : Int) ∧ Only (fun _ => False) w W ∧ ∃ o0 : Value, W.heap[w.heap.size]? = some (.cells #[o0, .int .u32 set, .slice a K c] 49 (0, 0)))
      case atStart => exact ⟨0, _, rfl, rfl, Nat.zero_le _, rfl, by rw [List.take_zero]; rfl, (Only.refl _ _).alloc _, _, heap_alloc_new _ _⟩
      case round =>
        obtain ⟨i, W, hW, rfl, hi, rfl, rfl, hO, o0, hbx⟩ := hrel
        subst hW
        have HO : Hid (Only (fun _ => False) w W) := hO
        have HBX : Hid (W.heap[w.heap.size]? = some (.cells #[o0, .int .u32 set, .slice a K c] 49 (0, 0))) := hbx
        have b2 : W.cell? ⟨w.heap.size, 2, none⟩ = some (.slice a K c) := cell_blk hbx
        have hwl : w.heap.size < W.heap.size := (Array.getElem?_eq_some_iff.1 hbx).1
        clear hO hbx
        have HLE : Hid (Au.cnts (kids.take i) ≤ 1000000000000000) := Nat.le_trans (cnts_take_le (kids.take K) i |> fun h => by rw [List.take_take] at h; rw [show min i K = i by omega] at h; exact h) HT.out
        by_cases hlt : i < K
        · have t1 : (i : Int) < (K : Int) := by omega
          obtain ⟨kd, hkd⟩ : ∃ kd, kids[i]? = some kd := ⟨_, List.getElem?_eq_getElem (by rw [← HKE.out]; omega)⟩
          obtain ⟨kb, ko, op', set', a', n', c', rfl, hkl, d0, d1, d2, hTe⟩ := kid_at0 HL.out HO.out hkd
          have hsn := cnts_take kids i kd hkd
          have hle2 : Au.cnts (kids.take (i + 1)) ≤ 1000000000000000 := Nat.le_trans (cnts_take_le (kids.take K) (i + 1) |> fun h => by rw [List.take_take] at h; rw [show min (i + 1) K = i + 1 by omega] at h; exact h) HT.out
          have hkc : Au.cnt kd ≤ 1000000000000000 := by omega
          have HC : Hid (Calls Try.prog 46 #[.agg #[.int .u8 op', .int .u32 set', .slice a' n' c']] W fun e' w' => e' = .returned (.int .i64 (Au.cnt kd : Int)) ∧ Only (fun _ => False) W w') := HIH.out kd (List.mem_of_getElem? hkd) F _ W hTe (Nns.mem HN.out (List.mem_of_getElem? hkd)) hkc
          obtain ⟨sm, hsm⟩ : ∃ sm, sm = Au.cnts (kids.take i) := ⟨_, rfl⟩
          have HSN : Hid (Au.cnts (kids.take (i + 1)) = sm + Au.cnt kd) := by rw [hsm]; exact hsn
          have hs1 : sm ≤ 1000000000000000 := by rw [hsm]; exact HLE.out
          rw [← hsm]
          obtain ⟨kn, hkn⟩ : ∃ kn, kn = Au.cnt kd := ⟨_, rfl⟩
          rw [← hkn] at HC HSN hkc
          clear hsm hsn hle2 hkd hTe hkn HLE
          go_wp2_with (go_at_call 46; refine HC.out.mono ?_; rintro e w2 ⟨rfl, ho2⟩; have HO2 : Hid (Only (fun _ => False) W w2) := ho2; clear ho2)
          go_roundg (K - (i + 1))
          case measure => omega
          case rel => exact ⟨i + 1, _, rfl, rfl, by omega, by go_num, by rw [HSN.out]; go_num, HO.out.trans HO2.out, o0, (HO2.out.block _ hwl (fun h => h)).trans HBX.out⟩
        · have t2 : decide ((i : Int) < (K : Int)) = false := decide_eq_false (by omega)
          obtain rfl : i = K := by omega
          go_wp2_with fail
          go_ret
          refine ⟨?_, HO.out⟩
          rw [HTK.out] <;> rfl
set_option maxRecDepth 100000 in
set_option maxHeartbeats 8000000 in
theorem cnt_one (F : Nat → Prop) (op set : Int) (kids : List Ex) (a : Option Addr) (c : Nat) (w : World) (ih : ∀ k ∈ kids, CntOk k) (hL : Lf w F kids a c) (hN : Nns kids) (ho : op = 4 ∨ op = 5 ∨ op = 6) (hT : Au.cnt1 kids ≤ 1000000000000000) :
    Calls Try.prog 46 #[.agg #[.int .u8 op, .int .u32 set, .slice a kids.length c]] w fun e' w' => e' = .returned (.int .i64 (Au.cnt1 kids : Int)) ∧ Only (fun _ => False) w w' := by
  rw [cnt1_take] at hT ⊢
  have HIH : Hid (∀ k ∈ kids, CntOk k) := ih
  have HL : Hid (Lf w F kids a c) := hL
  have HN : Hid (Nns kids) := hN
  have hKm := hL.2.1
  obtain ⟨K, hKe⟩ : ∃ K, K = kids.length := ⟨_, rfl⟩
  have HKE : Hid (K = kids.length) := hKe
  rw [← hKe] at hKm ⊢
  unfold maxLen at hKm
  clear ih hL hN hKe
  by_cases h1 : (1 : Int) < (K : Int)
  · have HT : Hid (Au.cnts (kids.take 1) ≤ 1000000000000000) := hT
    clear hT
    rcases ho with rfl | rfl | rfl
    all_goals
      go_enter Try.func46, Try.ntmps46
      go_wp2_with fail
      go_loopg [4, 5] 1 (fun gh vn vi wr => ∃ (i : Nat) (W : World), W = wr ∧ gh = 1 - i ∧ i ≤ 1 ∧ vi = .int .i64 (i : Int) ∧ vn = .int .i64 (Au.cnts (kids.take i) : Int) ∧ Only (fun _ => False) w W ∧ ∃ o0 : Value, W.heap[w.heap.size]? = some (.cells #[o0, .int .u32 set, .slice a K c] 49 (0, 0)))
      case atStart => exact ⟨0, _, rfl, rfl, Nat.zero_le _, rfl, by rw [List.take_zero]; rfl, (Only.refl _ _).alloc _, _, heap_alloc_new _ _⟩
      case round =>
        obtain ⟨i, W, hW, rfl, hi, rfl, rfl, hO, o0, hbx⟩ := hrel
        subst hW
        have HO : Hid (Only (fun _ => False) w W) := hO
        have HBX : Hid (W.heap[w.heap.size]? = some (.cells #[o0, .int .u32 set, .slice a K c] 49 (0, 0))) := hbx
        have b2 : W.cell? ⟨w.heap.size, 2, none⟩ = some (.slice a K c) := cell_blk hbx
        have hwl : w.heap.size < W.heap.size := (Array.getElem?_eq_some_iff.1 hbx).1
        clear hO hbx
        have HLE : Hid (Au.cnts (kids.take i) ≤ 1000000000000000) := Nat.le_trans (cnts_take_le (kids.take 1) i |> fun h => by rw [List.take_take] at h; rw [show min i 1 = i by omega] at h; exact h) HT.out
        by_cases hlt : i < 1
        · have t1 : (i : Int) < (1 : Int) := by omega
          obtain ⟨kd, hkd⟩ : ∃ kd, kids[i]? = some kd := ⟨_, List.getElem?_eq_getElem (by rw [← HKE.out]; omega)⟩
          obtain ⟨kb, ko, op', set', a', n', c', rfl, hkl, d0, d1, d2, hTe⟩ := kid_at0 HL.out HO.out hkd
          have hsn := cnts_take kids i kd hkd
          have hle2 : Au.cnts (kids.take (i + 1)) ≤ 1000000000000000 := Nat.le_trans (cnts_take_le (kids.take 1) (i + 1) |> fun h => by rw [List.take_take] at h; rw [show min (i + 1) 1 = i + 1 by omega] at h; exact h) HT.out
          have hkc : Au.cnt kd ≤ 1000000000000000 := by omega
          have HC : Hid (Calls Try.prog 46 #[.agg #[.int .u8 op', .int .u32 set', .slice a' n' c']] W fun e' w' => e' = .returned (.int .i64 (Au.cnt kd : Int)) ∧ Only (fun _ => False) W w') := HIH.out kd (List.mem_of_getElem? hkd) F _ W hTe (Nns.mem HN.out (List.mem_of_getElem? hkd)) hkc
          obtain ⟨sm, hsm⟩ : ∃ sm, sm = Au.cnts (kids.take i) := ⟨_, rfl⟩
          have HSN : Hid (Au.cnts (kids.take (i + 1)) = sm + Au.cnt kd) := by rw [hsm]; exact hsn
          have hs1 : sm ≤ 1000000000000000 := by rw [hsm]; exact HLE.out
          rw [← hsm]
          obtain ⟨kn, hkn⟩ : ∃ kn, kn = Au.cnt kd := ⟨_, rfl⟩
          rw [← hkn] at HC HSN hkc
          clear hsm hsn hle2 hkd hTe hkn HLE
          go_wp2_with (go_at_call 46; refine HC.out.mono ?_; rintro e w2 ⟨rfl, ho2⟩; have HO2 : Hid (Only (fun _ => False) W w2) := ho2; clear ho2)
          go_roundg (1 - (i + 1))
          case measure => omega
          case rel => exact ⟨i + 1, _, rfl, rfl, by omega, by go_num, by rw [HSN.out]; go_num, HO.out.trans HO2.out, o0, (HO2.out.block _ hwl (fun h => h)).trans HBX.out⟩
        · have t2 : decide ((i : Int) < (1 : Int)) = false := decide_eq_false (by omega)
          obtain rfl : i = 1 := by omega
          go_wp2_with fail
          go_ret
          refine ⟨?_, HO.out⟩
          rfl <;> rfl
  · have HTK : Hid (kids.take K = kids.take 1) := by
      have h := HKE.out
      rw [List.take_of_length_le (by omega), List.take_of_length_le (by omega)]
      exact rfl
    have HT : Hid (Au.cnts (kids.take K) ≤ 1000000000000000) := by rw [HTK.out]; exact hT
    clear hT
    rcases ho with rfl | rfl | rfl
    all_goals
      go_enter Try.func46, Try.ntmps46
      go_wp2_with fail
      go_loopg [4, 5] K (fun gh vn vi wr => ∃ (i : Nat) (W : World), W = wr ∧ gh = K - i ∧ i ≤ K ∧ vi = .int .i64 (i : Int) ∧ vn = .int .i64 (Au.cnts (kids.take i) : Int) ∧ Only (fun _ => False) w W ∧ ∃ o0 : Value, W.heap[w.heap.size]? = some (.cells #[o0, .int .u32 set, .slice a K c] 49 (0, 0)))
      case atStart => exact ⟨0, _, rfl, rfl, Nat.zero_le _, rfl, by rw [List.take_zero]; rfl, (Only.refl _ _).alloc _, _, heap_alloc_new _ _⟩
      case round =>
        obtain ⟨i, W, hW, rfl, hi, rfl, rfl, hO, o0, hbx⟩ := hrel
        subst hW
        have HO : Hid (Only (fun _ => False) w W) := hO
        have HBX : Hid (W.heap[w.heap.size]? = some (.cells #[o0, .int .u32 set, .slice a K c] 49 (0, 0))) := hbx
        have b2 : W.cell? ⟨w.heap.size, 2, none⟩ = some (.slice a K c) := cell_blk hbx
        have hwl : w.heap.size < W.heap.size := (Array.getElem?_eq_some_iff.1 hbx).1
        clear hO hbx
        have HLE : Hid (Au.cnts (kids.take i) ≤ 1000000000000000) := Nat.le_trans (cnts_take_le (kids.take K) i |> fun h => by rw [List.take_take] at h; rw [show min i K = i by omega] at h; exact h) HT.out
        by_cases hlt : i < K
        · have t1 : (i : Int) < (K : Int) := by omega
          obtain ⟨kd, hkd⟩ : ∃ kd, kids[i]? = some kd := ⟨_, List.getElem?_eq_getElem (by rw [← HKE.out]; omega)⟩
          obtain ⟨kb, ko, op', set', a', n', c', rfl, hkl, d0, d1, d2, hTe⟩ := kid_at0 HL.out HO.out hkd
          have hsn := cnts_take kids i kd hkd
          have hle2 : Au.cnts (kids.take (i + 1)) ≤ 1000000000000000 := Nat.le_trans (cnts_take_le (kids.take K) (i + 1) |> fun h => by rw [List.take_take] at h; rw [show min (i + 1) K = i + 1 by omega] at h; exact h) HT.out
          have hkc : Au.cnt kd ≤ 1000000000000000 := by omega
          have HC : Hid (Calls Try.prog 46 #[.agg #[.int .u8 op', .int .u32 set', .slice a' n' c']] W fun e' w' => e' = .returned (.int .i64 (Au.cnt kd : Int)) ∧ Only (fun _ => False) W w') := HIH.out kd (List.mem_of_getElem? hkd) F _ W hTe (Nns.mem HN.out (List.mem_of_getElem? hkd)) hkc
          obtain ⟨sm, hsm⟩ : ∃ sm, sm = Au.cnts (kids.take i) := ⟨_, rfl⟩
          have HSN : Hid (Au.cnts (kids.take (i + 1)) = sm + Au.cnt kd) := by rw [hsm]; exact hsn
          have hs1 : sm ≤ 1000000000000000 := by rw [hsm]; exact HLE.out
          rw [← hsm]
          obtain ⟨kn, hkn⟩ : ∃ kn, kn = Au.cnt kd := ⟨_, rfl⟩
          rw [← hkn] at HC HSN hkc
          clear hsm hsn hle2 hkd hTe hkn HLE
          go_wp2_with (go_at_call 46; refine HC.out.mono ?_; rintro e w2 ⟨rfl, ho2⟩; have HO2 : Hid (Only (fun _ => False) W w2) := ho2; clear ho2)
          go_roundg (K - (i + 1))
          case measure => omega
          case rel => exact ⟨i + 1, _, rfl, rfl, by omega, by go_num, by rw [HSN.out]; go_num, HO.out.trans HO2.out, o0, (HO2.out.block _ hwl (fun h => h)).trans HBX.out⟩
        · have t2 : decide ((i : Int) < (K : Int)) = false := decide_eq_false (by omega)
          obtain rfl : i = K := by omega
          go_wp2_with fail
          go_ret
          refine ⟨?_, HO.out⟩
          rw [HTK.out] <;> rfl
set_option maxRecDepth 100000 in
set_option maxHeartbeats 8000000 in
theorem cnt_none (F : Nat → Prop) (op set : Int) (kids : List Ex) (a : Option Addr) (c : Nat) (w : World) (ih : ∀ k ∈ kids, CntOk k) (hL : Lf w F kids a c) (hN : Nns kids) (ho : op = 0 ∨ 6 < op) :
    Calls Try.prog 46 #[.agg #[.int .u8 op, .int .u32 set, .slice a kids.length c]] w fun e' w' => e' = .returned (.int .i64 (0 : Int)) ∧ Only (fun _ => False) w w' := by
  have HT : Hid (Au.cnts (kids.take 0) ≤ 1000000000000000) := by rw [List.take_zero]; exact Nat.zero_le _
  have HIH : Hid (∀ k ∈ kids, CntOk k) := ih
  have HL : Hid (Lf w F kids a c) := hL
  have HN : Hid (Nns kids) := hN
  have hKm := hL.2.1
  obtain ⟨K, hKe⟩ : ∃ K, K = kids.length := ⟨_, rfl⟩
  have HKE : Hid (K = kids.length) := hKe
  rw [← hKe] at hKm ⊢
  unfold maxLen at hKm
  clear ih hL hN hKe
  rcases ho with rfl | ho
  · by_cases h1 : (1 : Int) < (K : Int)
    all_goals
      go_enter Try.func46, Try.ntmps46
      go_wp2_with fail
      go_loopg [4, 5] 0 (fun gh vn vi wr => ∃ (i : Nat) (W : World), W = wr ∧ gh = 0 - i ∧ i ≤ 0 ∧ vi = .int .i64 (i : Int) ∧ vn = .int .i64 (Au.cnts (kids.take i) : Int) ∧ Only (fun _ => False) w W ∧ ∃ o0 : Value, W.heap[w.heap.size]? = some (.cells #[o0, .int .u32 set, .slice a K c] 49 (0, 0)))
      case atStart => exact ⟨0, _, rfl, rfl, Nat.zero_le _, rfl, by rw [List.take_zero]; rfl, (Only.refl _ _).alloc _, _, heap_alloc_new _ _⟩
      case round =>
        obtain ⟨i, W, hW, rfl, hi, rfl, rfl, hO, o0, hbx⟩ := hrel
        subst hW
        have HO : Hid (Only (fun _ => False) w W) := hO
        have HBX : Hid (W.heap[w.heap.size]? = some (.cells #[o0, .int .u32 set, .slice a K c] 49 (0, 0))) := hbx
        have b2 : W.cell? ⟨w.heap.size, 2, none⟩ = some (.slice a K c) := cell_blk hbx
        have hwl : w.heap.size < W.heap.size := (Array.getElem?_eq_some_iff.1 hbx).1
        clear hO hbx
        have HLE : Hid (Au.cnts (kids.take i) ≤ 1000000000000000) := Nat.le_trans (cnts_take_le (kids.take 0) i |> fun h => by rw [List.take_take] at h; rw [show min i 0 = i by omega] at h; exact h) HT.out
        by_cases hlt : i < 0
        · exact absurd hlt (Nat.not_lt_zero i)
        · have t2 : decide ((i : Int) < (0 : Int)) = false := decide_eq_false (by omega)
          obtain rfl : i = 0 := by omega
          go_wp2_with fail
          go_ret
          refine ⟨?_, HO.out⟩
          rw [List.take_zero] <;> rfl
  · have q1 : (op == 1) = false := by simp; omega
    have q4 : (op == 4) = false := by simp; omega
    have q5 : (op == 5) = false := by simp; omega
    have q6 : (op == 6) = false := by simp; omega
    have q0 : (op == 0) = false := by simp; omega
    by_cases h1 : (1 : Int) < (K : Int)
    all_goals
      go_enter Try.func46, Try.ntmps46
      go_wp2_with fail
      go_loopg [4, 5] 0 (fun gh vn vi wr => ∃ (i : Nat) (W : World), W = wr ∧ gh = 0 - i ∧ i ≤ 0 ∧ vi = .int .i64 (i : Int) ∧ vn = .int .i64 (Au.cnts (kids.take i) : Int) ∧ Only (fun _ => False) w W ∧ ∃ o0 : Value, W.heap[w.heap.size]? = some (.cells #[o0, .int .u32 set, .slice a K c] 49 (0, 0)))
      case atStart => exact ⟨0, _, rfl, rfl, Nat.zero_le _, rfl, by rw [List.take_zero]; rfl, (Only.refl _ _).alloc _, _, heap_alloc_new _ _⟩
      case round =>
        obtain ⟨i, W, hW, rfl, hi, rfl, rfl, hO, o0, hbx⟩ := hrel
        subst hW
        have HO : Hid (Only (fun _ => False) w W) := hO
        have HBX : Hid (W.heap[w.heap.size]? = some (.cells #[o0, .int .u32 set, .slice a K c] 49 (0, 0))) := hbx
        have b2 : W.cell? ⟨w.heap.size, 2, none⟩ = some (.slice a K c) := cell_blk hbx
        have hwl : w.heap.size < W.heap.size := (Array.getElem?_eq_some_iff.1 hbx).1
        clear hO hbx
        have HLE : Hid (Au.cnts (kids.take i) ≤ 1000000000000000) := Nat.le_trans (cnts_take_le (kids.take 0) i |> fun h => by rw [List.take_take] at h; rw [show min i 0 = i by omega] at h; exact h) HT.out
        by_cases hlt : i < 0
        · exact absurd hlt (Nat.not_lt_zero i)
        · have t2 : decide ((i : Int) < (0 : Int)) = false := decide_eq_false (by omega)
          obtain rfl : i = 0 := by omega
          go_wp2_with fail
          go_ret
          refine ⟨?_, HO.out⟩
          rw [List.take_zero] <;> rfl
set_option maxRecDepth 100000 in
set_option maxHeartbeats 4000000 in
theorem cnt_set (set : Int) (a : Option Addr) (m c : Nat) (w : World) : Calls Try.prog 46 #[.agg #[.int .u8 1, .int .u32 set, .slice a m c]] w fun e' w' => e' = .returned (.int .i64 1) ∧ Only (fun _ => False) w w' := by
  go_enter Try.func46, Try.ntmps46
  go_wp2_with fail
  go_ret
  exact ⟨rfl, (Only.refl _ _).alloc _⟩
theorem cnt_step (op set : Int) (kids : List Ex) (ih : ∀ k ∈ kids, CntOk k) : CntOk (.mk op set kids) := by
  intro F v w hT hN hc
  obtain ⟨a, cap, rfl, hs0, hs1, hL⟩ := hT.kids
  unfold Nn at hN
  unfold Au.cnt at hc ⊢
  by_cases o1 : op = 1
  · subst o1
    rw [if_pos rfl]
    exact cnt_set set a _ cap w
  rw [if_neg o1] at hc ⊢
  by_cases o2 : op = 2 ∨ op = 3
  · rw [if_pos o2] at hc ⊢
    exact cnt_all F op set kids a cap w ih hL hN.2 o2 hc
  rw [if_neg o2] at hc ⊢
  by_cases o4 : op = 4 ∨ op = 5 ∨ op = 6
  · rw [if_pos o4] at hc ⊢
    exact cnt_one F op set kids a cap w ih hL hN.2 o4 hc
  rw [if_neg o4]
  exact cnt_none F op set kids a cap w ih hL hN.2 (by have := hN.1; omega)
theorem cnt_any : ∀ (e : Ex), CntOk e := by
  intro e
  apply Ex.rec (motive_1 := fun e => CntOk e) (motive_2 := fun es => ∀ k ∈ es, CntOk k)
  · exact fun op set kids ih => cnt_step op set kids ih
  · exact fun k hk => absurd hk (by simp)
  · intro e es h1 h2 k hk
    rcases List.mem_cons.1 hk with rfl | hk
    · exact h1
    · exact h2 k hk
set_option maxRecDepth 100000 in
set_option maxHeartbeats 4000000 in
/-- the places of expressions that lie in a list. -/
theorem places_any (F : Nat → Prop) (es : List Ex) (a : Option Addr) (c : Nat) (w : World) (hL : es ≠ [] → ∃ b off, a = some ⟨b, off, none⟩ ∧ F b ∧ Tes w F es b off) (hl : es.length ≤ 100) (hN : Nns es) (hT : Au.cnts es ≤ 1000000000000000) :
    Calls Try.prog 27 #[.slice a es.length c] w fun e' w' => e' = .returned (.int .i64 (Au.cnts es : Int)) ∧ Only (fun _ => False) w w' := by
  have HL : Hid (Lf w F es a es.length) := ⟨Nat.le_refl _, by unfold maxLen; omega, hL⟩
  have HN : Hid (Nns es) := hN
  have HT : Hid (Au.cnts es ≤ 1000000000000000) := hT
  obtain ⟨K, hKe⟩ : ∃ K, K = es.length := ⟨_, rfl⟩
  have HKE : Hid (K = es.length) := hKe
  rw [← hKe] at hl ⊢
  clear hL hN hT hKe
  go_enter Try.func27, Try.ntmps27
  go_wp2_with fail
  go_loopg [3, 4] K (fun gh vn vi wr => ∃ (i : Nat) (W : World), W = wr ∧ gh = K - i ∧ i ≤ K ∧ vi = .int .i64 (i : Int) ∧ vn = .int .i64 (Au.cnts (es.take i) : Int) ∧ Only (fun _ => False) w W)
  case atStart => exact ⟨0, _, rfl, rfl, Nat.zero_le _, rfl, by rw [List.take_zero]; rfl, Only.refl _ _⟩
  case round =>
    obtain ⟨i, W, hW, rfl, hi, rfl, rfl, hO⟩ := hrel
    subst hW
    have HO : Hid (Only (fun _ => False) w W) := hO
    clear hO
    have HLE : Hid (Au.cnts (es.take i) ≤ 1000000000000000) := Nat.le_trans (cnts_take_le es i) HT.out
    by_cases hlt : i < K
    · have t1 : (i : Int) < (K : Int) := by omega
      obtain ⟨kd, hkd⟩ : ∃ kd, es[i]? = some kd := ⟨_, List.getElem?_eq_getElem (by rw [← HKE.out]; omega)⟩
      obtain ⟨kb, ko, op', set', a', n', c', rfl, hkl, d0, d1, d2, hTe⟩ := kid_at0 HL.out HO.out hkd
      have hsn := cnts_take es i kd hkd
      have hle2 : Au.cnts (es.take (i + 1)) ≤ 1000000000000000 := Nat.le_trans (cnts_take_le es (i + 1)) HT.out
      have hkc : Au.cnt kd ≤ 1000000000000000 := by omega
      have HC : Hid (Calls Try.prog 46 #[.agg #[.int .u8 op', .int .u32 set', .slice a' n' c']] W fun e' w' => e' = .returned (.int .i64 (Au.cnt kd : Int)) ∧ Only (fun _ => False) W w') := cnt_any kd F _ W hTe (Nns.mem HN.out (List.mem_of_getElem? hkd)) hkc
      obtain ⟨sm, hsm⟩ : ∃ sm, sm = Au.cnts (es.take i) := ⟨_, rfl⟩
      have HSN : Hid (Au.cnts (es.take (i + 1)) = sm + Au.cnt kd) := by rw [hsm]; exact hsn
      have hs1 : sm ≤ 1000000000000000 := by rw [hsm]; exact HLE.out
      rw [← hsm]
      obtain ⟨kn, hkn⟩ : ∃ kn, kn = Au.cnt kd := ⟨_, rfl⟩
      rw [← hkn] at HC HSN hkc
      clear hsm hsn hle2 hkd hTe hkn HLE
      go_wp2_with (go_at_call 46; refine HC.out.mono ?_; rintro e w2 ⟨rfl, ho2⟩; have HO2 : Hid (Only (fun _ => False) W w2) := ho2; clear ho2)
      go_roundg (K - (i + 1))
      case measure => omega
      case rel => exact ⟨i + 1, _, rfl, rfl, by omega, by go_num, by rw [HSN.out]; go_num, HO.out.trans HO2.out⟩
    · have t2 : decide ((i : Int) < (K : Int)) = false := decide_eq_false (by omega)
      obtain rfl : i = K := by omega
      go_wp2_with fail
      go_ret
      refine ⟨?_, HO.out⟩
      rw [HKE.out, List.take_length] <;> rfl
end Go.Proofs.Ytfbcijnacbfjpaa
