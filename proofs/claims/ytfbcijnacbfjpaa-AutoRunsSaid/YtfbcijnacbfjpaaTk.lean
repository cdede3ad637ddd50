/-
  What (*auto.places).take does.
-/
import Derived.Test.YtfbcijnacbfjpaaBeg1
namespace Go.Proofs.Ytfbcijnacbfjpaa
open Go.RowKit Go.Maps
set_option linter.unusedVariables false
set_option linter.unusedSimpArgs false
theorem pt_first (x : Au.Nd) : HasS (ptC x) 1 x.first := by
  intro k hk
  rcases (show k = 0 ∨ k = 1 ∨ k = 2 ∨ k = 3 by omega) with rfl | rfl | rfl | rfl <;> rfl
theorem pt_last (x : Au.Nd) : HasS (ptC x) 5 x.last := by
  intro k hk
  rcases (show k = 0 ∨ k = 1 ∨ k = 2 ∨ k = 3 by omega) with rfl | rfl | rfl | rfl <;> rfl
/-- what is known of an expression, in a block of its own. -/
def Ptb (w : World) (g : Nat) (x : Au.Nd) : Prop := w.heap[g]? = some (.cells (ptC x) 109 (0, 0))
theorem Ptb.lt {w : World} {g : Nat} {x : Au.Nd} (h : Ptb w g x) : g < w.heap.size := (Array.getElem?_eq_some_iff.1 h).1
theorem Ptb.only {w w' : World} {g : Nat} {x : Au.Nd} {P : Nat → Prop} (h : Ptb w g x) (ho : Only P w w') (hn : ¬ P g) : Ptb w' g x := (ho.block g h.lt hn).trans h
theorem Ptb.f {w : World} {g : Nat} {x : Au.Nd} (h : Ptb w g x) (k : Nat) (hk : k < 4) : w.cell? ⟨g, 1 + k, none⟩ = some (.int .u64 (wd x.first k : Int)) := (cell_blk h).trans (pt_first x k hk)
theorem Ptb.l {w : World} {g : Nat} {x : Au.Nd} (h : Ptb w g x) (k : Nat) (hk : k < 4) : w.cell? ⟨g, 5 + k, none⟩ = some (.int .u64 (wd x.last k : Int)) := (cell_blk h).trans (pt_last x k hk)
/-- a frame in the middle of a block. -/
def Fb (w : World) (fb fo : Nat) (t : TypeId) (cs : Array Value) (op : Int) (a : Option Addr) (m c : Nat) (x : Au.Nd) : Prop := w.heap[fb]? = some (.cells cs t (0, 0)) ∧ HasF cs fo op a m c x
theorem Fb.lt {w : World} {fb fo : Nat} {t : TypeId} {cs : Array Value} {op : Int} {a : Option Addr} {m c : Nat} {x : Au.Nd} (h : Fb w fb fo t cs op a m c x) : fb < w.heap.size := (Array.getElem?_eq_some_iff.1 h.1).1
theorem Fb.only {w w' : World} {fb fo : Nat} {t : TypeId} {cs : Array Value} {op : Int} {a : Option Addr} {m c : Nat} {x : Au.Nd} {P : Nat → Prop} (h : Fb w fb fo t cs op a m c x) (ho : Only P w w') (hn : ¬ P fb) : Fb w' fb fo t cs op a m c x := ⟨(ho.block fb h.lt hn).trans h.1, h.2⟩
theorem Fb.c {w : World} {fb fo : Nat} {t : TypeId} {cs : Array Value} {op : Int} {a : Option Addr} {m c : Nat} {x : Au.Nd} (h : Fb w fb fo t cs op a m c x) (k : Nat) (hk : k < 11) : w.cell? ⟨fb, fo + k, none⟩ = (fmC op a m c x)[k]? := (cell_blk h.1).trans (h.2 k hk)
theorem Fb.fz {w : World} {fb fo : Nat} {t : TypeId} {cs : Array Value} {op : Int} {a : Option Addr} {m c : Nat} {x : Au.Nd} (h : Fb w fb fo t cs op a m c x) (k : Nat) : w.frozen? ⟨fb, k, none⟩ = false := fz_blk h.1 k
set_option maxRecDepth 100000 in
set_option maxHeartbeats 4000000 in
theorem take_alt (g fb fo : Nat) (t : TypeId) (cs : Array Value) (op : Int) (a : Option Addr) (m c : Nat) (y x : Au.Nd) (w : World) (hF : Fb w fb fo t cs op a m c y) (hop : op ≠ 2) :
    Calls Try.prog 58 #[.pointer (some ⟨g, 0, none⟩), .pointer (some ⟨fb, fo, none⟩), ptV x] w fun e w' => e = .returned (.tuple #[]) ∧ (∃ cs', Fb w' fb fo t cs' op a m c (Au.alt1 y x) ∧ Same cs cs' fo) ∧ Only (· = fb) w w' := by
  obtain ⟨xe, xf, xl⟩ := x
  obtain ⟨ye, yf, yl⟩ := y
  have hlt := hF.lt
  have HF : Hid (Fb w fb fo t cs op a m c ⟨ye, yf, yl⟩) := hF
  have c0 : w.cell? ⟨fb, fo, none⟩ = some (.int .u8 op) := hF.c 0 (by decide)
  have c2 : w.cell? ⟨fb, fo + 2, none⟩ = some (.bool ye) := hF.c 2 (by decide)
  have f2 := hF.fz (fo + 2)
  have q2 : (op != 2) = true := by simpa using hop
  clear hF hop
  have P0 : Hid (Ptb (w.alloc (.cells (ptC ⟨xe, xf, xl⟩) 109)) w.heap.size ⟨xe, xf, xl⟩) := heap_alloc_new _ _
  have O0 : Hid (Only (fun _ => False) w (w.alloc (.cells (ptC ⟨xe, xf, xl⟩) 109))) := (Only.refl _ _).alloc _
  unfold ptV ptC
  cases ye
  · have F0 : Hid (Fb ((w.setCell ⟨fb, fo + 2, none⟩ (.bool xe)).alloc (.cells (ptC ⟨xe, xf, xl⟩) 109)) fb fo t (cs.setIfInBounds (fo + 2) (.bool xe)) op a m c ⟨xe, yf, yl⟩) := ⟨(Below.heap_alloc _ _ _ (by simp [World.setCell]; omega)).trans (heap_setCell_at HF.out.1 _), (HF.out.2.setB xe).1⟩
    have P1 : Hid (Ptb ((w.setCell ⟨fb, fo + 2, none⟩ (.bool xe)).alloc (.cells (ptC ⟨xe, xf, xl⟩) 109)) w.heap.size ⟨xe, xf, xl⟩) := (by have := heap_alloc_new (w.setCell ⟨fb, fo + 2, none⟩ (.bool xe)) (.cells (ptC ⟨xe, xf, xl⟩) 109); rwa [show (w.setCell ⟨fb, fo + 2, none⟩ (.bool xe)).heap.size = w.heap.size by simp [World.setCell]] at this)
    have O1 : Hid (Only (· = fb) w ((w.setCell ⟨fb, fo + 2, none⟩ (.bool xe)).alloc (.cells (ptC ⟨xe, xf, xl⟩) 109))) := ((Only.refl (· = fb) _).setCell (p := ⟨fb, fo + 2, none⟩) rfl _).alloc _
    unfold ptC at F0 P1 O1
    go_enter Try.func58, Try.ntmps58
    go_wp2_with fail
    generalize (w.setCell ⟨fb, fo + 2, none⟩ (.bool xe)).alloc (.cells #[.bool xe, .int .u64 (wd xf 0 : Int), .int .u64 (wd xf 1 : Int), .int .u64 (wd xf 2 : Int), .int .u64 (wd xf 3 : Int), .int .u64 (wd xl 0 : Int), .int .u64 (wd xl 1 : Int), .int .u64 (wd xl 2 : Int), .int .u64 (wd xl 3 : Int)] 109) = W at F0 P1 O1 ⊢
    clear c0 c2 f2 O0 P0
    have k1 : W.cell? ⟨w.heap.size, 1, none⟩ = some (.int .u64 (wd xf 0 : Int)) := P1.out.f 0 (by decide)
    have k2 : W.cell? ⟨w.heap.size, 2, none⟩ = some (.int .u64 (wd xf 1 : Int)) := P1.out.f 1 (by decide)
    have k3 : W.cell? ⟨w.heap.size, 3, none⟩ = some (.int .u64 (wd xf 2 : Int)) := P1.out.f 2 (by decide)
    have k4 : W.cell? ⟨w.heap.size, 4, none⟩ = some (.int .u64 (wd xf 3 : Int)) := P1.out.f 3 (by decide)
    go_region_with (go_at_call 42; refine (add_any fb (fo + 3) yf xf _ t _ (F0.out.only ((Only.refl (fun _ => False) W).drew) (fun h => h)).1 F0.out.2.first).mono ?_; rintro e w2 ⟨rfl, hp2, ho2⟩)
    have F2 : Hid (Fb w2 fb fo t (inC (cs.setIfInBounds (fo + 2) (.bool xe)) (fo + 3) (yf ||| xf) 4) op a m c ⟨xe, yf ||| xf, yl⟩) := ⟨hp2, (F0.out.2.setF _).1⟩
    have O2 : Hid (Only (· = fb) w w2) := O1.out.drew.trans ho2
    have P2 : Hid (Ptb w2 w.heap.size ⟨xe, xf, xl⟩) := (P1.out.only ((Only.refl (fun _ => False) W).drew) (fun h => h)).only ho2 (by omega)
    clear hp2 ho2 k1 k2 k3 k4
    have k1 : w2.cell? ⟨w.heap.size, 5, none⟩ = some (.int .u64 (wd xl 0 : Int)) := P2.out.l 0 (by decide)
    have k2 : w2.cell? ⟨w.heap.size, 6, none⟩ = some (.int .u64 (wd xl 1 : Int)) := P2.out.l 1 (by decide)
    have k3 : w2.cell? ⟨w.heap.size, 7, none⟩ = some (.int .u64 (wd xl 2 : Int)) := P2.out.l 2 (by decide)
    have k4 : w2.cell? ⟨w.heap.size, 8, none⟩ = some (.int .u64 (wd xl 3 : Int)) := P2.out.l 3 (by decide)
    go_wp2_with fail
    go_region_with (go_at_call 42; refine (add_any fb (fo + 7) yl xl _ t _ (F2.out.only ((Only.refl (fun _ => False) w2).drew) (fun h => h)).1 F2.out.2.last).mono ?_; rintro e w3 ⟨rfl, hp3, ho3⟩)
    go_wp2_with fail
    refine bodyPost_ret (results_none rfl _ _ _) rfl ?_
    exact ⟨rfl, ⟨_, ⟨hp3, (F2.out.2.setL _).1⟩, ((HF.out.2.setB xe).2.trans (F0.out.2.setF _).2).trans (F2.out.2.setL _).2⟩, O2.out.drew.trans ho3⟩
  · have F0 : Hid (Fb ((w.setCell ⟨fb, fo + 2, none⟩ (.bool true)).alloc (.cells (ptC ⟨xe, xf, xl⟩) 109)) fb fo t (cs.setIfInBounds (fo + 2) (.bool true)) op a m c ⟨true, yf, yl⟩) := ⟨(Below.heap_alloc _ _ _ (by simp [World.setCell]; omega)).trans (heap_setCell_at HF.out.1 _), (HF.out.2.setB true).1⟩
    have P1 : Hid (Ptb ((w.setCell ⟨fb, fo + 2, none⟩ (.bool true)).alloc (.cells (ptC ⟨xe, xf, xl⟩) 109)) w.heap.size ⟨xe, xf, xl⟩) := (by have := heap_alloc_new (w.setCell ⟨fb, fo + 2, none⟩ (.bool true)) (.cells (ptC ⟨xe, xf, xl⟩) 109); rwa [show (w.setCell ⟨fb, fo + 2, none⟩ (.bool true)).heap.size = w.heap.size by simp [World.setCell]] at this)
    have O1 : Hid (Only (· = fb) w ((w.setCell ⟨fb, fo + 2, none⟩ (.bool true)).alloc (.cells (ptC ⟨xe, xf, xl⟩) 109))) := ((Only.refl (· = fb) _).setCell (p := ⟨fb, fo + 2, none⟩) rfl _).alloc _
    unfold ptC at F0 P1 O1
    go_enter Try.func58, Try.ntmps58
    go_wp2_with fail
    generalize (w.setCell ⟨fb, fo + 2, none⟩ (.bool true)).alloc (.cells #[.bool xe, .int .u64 (wd xf 0 : Int), .int .u64 (wd xf 1 : Int), .int .u64 (wd xf 2 : Int), .int .u64 (wd xf 3 : Int), .int .u64 (wd xl 0 : Int), .int .u64 (wd xl 1 : Int), .int .u64 (wd xl 2 : Int), .int .u64 (wd xl 3 : Int)] 109) = W at F0 P1 O1 ⊢
    clear c0 c2 f2 O0 P0
    have k1 : W.cell? ⟨w.heap.size, 1, none⟩ = some (.int .u64 (wd xf 0 : Int)) := P1.out.f 0 (by decide)
    have k2 : W.cell? ⟨w.heap.size, 2, none⟩ = some (.int .u64 (wd xf 1 : Int)) := P1.out.f 1 (by decide)
    have k3 : W.cell? ⟨w.heap.size, 3, none⟩ = some (.int .u64 (wd xf 2 : Int)) := P1.out.f 2 (by decide)
    have k4 : W.cell? ⟨w.heap.size, 4, none⟩ = some (.int .u64 (wd xf 3 : Int)) := P1.out.f 3 (by decide)
    go_region_with (go_at_call 42; refine (add_any fb (fo + 3) yf xf _ t _ (F0.out.only ((Only.refl (fun _ => False) W).drew) (fun h => h)).1 F0.out.2.first).mono ?_; rintro e w2 ⟨rfl, hp2, ho2⟩)
    have F2 : Hid (Fb w2 fb fo t (inC (cs.setIfInBounds (fo + 2) (.bool true)) (fo + 3) (yf ||| xf) 4) op a m c ⟨true, yf ||| xf, yl⟩) := ⟨hp2, (F0.out.2.setF _).1⟩
    have O2 : Hid (Only (· = fb) w w2) := O1.out.drew.trans ho2
    have P2 : Hid (Ptb w2 w.heap.size ⟨xe, xf, xl⟩) := (P1.out.only ((Only.refl (fun _ => False) W).drew) (fun h => h)).only ho2 (by omega)
    clear hp2 ho2 k1 k2 k3 k4
    have k1 : w2.cell? ⟨w.heap.size, 5, none⟩ = some (.int .u64 (wd xl 0 : Int)) := P2.out.l 0 (by decide)
    have k2 : w2.cell? ⟨w.heap.size, 6, none⟩ = some (.int .u64 (wd xl 1 : Int)) := P2.out.l 1 (by decide)
    have k3 : w2.cell? ⟨w.heap.size, 7, none⟩ = some (.int .u64 (wd xl 2 : Int)) := P2.out.l 2 (by decide)
    have k4 : w2.cell? ⟨w.heap.size, 8, none⟩ = some (.int .u64 (wd xl 3 : Int)) := P2.out.l 3 (by decide)
    go_wp2_with fail
    go_region_with (go_at_call 42; refine (add_any fb (fo + 7) yl xl _ t _ (F2.out.only ((Only.refl (fun _ => False) w2).drew) (fun h => h)).1 F2.out.2.last).mono ?_; rintro e w3 ⟨rfl, hp3, ho3⟩)
    go_wp2_with fail
    refine bodyPost_ret (results_none rfl _ _ _) rfl ?_
    exact ⟨rfl, ⟨_, ⟨hp3, (F2.out.2.setL _).1⟩, ((HF.out.2.setB true).2.trans (F0.out.2.setF _).2).trans (F2.out.2.setL _).2⟩, O2.out.drew.trans ho3⟩
end Go.Proofs.Ytfbcijnacbfjpaa
