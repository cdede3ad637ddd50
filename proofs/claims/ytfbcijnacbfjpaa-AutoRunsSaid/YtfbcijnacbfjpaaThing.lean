/-
  bracket, thing of the rules' reader, given what either does with less.
-/
import Derived.Test.YtfbcijnacbfjpaaOften
import Derived.Test.YtfbcijnacbfjpaaLen
namespace Go.Proofs.Ytfbcijnacbfjpaa
open Go.RowKit Go.Maps
set_option linter.unusedVariables false
set_option linter.unusedSimpArgs false

def Rd.withOp (x : Rd) (d : Int) : Rd := { x with op := d }
theorem Rdr.set9 {w : World} {rb : Nat} {S : ByteArray} {i : Int} {x : Rd} (h : Rdr w rb S i x) (v : Int) : Rdr (w.setCell ⟨rb, 9, none⟩ (.int .i64 v)) rb S i (x.withOp v) := heap_setCell_at h _
theorem In.set9 {w : World} {rb : Nat} {S : ByteArray} {x : Rd} {ts : List Rl.Tk} (h : In w rb S x ts) (v : Int) : In (w.setCell ⟨rb, 9, none⟩ (.int .i64 v)) rb S (x.withOp v) ts := by
  obtain ⟨i, h1, h2⟩ := h
  exact ⟨i, h1.set9 v, h2⟩
structure Cx (nc : Nat) (rb : Nat) (x : Rd) (p d : Nat) : Prop where
  mb : x.mb ≠ rb
  pl : x.pl = (p : Int)
  p200 : p ≤ 200
  op : x.op = (d : Int)
  d16 : d ≤ 16
  vC : ∃ a cap, x.vC = .slice a nc cap
  nc24 : nc ≤ 24
theorem Cx.withPl {nc rb : Nat} {x : Rd} {p d : Nat} (h : Cx nc rb x p d) {q : Nat} (hq : q ≤ 200) : Cx nc rb (x.withPl q) q d := ⟨h.mb, rfl, hq, h.op, h.d16, h.vC, h.nc24⟩
theorem Cx.withOp {nc rb : Nat} {x : Rd} {p d : Nat} (h : Cx nc rb x p d) {q : Nat} (hq : q ≤ 16) : Cx nc rb (x.withOp q) p q := ⟨h.mb, h.pl, h.p200, rfl, hq, h.vC, h.nc24⟩
def EitherOk (E : Rl.Env) (nc rb : Nat) (S : ByteArray) (n : Nat) : Prop := ∀ (d p : Nat) (x : Rd) (ts : List Rl.Tk) (w : World), In w rb S x ts → Mp w x.mb E → Cx nc rb x p d → 4 * ts.length + 3 ≤ n →
  Calls Try.prog 88 #[.pointer (some ⟨rb, 0, none⟩)] w (exprP rb S x w (Rl.either E nc n d ts p))
def RowOk (E : Rl.Env) (nc rb : Nat) (S : ByteArray) (n : Nat) : Prop := ∀ (d p : Nat) (x : Rd) (ts : List Rl.Tk) (w : World), In w rb S x ts → Mp w x.mb E → Cx nc rb x p d → 4 * ts.length + 2 ≤ n →
  Calls Try.prog 90 #[.pointer (some ⟨rb, 0, none⟩)] w (exprP rb S x w (Rl.row E nc n d ts p []))
def ThingOk (E : Rl.Env) (nc rb : Nat) (S : ByteArray) (n : Nat) : Prop := ∀ (d p : Nat) (x : Rd) (t : Rl.Tk) (ts : List Rl.Tk) (w : World), In w rb S x (t :: ts) → Mp w x.mb E → Cx nc rb x p d → ¬ t.bad = true → Rl.beg t = true → 4 * (ts.length + 1) + 1 ≤ n →
  Calls Try.prog 93 #[.pointer (some ⟨rb, 0, none⟩)] w (exprP rb S x w (Rl.thing E nc n d (t :: ts) p))
/-- what a bracket reads as. -/
def brF (E : Rl.Env) (nc n d : Nat) (t : Rl.Tk) (ts : List Rl.Tk) (p : Nat) : Rl.R (Rl.Ex × List Rl.Tk × Nat) :=
  if d = 16 then .error (25, t.at') else match Rl.either E nc n (d + 1) ts p with
    | .error f => .error f
    | .ok (e, ts1, p1) => match Rl.want 41 ts1 with
      | .error f => .error f
      | .ok ts2 => .ok (e, ts2, p1)
theorem thing_cons (E : Rl.Env) (nc n d : Nat) (t : Rl.Tk) (ts : List Rl.Tk) (p : Nat) : Rl.thing E nc (n + 1) d (t :: ts) p = if t.text = [40] then brF E nc n d t ts p else
    match Rl.some' E nc (t :: ts) p with
    | .error f => .error f
    | .ok (b, ts1, p1) => .ok (.mk 1 b [], ts1, p1) := by simp only [Rl.thing, brF]; rfl
theorem Tr.leaf (w : World) (F : Nat → Prop) (op s : Int) : Tr w F (.mk op s []) (.agg #[.int .u8 op, .int .u32 s, .slice none 0 0]) := by
  unfold Tr
  exact ⟨none, 0, rfl, Nat.le_refl _, fun h => absurd rfl h⟩

set_option maxRecDepth 100000 in
set_option maxHeartbeats 4000000 in
theorem bracket_any (E : Rl.Env) (nc n d p rb : Nat) (S : ByteArray) (x : Rd) (t : Rl.Tk) (ts : List Rl.Tk) (i : Int) (w : World) (hR : Rdr w rb S i x) (hs : Rl.Strm S.data.toList t.at' (t :: ts)) (ht : t.at' + t.text.length ≤ S.size) (hS : S.size ≤ 4096)
    (hM : Mp w x.mb E) (hC : Cx nc rb x p d) (hne : t.text ≠ []) (hE : EitherOk E nc rb S n) (hn : 4 * ts.length + 3 ≤ n) :
    Calls Try.prog 94 #[.pointer (some ⟨rb, 0, none⟩), .agg #[.string (bs t.text), .int .i64 (t.at' : Int)]] w (exprP rb S x w (brF E nc n d t ts p)) := by
  have hlt := hR.lt
  have c9 := hR.c9
  have f9 := hR.fz 9
  rw [hC.op] at c9
  have HC : Hid (Cx nc rb x p d) := hC
  have HR : Hid (Rdr w rb S i x) := hR
  have HM : Hid (Mp w x.mb E) := hM
  have Hs : Hid (Rl.Strm S.data.toList t.at' (t :: ts)) := hs
  have HE : Hid (EitherOk E nc rb S n) := hE
  have Hne : Hid (t.text ≠ []) := hne
  have hd16 := hC.d16
  have HO0 : Hid (Only (· = rb) w ((w.alloc (.cells #[.string (bs t.text), .int .i64 (t.at' : Int)] 124)).alloc (.cells #[.int .u8 0, .int .u32 0, .slice none 0 0] 49))) := ((Only.refl (· = rb) w).alloc _).alloc _
  have P0 : Hid (Pb ((w.alloc (.cells #[.string (bs t.text), .int .i64 (t.at' : Int)] 124)).alloc (.cells #[.int .u8 0, .int .u32 0, .slice none 0 0] 49)) w.heap.size t.text t.at') := (Pb.new w _ _).alloc _
  have Z0 : Hid (Xb ((w.alloc (.cells #[.string (bs t.text), .int .i64 (t.at' : Int)] 124)).alloc (.cells #[.int .u8 0, .int .u32 0, .slice none 0 0] 49)) (w.heap.size + 1) (.int .u8 0) (.int .u32 0) (.slice none 0 0)) := heap_alloc2_new _ _ _
  clear hR hM hC hs hE hne
  unfold brF
  by_cases h16 : d = 16
  · rw [if_pos h16]
    have q : ((d : Int) == 16) = true := by simp; omega
    clear h16
    go_enter Try.func94, Try.ntmps94
    go_wp2_with (go_at_call 52; refine (throw_any 25 t.at' _).mono ?_; rintro e w3 ⟨rfl, rfl⟩)
    exact ⟨rfl, rfl, HO0.out⟩
  · rw [if_neg h16]
    have q : ((d : Int) == 16) = false := by simp; omega
    have hd1 : (d : Int) < 16 := by omega
    clear h16
    cases he : Rl.either E nc n (d + 1) ts p with
    | error f =>
      have T1 : Hid (Rl.either E nc n (d + 1) ts p = .error f) := he
      clear he
      simp only
      go_enter Try.func94, Try.ntmps94
      go_wp2_with (first | (go_at_call 53; refine (take_any rb S i t.at' t.text x _ ((HR.out.alloc _).alloc _) (by omega)).mono ?_; rintro e w1 ⟨rfl, hR1, ho1⟩; have d9 := hR1.c9; rw [HC.out.op] at d9; have g9 := hR1.fz 9; have HR1 : Hid (Rdr w1 rb S ((t.at' + t.text.length : Nat) : Int) x) := hR1; clear hR1; have HO1 : Hid (Only (· = rb) w w1) := HO0.out.trans ho1) | (go_at_call 88; have hc := HE.out (d + 1) p (x.withOp ((d + 1 : Nat) : Int)) ts (w1.setCell ⟨rb, 9, none⟩ (.int .i64 ((d : Int) + 1))) ⟨_, HR1.out.set9 ((d : Int) + 1), Rl.strm_tail Hs.out Hne.out, ht⟩ ((HM.out.only HO1.out HC.out.mb).setOther (fun e => HC.out.mb e.symm) _) (HC.out.withOp (by omega)) (by omega); rw [T1.out] at hc; refine hc.mono ?_; clear hc; rintro e w2 ⟨rfl, ho2⟩))
      exact ⟨rfl, rfl, (HO1.out.setCell (p := ⟨rb, 9, none⟩) rfl _).trans ho2⟩
    | ok r =>
      obtain ⟨ex, ts1, p1⟩ := r
      have T1 : Hid (Rl.either E nc n (d + 1) ts p = .ok (ex, ts1, p1)) := he
      clear he
      simp only
      cases hw : Rl.want 41 ts1 with
      | error f =>
        have T2 : Hid (Rl.want 41 ts1 = .error f) := hw
        clear hw
        simp only
        go_enter Try.func94, Try.ntmps94
        go_wp2_with (first | (go_at_call 53; refine (take_any rb S i t.at' t.text x _ ((HR.out.alloc _).alloc _) (by omega)).mono ?_; rintro e w1 ⟨rfl, hR1, ho1⟩; have d9 := hR1.c9; rw [HC.out.op] at d9; have g9 := hR1.fz 9; have HR1 : Hid (Rdr w1 rb S ((t.at' + t.text.length : Nat) : Int) x) := hR1; clear hR1; have HO1 : Hid (Only (· = rb) w w1) := HO0.out.trans ho1) | (go_at_call 88; have hc := HE.out (d + 1) p (x.withOp ((d + 1 : Nat) : Int)) ts (w1.setCell ⟨rb, 9, none⟩ (.int .i64 ((d : Int) + 1))) ⟨_, HR1.out.set9 ((d : Int) + 1), Rl.strm_tail Hs.out Hne.out, ht⟩ ((HM.out.only HO1.out HC.out.mb).setOther (fun e => HC.out.mb e.symm) _) (HC.out.withOp (by omega)) (by omega); rw [T1.out] at hc; refine hc.mono ?_; clear hc; rintro e w2 ⟨v, rfl, hT2, hI2, ho2⟩; obtain ⟨o, s, a, k, c, rfl⟩ := hT2.form) | (go_at_call 54; have hc := want_any 41 rb S ((x.withOp ((d + 1 : Nat) : Int)).withPl p1) ts1 _ (hI2.alloc (.cells #[.int .u8 o, .int .u32 s, .slice a k c] 49)) hS; rw [T2.out] at hc; refine hc.mono ?_; clear hc; rintro e w3 ⟨rfl, ho3⟩))
        exact ⟨rfl, rfl, (((HO1.out.setCell (p := ⟨rb, 9, none⟩) rfl _).trans ho2).alloc _).trans ho3⟩
      | ok ts2 =>
        have T2 : Hid (Rl.want 41 ts1 = .ok ts2) := hw
        clear hw
        simp only
        have hdd : (d : Int) + 1 - 1 = (d : Int) := by omega
        go_enter Try.func94, Try.ntmps94
        go_wp2_with (first | (go_at_call 53; refine (take_any rb S i t.at' t.text x _ ((HR.out.alloc _).alloc _) (by omega)).mono ?_; rintro e w1 ⟨rfl, hR1, ho1⟩; have d9 := hR1.c9; rw [HC.out.op] at d9; have g9 := hR1.fz 9; have HR1 : Hid (Rdr w1 rb S ((t.at' + t.text.length : Nat) : Int) x) := hR1; clear hR1; have HO1 : Hid (Only (· = rb) w w1) := HO0.out.trans ho1; have Z1 : Hid (Xb w1 (w.heap.size + 1) (.int .u8 0) (.int .u32 0) (.slice none 0 0)) := Z0.out.only ho1 (by omega); have hl1 := Z1.out.lt) | (go_at_call 88; have hc := HE.out (d + 1) p (x.withOp ((d + 1 : Nat) : Int)) ts (w1.setCell ⟨rb, 9, none⟩ (.int .i64 ((d : Int) + 1))) ⟨_, HR1.out.set9 ((d : Int) + 1), Rl.strm_tail Hs.out Hne.out, ht⟩ ((HM.out.only HO1.out HC.out.mb).setOther (fun e => HC.out.mb e.symm) _) (HC.out.withOp (by omega)) (by omega); rw [T1.out] at hc; refine hc.mono ?_; clear hc; rintro e w2 ⟨v, rfl, hT2, hI2, ho2⟩; obtain ⟨o, s, a, k, c, rfl⟩ := hT2.form; have HT2 : Hid (Tr w2 (fun b => w1.heap.size ≤ b) ex (.agg #[.int .u8 o, .int .u32 s, .slice a k c])) := (by have := hT2; simp only [World.setCell, Array.size_modify] at this; exact this); have HI2 : Hid (In w2 rb S ((x.withOp ((d + 1 : Nat) : Int)).withPl p1) ts1) := hI2; clear hT2 hI2; have HO2 : Hid (Only (· = rb) w w2) := (HO1.out.setCell (p := ⟨rb, 9, none⟩) rfl _).trans ho2; have Z2 : Hid (Xb w2 (w.heap.size + 1) (.int .u8 0) (.int .u32 0) (.slice none 0 0)) := (Z1.out.only ((Only.refl (· = rb) w1).setCell (p := ⟨rb, 9, none⟩) rfl _) (by omega)).only ho2 (by omega); have hl2 := Z2.out.lt) | (go_at_call 54; have hc := want_any 41 rb S ((x.withOp ((d + 1 : Nat) : Int)).withPl p1) ts1 _ (HI2.out.alloc (.cells #[.int .u8 o, .int .u32 s, .slice a k c] 49)) hS; rw [T2.out] at hc; refine hc.mono ?_; clear hc; rintro e w3 ⟨rfl, hI3, ho3⟩; have HI3 : Hid (In w3 rb S ((x.withOp ((d + 1 : Nat) : Int)).withPl p1) ts2) := hI3; obtain ⟨i3, hR3, _, _⟩ := hI3; have d9 : w3.cell? ⟨rb, 9, none⟩ = some (.int .i64 ((d : Int) + 1)) := hR3.c9; have g9 := hR3.fz 9; clear hR3; have HO3 : Hid (Only (· = rb) w w3) := (HO2.out.alloc _).trans ho3; have Z3 : Hid (Xb w3 (w.heap.size + 1) (.int .u8 0) (.int .u32 0) (.slice none 0 0)) := (Z2.out.alloc _).only ho3 (by omega); have C3 : Hid (Xb w3 w2.heap.size (.int .u8 o) (.int .u32 s) (.slice a k c)) := (Xb.new w2 _ _ _).only ho3 (by omega); have x0 := C3.out.c0; have x1 := C3.out.c1; have x2 := C3.out.c2; have z0 := Z3.out.c0; have z1 := Z3.out.c1; have z2 := Z3.out.c2; have zf0 := Z3.out.fz 0; have zf1 := Z3.out.fz 1; have zf2 := Z3.out.fz 2; have hl3 := Z3.out.lt; have HT3 : Hid (Tr w3 (fun b => w1.heap.size ≤ b) ex (.agg #[.int .u8 o, .int .u32 s, .slice a k c])) := HT2.out.later (((Only.refl (· = rb) w2).alloc _).trans ho3) (fun b hb => by omega) (fun b hb => hb)))
        have hX : (((x.withOp ((d + 1 : Nat) : Int)).withPl p1).withOp (d : Int)) = x.withPl p1 := by
          have := HC.out.op
          cases x
          simp only [Rd.withOp, Rd.withPl] at this ⊢
          rw [this]
        refine bodyPost_ret (v := .agg #[.int .u8 o, .int .u32 s, .slice a k c]) (results_x rfl _ rfl (((Z3.out.only ((Only.refl (· = rb) w3).setCell (p := ⟨rb, 9, none⟩) rfl (.int .i64 (d : Int))) (by omega))).set3 _ _ _)) rfl ?_
        refine ⟨_, rfl, ?_, ?_, (HO3.out.setCell (p := ⟨rb, 9, none⟩) rfl _).set3 (z := w.heap.size + 1) (by omega) _ _ _⟩
        · refine HT3.out.keep fun b hb hl => ⟨by omega, ?_⟩
          rw [show ∀ W : World, (((W.setCell ⟨w.heap.size + 1, 0, none⟩ (.int .u8 o)).setCell ⟨w.heap.size + 1, 1, none⟩ (.int .u32 s)).setCell ⟨w.heap.size + 1, 2, none⟩ (.slice a k c)) = set3 W (w.heap.size + 1) (.int .u8 o) (.int .u32 s) (.slice a k c) from fun _ => rfl]
          exact (set3_other _ _ _ _ (by omega)).trans (Below.heap_setCell _ _ _ _ (by show ¬ b = rb; omega))
        · rw [← hX]
          exact (HI3.out.set9 _).set3 (by omega) _ _ _
end Go.Proofs.Ytfbcijnacbfjpaa
