/-
  thing of the document's own parser: a bracket, given what either does with less.
-/
import Derived.Test.YtahoepmnekconaaR6
namespace Go.Proofs.Ytahoepmnekconaa
open Go.RowKit Go.Maps
set_option linter.unusedVariables false
set_option linter.unusedSimpArgs false
def Rq.withPl (x : Rq) (p : Int) : Rq := { x with pl := p }
def Rq.withDp (x : Rq) (d : Int) : Rq := { x with dp := d }
structure Cr (nc : Nat) (x : Rq) (p d : Nat) : Prop where
  pl : x.pl = (p : Int)
  p200 : p ≤ 200
  dp : x.dp = (d : Int)
  d16 : d ≤ 16
  vC : ∃ a cap, x.vC = .slice a nc cap
  nc24 : nc ≤ 24
theorem Cr.withPl {nc : Nat} {x : Rq} {p d : Nat} (h : Cr nc x p d) {q : Nat} (hq : q ≤ 200) : Cr nc (x.withPl q) q d := ⟨rfl, hq, h.dp, h.d16, h.vC, h.nc24⟩
theorem Cr.withDp {nc : Nat} {x : Rq} {p d : Nat} (h : Cr nc x p d) {q : Nat} (hq : q ≤ 16) : Cr nc (x.withDp q) p q := ⟨h.pl, h.p200, rfl, hq, h.vC, h.nc24⟩
theorem Cr.vc {nc : Nat} {x : Rq} {p d : Nat} (h : Cr nc x p d) : Vc x := by
  obtain ⟨a, cap, e⟩ := h.vC
  exact ⟨a, nc, cap, e, h.nc24⟩
theorem Vc.withPl {x : Rq} (h : Vc x) (p : Int) : Vc (x.withPl p) := h
theorem Vc.withDp {x : Rq} (h : Vc x) (p : Int) : Vc (x.withDp p) := h
theorem Rpr.setPl {w : World} {rb : Nat} {S : ByteArray} {i : Int} {x : Rq} {c t : Int} (h : Rpr w rb S i x c t) (p : Int) : Rpr (w.setCell ⟨rb, 9, none⟩ (.int .i64 p)) rb S i (x.withPl p) c t := h.set9 p
theorem Rpr.setDp {w : World} {rb : Nat} {S : ByteArray} {i : Int} {x : Rq} {c t : Int} (h : Rpr w rb S i x c t) (p : Int) : Rpr (w.setCell ⟨rb, 10, none⟩ (.int .i64 p)) rb S i (x.withDp p) c t := h.set10 p
theorem Qn.setPl {w : World} {rb : Nat} {S : ByteArray} {x : Rq} {ts : List Rl.Tk} (h : Qn w rb S x ts) (p : Int) : Qn (w.setCell ⟨rb, 9, none⟩ (.int .i64 p)) rb S (x.withPl p) ts := by
  obtain ⟨i, h1, h2⟩ := h
  exact ⟨i, h1.setPl p, h2⟩
theorem Qn.setDp {w : World} {rb : Nat} {S : ByteArray} {x : Rq} {ts : List Rl.Tk} (h : Qn w rb S x ts) (p : Int) : Qn (w.setCell ⟨rb, 10, none⟩ (.int .i64 p)) rb S (x.withDp p) ts := by
  obtain ⟨i, h1, h2⟩ := h
  exact ⟨i, h1.setDp p, h2⟩
theorem Qb.setDp {w : World} {rb : Nat} {S : ByteArray} {f : Rl.Ft} (h : Qb w rb S f) (p : Int) : Qb (w.setCell ⟨rb, 10, none⟩ (.int .i64 p)) rb S f := by
  obtain ⟨i, x, h1, h2, h3⟩ := h
  exact ⟨i, x.withDp p, h1.setDp p, h2, h3⟩
theorem Qn.setOther {w : World} {rb : Nat} {S : ByteArray} {x : Rq} {ts : List Rl.Tk} (h : Qn w rb S x ts) {p : Addr} (hp : p.block ≠ rb) (v : Value) : Qn (w.setCell p v) rb S x ts := by
  obtain ⟨i, h1, h2⟩ := h
  exact ⟨i, h1.setOther hp v, h2⟩
theorem Qb.setOther {w : World} {rb : Nat} {S : ByteArray} {f : Rl.Ft} (h : Qb w rb S f) {p : Addr} (hp : p.block ≠ rb) (v : Value) : Qb (w.setCell p v) rb S f := by
  obtain ⟨i, x, h1, h2⟩ := h
  exact ⟨i, x, h1.setOther hp v, h2⟩
theorem Qn.set3 {w : World} {rb : Nat} {S : ByteArray} {x : Rq} {ts : List Rl.Tk} (h : Qn w rb S x ts) {z : Nat} (hz : z ≠ rb) (a b c : Value) : Qn (set3 w z a b c) rb S x ts := ((h.setOther (p := ⟨z, 0, none⟩) hz a).setOther (p := ⟨z, 1, none⟩) hz b).setOther (p := ⟨z, 2, none⟩) hz c
theorem Qb.set3 {w : World} {rb : Nat} {S : ByteArray} {f : Rl.Ft} (h : Qb w rb S f) {z : Nat} (hz : z ≠ rb) (a b c : Value) : Qb (set3 w z a b c) rb S f := ((h.setOther (p := ⟨z, 0, none⟩) hz a).setOther (p := ⟨z, 1, none⟩) hz b).setOther (p := ⟨z, 2, none⟩) hz c
/-- how an expression's reading ends. -/
def rexprP (rb : Nat) (S : ByteArray) (x : Rq) (w : World) (F : Rl.R (Rl.Ex × List Rl.Tk × Nat)) (e : Ending) (w' : World) : Prop :=
  match F with
  | .error f => (∃ o s a n c, e = .returned (.agg #[.int .u8 o, .int .u32 s, .slice a n c])) ∧ Qb w' rb S f ∧ Only (· = rb) w w'
  | .ok (ex, ts, p) => ∃ v, e = .returned v ∧ Tr w' (fun b => w.heap.size ≤ b) ex v ∧ Qn w' rb S (x.withPl p) ts ∧ Only (· = rb) w w'
def REitherOk (E : Rl.Env) (nc rb : Nat) (S : ByteArray) (n : Nat) : Prop := ∀ (d p : Nat) (x : Rq) (ts : List Rl.Tk) (w : World), Qn w rb S x ts → Dec w rb x E → Cr nc x p d → 4 * ts.length + 3 ≤ n →
  Calls Try.prog 55 #[.pointer (some ⟨rb, 0, none⟩)] w (rexprP rb S x w (Rl.either E nc n d ts p))
def RRowOk (E : Rl.Env) (nc rb : Nat) (S : ByteArray) (n : Nat) : Prop := ∀ (d p : Nat) (x : Rq) (ts : List Rl.Tk) (w : World), Qn w rb S x ts → Dec w rb x E → Cr nc x p d → 4 * ts.length + 2 ≤ n →
  Calls Try.prog 64 #[.pointer (some ⟨rb, 0, none⟩)] w (rexprP rb S x w (Rl.row E nc n d ts p []))
def RThingOk (E : Rl.Env) (nc rb : Nat) (S : ByteArray) (n : Nat) : Prop := ∀ (d p : Nat) (x : Rq) (t : Rl.Tk) (ts : List Rl.Tk) (w : World), Rpr w rb S (t.at' : Int) x 0 0 → Rl.Strm S.data.toList t.at' (t :: ts) → t.at' ≤ S.size → Dec w rb x E → Cr nc x p d → ¬ t.bad = true → Rl.beg t = true → 4 * (ts.length + 1) + 1 ≤ n →
  Calls Try.prog 71 #[.pointer (some ⟨rb, 0, none⟩)] w (rexprP rb S x w (Rl.thing E nc n d (t :: ts) p))
theorem Dec.withPl {w : World} {rb : Nat} {x : Rq} {E : Rl.Env} (h : Dec w rb x E) (p : Int) : Dec w rb (x.withPl p) E := ⟨h.nm, h.bt, h.le⟩
theorem Dec.withDp {w : World} {rb : Nat} {x : Rq} {E : Rl.Env} (h : Dec w rb x E) (p : Int) : Dec w rb (x.withDp p) E := ⟨h.nm, h.bt, h.le⟩
set_option maxRecDepth 100000 in
set_option maxHeartbeats 4000000 in
theorem rbracket (E : Rl.Env) (nc rb : Nat) (S : ByteArray) (n : Nat) (hS : S.size ≤ 4096) (hEi : REitherOk E nc rb S n) (d p : Nat) (x : Rq) (t : Rl.Tk) (ts : List Rl.Tk) (w : World) (hR : Rpr w rb S (t.at' : Int) x 0 0) (hs : Rl.Strm S.data.toList t.at' (t :: ts)) (hat : t.at' ≤ S.size) (hE : Dec w rb x E) (hC : Cr nc x p d) (hb : ¬ t.bad = true) (htx : t.text = [40]) (hn : 4 * (ts.length + 1) + 1 ≤ n + 1) :
    Calls Try.prog 71 #[.pointer (some ⟨rb, 0, none⟩)] w (rexprP rb S x w (brF E nc n d t ts p)) := by
  have hlt := hR.lt
  have c1 := hR.c1
  have HR : Hid (Rpr w rb S (t.at' : Int) x 0 0) := hR
  have HQ : Hid (Qn (w.alloc (.cells #[.int .u8 0, .int .u32 0, .slice none 0 0] 50)) rb S x (t :: ts)) := ⟨t.at', hR.alloc _, hs, hat⟩
  have HC : Hid (Cr nc x p d) := hC
  have HD : Hid (Dec w rb x E) := hE
  have HEi : Hid (REitherOk E nc rb S n) := hEi
  have hd16 := hC.d16
  have T0 : Hid (Rl.took 40 (t :: ts) = .ok (true, ts)) := by show Rl.took 40 (t :: ts) = .ok (true, ts); rw [rtook_cons, if_neg hb, if_pos htx]
  have Z0 : Hid (Xb (w.alloc (.cells #[.int .u8 0, .int .u32 0, .slice none 0 0] 50)) w.heap.size (.int .u8 0) (.int .u32 0) (.slice none 0 0)) := Xb.new w _ _ _
  clear hR hs hE hC hb htx hEi
  unfold brF
  by_cases h16 : d = 16
  · rw [if_pos h16]
    have t1 : (16 : Int) < (d : Int) + 1 := by omega
    clear h16
    go_enter Try.func71, Try.ntmps71
    go_wp2_with (first | (go_at_call 34; have hc := sign_any 40 rb S x (t :: ts) _ HQ.out hS HC.out.vc (by decide) (by decide); rw [T0.out] at hc; refine hc.mono ?_; clear hc; rintro e w1 ⟨rfl, hi1, ho1⟩; obtain ⟨i1, hR1, _, _⟩ := hi1; have d10 := hR1.c10; have f10 := hR1.fz 10; rw [HC.out.dp] at d10; have HR1 : Hid (Rpr w1 rb S i1 x 0 0) := hR1; clear hR1; have Z1 : Hid (Xb w1 w.heap.size (.int .u8 0) (.int .u32 0) (.slice none 0 0)) := Z0.out.only ho1 (by omega)) | (go_at_call 32; refine (bad_first rb S _ _ 25 t.at' _ (HR1.out.setDp _)).mono ?_; rintro e w2 ⟨rfl, hR2, ho2⟩; have Z2 : Hid (Xb w2 w.heap.size (.int .u8 0) (.int .u32 0) (.slice none 0 0)) := (Z1.out.only ((Only.refl (· = rb) w1).setCell (p := ⟨rb, 10, none⟩) rfl _) (by omega)).only ho2 (by omega); have z0 := Z2.out.c0; have z1 := Z2.out.c1; have z2 := Z2.out.c2; have zf0 := Z2.out.fz 0; have zf1 := Z2.out.fz 1; have zf2 := Z2.out.fz 2))
    refine bodyPost_ret (v := .agg #[.int .u8 0, .int .u32 0, .slice none 0 0]) (results_x rfl _ rfl (Z2.out.set3 _ _ _)) rfl ?_
    have hqb : Qb w2 rb S (25, t.at') := (show Rpr w2 rb S (i1 : Int) _ ((25 : Nat) : Int) (t.at' : Int) from hR2).qb (by decide) (HC.out.vc.withDp _)
    exact ⟨⟨_, _, _, _, _, rfl⟩, hqb.set3 (z := w.heap.size) (by omega) _ _ _, ((((((Only.refl (· = rb) w).alloc _).trans ho1).setCell (p := ⟨rb, 10, none⟩) rfl _).trans ho2).set3 (z := w.heap.size) (Nat.le_refl _) _ _ _)⟩
  · rw [if_neg h16]
    have t1 : ¬ (16 : Int) < (d : Int) + 1 := by omega
    have t2 : decide ((16 : Int) < (d : Int) + 1) = false := decide_eq_false t1
    have hd1 : (d : Int) < 16 := by omega
    clear h16
    cases he : Rl.either E nc n (d + 1) ts p with
    | error f =>
      have T1 : Hid (Rl.either E nc n (d + 1) ts p = .error f) := he
      clear he
      simp only
      go_enter Try.func71, Try.ntmps71
      go_wp2_with (first | (go_at_call 34; have hc := sign_any 40 rb S x (t :: ts) _ HQ.out hS HC.out.vc (by decide) (by decide); rw [T0.out] at hc; refine hc.mono ?_; clear hc; rintro e w1 ⟨rfl, hi1, ho1⟩; have HI1 : Hid (Qn w1 rb S x ts) := hi1; obtain ⟨i1, hR1, _, _⟩ := hi1; have d10 := hR1.c10; have f10 := hR1.fz 10; rw [HC.out.dp] at d10; clear hR1; have HO1 : Hid (Only (· = rb) w w1) := ((Only.refl (· = rb) w).alloc _).trans ho1; have Z1 : Hid (Xb w1 w.heap.size (.int .u8 0) (.int .u32 0) (.slice none 0 0)) := Z0.out.only ho1 (by omega)) | (go_at_call 55; have hc := HEi.out (d + 1) p (x.withDp ((d + 1 : Nat) : Int)) ts (w1.setCell ⟨rb, 10, none⟩ (.int .i64 ((d : Int) + 1))) (HI1.out.setDp ((d : Int) + 1)) (((HD.out.only HO1.out).only ((Only.refl (· = rb) w1).setCell (p := ⟨rb, 10, none⟩) rfl _)).withDp _) (HC.out.withDp (by omega)) (by omega); rw [T1.out] at hc; refine hc.mono ?_; clear hc; rintro e w2 ⟨⟨o, s, a, k, c, rfl⟩, hb2, ho2⟩; have HB2 : Hid (Qb w2 rb S f) := hb2; clear hb2; have HO2 : Hid (Only (· = rb) w w2) := (HO1.out.setCell (p := ⟨rb, 10, none⟩) rfl _).trans ho2; have Z2 : Hid (Xb w2 w.heap.size (.int .u8 0) (.int .u32 0) (.slice none 0 0)) := (Z1.out.only ((Only.refl (· = rb) w1).setCell (p := ⟨rb, 10, none⟩) rfl _) (by omega)).only ho2 (by omega); have hl2 := Z2.out.lt; have hlr2 := HB2.out.lt) | (go_at_call 37; refine (rwant_bad _ rb S f _ (HB2.out.alloc (.cells #[.int .u8 o, .int .u32 s, .slice a k c] 50))).mono ?_; rintro e w3 ⟨rfl, hb3, ho3⟩; have HB3 : Hid (Qb w3 rb S f) := hb3; obtain ⟨i3, x3, hR3, _, _⟩ := hb3; have d10 := hR3.c10; have f10 := hR3.fz 10; clear hR3; have HO3 : Hid (Only (· = rb) w w3) := (HO2.out.alloc _).trans (ho3.mono (fun _ h => h.elim)); have Z3 : Hid (Xb w3 w.heap.size (.int .u8 0) (.int .u32 0) (.slice none 0 0)) := (Z2.out.alloc _).only ho3 (fun h => h); have C3 : Hid (Xb w3 w2.heap.size (.int .u8 o) (.int .u32 s) (.slice a k c)) := (Xb.new w2 _ _ _).only ho3 (fun h => h); have x0 := C3.out.c0; have x1 := C3.out.c1; have x2 := C3.out.c2; have z0 := Z3.out.c0; have z1 := Z3.out.c1; have z2 := Z3.out.c2; have zf0 := Z3.out.fz 0; have zf1 := Z3.out.fz 1; have zf2 := Z3.out.fz 2))
      refine bodyPost_ret (v := .agg #[.int .u8 o, .int .u32 s, .slice a k c]) (results_x rfl _ rfl (((Z3.out.only ((Only.refl (· = rb) w3).setCell (p := ⟨rb, 10, none⟩) rfl _) (by omega))).set3 _ _ _)) rfl ?_
      exact ⟨⟨_, _, _, _, _, rfl⟩, (HB3.out.setDp _).set3 (z := w.heap.size) (by omega) _ _ _, (HO3.out.setCell (p := ⟨rb, 10, none⟩) rfl _).set3 (z := w.heap.size) (Nat.le_refl _) _ _ _⟩
    | ok r =>
      obtain ⟨ex, ts1, p1⟩ := r
      have T1 : Hid (Rl.either E nc n (d + 1) ts p = .ok (ex, ts1, p1)) := he
      clear he
      simp only
      cases hw : Rl.want 41 ts1 with
      | error f =>
        have T2 : Hid (Rl.want 41 ts1 = .error f) := hw
        clear hw
        simp only
        go_enter Try.func71, Try.ntmps71
        go_wp2_with (first | (go_at_call 34; have hc := sign_any 40 rb S x (t :: ts) _ HQ.out hS HC.out.vc (by decide) (by decide); rw [T0.out] at hc; refine hc.mono ?_; clear hc; rintro e w1 ⟨rfl, hi1, ho1⟩; have HI1 : Hid (Qn w1 rb S x ts) := hi1; obtain ⟨i1, hR1, _, _⟩ := hi1; have d10 := hR1.c10; have f10 := hR1.fz 10; rw [HC.out.dp] at d10; clear hR1; have HO1 : Hid (Only (· = rb) w w1) := ((Only.refl (· = rb) w).alloc _).trans ho1; have Z1 : Hid (Xb w1 w.heap.size (.int .u8 0) (.int .u32 0) (.slice none 0 0)) := Z0.out.only ho1 (by omega)) | (go_at_call 55; have hc := HEi.out (d + 1) p (x.withDp ((d + 1 : Nat) : Int)) ts (w1.setCell ⟨rb, 10, none⟩ (.int .i64 ((d : Int) + 1))) (HI1.out.setDp ((d : Int) + 1)) (((HD.out.only HO1.out).only ((Only.refl (· = rb) w1).setCell (p := ⟨rb, 10, none⟩) rfl _)).withDp _) (HC.out.withDp (by omega)) (by omega); rw [T1.out] at hc; refine hc.mono ?_; clear hc; rintro e w2 ⟨v, rfl, hT2, hI2, ho2⟩; obtain ⟨o, s, a, k, c, rfl⟩ := hT2.form; have HI2 : Hid (Qn w2 rb S ((x.withDp ((d + 1 : Nat) : Int)).withPl p1) ts1) := hI2; clear hI2 hT2; have HO2 : Hid (Only (· = rb) w w2) := (HO1.out.setCell (p := ⟨rb, 10, none⟩) rfl _).trans ho2; have Z2 : Hid (Xb w2 w.heap.size (.int .u8 0) (.int .u32 0) (.slice none 0 0)) := (Z1.out.only ((Only.refl (· = rb) w1).setCell (p := ⟨rb, 10, none⟩) rfl _) (by omega)).only ho2 (by omega); have hl2 := Z2.out.lt; have hlr2 := HI2.out.lt) | (go_at_call 37; have hc := rwant_any 41 rb S _ ts1 _ (HI2.out.alloc (.cells #[.int .u8 o, .int .u32 s, .slice a k c] 50)) hS ((HC.out.vc.withDp _).withPl _) (by decide) (by decide); rw [T2.out] at hc; refine hc.mono ?_; clear hc; rintro e w3 ⟨rfl, hb3, ho3⟩; have HB3 : Hid (Qb w3 rb S f) := hb3; obtain ⟨i3, x3, hR3, _, _⟩ := hb3; have d10 := hR3.c10; have f10 := hR3.fz 10; clear hR3; have HO3 : Hid (Only (· = rb) w w3) := (HO2.out.alloc _).trans ho3; have Z3 : Hid (Xb w3 w.heap.size (.int .u8 0) (.int .u32 0) (.slice none 0 0)) := (Z2.out.alloc _).only ho3 (by omega); have C3 : Hid (Xb w3 w2.heap.size (.int .u8 o) (.int .u32 s) (.slice a k c)) := (Xb.new w2 _ _ _).only ho3 (by omega); have x0 := C3.out.c0; have x1 := C3.out.c1; have x2 := C3.out.c2; have z0 := Z3.out.c0; have z1 := Z3.out.c1; have z2 := Z3.out.c2; have zf0 := Z3.out.fz 0; have zf1 := Z3.out.fz 1; have zf2 := Z3.out.fz 2))
        refine bodyPost_ret (v := .agg #[.int .u8 o, .int .u32 s, .slice a k c]) (results_x rfl _ rfl (((Z3.out.only ((Only.refl (· = rb) w3).setCell (p := ⟨rb, 10, none⟩) rfl _) (by omega))).set3 _ _ _)) rfl ?_
        exact ⟨⟨_, _, _, _, _, rfl⟩, (HB3.out.setDp _).set3 (z := w.heap.size) (by omega) _ _ _, (HO3.out.setCell (p := ⟨rb, 10, none⟩) rfl _).set3 (z := w.heap.size) (Nat.le_refl _) _ _ _⟩
      | ok ts2 =>
        have T2 : Hid (Rl.want 41 ts1 = .ok ts2) := hw
        clear hw
        simp only
        have hdd : (d : Int) + 1 - 1 = (d : Int) := by omega
        go_enter Try.func71, Try.ntmps71
        go_wp2_with (first | (go_at_call 34; have hc := sign_any 40 rb S x (t :: ts) _ HQ.out hS HC.out.vc (by decide) (by decide); rw [T0.out] at hc; refine hc.mono ?_; clear hc; rintro e w1 ⟨rfl, hi1, ho1⟩; have HI1 : Hid (Qn w1 rb S x ts) := hi1; obtain ⟨i1, hR1, _, _⟩ := hi1; have d10 := hR1.c10; have f10 := hR1.fz 10; rw [HC.out.dp] at d10; clear hR1; have HO1 : Hid (Only (· = rb) w w1) := ((Only.refl (· = rb) w).alloc _).trans ho1; have Z1 : Hid (Xb w1 w.heap.size (.int .u8 0) (.int .u32 0) (.slice none 0 0)) := Z0.out.only ho1 (by omega); have hl1 := Z1.out.lt) | (go_at_call 55; have hc := HEi.out (d + 1) p (x.withDp ((d + 1 : Nat) : Int)) ts (w1.setCell ⟨rb, 10, none⟩ (.int .i64 ((d : Int) + 1))) (HI1.out.setDp ((d : Int) + 1)) (((HD.out.only HO1.out).only ((Only.refl (· = rb) w1).setCell (p := ⟨rb, 10, none⟩) rfl _)).withDp _) (HC.out.withDp (by omega)) (by omega); rw [T1.out] at hc; refine hc.mono ?_; clear hc; rintro e w2 ⟨v, rfl, hT2, hI2, ho2⟩; obtain ⟨o, s, a, k, c, rfl⟩ := hT2.form; have HT2 : Hid (Tr w2 (fun b => w1.heap.size ≤ b) ex (.agg #[.int .u8 o, .int .u32 s, .slice a k c])) := (by have := hT2; simp only [World.setCell, Array.size_modify] at this; exact this); have HI2 : Hid (Qn w2 rb S ((x.withDp ((d + 1 : Nat) : Int)).withPl p1) ts1) := hI2; clear hI2 hT2; have HO2 : Hid (Only (· = rb) w w2) := (HO1.out.setCell (p := ⟨rb, 10, none⟩) rfl _).trans ho2; have Z2 : Hid (Xb w2 w.heap.size (.int .u8 0) (.int .u32 0) (.slice none 0 0)) := (Z1.out.only ((Only.refl (· = rb) w1).setCell (p := ⟨rb, 10, none⟩) rfl _) (by omega)).only ho2 (by omega); have hl2 := Z2.out.lt; have hlr2 := HI2.out.lt) | (go_at_call 37; have hc := rwant_any 41 rb S _ ts1 _ (HI2.out.alloc (.cells #[.int .u8 o, .int .u32 s, .slice a k c] 50)) hS ((HC.out.vc.withDp _).withPl _) (by decide) (by decide); rw [T2.out] at hc; refine hc.mono ?_; clear hc; rintro e w3 ⟨rfl, hi3, ho3⟩; have HI3 : Hid (Qn w3 rb S ((x.withDp ((d + 1 : Nat) : Int)).withPl p1) ts2) := hi3; obtain ⟨i3, hR3, _, _⟩ := hi3; have d10 : w3.cell? ⟨rb, 10, none⟩ = some (.int .i64 ((d : Int) + 1)) := hR3.c10; have f10 := hR3.fz 10; clear hR3; have HO3 : Hid (Only (· = rb) w w3) := (HO2.out.alloc _).trans ho3; have Z3 : Hid (Xb w3 w.heap.size (.int .u8 0) (.int .u32 0) (.slice none 0 0)) := (Z2.out.alloc _).only ho3 (by omega); have C3 : Hid (Xb w3 w2.heap.size (.int .u8 o) (.int .u32 s) (.slice a k c)) := (Xb.new w2 _ _ _).only ho3 (by omega); have x0 := C3.out.c0; have x1 := C3.out.c1; have x2 := C3.out.c2; have z0 := Z3.out.c0; have z1 := Z3.out.c1; have z2 := Z3.out.c2; have zf0 := Z3.out.fz 0; have zf1 := Z3.out.fz 1; have zf2 := Z3.out.fz 2; have HT3 : Hid (Tr w3 (fun b => w1.heap.size ≤ b) ex (.agg #[.int .u8 o, .int .u32 s, .slice a k c])) := HT2.out.later (((Only.refl (· = rb) w2).alloc _).trans ho3) (fun b hb => by omega) (fun b hb => hb)))
        have hX : (((x.withDp ((d + 1 : Nat) : Int)).withPl p1).withDp (d : Int)) = x.withPl p1 := by
          have := HC.out.dp
          cases x
          simp only [Rq.withDp, Rq.withPl] at this ⊢
          rw [this]
        refine bodyPost_ret (v := .agg #[.int .u8 o, .int .u32 s, .slice a k c]) (results_x rfl _ rfl (((Z3.out.only ((Only.refl (· = rb) w3).setCell (p := ⟨rb, 10, none⟩) rfl (.int .i64 (d : Int))) (by omega))).set3 _ _ _)) rfl ?_
        refine ⟨_, rfl, ?_, ?_, (HO3.out.setCell (p := ⟨rb, 10, none⟩) rfl _).set3 (z := w.heap.size) (Nat.le_refl _) _ _ _⟩
        · refine HT3.out.keep fun b hb hl => ⟨by omega, ?_⟩
          rw [show ∀ W : World, (((W.setCell ⟨w.heap.size, 0, none⟩ (.int .u8 o)).setCell ⟨w.heap.size, 1, none⟩ (.int .u32 s)).setCell ⟨w.heap.size, 2, none⟩ (.slice a k c)) = set3 W w.heap.size (.int .u8 o) (.int .u32 s) (.slice a k c) from fun _ => rfl]
          exact (set3_other _ _ _ _ (by omega)).trans (Below.heap_setCell _ _ _ _ (by show ¬ b = rb; omega))
        · rw [← hX]
          exact (HI3.out.setDp _).set3 (by omega) _ _ _
end Go.Proofs.Ytahoepmnekconaa
