/-
  line of the document's own parser: set, join, treat, and the rules' lines.
-/
import Derived.Test.YtahoepmnekconaaR13
namespace Go.Proofs.Ytahoepmnekconaa
open Go.RowKit Go.Maps
set_option linter.unusedVariables false
set_option linter.unusedSimpArgs false
/-- a line, and the sign behind it. -/
def lineF (t : Rl.Tk) (ts : List Rl.Tk) (s : Rl.St) : Rl.R (List Rl.Tk × Rl.St) :=
  match Rl.line t ts s with
  | .error f => .error f
  | .ok (ts1, s1) => match Rl.want 59 ts1 with
    | .error f => .error f
    | .ok ts2 => .ok (ts2, s1)
theorem Qb.set3j {w : World} {rb : Nat} {S : ByteArray} {f : Rl.Ft} (h : Qb w rb S f) (p : Int) : Qb (w.setCell ⟨rb, 3, none⟩ (.int .u32 p)) rb S f := by
  obtain ⟨i, x, h1, h2, h3⟩ := h
  exact ⟨i, { x with j := p }, h1.set3 p, h2, h3⟩
theorem Qb.set4a {w : World} {rb : Nat} {S : ByteArray} {f : Rl.Ft} (h : Qb w rb S f) (p : Int) : Qb (w.setCell ⟨rb, 4, none⟩ (.int .u32 p)) rb S f := by
  obtain ⟨i, x, h1, h2, h3⟩ := h
  exact ⟨i, { x with a := p }, h1.set4 p, h2, h3⟩
theorem Sr.setJ {w : World} {rb : Nat} {x : Rq} {s : Rl.St} (h : Sr w rb x s) (j : Int) : Sr (w.setCell ⟨rb, 3, none⟩ (.int .u32 j)) rb { x with j := j } { s with join := j } := by
  have hp := h.p.only (setRb 3 (.int .u32 j))
  exact ⟨⟨hp.nm, hp.bt, hp.cls, hp.trt, hp.lst, rfl, hp.af, hp.pl, hp.dp, hp.l24, hp.p200, hp.ap⟩, h.c24, h.tl, h.e5⟩
theorem Sr.setA {w : World} {rb : Nat} {x : Rq} {s : Rl.St} (h : Sr w rb x s) (j : Int) : Sr (w.setCell ⟨rb, 4, none⟩ (.int .u32 j)) rb { x with a := j } { s with after := j } := by
  have hp := h.p.only (setRb 4 (.int .u32 j))
  exact ⟨⟨hp.nm, hp.bt, hp.cls, hp.trt, hp.lst, hp.jn, rfl, hp.pl, hp.dp, hp.l24, hp.p200, hp.ap⟩, h.c24, h.tl, h.e5⟩
theorem Sr.setT {w : World} {rb : Nat} {x : Rq} {s : Rl.St} {g cap k : Nat} (h : Sr w rb x s) (m : Int) (hv : x.vT = .slice (some ⟨g, 0, none⟩) s.treat.length cap) (hk : k < s.treat.length) : Sr (w.setCell ⟨g, k, none⟩ (.int .i64 m)) rb x { s with treat := s.treat.set k m } ∧ Only (fun b => x.vT.ownBlock = some b) w (w.setCell ⟨g, k, none⟩ (.int .i64 m)) := by
  have hO : Only (fun b => x.vT.ownBlock = some b) w (w.setCell ⟨g, k, none⟩ (.int .i64 m)) := (Only.refl _ w).setCell (p := ⟨g, k, none⟩) (by show x.vT.ownBlock = some g; rw [hv]; rfl) _
  have ht : (w.setCell ⟨g, k, none⟩ (.int .i64 m)).ownsRow (rb + 1) 3 1 x.vT (s.treat.set k m).length (ints (s.treat.set k m)) := by
    rw [ints_set, List.length_set, hv]
    exact own_set (by have := h.p.trt; rw [hv] at this; exact this) hk _
  exact ⟨⟨⟨own_keepB h.p.nm hO (own_two h.p.nm h.p.trt (by decide)), own_keepB h.p.bt hO (own_two h.p.bt h.p.trt (by decide)), own_keepB h.p.cls hO (own_two h.p.cls h.p.trt (by decide)), ht, h.p.lst.keepB h.p.trt (by decide) (by decide) hO, h.p.jn, h.p.af, h.p.pl, h.p.dp, h.p.l24, h.p.p200, h.p.ap⟩, h.c24, by rw [List.length_set]; exact h.tl, h.e5⟩, hO⟩
set_option maxRecDepth 100000 in
set_option maxHeartbeats 8000000 in
theorem lineKeep (rb : Nat) (S : ByteArray) (x : Rq) (s : Rl.St) (t : Rl.Tk) (ts : List Rl.Tk) (w : World) (h : Qn w rb S x (t :: ts)) (hS : S.size ≤ 4096) (hT : Sr w rb x s) (hb : ¬ t.bad = true) (hen : s.env.length + ts.length < 5000) (hW : t.text = Rl.wKeep) :
    Calls Try.prog 24 #[.pointer (some ⟨rb, 0, none⟩)] w (rlineP rb S w (lineF t ts s)) := by
  have hlt := h.lt
  have HI : Hid (Qn w rb S x (t :: ts)) := h
  have HS : Hid (Sr w rb x s) := hT
  have T0 : Hid (Rl.name (t :: ts) = .ok (t, ts)) := by
    show Rl.name (t :: ts) = .ok (t, ts)
    rw [rname_cons, if_neg hb, if_pos]
    show decide (0 < Rl.nml t.text) = true
    rw [hW]; rfl
  have htt := bs_toList t.text
  have q0 : (t.text == [99, 108, 97, 115, 115]) = false := by rw [hW]; rfl
  have l0 : (⟨#[99, 108, 97, 115, 115]⟩ : ByteArray).toList = [99, 108, 97, 115, 115] := by rw [Lib.toList_data]
  have q1 : (t.text == [115, 101, 116]) = false := by rw [hW]; rfl
  have l1 : (⟨#[115, 101, 116]⟩ : ByteArray).toList = [115, 101, 116] := by rw [Lib.toList_data]
  have q2 : (t.text == [106, 111, 105, 110]) = false := by rw [hW]; rfl
  have l2 : (⟨#[106, 111, 105, 110]⟩ : ByteArray).toList = [106, 111, 105, 110] := by rw [Lib.toList_data]
  have q3 : (t.text == [116, 114, 101, 97, 116]) = false := by rw [hW]; rfl
  have l3 : (⟨#[116, 114, 101, 97, 116]⟩ : ByteArray).toList = [116, 114, 101, 97, 116] := by rw [Lib.toList_data]
  have q4 : (t.text == [107, 101, 101, 112]) = true := by rw [hW]; rfl
  have l4 : (⟨#[107, 101, 101, 112]⟩ : ByteArray).toList = [107, 101, 101, 112] := by rw [Lib.toList_data]
  obtain ⟨F, hF⟩ : ∃ F, F = lineF t ts s := ⟨_, rfl⟩
  have HF : Hid (F = lineF t ts s) := hF
  rw [← hF]
  have HW : Hid (t.text = Rl.wKeep) := hW
  clear hF hT h hb hW
  have hR : F = ruleF 0 t.at' ts s := by rw [HF.out]; unfold lineF Rl.line; rw [if_neg (by rw [HW.out]; decide), if_neg (by rw [HW.out]; decide), if_neg (by rw [HW.out]; decide), if_neg (by rw [HW.out]; decide), if_pos HW.out]; rfl
  have hc0 : ∀ W, Qn W rb S x ts → Sr W rb x s → Calls Try.prog 40 #[.pointer (some ⟨rb, 0, none⟩), .int .u8 0, .int .i64 (t.at' : Int)] W (rlineP rb S W F) := fun W h1 h2 => by rw [hR]; exact rrule_any 0 rb S x s ts W h1 hS h2 t.at'
  have HC : Hid (∀ W, Qn W rb S x ts → Sr W rb x s → Calls Try.prog 40 #[.pointer (some ⟨rb, 0, none⟩), .int .u8 0, .int .i64 (t.at' : Int)] W (rlineP rb S W F)) := hc0
  clear hR hc0 HF
  cases F with
  | error f =>
    go_enter Try.func24, Try.ntmps24
    go_wp2_with (first | (go_at_call 33; have hc := word_any rb S x (t :: ts) _ HI.out hS HS.out.vc; rw [T0.out] at hc; refine hc.mono ?_; clear hc; rintro e w1 ⟨rfl, hi1, ho1⟩; have HI1 : Hid (Qn w1 rb S x ts) := hi1; clear hi1; have HO1 : Hid (Only (· = rb) w w1) := ho1; clear ho1; have HS1 : Hid (Sr w1 rb x s) := HS.out.only HO1.out) | (go_at_call 40; refine (HC.out _ HI1.out HS1.out).mono ?_; rintro e w2 ⟨rfl, hb2, ho2⟩))
    go_end0
    exact ⟨rfl, hb2, HO1.out.up.trans ho2⟩
  | ok r =>
    obtain ⟨ts', s'⟩ := r
    go_enter Try.func24, Try.ntmps24
    go_wp2_with (first | (go_at_call 33; have hc := word_any rb S x (t :: ts) _ HI.out hS HS.out.vc; rw [T0.out] at hc; refine hc.mono ?_; clear hc; rintro e w1 ⟨rfl, hi1, ho1⟩; have HI1 : Hid (Qn w1 rb S x ts) := hi1; clear hi1; have HO1 : Hid (Only (· = rb) w w1) := ho1; clear ho1; have HS1 : Hid (Sr w1 rb x s) := HS.out.only HO1.out) | (go_at_call 40; refine (HC.out _ HI1.out HS1.out).mono ?_; rintro e w2 ⟨rfl, x', hI', hS', ho2⟩; have HP : Hid (∃ x', Qn w2 rb S x' ts' ∧ Sr w2 rb x' s') := ⟨x', hI', hS'⟩; clear hI' hS'))
    go_end0
    obtain ⟨x', h1, h2⟩ := HP.out
    exact ⟨rfl, x', h1, h2, HO1.out.up.trans ho2⟩
set_option maxRecDepth 100000 in
set_option maxHeartbeats 8000000 in
theorem lineMay (rb : Nat) (S : ByteArray) (x : Rq) (s : Rl.St) (t : Rl.Tk) (ts : List Rl.Tk) (w : World) (h : Qn w rb S x (t :: ts)) (hS : S.size ≤ 4096) (hT : Sr w rb x s) (hb : ¬ t.bad = true) (hen : s.env.length + ts.length < 5000) (hW : t.text = Rl.wMay) :
    Calls Try.prog 24 #[.pointer (some ⟨rb, 0, none⟩)] w (rlineP rb S w (lineF t ts s)) := by
  have hlt := h.lt
  have HI : Hid (Qn w rb S x (t :: ts)) := h
  have HS : Hid (Sr w rb x s) := hT
  have T0 : Hid (Rl.name (t :: ts) = .ok (t, ts)) := by
    show Rl.name (t :: ts) = .ok (t, ts)
    rw [rname_cons, if_neg hb, if_pos]
    show decide (0 < Rl.nml t.text) = true
    rw [hW]; rfl
  have htt := bs_toList t.text
  have q0 : (t.text == [99, 108, 97, 115, 115]) = false := by rw [hW]; rfl
  have l0 : (⟨#[99, 108, 97, 115, 115]⟩ : ByteArray).toList = [99, 108, 97, 115, 115] := by rw [Lib.toList_data]
  have q1 : (t.text == [115, 101, 116]) = false := by rw [hW]; rfl
  have l1 : (⟨#[115, 101, 116]⟩ : ByteArray).toList = [115, 101, 116] := by rw [Lib.toList_data]
  have q2 : (t.text == [106, 111, 105, 110]) = false := by rw [hW]; rfl
  have l2 : (⟨#[106, 111, 105, 110]⟩ : ByteArray).toList = [106, 111, 105, 110] := by rw [Lib.toList_data]
  have q3 : (t.text == [116, 114, 101, 97, 116]) = false := by rw [hW]; rfl
  have l3 : (⟨#[116, 114, 101, 97, 116]⟩ : ByteArray).toList = [116, 114, 101, 97, 116] := by rw [Lib.toList_data]
  have q4 : (t.text == [107, 101, 101, 112]) = false := by rw [hW]; rfl
  have l4 : (⟨#[107, 101, 101, 112]⟩ : ByteArray).toList = [107, 101, 101, 112] := by rw [Lib.toList_data]
  have q5 : (t.text == [109, 97, 121]) = true := by rw [hW]; rfl
  have l5 : (⟨#[109, 97, 121]⟩ : ByteArray).toList = [109, 97, 121] := by rw [Lib.toList_data]
  obtain ⟨F, hF⟩ : ∃ F, F = lineF t ts s := ⟨_, rfl⟩
  have HF : Hid (F = lineF t ts s) := hF
  rw [← hF]
  have HW : Hid (t.text = Rl.wMay) := hW
  clear hF hT h hb hW
  have hR : F = ruleF 1 t.at' ts s := by rw [HF.out]; unfold lineF Rl.line; rw [if_neg (by rw [HW.out]; decide), if_neg (by rw [HW.out]; decide), if_neg (by rw [HW.out]; decide), if_neg (by rw [HW.out]; decide), if_neg (by rw [HW.out]; decide), if_pos HW.out]; rfl
  have hc0 : ∀ W, Qn W rb S x ts → Sr W rb x s → Calls Try.prog 40 #[.pointer (some ⟨rb, 0, none⟩), .int .u8 1, .int .i64 (t.at' : Int)] W (rlineP rb S W F) := fun W h1 h2 => by rw [hR]; exact rrule_any 1 rb S x s ts W h1 hS h2 t.at'
  have HC : Hid (∀ W, Qn W rb S x ts → Sr W rb x s → Calls Try.prog 40 #[.pointer (some ⟨rb, 0, none⟩), .int .u8 1, .int .i64 (t.at' : Int)] W (rlineP rb S W F)) := hc0
  clear hR hc0 HF
  cases F with
  | error f =>
    go_enter Try.func24, Try.ntmps24
    go_wp2_with (first | (go_at_call 33; have hc := word_any rb S x (t :: ts) _ HI.out hS HS.out.vc; rw [T0.out] at hc; refine hc.mono ?_; clear hc; rintro e w1 ⟨rfl, hi1, ho1⟩; have HI1 : Hid (Qn w1 rb S x ts) := hi1; clear hi1; have HO1 : Hid (Only (· = rb) w w1) := ho1; clear ho1; have HS1 : Hid (Sr w1 rb x s) := HS.out.only HO1.out) | (go_at_call 40; refine (HC.out _ HI1.out HS1.out).mono ?_; rintro e w2 ⟨rfl, hb2, ho2⟩))
    go_end0
    exact ⟨rfl, hb2, HO1.out.up.trans ho2⟩
  | ok r =>
    obtain ⟨ts', s'⟩ := r
    go_enter Try.func24, Try.ntmps24
    go_wp2_with (first | (go_at_call 33; have hc := word_any rb S x (t :: ts) _ HI.out hS HS.out.vc; rw [T0.out] at hc; refine hc.mono ?_; clear hc; rintro e w1 ⟨rfl, hi1, ho1⟩; have HI1 : Hid (Qn w1 rb S x ts) := hi1; clear hi1; have HO1 : Hid (Only (· = rb) w w1) := ho1; clear ho1; have HS1 : Hid (Sr w1 rb x s) := HS.out.only HO1.out) | (go_at_call 40; refine (HC.out _ HI1.out HS1.out).mono ?_; rintro e w2 ⟨rfl, x', hI', hS', ho2⟩; have HP : Hid (∃ x', Qn w2 rb S x' ts' ∧ Sr w2 rb x' s') := ⟨x', hI', hS'⟩; clear hI' hS'))
    go_end0
    obtain ⟨x', h1, h2⟩ := HP.out
    exact ⟨rfl, x', h1, h2, HO1.out.up.trans ho2⟩
set_option maxRecDepth 100000 in
set_option maxHeartbeats 8000000 in
theorem lineMust (rb : Nat) (S : ByteArray) (x : Rq) (s : Rl.St) (t : Rl.Tk) (ts : List Rl.Tk) (w : World) (h : Qn w rb S x (t :: ts)) (hS : S.size ≤ 4096) (hT : Sr w rb x s) (hb : ¬ t.bad = true) (hen : s.env.length + ts.length < 5000) (hW : t.text = Rl.wMust) :
    Calls Try.prog 24 #[.pointer (some ⟨rb, 0, none⟩)] w (rlineP rb S w (lineF t ts s)) := by
  have hlt := h.lt
  have HI : Hid (Qn w rb S x (t :: ts)) := h
  have HS : Hid (Sr w rb x s) := hT
  have T0 : Hid (Rl.name (t :: ts) = .ok (t, ts)) := by
    show Rl.name (t :: ts) = .ok (t, ts)
    rw [rname_cons, if_neg hb, if_pos]
    show decide (0 < Rl.nml t.text) = true
    rw [hW]; rfl
  have htt := bs_toList t.text
  have q0 : (t.text == [99, 108, 97, 115, 115]) = false := by rw [hW]; rfl
  have l0 : (⟨#[99, 108, 97, 115, 115]⟩ : ByteArray).toList = [99, 108, 97, 115, 115] := by rw [Lib.toList_data]
  have q1 : (t.text == [115, 101, 116]) = false := by rw [hW]; rfl
  have l1 : (⟨#[115, 101, 116]⟩ : ByteArray).toList = [115, 101, 116] := by rw [Lib.toList_data]
  have q2 : (t.text == [106, 111, 105, 110]) = false := by rw [hW]; rfl
  have l2 : (⟨#[106, 111, 105, 110]⟩ : ByteArray).toList = [106, 111, 105, 110] := by rw [Lib.toList_data]
  have q3 : (t.text == [116, 114, 101, 97, 116]) = false := by rw [hW]; rfl
  have l3 : (⟨#[116, 114, 101, 97, 116]⟩ : ByteArray).toList = [116, 114, 101, 97, 116] := by rw [Lib.toList_data]
  have q4 : (t.text == [107, 101, 101, 112]) = false := by rw [hW]; rfl
  have l4 : (⟨#[107, 101, 101, 112]⟩ : ByteArray).toList = [107, 101, 101, 112] := by rw [Lib.toList_data]
  have q5 : (t.text == [109, 97, 121]) = false := by rw [hW]; rfl
  have l5 : (⟨#[109, 97, 121]⟩ : ByteArray).toList = [109, 97, 121] := by rw [Lib.toList_data]
  have q6 : (t.text == [109, 117, 115, 116]) = true := by rw [hW]; rfl
  have l6 : (⟨#[109, 117, 115, 116]⟩ : ByteArray).toList = [109, 117, 115, 116] := by rw [Lib.toList_data]
  obtain ⟨F, hF⟩ : ∃ F, F = lineF t ts s := ⟨_, rfl⟩
  have HF : Hid (F = lineF t ts s) := hF
  rw [← hF]
  have HW : Hid (t.text = Rl.wMust) := hW
  clear hF hT h hb hW
  have hR : F = ruleF 2 t.at' ts s := by rw [HF.out]; unfold lineF Rl.line; rw [if_neg (by rw [HW.out]; decide), if_neg (by rw [HW.out]; decide), if_neg (by rw [HW.out]; decide), if_neg (by rw [HW.out]; decide), if_neg (by rw [HW.out]; decide), if_neg (by rw [HW.out]; decide), if_pos HW.out]; rfl
  have hc0 : ∀ W, Qn W rb S x ts → Sr W rb x s → Calls Try.prog 40 #[.pointer (some ⟨rb, 0, none⟩), .int .u8 2, .int .i64 (t.at' : Int)] W (rlineP rb S W F) := fun W h1 h2 => by rw [hR]; exact rrule_any 2 rb S x s ts W h1 hS h2 t.at'
  have HC : Hid (∀ W, Qn W rb S x ts → Sr W rb x s → Calls Try.prog 40 #[.pointer (some ⟨rb, 0, none⟩), .int .u8 2, .int .i64 (t.at' : Int)] W (rlineP rb S W F)) := hc0
  clear hR hc0 HF
  cases F with
  | error f =>
    go_enter Try.func24, Try.ntmps24
    go_wp2_with (first | (go_at_call 33; have hc := word_any rb S x (t :: ts) _ HI.out hS HS.out.vc; rw [T0.out] at hc; refine hc.mono ?_; clear hc; rintro e w1 ⟨rfl, hi1, ho1⟩; have HI1 : Hid (Qn w1 rb S x ts) := hi1; clear hi1; have HO1 : Hid (Only (· = rb) w w1) := ho1; clear ho1; have HS1 : Hid (Sr w1 rb x s) := HS.out.only HO1.out) | (go_at_call 40; refine (HC.out _ HI1.out HS1.out).mono ?_; rintro e w2 ⟨rfl, hb2, ho2⟩))
    go_end0
    exact ⟨rfl, hb2, HO1.out.up.trans ho2⟩
  | ok r =>
    obtain ⟨ts', s'⟩ := r
    go_enter Try.func24, Try.ntmps24
    go_wp2_with (first | (go_at_call 33; have hc := word_any rb S x (t :: ts) _ HI.out hS HS.out.vc; rw [T0.out] at hc; refine hc.mono ?_; clear hc; rintro e w1 ⟨rfl, hi1, ho1⟩; have HI1 : Hid (Qn w1 rb S x ts) := hi1; clear hi1; have HO1 : Hid (Only (· = rb) w w1) := ho1; clear ho1; have HS1 : Hid (Sr w1 rb x s) := HS.out.only HO1.out) | (go_at_call 40; refine (HC.out _ HI1.out HS1.out).mono ?_; rintro e w2 ⟨rfl, x', hI', hS', ho2⟩; have HP : Hid (∃ x', Qn w2 rb S x' ts' ∧ Sr w2 rb x' s') := ⟨x', hI', hS'⟩; clear hI' hS'))
    go_end0
    obtain ⟨x', h1, h2⟩ := HP.out
    exact ⟨rfl, x', h1, h2, HO1.out.up.trans ho2⟩
set_option maxRecDepth 100000 in
set_option maxHeartbeats 8000000 in
theorem lineSet (rb : Nat) (S : ByteArray) (x : Rq) (s : Rl.St) (t : Rl.Tk) (ts : List Rl.Tk) (w : World) (h : Qn w rb S x (t :: ts)) (hS : S.size ≤ 4096) (hT : Sr w rb x s) (hb : ¬ t.bad = true) (hen : s.env.length + ts.length < 5000) (hW : t.text = Rl.wSet) :
    Calls Try.prog 24 #[.pointer (some ⟨rb, 0, none⟩)] w (rlineP rb S w (lineF t ts s)) := by
  have hlt := h.lt
  have HI : Hid (Qn w rb S x (t :: ts)) := h
  have HS : Hid (Sr w rb x s) := hT
  have T0 : Hid (Rl.name (t :: ts) = .ok (t, ts)) := by
    show Rl.name (t :: ts) = .ok (t, ts)
    rw [rname_cons, if_neg hb, if_pos]
    show decide (0 < Rl.nml t.text) = true
    rw [hW]; rfl
  have htt := bs_toList t.text
  have q0 : (t.text == [99, 108, 97, 115, 115]) = false := by rw [hW]; rfl
  have l0 : (⟨#[99, 108, 97, 115, 115]⟩ : ByteArray).toList = [99, 108, 97, 115, 115] := by rw [Lib.toList_data]
  have q1 : (t.text == [115, 101, 116]) = true := by rw [hW]; rfl
  have l1 : (⟨#[115, 101, 116]⟩ : ByteArray).toList = [115, 101, 116] := by rw [Lib.toList_data]
  obtain ⟨F, hF⟩ : ∃ F, F = lineF t ts s := ⟨_, rfl⟩
  have HF : Hid (F = lineF t ts s) := hF
  rw [← hF]
  have HW : Hid (t.text = Rl.wSet) := hW
  clear hF hT h hb hW
  have hL : F = match Rl.fresh s.env ts with
      | .error f => .error f
      | .ok (t1, ts1) => match Rl.want 61 ts1 with
        | .error f => .error f
        | .ok ts2 => match listF s.env 59 ts2 0 with
          | .error f => .error f
          | .ok (b, ts3) => .ok (ts3, { s with env := s.env ++ [(t1.text, b)] }) := by
    rw [HF.out]; unfold lineF Rl.line; rw [if_neg (by rw [HW.out]; decide), if_pos HW.out]; unfold Rl.set' listF
    cases Rl.fresh s.env ts with
    | error f => rfl
    | ok r =>
      obtain ⟨t1, ts1⟩ := r
      simp only
      cases Rl.want 61 ts1 with
      | error f => rfl
      | ok ts2 =>
        simp only
        cases Rl.names s.env ts2 0 with
        | error f => rfl
        | ok r =>
          obtain ⟨b, ts3⟩ := r
          simp only
          cases Rl.want 59 ts3 <;> rfl
  clear HF
  cases h1 : Rl.fresh s.env ts with
  | error f =>
    rw [h1] at hL
    have HE2 : Hid (F = .error f) := hL
    have T1 : Hid (Rl.fresh s.env ts = .error f) := h1
    clear hL h1
    go_enter Try.func24, Try.ntmps24
    go_wp2_with (first | (go_at_call 33; have hc := word_any rb S x (t :: ts) _ HI.out hS HS.out.vc; rw [T0.out] at hc; refine hc.mono ?_; clear hc; rintro e w1 ⟨rfl, hi1, ho1⟩; have HI1 : Hid (Qn w1 rb S x ts) := hi1; clear hi1; have HO1 : Hid (Only (· = rb) w w1) := ho1; clear ho1; have HS1 : Hid (Sr w1 rb x s) := HS.out.only HO1.out) | (go_at_call 35; have hc := rfresh_any s.env rb S x ts _ HI1.out hS HS.out.vc HS1.out.dec; rw [T1.out] at hc; refine hc.mono ?_; clear hc; rintro e w2 ⟨⟨s2, a2, rfl⟩, hb2, ho2⟩; have HB2 : Hid (Qb w2 rb S f) := hb2; clear hb2; have HO2 : Hid (Only (· = rb) w w2) := HO1.out.trans ho2; clear ho2) | (go_at_call_of 37 (Value.int .u8 61); refine (rwant_bad _ rb S f _ HB2.out).mono ?_; rintro e w3 ⟨rfl, hb3, ho3⟩; have HB3 : Hid (Qb w3 rb S f) := hb3; clear hb3; have HO3 : Hid (Only (· = rb) w w3) := HO2.out.trans (ho3.mono (fun _ h => h.elim)); clear ho3) | (go_at_call_of 38 (Value.int .u8 59); refine (list_bad _ rb S f _ HB3.out).mono ?_; rintro e w4 ⟨rfl, hb4, ho4⟩; have HB4 : Hid (Qb w4 rb S f) := hb4; clear hb4; have HO4 : Hid (Only (· = rb) w w4) := HO3.out.trans (ho4.mono (fun _ h => h.elim)); clear ho4; have hq4 := HB4.out; obtain ⟨i4, x4, hR4, hc4, _⟩ := hq4; have d11 := hR4.c11; have qf : ((f.1 : Int) == 0) = false := (by simpa using hc4); clear hR4 hc4))
    go_end0
    rw [HE2.out]
    exact ⟨rfl, HB4.out, HO4.out.up⟩
  | ok r =>
    obtain ⟨t1, ts1⟩ := r
    rw [h1] at hL
    simp only at hL
    have T1 : Hid (Rl.fresh s.env ts = .ok (t1, ts1)) := h1
    clear h1
    cases h2 : Rl.want 61 ts1 with
    | error f =>
      rw [h2] at hL
      have HE2 : Hid (F = .error f) := hL
      have T2 : Hid (Rl.want 61 ts1 = .error f) := h2
      clear hL h2
      go_enter Try.func24, Try.ntmps24
      go_wp2_with (first | (go_at_call 33; have hc := word_any rb S x (t :: ts) _ HI.out hS HS.out.vc; rw [T0.out] at hc; refine hc.mono ?_; clear hc; rintro e w1 ⟨rfl, hi1, ho1⟩; have HI1 : Hid (Qn w1 rb S x ts) := hi1; clear hi1; have HO1 : Hid (Only (· = rb) w w1) := ho1; clear ho1; have HS1 : Hid (Sr w1 rb x s) := HS.out.only HO1.out) | (go_at_call 35; have hc := rfresh_any s.env rb S x ts _ HI1.out hS HS.out.vc HS1.out.dec; rw [T1.out] at hc; refine hc.mono ?_; clear hc; rintro e w2 ⟨rfl, hi2, ho2⟩; have HI2 : Hid (Qn w2 rb S x ts1) := hi2; clear hi2; have HO2 : Hid (Only (· = rb) w w2) := HO1.out.trans ho2; clear ho2) | (go_at_call_of 37 (Value.int .u8 61); have hc := rwant_any 61 rb S x ts1 _ HI2.out hS HS.out.vc (by decide) (by decide); rw [T2.out] at hc; refine hc.mono ?_; clear hc; rintro e w3 ⟨rfl, hb3, ho3⟩; have HB3 : Hid (Qb w3 rb S f) := hb3; clear hb3; have HO3 : Hid (Only (· = rb) w w3) := HO2.out.trans ho3; clear ho3) | (go_at_call_of 38 (Value.int .u8 59); refine (list_bad _ rb S f _ HB3.out).mono ?_; rintro e w4 ⟨rfl, hb4, ho4⟩; have HB4 : Hid (Qb w4 rb S f) := hb4; clear hb4; have HO4 : Hid (Only (· = rb) w w4) := HO3.out.trans (ho4.mono (fun _ h => h.elim)); clear ho4; have hq4 := HB4.out; obtain ⟨i4, x4, hR4, hc4, _⟩ := hq4; have d11 := hR4.c11; have qf : ((f.1 : Int) == 0) = false := (by simpa using hc4); clear hR4 hc4))
      go_end0
      rw [HE2.out]
      exact ⟨rfl, HB4.out, HO4.out.up⟩
    | ok ts2 =>
      rw [h2] at hL
      simp only at hL
      have T2 : Hid (Rl.want 61 ts1 = .ok ts2) := h2
      clear h2
      cases h3 : listF s.env 59 ts2 0 with
      | error f =>
        rw [h3] at hL
        have HE2 : Hid (F = .error f) := hL
        have T3 : Hid (listF s.env 59 ts2 0 = .error f) := h3
        clear hL h3
        go_enter Try.func24, Try.ntmps24
        go_wp2_with (first | (go_at_call 33; have hc := word_any rb S x (t :: ts) _ HI.out hS HS.out.vc; rw [T0.out] at hc; refine hc.mono ?_; clear hc; rintro e w1 ⟨rfl, hi1, ho1⟩; have HI1 : Hid (Qn w1 rb S x ts) := hi1; clear hi1; have HO1 : Hid (Only (· = rb) w w1) := ho1; clear ho1; have HS1 : Hid (Sr w1 rb x s) := HS.out.only HO1.out) | (go_at_call 35; have hc := rfresh_any s.env rb S x ts _ HI1.out hS HS.out.vc HS1.out.dec; rw [T1.out] at hc; refine hc.mono ?_; clear hc; rintro e w2 ⟨rfl, hi2, ho2⟩; have HI2 : Hid (Qn w2 rb S x ts1) := hi2; clear hi2; have HO2 : Hid (Only (· = rb) w w2) := HO1.out.trans ho2; clear ho2) | (go_at_call_of 37 (Value.int .u8 61); have hc := rwant_any 61 rb S x ts1 _ HI2.out hS HS.out.vc (by decide) (by decide); rw [T2.out] at hc; refine hc.mono ?_; clear hc; rintro e w3 ⟨rfl, hi3, ho3⟩; have HI3 : Hid (Qn w3 rb S x ts2) := hi3; clear hi3; have HO3 : Hid (Only (· = rb) w w3) := HO2.out.trans ho3; clear ho3) | (go_at_call_of 38 (Value.int .u8 59); have hc := list_any 59 s.env rb S x ts2 _ HI3.out hS HS.out.vc (HS.out.only HO3.out).dec (by decide) (by decide); rw [T3.out] at hc; refine hc.mono ?_; clear hc; rintro e w4 ⟨⟨b4, rfl⟩, hb4, ho4⟩; have HB4 : Hid (Qb w4 rb S f) := hb4; clear hb4; have hq4 := HB4.out; obtain ⟨i4, x4, hR4, hc4, _⟩ := hq4; have d11 := hR4.c11; have d3 := hR4.c3; have f3 := hR4.fz 3; have d4 := hR4.c4; have f4 := hR4.fz 4; have qf : ((f.1 : Int) == 0) = false := (by simpa using hc4); clear hR4 hc4; have HO4 : Hid (Only (· = rb) w w4) := HO3.out.trans ho4; clear ho4))
        go_end0
        rw [HE2.out]
        exact ⟨rfl, HB4.out, HO4.out.up⟩
      | ok r =>
        obtain ⟨b, ts3⟩ := r
        rw [h3] at hL
        have HE2 : Hid (F = .ok (ts3, { s with env := s.env ++ [(t1.text, b)] })) := hL
        have T3 : Hid (listF s.env 59 ts2 0 = .ok (b, ts3)) := h3
        clear hL h3
        go_enter Try.func24, Try.ntmps24
        go_wp2_with (first | (go_at_call 33; have hc := word_any rb S x (t :: ts) _ HI.out hS HS.out.vc; rw [T0.out] at hc; refine hc.mono ?_; clear hc; rintro e w1 ⟨rfl, hi1, ho1⟩; have HI1 : Hid (Qn w1 rb S x ts) := hi1; clear hi1; have HO1 : Hid (Only (· = rb) w w1) := ho1; clear ho1; have HS1 : Hid (Sr w1 rb x s) := HS.out.only HO1.out) | (go_at_call 35; have hc := rfresh_any s.env rb S x ts _ HI1.out hS HS.out.vc HS1.out.dec; rw [T1.out] at hc; refine hc.mono ?_; clear hc; rintro e w2 ⟨rfl, hi2, ho2⟩; have HI2 : Hid (Qn w2 rb S x ts1) := hi2; clear hi2; have HO2 : Hid (Only (· = rb) w w2) := HO1.out.trans ho2; clear ho2) | (go_at_call_of 37 (Value.int .u8 61); have hc := rwant_any 61 rb S x ts1 _ HI2.out hS HS.out.vc (by decide) (by decide); rw [T2.out] at hc; refine hc.mono ?_; clear hc; rintro e w3 ⟨rfl, hi3, ho3⟩; have HI3 : Hid (Qn w3 rb S x ts2) := hi3; clear hi3; have HO3 : Hid (Only (· = rb) w w3) := HO2.out.trans ho3; clear ho3) | (go_at_call_of 38 (Value.int .u8 59); have hc := list_any 59 s.env rb S x ts2 _ HI3.out hS HS.out.vc (HS.out.only HO3.out).dec (by decide) (by decide); rw [T3.out] at hc; refine hc.mono ?_; clear hc; rintro e w4 ⟨rfl, hi4, ho4⟩; have HI4 : Hid (Qn w4 rb S x ts3) := hi4; clear hi4; have hq4 := HI4.out; obtain ⟨i4, hR4, _, _⟩ := hq4; have d11 := hR4.c11; have d3 := hR4.c3; have f3 := hR4.fz 3; have d4 := hR4.c4; have f4 := hR4.fz 4; have HR4 : Hid (Rpr w4 rb S i4 x 0 0) := hR4; clear hR4; have HO4 : Hid (Only (· = rb) w w4) := HO3.out.trans ho4; clear ho4) | (go_at_call 36; refine (declare_any rb S i4 x s _ _ _ _ t1.text b _ HR4.out (HS.out.only HO4.out).p (by rw [List.length_map]; omega) (by rw [List.length_map]; omega)).mono ?_; rintro e w5 ⟨rfl, vN, vB, hR5, hP5, ho5⟩; have HR5 : Hid (Rpr w5 rb S i4 { x with vN := vN, vB := vB } 0 0) := hR5; have HP5 : Hid (Sp w5 rb { x with vN := vN, vB := vB } s (s.env.map Prod.fst ++ [t1.text]) (s.env.map Prod.snd ++ [b]) s.cls s.treat) := hP5; clear hR5 hP5))
        go_end0
        rw [HE2.out]
        obtain ⟨i6, hR6, hs6, hi6⟩ := HI4.out
        have hi46 : i4 = i6 := by
          have h1 := HR4.out
          rw [show Rpr w4 rb S i4 x 0 0 = (w4.heap[rb]? = some (.cells (rqC S i4 x 0 0) 71 (0, 0))) from rfl, show w4.heap[rb]? = _ from hR6] at h1
          injection h1 with h1
          injection h1 with h1
          have h2 := congrArg (fun (q : Array Value) => q[1]?) h1
          simp [rqC] at h2
          omega
        subst hi46
        refine ⟨rfl, _, ⟨i4, HR5.out, hs6, hi6⟩, ⟨?_, HS.out.c24, HS.out.tl, by simp; omega⟩, HO4.out.up.trans ho5⟩
        have hP := HP5.out
        simp only [List.map_append, List.map_cons, List.map_nil]
        exact ⟨hP.nm, hP.bt, hP.cls, hP.trt, hP.lst, hP.jn, hP.af, hP.pl, hP.dp, hP.l24, hP.p200, hP.ap⟩
set_option maxRecDepth 100000 in
set_option maxHeartbeats 8000000 in
theorem lineJoin (rb : Nat) (S : ByteArray) (x : Rq) (s : Rl.St) (t : Rl.Tk) (ts : List Rl.Tk) (w : World) (h : Qn w rb S x (t :: ts)) (hS : S.size ≤ 4096) (hT : Sr w rb x s) (hb : ¬ t.bad = true) (hen : s.env.length + ts.length < 5000) (hW : t.text = Rl.wJoin) :
    Calls Try.prog 24 #[.pointer (some ⟨rb, 0, none⟩)] w (rlineP rb S w (lineF t ts s)) := by
  have hlt := h.lt
  have HI : Hid (Qn w rb S x (t :: ts)) := h
  have HS : Hid (Sr w rb x s) := hT
  have T0 : Hid (Rl.name (t :: ts) = .ok (t, ts)) := by
    show Rl.name (t :: ts) = .ok (t, ts)
    rw [rname_cons, if_neg hb, if_pos]
    show decide (0 < Rl.nml t.text) = true
    rw [hW]; rfl
  have htt := bs_toList t.text
  have q0 : (t.text == [99, 108, 97, 115, 115]) = false := by rw [hW]; rfl
  have l0 : (⟨#[99, 108, 97, 115, 115]⟩ : ByteArray).toList = [99, 108, 97, 115, 115] := by rw [Lib.toList_data]
  have q1 : (t.text == [115, 101, 116]) = false := by rw [hW]; rfl
  have l1 : (⟨#[115, 101, 116]⟩ : ByteArray).toList = [115, 101, 116] := by rw [Lib.toList_data]
  have q2 : (t.text == [106, 111, 105, 110]) = true := by rw [hW]; rfl
  have l2 : (⟨#[106, 111, 105, 110]⟩ : ByteArray).toList = [106, 111, 105, 110] := by rw [Lib.toList_data]
  obtain ⟨F, hF⟩ : ∃ F, F = lineF t ts s := ⟨_, rfl⟩
  have HF : Hid (F = lineF t ts s) := hF
  rw [← hF]
  have HW : Hid (t.text = Rl.wJoin) := hW
  clear hF hT h hb hW
  have hL : F = match listF s.env 47 ts 0 with
      | .error f => .error f
      | .ok (b, ts1) => match listF s.env 59 ts1 0 with
        | .error f => .error f
        | .ok (c, ts2) => .ok (ts2, { s with join := Rl.bor s.join b, after := Rl.bor s.after c }) := by
    rw [HF.out]; unfold lineF Rl.line; rw [if_neg (by rw [HW.out]; decide), if_neg (by rw [HW.out]; decide), if_pos HW.out]; unfold Rl.join' listF
    cases Rl.names s.env ts 0 with
    | error f => rfl
    | ok r =>
      obtain ⟨b, ts1⟩ := r
      simp only
      cases Rl.want 47 ts1 with
      | error f => rfl
      | ok ts2 =>
        simp only
        cases Rl.names s.env ts2 0 with
        | error f => rfl
        | ok r =>
          obtain ⟨c, ts3⟩ := r
          simp only
          cases Rl.want 59 ts3 <;> rfl
  clear HF
  cases h1 : listF s.env 47 ts 0 with
  | error f =>
    rw [h1] at hL
    have HE2 : Hid (F = .error f) := hL
    have T1 : Hid (listF s.env 47 ts 0 = .error f) := h1
    clear hL h1
    go_enter Try.func24, Try.ntmps24
    go_wp2_with (first | (go_at_call 33; have hc := word_any rb S x (t :: ts) _ HI.out hS HS.out.vc; rw [T0.out] at hc; refine hc.mono ?_; clear hc; rintro e w1 ⟨rfl, hi1, ho1⟩; have HI1 : Hid (Qn w1 rb S x ts) := hi1; clear hi1; have HO1 : Hid (Only (· = rb) w w1) := ho1; clear ho1; have HS1 : Hid (Sr w1 rb x s) := HS.out.only HO1.out) | (go_at_call_of 38 (Value.int .u8 47); have hc := list_any 47 s.env rb S x ts _ HI1.out hS HS.out.vc (HS.out.only HO1.out).dec (by decide) (by decide); rw [T1.out] at hc; refine hc.mono ?_; clear hc; rintro e w2 ⟨⟨b2, rfl⟩, hb2, ho2⟩; have HB2 : Hid (Qb w2 rb S f) := hb2; clear hb2; have hq2 := HB2.out; obtain ⟨i2, x2, hR2, hc2, _⟩ := hq2; have d11 := hR2.c11; have d3 := hR2.c3; have f3 := hR2.fz 3; have d4 := hR2.c4; have f4 := hR2.fz 4; have qf : ((f.1 : Int) == 0) = false := (by simpa using hc2); clear hR2 hc2; have HO2 : Hid (Only (· = rb) w w2) := HO1.out.trans ho2; clear ho2) | (go_at_call_of 38 (Value.int .u8 59); refine (list_bad _ rb S f _ (HB2.out.set3j _)).mono ?_; rintro e w3 ⟨rfl, hb3, ho3⟩; have HB3 : Hid (Qb w3 rb S f) := hb3; have HO3 : Hid (Only (· = rb) w w3) := (HO2.out.setCell (p := ⟨rb, 3, none⟩) rfl _).trans (ho3.mono (fun _ h => h.elim)); clear ho3; obtain ⟨i3, x3, hR3, _, _⟩ := hb3; have d4 := hR3.c4; have f4 := hR3.fz 4; clear hR3))
    go_end0
    rw [HE2.out]
    exact ⟨rfl, HB3.out.set4a _, (HO3.out.setCell (p := ⟨rb, 4, none⟩) rfl _).up⟩
  | ok r =>
    obtain ⟨b, ts1⟩ := r
    rw [h1] at hL
    simp only at hL
    have T1 : Hid (listF s.env 47 ts 0 = .ok (b, ts1)) := h1
    clear h1
    cases h2 : listF s.env 59 ts1 0 with
    | error f =>
      rw [h2] at hL
      have HE2 : Hid (F = .error f) := hL
      have T2 : Hid (listF s.env 59 ts1 0 = .error f) := h2
      clear hL h2
      go_enter Try.func24, Try.ntmps24
      go_wp2_with (first | (go_at_call 33; have hc := word_any rb S x (t :: ts) _ HI.out hS HS.out.vc; rw [T0.out] at hc; refine hc.mono ?_; clear hc; rintro e w1 ⟨rfl, hi1, ho1⟩; have HI1 : Hid (Qn w1 rb S x ts) := hi1; clear hi1; have HO1 : Hid (Only (· = rb) w w1) := ho1; clear ho1; have HS1 : Hid (Sr w1 rb x s) := HS.out.only HO1.out) | (go_at_call_of 38 (Value.int .u8 47); have hc := list_any 47 s.env rb S x ts _ HI1.out hS HS.out.vc (HS.out.only HO1.out).dec (by decide) (by decide); rw [T1.out] at hc; refine hc.mono ?_; clear hc; rintro e w2 ⟨rfl, hi2, ho2⟩; have HI2 : Hid (Qn w2 rb S x ts1) := hi2; clear hi2; have hq2 := HI2.out; obtain ⟨i2, hR2, _, _⟩ := hq2; have d11 := hR2.c11; have d3 := hR2.c3; have f3 := hR2.fz 3; have d4 := hR2.c4; have f4 := hR2.fz 4; have HR2 : Hid (Rpr w2 rb S i2 x 0 0) := hR2; clear hR2; have HO2 : Hid (Only (· = rb) w w2) := HO1.out.trans ho2; clear ho2) | (go_at_call_of 38 (Value.int .u8 59); have hc := list_any 59 s.env rb S { x with j := Rl.bor x.j b } ts1 (w2.setCell ⟨rb, 3, none⟩ (.int .u32 (Rl.bor x.j b))) (by obtain ⟨i9, hR9, h9⟩ := HI2.out; exact ⟨i9, hR9.set3 _, h9⟩) hS HS.out.vc ((HS.out.only HO2.out).setJ (Rl.bor x.j b)).dec (by decide) (by decide); rw [T2.out] at hc; refine hc.mono ?_; clear hc; rintro e w3 ⟨⟨b3, rfl⟩, hb3, ho3⟩; have HB3 : Hid (Qb w3 rb S f) := hb3; have HO3 : Hid (Only (· = rb) w w3) := (HO2.out.setCell (p := ⟨rb, 3, none⟩) rfl _).trans ho3; clear ho3; obtain ⟨i3, x3, hR3, _, _⟩ := hb3; have d4 := hR3.c4; have f4 := hR3.fz 4; clear hR3))
      go_end0
      rw [HE2.out]
      exact ⟨rfl, HB3.out.set4a _, (HO3.out.setCell (p := ⟨rb, 4, none⟩) rfl _).up⟩
    | ok r =>
      obtain ⟨c, ts2⟩ := r
      rw [h2] at hL
      have HE2 : Hid (F = .ok (ts2, { s with join := Rl.bor s.join b, after := Rl.bor s.after c })) := hL
      have T2 : Hid (listF s.env 59 ts1 0 = .ok (c, ts2)) := h2
      clear hL h2
      go_enter Try.func24, Try.ntmps24
      go_wp2_with (first | (go_at_call 33; have hc := word_any rb S x (t :: ts) _ HI.out hS HS.out.vc; rw [T0.out] at hc; refine hc.mono ?_; clear hc; rintro e w1 ⟨rfl, hi1, ho1⟩; have HI1 : Hid (Qn w1 rb S x ts) := hi1; clear hi1; have HO1 : Hid (Only (· = rb) w w1) := ho1; clear ho1; have HS1 : Hid (Sr w1 rb x s) := HS.out.only HO1.out) | (go_at_call_of 38 (Value.int .u8 47); have hc := list_any 47 s.env rb S x ts _ HI1.out hS HS.out.vc (HS.out.only HO1.out).dec (by decide) (by decide); rw [T1.out] at hc; refine hc.mono ?_; clear hc; rintro e w2 ⟨rfl, hi2, ho2⟩; have HI2 : Hid (Qn w2 rb S x ts1) := hi2; clear hi2; have hq2 := HI2.out; obtain ⟨i2, hR2, _, _⟩ := hq2; have d11 := hR2.c11; have d3 := hR2.c3; have f3 := hR2.fz 3; have d4 := hR2.c4; have f4 := hR2.fz 4; have HR2 : Hid (Rpr w2 rb S i2 x 0 0) := hR2; clear hR2; have HO2 : Hid (Only (· = rb) w w2) := HO1.out.trans ho2; clear ho2) | (go_at_call_of 38 (Value.int .u8 59); have hc := list_any 59 s.env rb S { x with j := Rl.bor x.j b } ts1 (w2.setCell ⟨rb, 3, none⟩ (.int .u32 (Rl.bor x.j b))) (by obtain ⟨i9, hR9, h9⟩ := HI2.out; exact ⟨i9, hR9.set3 _, h9⟩) hS HS.out.vc ((HS.out.only HO2.out).setJ (Rl.bor x.j b)).dec (by decide) (by decide); rw [T2.out] at hc; refine hc.mono ?_; clear hc; rintro e w3 ⟨rfl, hi3, ho3⟩; have HI3 : Hid (Qn w3 rb S { x with j := Rl.bor x.j b } ts2) := hi3; have HS3 : Hid (Sr w3 rb { x with j := Rl.bor x.j b } { s with join := Rl.bor x.j b }) := ((HS.out.only HO2.out).setJ (Rl.bor x.j b)).only ho3; have HO3 : Hid (Only (· = rb) w w3) := (HO2.out.setCell (p := ⟨rb, 3, none⟩) rfl _).trans ho3; clear ho3; obtain ⟨i3, hR3, _, _⟩ := hi3; have d4 : w3.cell? ⟨rb, 4, none⟩ = some (.int .u32 x.a) := hR3.c4; have f4 := hR3.fz 4; clear hR3))
      go_end0
      rw [HE2.out]
      obtain ⟨i9, hR9, h9⟩ := HI3.out
      have hj := HS.out.p.jn
      have ha := HS.out.p.af
      refine ⟨rfl, _, ⟨i9, hR9.set4 _, h9⟩, ?_, (HO3.out.setCell (p := ⟨rb, 4, none⟩) rfl _).up⟩
      rw [← hj, ← ha]
      exact HS3.out.setA _
set_option maxRecDepth 100000 in
set_option maxHeartbeats 8000000 in
theorem lineTreat (rb : Nat) (S : ByteArray) (x : Rq) (s : Rl.St) (t : Rl.Tk) (ts : List Rl.Tk) (w : World) (h : Qn w rb S x (t :: ts)) (hS : S.size ≤ 4096) (hT : Sr w rb x s) (hb : ¬ t.bad = true) (hen : s.env.length + ts.length < 5000) (hW : t.text = Rl.wTreat) :
    Calls Try.prog 24 #[.pointer (some ⟨rb, 0, none⟩)] w (rlineP rb S w (lineF t ts s)) := by
  have hlt := h.lt
  have HI : Hid (Qn w rb S x (t :: ts)) := h
  have HS : Hid (Sr w rb x s) := hT
  have T0 : Hid (Rl.name (t :: ts) = .ok (t, ts)) := by
    show Rl.name (t :: ts) = .ok (t, ts)
    rw [rname_cons, if_neg hb, if_pos]
    show decide (0 < Rl.nml t.text) = true
    rw [hW]; rfl
  have htt := bs_toList t.text
  have q0 : (t.text == [99, 108, 97, 115, 115]) = false := by rw [hW]; rfl
  have l0 : (⟨#[99, 108, 97, 115, 115]⟩ : ByteArray).toList = [99, 108, 97, 115, 115] := by rw [Lib.toList_data]
  have q1 : (t.text == [115, 101, 116]) = false := by rw [hW]; rfl
  have l1 : (⟨#[115, 101, 116]⟩ : ByteArray).toList = [115, 101, 116] := by rw [Lib.toList_data]
  have q2 : (t.text == [106, 111, 105, 110]) = false := by rw [hW]; rfl
  have l2 : (⟨#[106, 111, 105, 110]⟩ : ByteArray).toList = [106, 111, 105, 110] := by rw [Lib.toList_data]
  have q3 : (t.text == [116, 114, 101, 97, 116]) = true := by rw [hW]; rfl
  have l3 : (⟨#[116, 114, 101, 97, 116]⟩ : ByteArray).toList = [116, 114, 101, 97, 116] := by rw [Lib.toList_data]
  obtain ⟨F, hF⟩ : ∃ F, F = lineF t ts s := ⟨_, rfl⟩
  have HF : Hid (F = lineF t ts s) := hF
  rw [← hF]
  have HW : Hid (t.text = Rl.wTreat) := hW
  clear hF hT h hb hW
  have hL : F = match Rl.placeOf s.cls ts with
      | .error f => .error f
      | .ok (k, ts1) => match Rl.want 61 ts1 with
        | .error f => .error f
        | .ok ts2 => match Rl.placeOf s.cls ts2 with
          | .error f => .error f
          | .ok (m, ts3) => match Rl.want 59 ts3 with
            | .error f => .error f
            | .ok ts4 => .ok (ts4, { s with treat := s.treat.set k (m : Int) }) := by
    rw [HF.out]; unfold lineF Rl.line; rw [if_neg (by rw [HW.out]; decide), if_neg (by rw [HW.out]; decide), if_neg (by rw [HW.out]; decide), if_pos HW.out]; unfold Rl.treat'
    cases Rl.placeOf s.cls ts with
    | error f => rfl
    | ok r =>
      obtain ⟨k, ts1⟩ := r
      simp only
      cases Rl.want 61 ts1 with
      | error f => rfl
      | ok ts2 =>
        simp only
        cases Rl.placeOf s.cls ts2 <;> rfl
  clear HF
  cases h1 : Rl.placeOf s.cls ts with
  | error f =>
    rw [h1] at hL
    have HE2 : Hid (F = .error f) := hL
    have T1 : Hid (Rl.placeOf s.cls ts = .error f) := h1
    clear hL h1
    go_enter Try.func24, Try.ntmps24
    go_wp2_with (first | (go_at_call 33; have hc := word_any rb S x (t :: ts) _ HI.out hS HS.out.vc; rw [T0.out] at hc; refine hc.mono ?_; clear hc; rintro e w1 ⟨rfl, hi1, ho1⟩; have HI1 : Hid (Qn w1 rb S x ts) := hi1; clear hi1; have HO1 : Hid (Only (· = rb) w w1) := ho1; clear ho1; have HS1 : Hid (Sr w1 rb x s) := HS.out.only HO1.out) | (go_at_call_of 37 (Value.int .u8 61); refine (rwant_bad _ rb S f _ HB2.out).mono ?_; rintro e w3 ⟨rfl, hb3, ho3⟩; have HB3 : Hid (Qb w3 rb S f) := hb3; clear hb3; have HO3 : Hid (Only (· = rb) w w3) := HO2.out.trans (ho3.mono (fun _ h => h.elim)); clear ho3) | (go_at_call_of 37 (Value.int .u8 59); refine (rwant_bad _ rb S f _ HB4.out).mono ?_; rintro e w5 ⟨rfl, hb5, ho5⟩; have HB5 : Hid (Qb w5 rb S f) := hb5; clear hb5; have HO5 : Hid (Only (· = rb) w w5) := HO4.out.trans (ho5.mono (fun _ h => h.elim)); clear ho5) | (go_at_call 39; refine (rclass_bad rb S f _ HB3.out).mono ?_; rintro e w4 ⟨rfl, hb4, ho4⟩; have HB4 : Hid (Qb w4 rb S f) := hb4; clear hb4; have HO4 : Hid (Only (· = rb) w w4) := HO3.out.trans (ho4.mono (fun _ h => h.elim)); clear ho4; have hq4 := HB4.out; obtain ⟨i4, x4, hR4, hc4, _⟩ := hq4; have d11 := hR4.c11; have qf : ((f.1 : Int) == 0) = false := (by simpa using hc4); clear hR4 hc4) | (go_at_call 39; have hc := rclass_any s.cls rb S x ts _ HI1.out hS (HS.out.only HO1.out).p.cls HS.out.c24; rw [T1.out] at hc; refine hc.mono ?_; clear hc; rintro e w2 ⟨rfl, hb2, ho2⟩; have HB2 : Hid (Qb w2 rb S f) := hb2; clear hb2; have hq2 := HB2.out; obtain ⟨i2, x2, hR2, hc2, _⟩ := hq2; have d11 := hR2.c11; have qf : ((f.1 : Int) == 0) = false := (by simpa using hc2); clear hR2 hc2; have HO2 : Hid (Only (· = rb) w w2) := HO1.out.trans ho2; clear ho2))
    go_end0
    rw [HE2.out]
    exact ⟨rfl, HB5.out, HO5.out.up⟩
  | ok r =>
    obtain ⟨k, ts1⟩ := r
    rw [h1] at hL
    simp only at hL
    have T1 : Hid (Rl.placeOf s.cls ts = .ok (k, ts1)) := h1
    have hkl := place_lt h1
    clear h1
    cases h2 : Rl.want 61 ts1 with
    | error f =>
      rw [h2] at hL
      have HE2 : Hid (F = .error f) := hL
      have T2 : Hid (Rl.want 61 ts1 = .error f) := h2
      clear hL h2
      go_enter Try.func24, Try.ntmps24
      go_wp2_with (first | (go_at_call 33; have hc := word_any rb S x (t :: ts) _ HI.out hS HS.out.vc; rw [T0.out] at hc; refine hc.mono ?_; clear hc; rintro e w1 ⟨rfl, hi1, ho1⟩; have HI1 : Hid (Qn w1 rb S x ts) := hi1; clear hi1; have HO1 : Hid (Only (· = rb) w w1) := ho1; clear ho1; have HS1 : Hid (Sr w1 rb x s) := HS.out.only HO1.out) | (go_at_call_of 37 (Value.int .u8 61); have hc := rwant_any 61 rb S x ts1 _ HI2.out hS HS.out.vc (by decide) (by decide); rw [T2.out] at hc; refine hc.mono ?_; clear hc; rintro e w3 ⟨rfl, hb3, ho3⟩; have HB3 : Hid (Qb w3 rb S f) := hb3; clear hb3; have HO3 : Hid (Only (· = rb) w w3) := HO2.out.trans ho3; clear ho3) | (go_at_call_of 37 (Value.int .u8 59); refine (rwant_bad _ rb S f _ HB4.out).mono ?_; rintro e w5 ⟨rfl, hb5, ho5⟩; have HB5 : Hid (Qb w5 rb S f) := hb5; clear hb5; have HO5 : Hid (Only (· = rb) w w5) := HO4.out.trans (ho5.mono (fun _ h => h.elim)); clear ho5) | (go_at_call 39; refine (rclass_bad rb S f _ HB3.out).mono ?_; rintro e w4 ⟨rfl, hb4, ho4⟩; have HB4 : Hid (Qb w4 rb S f) := hb4; clear hb4; have HO4 : Hid (Only (· = rb) w w4) := HO3.out.trans (ho4.mono (fun _ h => h.elim)); clear ho4; have hq4 := HB4.out; obtain ⟨i4, x4, hR4, hc4, _⟩ := hq4; have d11 := hR4.c11; have qf : ((f.1 : Int) == 0) = false := (by simpa using hc4); clear hR4 hc4) | (go_at_call 39; have hc := rclass_any s.cls rb S x ts _ HI1.out hS (HS.out.only HO1.out).p.cls HS.out.c24; rw [T1.out] at hc; refine hc.mono ?_; clear hc; rintro e w2 ⟨rfl, hi2, ho2⟩; have HI2 : Hid (Qn w2 rb S x ts1) := hi2; clear hi2; have hq2 := HI2.out; obtain ⟨i2, hR2, _, _⟩ := hq2; have d11 := hR2.c11; have d5 := hR2.c5; clear hR2; have HO2 : Hid (Only (· = rb) w w2) := HO1.out.trans ho2; clear ho2))
      go_end0
      rw [HE2.out]
      exact ⟨rfl, HB5.out, HO5.out.up⟩
    | ok ts2 =>
      rw [h2] at hL
      simp only at hL
      have T2 : Hid (Rl.want 61 ts1 = .ok ts2) := h2
      clear h2
      cases h3 : Rl.placeOf s.cls ts2 with
      | error f =>
        rw [h3] at hL
        have HE2 : Hid (F = .error f) := hL
        have T3 : Hid (Rl.placeOf s.cls ts2 = .error f) := h3
        clear hL h3
        go_enter Try.func24, Try.ntmps24
        go_wp2_with (first | (go_at_call 33; have hc := word_any rb S x (t :: ts) _ HI.out hS HS.out.vc; rw [T0.out] at hc; refine hc.mono ?_; clear hc; rintro e w1 ⟨rfl, hi1, ho1⟩; have HI1 : Hid (Qn w1 rb S x ts) := hi1; clear hi1; have HO1 : Hid (Only (· = rb) w w1) := ho1; clear ho1; have HS1 : Hid (Sr w1 rb x s) := HS.out.only HO1.out) | (go_at_call_of 37 (Value.int .u8 61); have hc := rwant_any 61 rb S x ts1 _ HI2.out hS HS.out.vc (by decide) (by decide); rw [T2.out] at hc; refine hc.mono ?_; clear hc; rintro e w3 ⟨rfl, hi3, ho3⟩; have HI3 : Hid (Qn w3 rb S x ts2) := hi3; clear hi3; have HO3 : Hid (Only (· = rb) w w3) := HO2.out.trans ho3; clear ho3) | (go_at_call_of 37 (Value.int .u8 59); refine (rwant_bad _ rb S f _ HB4.out).mono ?_; rintro e w5 ⟨rfl, hb5, ho5⟩; have HB5 : Hid (Qb w5 rb S f) := hb5; clear hb5; have HO5 : Hid (Only (· = rb) w w5) := HO4.out.trans (ho5.mono (fun _ h => h.elim)); clear ho5) | (go_at_call 39; have hc := rclass_any s.cls rb S x ts2 _ HI3.out hS (HS.out.only HO3.out).p.cls HS.out.c24; rw [T3.out] at hc; refine hc.mono ?_; clear hc; rintro e w4 ⟨rfl, hb4, ho4⟩; have HB4 : Hid (Qb w4 rb S f) := hb4; clear hb4; have hq4 := HB4.out; obtain ⟨i4, x4, hR4, hc4, _⟩ := hq4; have d11 := hR4.c11; have qf : ((f.1 : Int) == 0) = false := (by simpa using hc4); clear hR4 hc4; have HO4 : Hid (Only (· = rb) w w4) := HO3.out.trans ho4; clear ho4) | (go_at_call 39; have hc := rclass_any s.cls rb S x ts _ HI1.out hS (HS.out.only HO1.out).p.cls HS.out.c24; rw [T1.out] at hc; refine hc.mono ?_; clear hc; rintro e w2 ⟨rfl, hi2, ho2⟩; have HI2 : Hid (Qn w2 rb S x ts1) := hi2; clear hi2; have hq2 := HI2.out; obtain ⟨i2, hR2, _, _⟩ := hq2; have d11 := hR2.c11; have d5 := hR2.c5; clear hR2; have HO2 : Hid (Only (· = rb) w w2) := HO1.out.trans ho2; clear ho2))
        go_end0
        rw [HE2.out]
        exact ⟨rfl, HB5.out, HO5.out.up⟩
      | ok r =>
        obtain ⟨m, ts3⟩ := r
        rw [h3] at hL
        simp only at hL
        have T3 : Hid (Rl.placeOf s.cls ts2 = .ok (m, ts3)) := h3
        clear h3
        have htl := HS.out.tl
        obtain ⟨gT, capT, hvT, hgb, _, _, _⟩ := row_form HS.out.p.trt (by omega)
        have HvT : Hid (x.vT = .slice (some ⟨gT, 0, none⟩) s.treat.length capT) := hvT
        have hkt : (k : Int) < (s.treat.length : Int) := by omega
        clear hvT
        cases h4 : Rl.want 59 ts3 with
        | error f =>
          rw [h4] at hL
          have HE2 : Hid (F = .error f) := hL
          have T4 : Hid (Rl.want 59 ts3 = .error f) := h4
          clear hL h4
          go_enter Try.func24, Try.ntmps24
          go_wp2_with (first | (go_at_call 33; have hc := word_any rb S x (t :: ts) _ HI.out hS HS.out.vc; rw [T0.out] at hc; refine hc.mono ?_; clear hc; rintro e w1 ⟨rfl, hi1, ho1⟩; have HI1 : Hid (Qn w1 rb S x ts) := hi1; clear hi1; have HO1 : Hid (Only (· = rb) w w1) := ho1; clear ho1; have HS1 : Hid (Sr w1 rb x s) := HS.out.only HO1.out) | (go_at_call_of 37 (Value.int .u8 61); have hc := rwant_any 61 rb S x ts1 _ HI2.out hS HS.out.vc (by decide) (by decide); rw [T2.out] at hc; refine hc.mono ?_; clear hc; rintro e w3 ⟨rfl, hi3, ho3⟩; have HI3 : Hid (Qn w3 rb S x ts2) := hi3; clear hi3; have HO3 : Hid (Only (· = rb) w w3) := HO2.out.trans ho3; clear ho3) | (go_at_call_of 37 (Value.int .u8 59); have hst := (HS.out.only HO4.out).setT (m : Int) HvT.out (by omega : k < s.treat.length); have hc := rwant_any 59 rb S x ts3 (w4.setCell ⟨gT, k, none⟩ (.int .i64 (m : Int))) (HI4.out.only hst.2 (fun e => by have := own_low HS.out.p.trt _ e; omega)) hS HS.out.vc (by decide) (by decide); rw [T4.out] at hc; refine hc.mono ?_; clear hc; rintro e w5 ⟨rfl, hb5, ho5⟩) | (go_at_call 39; have hc := rclass_any s.cls rb S x ts2 _ HI3.out hS (HS.out.only HO3.out).p.cls HS.out.c24; rw [T3.out] at hc; refine hc.mono ?_; clear hc; rintro e w4 ⟨rfl, hi4, ho4⟩; have HI4 : Hid (Qn w4 rb S x ts3) := hi4; clear hi4; have hq4 := HI4.out; obtain ⟨i4, hR4, _, _⟩ := hq4; have d11 := hR4.c11; have d5 := hR4.c5; clear hR4; have HO4 : Hid (Only (· = rb) w w4) := HO3.out.trans ho4; clear ho4; rw [HvT.out] at d5; obtain ⟨old, k0, kf0⟩ := own_cell (k := k) (by have := (HS.out.only HO4.out).p.trt; rw [HvT.out] at this; exact this) (by omega)) | (go_at_call 39; have hc := rclass_any s.cls rb S x ts _ HI1.out hS (HS.out.only HO1.out).p.cls HS.out.c24; rw [T1.out] at hc; refine hc.mono ?_; clear hc; rintro e w2 ⟨rfl, hi2, ho2⟩; have HI2 : Hid (Qn w2 rb S x ts1) := hi2; clear hi2; have hq2 := HI2.out; obtain ⟨i2, hR2, _, _⟩ := hq2; have d11 := hR2.c11; have d5 := hR2.c5; clear hR2; have HO2 : Hid (Only (· = rb) w w2) := HO1.out.trans ho2; clear ho2))
          go_end0
          rw [HE2.out]
          have hst := (HS.out.only HO4.out).setT (m : Int) HvT.out (by omega : k < s.treat.length)
          exact ⟨rfl, hb5, HO4.out.up.trans ((hst.2.upOwn (HS.out.only HO4.out).p.trt).trans ho5.up)⟩
        | ok ts4 =>
          rw [h4] at hL
          have HE2 : Hid (F = .ok (ts4, { s with treat := s.treat.set k (m : Int) })) := hL
          have T4 : Hid (Rl.want 59 ts3 = .ok ts4) := h4
          clear hL h4
          go_enter Try.func24, Try.ntmps24
          go_wp2_with (first | (go_at_call 33; have hc := word_any rb S x (t :: ts) _ HI.out hS HS.out.vc; rw [T0.out] at hc; refine hc.mono ?_; clear hc; rintro e w1 ⟨rfl, hi1, ho1⟩; have HI1 : Hid (Qn w1 rb S x ts) := hi1; clear hi1; have HO1 : Hid (Only (· = rb) w w1) := ho1; clear ho1; have HS1 : Hid (Sr w1 rb x s) := HS.out.only HO1.out) | (go_at_call_of 37 (Value.int .u8 61); have hc := rwant_any 61 rb S x ts1 _ HI2.out hS HS.out.vc (by decide) (by decide); rw [T2.out] at hc; refine hc.mono ?_; clear hc; rintro e w3 ⟨rfl, hi3, ho3⟩; have HI3 : Hid (Qn w3 rb S x ts2) := hi3; clear hi3; have HO3 : Hid (Only (· = rb) w w3) := HO2.out.trans ho3; clear ho3) | (go_at_call_of 37 (Value.int .u8 59); have hst := (HS.out.only HO4.out).setT (m : Int) HvT.out (by omega : k < s.treat.length); have hc := rwant_any 59 rb S x ts3 (w4.setCell ⟨gT, k, none⟩ (.int .i64 (m : Int))) (HI4.out.only hst.2 (fun e => by have := own_low HS.out.p.trt _ e; omega)) hS HS.out.vc (by decide) (by decide); rw [T4.out] at hc; refine hc.mono ?_; clear hc; rintro e w5 ⟨rfl, hi5, ho5⟩) | (go_at_call 39; have hc := rclass_any s.cls rb S x ts2 _ HI3.out hS (HS.out.only HO3.out).p.cls HS.out.c24; rw [T3.out] at hc; refine hc.mono ?_; clear hc; rintro e w4 ⟨rfl, hi4, ho4⟩; have HI4 : Hid (Qn w4 rb S x ts3) := hi4; clear hi4; have hq4 := HI4.out; obtain ⟨i4, hR4, _, _⟩ := hq4; have d11 := hR4.c11; have d5 := hR4.c5; clear hR4; have HO4 : Hid (Only (· = rb) w w4) := HO3.out.trans ho4; clear ho4; rw [HvT.out] at d5; obtain ⟨old, k0, kf0⟩ := own_cell (k := k) (by have := (HS.out.only HO4.out).p.trt; rw [HvT.out] at this; exact this) (by omega)) | (go_at_call 39; have hc := rclass_any s.cls rb S x ts _ HI1.out hS (HS.out.only HO1.out).p.cls HS.out.c24; rw [T1.out] at hc; refine hc.mono ?_; clear hc; rintro e w2 ⟨rfl, hi2, ho2⟩; have HI2 : Hid (Qn w2 rb S x ts1) := hi2; clear hi2; have hq2 := HI2.out; obtain ⟨i2, hR2, _, _⟩ := hq2; have d11 := hR2.c11; have d5 := hR2.c5; clear hR2; have HO2 : Hid (Only (· = rb) w w2) := HO1.out.trans ho2; clear ho2))
          go_end0
          rw [HE2.out]
          have hst := (HS.out.only HO4.out).setT (m : Int) HvT.out (by omega : k < s.treat.length)
          exact ⟨rfl, x, hi5, hst.1.only ho5, HO4.out.up.trans ((hst.2.upOwn (HS.out.only HO4.out).p.trt).trans ho5.up)⟩
end Go.Proofs.Ytahoepmnekconaa
