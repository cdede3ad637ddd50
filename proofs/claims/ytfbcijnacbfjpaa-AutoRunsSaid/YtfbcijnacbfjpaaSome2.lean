/-
  some of the rules' reader: a thing that is no bracket.
-/
import Derived.Test.YtfbcijnacbfjpaaSome
namespace Go.Proofs.Ytfbcijnacbfjpaa
open Go.RowKit Go.Maps
set_option linter.unusedVariables false
set_option linter.unusedSimpArgs false

/-- a reader with so many things read. -/
def Rd.withPl (x : Rd) (p : Int) : Rd := { x with pl := p }
theorem Rdr.set8 {w : World} {rb : Nat} {S : ByteArray} {i : Int} {x : Rd} (h : Rdr w rb S i x) (v : Int) : Rdr (w.setCell ⟨rb, 8, none⟩ (.int .i64 v)) rb S i (x.withPl v) := heap_setCell_at h _
theorem In.set8 {w : World} {rb : Nat} {S : ByteArray} {x : Rd} {ts : List Rl.Tk} (h : In w rb S x ts) (v : Int) : In (w.setCell ⟨rb, 8, none⟩ (.int .i64 v)) rb S (x.withPl v) ts := by
  obtain ⟨i, h1, h2⟩ := h
  exact ⟨i, h1.set8 v, h2⟩
theorem Mp.setOther {w : World} {mb : Nat} {E : Rl.Env} (h : Mp w mb E) {p : Addr} (hp : p.block ≠ mb) (v : Value) : Mp (w.setCell p v) mb E := h.only ((Only.refl (· = p.block) w).setCell (p := p) rfl v) (fun e => hp e.symm)
/-- how some ends. -/
def someP (rb : Nat) (S : ByteArray) (x : Rd) (w : World) (F : Rl.R (Int × List Rl.Tk × Nat)) (e : Ending) (w' : World) : Prop :=
  match F with
  | .error f => e = .panicked (thr f.1 f.2) ∧ Only (· = rb) w w'
  | .ok (b, ts, p) => e = .returned (.int .u32 b) ∧ In w' rb S (x.withPl p) ts ∧ Only (· = rb) w w'
theorem took_cons (c : UInt8) (t : Rl.Tk) (ts : List Rl.Tk) : Rl.took c (t :: ts) = if t.bad = true then .error (20, t.at') else if t.text = [c] then .ok (true, ts) else .ok (false, t :: ts) := rfl
theorem some_cons (E : Rl.Env) (nc : Nat) (t : Rl.Tk) (ts : List Rl.Tk) (p : Nat) : Rl.some' E nc (t :: ts) p = if p = 200 then .error (26, t.at') else if t.text = [46] then .ok (Rl.whole nc, ts, p + 1) else if t.text = [91] then
      match Rl.took 94 ts with
      | .error f => .error f
      | .ok (no, ts1) => match Rl.names E ts1 0 with
        | .error f => .error f
        | .ok (b, ts2) => match Rl.want 93 ts2 with
          | .error f => .error f
          | .ok ts3 => .ok (if no = true then Rl.without (Rl.whole nc) b else b, ts3, p + 1)
    else match Rl.find E t.text with
      | none => .error (22, t.at')
      | some b => .ok (b, ts, p + 1) := rfl

set_option maxRecDepth 100000 in
set_option maxHeartbeats 4000000 in
theorem some_any (E : Rl.Env) (nc p : Nat) (rb : Nat) (S : ByteArray) (x : Rd) (t : Rl.Tk) (ts : List Rl.Tk) (w : World) (h : In w rb S x (t :: ts)) (hS : S.size ≤ 4096) (hM : Mp w x.mb E) (hmb : x.mb ≠ rb)
    (hb : ¬ t.bad = true) (hbeg : Rl.beg t = true) (hno : t.text ≠ [40]) (hp : x.pl = (p : Int)) (hp2 : p ≤ 200) (a : Option Addr) (cap : Nat) (hv : x.vC = .slice a nc cap) (hnc : nc ≤ 24) :
    Calls Try.prog 95 #[.pointer (some ⟨rb, 0, none⟩)] w (someP rb S x w (Rl.some' E nc (t :: ts) p)) := by
  have HI : Hid (In w rb S x (t :: ts)) := h
  obtain ⟨i, hR, hs, hi⟩ := h
  have c8 := hR.c8
  have f8 := hR.fz 8
  rw [hp] at c8
  have HB : Hid (¬ t.bad = true) := hb
  clear hs hi hR
  rw [some_cons]
  by_cases h200 : p = 200
  · rw [if_pos h200]
    have q : ((p : Int) == 200) = true := by simp; omega
    clear h200
    go_enter Try.func95, Try.ntmps95
    go_wp2_with (go_at_call 51; refine (next_ok rb S x t ts _ HI.out hS HB.out).mono ?_; rintro e w2 ⟨rfl, hR2, hs2, he2, ho2⟩)
    rename_i hK
    refine hK _ _ ?_
    go_wp2_with (go_at_call 52; refine (throw_any 26 t.at' _).mono ?_; rintro e w3 ⟨rfl, rfl⟩)
    exact ⟨rfl, rfl, ho2⟩
  · rw [if_neg h200]
    have q : ((p : Int) == 200) = false := by simp; omega
    obtain ⟨y, hy⟩ : ∃ y, y = x.withPl ((p + 1 : Nat) : Int) := ⟨_, rfl⟩
    have HI1 : Hid (In (w.setCell ⟨rb, 8, none⟩ (.int .i64 ((p : Int) + 1))) rb S y (t :: ts)) := by
      rw [hy]
      have e1 : (p : Int) + 1 = ((p + 1 : Nat) : Int) := by omega
      rw [e1]
      exact HI.out.set8 _
    have HO1 : Hid (Only (· = rb) w (w.setCell ⟨rb, 8, none⟩ (.int .i64 ((p : Int) + 1)))) := (Only.refl (· = rb) w).setCell (p := ⟨rb, 8, none⟩) rfl _
    have HM1 : Hid (Mp (w.setCell ⟨rb, 8, none⟩ (.int .i64 ((p : Int) + 1))) y.mb E) := by rw [hy]; exact hM.setOther (fun e => hmb e.symm) _
    have hmy : y.mb ≠ rb := by rw [hy]; exact hmb
    have hvy : Hid (y.vC = .slice a nc cap) := by rw [hy]; exact hv
    have HY : Hid (y = x.withPl ((p + 1 : Nat) : Int)) := hy
    have hp1 : (p : Int) < 200 := by omega
    clear h200 hy hv hp
    by_cases h46 : t.text = [46]
    · rw [if_pos h46]
      have T1 : Hid (Rl.took 46 (t :: ts) = .ok (true, ts)) := by show Rl.took 46 (t :: ts) = .ok (true, ts); rw [took_cons, if_neg hb, if_pos h46]
      clear hb h46 hbeg hno
      go_enter Try.func95, Try.ntmps95
      go_wp2_with (first | (go_at_call 70; have hc := took_any 46 rb S y (t :: ts) _ HI1.out hS; rw [T1.out] at hc; refine hc.mono ?_; clear hc; rintro e w2 ⟨rfl, hI2, ho2⟩; have HI2 : Hid (In w2 rb S y ts) := hI2; obtain ⟨i2, hR2, _, _⟩ := hI2) | (go_at_call 96; refine (all_any nc rb S _ y _ hR2 a cap hvy.out hnc).mono ?_; rintro e w3 ⟨rfl, rfl⟩))
      go_ret
      refine ⟨rfl, ?_, HO1.out.trans ho2⟩
      rw [← HY.out]
      exact HI2.out
    · rw [if_neg h46]
      have T1 : Hid (Rl.took 46 (t :: ts) = .ok (false, t :: ts)) := by show Rl.took 46 (t :: ts) = .ok (false, t :: ts); rw [took_cons, if_neg hb, if_neg h46]
      by_cases h91 : t.text = [91]
      · rw [if_pos h91]
        have T2 : Hid (Rl.took 91 (t :: ts) = .ok (true, ts)) := by show Rl.took 91 (t :: ts) = .ok (true, ts); rw [took_cons, if_neg hb, if_pos h91]
        clear hb h46 h91 hbeg hno
        cases h94 : Rl.took 94 ts with
        | error f =>
          have T3 : Hid (Rl.took 94 ts = .error f) := h94
          clear h94
          simp only
          go_enter Try.func95, Try.ntmps95
          go_wp2_with (first | (go_at_call_of 70 (Value.string ⟨#[46]⟩); have hc := took_any 46 rb S y (t :: ts) _ HI1.out hS; rw [T1.out] at hc; refine hc.mono ?_; clear hc; rintro e w2 ⟨rfl, hI2, ho2⟩; have HI2 : Hid (In w2 rb S y (t :: ts)) := hI2; clear hI2) | (go_at_call_of 70 (Value.string ⟨#[91]⟩); have hc := took_any 91 rb S y (t :: ts) _ HI2.out hS; rw [T2.out] at hc; refine hc.mono ?_; clear hc; rintro e w3 ⟨rfl, hI3, ho3⟩; have HI3 : Hid (In w3 rb S y ts) := hI3; clear hI3) | (go_at_call_of 70 (Value.string ⟨#[94]⟩); have hc := took_any 94 rb S y ts _ HI3.out hS; rw [T3.out] at hc; refine hc.mono ?_; clear hc; rintro e w4 ⟨rfl, ho4⟩))
          exact ⟨rfl, rfl, HO1.out.trans (ho2.trans (ho3.trans ho4))⟩
        | ok r =>
          obtain ⟨no, ts1⟩ := r
          have T3 : Hid (Rl.took 94 ts = .ok (no, ts1)) := h94
          clear h94
          simp only
          cases hnm : Rl.names E ts1 0 with
          | error f =>
            have T4 : Hid (Rl.names E ts1 0 = .error f) := hnm
            clear hnm
            simp only
            go_enter Try.func95, Try.ntmps95
            go_wp2_with (first | (go_at_call_of 70 (Value.string ⟨#[46]⟩); have hc := took_any 46 rb S y (t :: ts) _ HI1.out hS; rw [T1.out] at hc; refine hc.mono ?_; clear hc; rintro e w2 ⟨rfl, hI2, ho2⟩; have HI2 : Hid (In w2 rb S y (t :: ts)) := hI2; clear hI2) | (go_at_call_of 70 (Value.string ⟨#[91]⟩); have hc := took_any 91 rb S y (t :: ts) _ HI2.out hS; rw [T2.out] at hc; refine hc.mono ?_; clear hc; rintro e w3 ⟨rfl, hI3, ho3⟩; have HI3 : Hid (In w3 rb S y ts) := hI3; clear hI3) | (go_at_call_of 70 (Value.string ⟨#[94]⟩); have hc := took_any 94 rb S y ts _ HI3.out hS; rw [T3.out] at hc; refine hc.mono ?_; clear hc; rintro e w4 ⟨rfl, hI4, ho4⟩; have HI4 : Hid (In w4 rb S y ts1) := hI4; clear hI4; have HO4 : Hid (Only (· = rb) w w4) := HO1.out.trans (ho2.trans (ho3.trans ho4)); have HM4 : Hid (Mp w4 y.mb E) := HM1.out.only (ho2.trans (ho3.trans ho4)) hmy) | (go_at_call 78; have hc := names_any E rb S y ts1 _ HI4.out hS HM4.out hmy; rw [T4.out] at hc; refine hc.mono ?_; clear hc; rintro e w5 ⟨rfl, ho5⟩))
            exact ⟨rfl, rfl, HO4.out.trans ho5⟩
          | ok r =>
            obtain ⟨b, ts2⟩ := r
            have T4 : Hid (Rl.names E ts1 0 = .ok (b, ts2)) := hnm
            clear hnm
            simp only
            cases hwt : Rl.want 93 ts2 with
            | error f =>
              have T5 : Hid (Rl.want 93 ts2 = .error f) := hwt
              clear hwt
              simp only
              go_enter Try.func95, Try.ntmps95
              go_wp2_with (first | (go_at_call_of 70 (Value.string ⟨#[46]⟩); have hc := took_any 46 rb S y (t :: ts) _ HI1.out hS; rw [T1.out] at hc; refine hc.mono ?_; clear hc; rintro e w2 ⟨rfl, hI2, ho2⟩; have HI2 : Hid (In w2 rb S y (t :: ts)) := hI2; clear hI2) | (go_at_call_of 70 (Value.string ⟨#[91]⟩); have hc := took_any 91 rb S y (t :: ts) _ HI2.out hS; rw [T2.out] at hc; refine hc.mono ?_; clear hc; rintro e w3 ⟨rfl, hI3, ho3⟩; have HI3 : Hid (In w3 rb S y ts) := hI3; clear hI3) | (go_at_call_of 70 (Value.string ⟨#[94]⟩); have hc := took_any 94 rb S y ts _ HI3.out hS; rw [T3.out] at hc; refine hc.mono ?_; clear hc; rintro e w4 ⟨rfl, hI4, ho4⟩; have HI4 : Hid (In w4 rb S y ts1) := hI4; clear hI4; have HO4 : Hid (Only (· = rb) w w4) := HO1.out.trans (ho2.trans (ho3.trans ho4)); have HM4 : Hid (Mp w4 y.mb E) := HM1.out.only (ho2.trans (ho3.trans ho4)) hmy) | (go_at_call 78; have hc := names_any E rb S y ts1 _ HI4.out hS HM4.out hmy; rw [T4.out] at hc; refine hc.mono ?_; clear hc; rintro e w5 ⟨rfl, hI5, ho5⟩; have HI5 : Hid (In w5 rb S y ts2) := hI5; clear hI5) | (go_at_call 54; have hc := want_any 93 rb S y ts2 _ HI5.out hS; rw [T5.out] at hc; refine hc.mono ?_; clear hc; rintro e w6 ⟨rfl, ho6⟩))
              exact ⟨rfl, rfl, HO4.out.trans (ho5.trans ho6)⟩
            | ok ts3 =>
              have T5 : Hid (Rl.want 93 ts2 = .ok ts3) := hwt
              clear hwt
              simp only
              cases no
              · go_enter Try.func95, Try.ntmps95
                go_wp2_with (first | (go_at_call_of 70 (Value.string ⟨#[46]⟩); have hc := took_any 46 rb S y (t :: ts) _ HI1.out hS; rw [T1.out] at hc; refine hc.mono ?_; clear hc; rintro e w2 ⟨rfl, hI2, ho2⟩; have HI2 : Hid (In w2 rb S y (t :: ts)) := hI2; clear hI2) | (go_at_call_of 70 (Value.string ⟨#[91]⟩); have hc := took_any 91 rb S y (t :: ts) _ HI2.out hS; rw [T2.out] at hc; refine hc.mono ?_; clear hc; rintro e w3 ⟨rfl, hI3, ho3⟩; have HI3 : Hid (In w3 rb S y ts) := hI3; clear hI3) | (go_at_call_of 70 (Value.string ⟨#[94]⟩); have hc := took_any 94 rb S y ts _ HI3.out hS; rw [T3.out] at hc; refine hc.mono ?_; clear hc; rintro e w4 ⟨rfl, hI4, ho4⟩; have HI4 : Hid (In w4 rb S y ts1) := hI4; clear hI4; have HO4 : Hid (Only (· = rb) w w4) := HO1.out.trans (ho2.trans (ho3.trans ho4)); have HM4 : Hid (Mp w4 y.mb E) := HM1.out.only (ho2.trans (ho3.trans ho4)) hmy) | (go_at_call 78; have hc := names_any E rb S y ts1 _ HI4.out hS HM4.out hmy; rw [T4.out] at hc; refine hc.mono ?_; clear hc; rintro e w5 ⟨rfl, hI5, ho5⟩; have HI5 : Hid (In w5 rb S y ts2) := hI5; clear hI5) | (go_at_call 54; have hc := want_any 93 rb S y ts2 _ HI5.out hS; rw [T5.out] at hc; refine hc.mono ?_; clear hc; rintro e w6 ⟨rfl, hI6, ho6⟩))
                go_ret
                refine ⟨rfl, ?_, HO4.out.trans (ho5.trans ho6)⟩
                rw [← HY.out]
                exact hI6
              · go_enter Try.func95, Try.ntmps95
                go_wp2_with (first | (go_at_call_of 70 (Value.string ⟨#[46]⟩); have hc := took_any 46 rb S y (t :: ts) _ HI1.out hS; rw [T1.out] at hc; refine hc.mono ?_; clear hc; rintro e w2 ⟨rfl, hI2, ho2⟩; have HI2 : Hid (In w2 rb S y (t :: ts)) := hI2; clear hI2) | (go_at_call_of 70 (Value.string ⟨#[91]⟩); have hc := took_any 91 rb S y (t :: ts) _ HI2.out hS; rw [T2.out] at hc; refine hc.mono ?_; clear hc; rintro e w3 ⟨rfl, hI3, ho3⟩; have HI3 : Hid (In w3 rb S y ts) := hI3; clear hI3) | (go_at_call_of 70 (Value.string ⟨#[94]⟩); have hc := took_any 94 rb S y ts _ HI3.out hS; rw [T3.out] at hc; refine hc.mono ?_; clear hc; rintro e w4 ⟨rfl, hI4, ho4⟩; have HI4 : Hid (In w4 rb S y ts1) := hI4; clear hI4; have HO4 : Hid (Only (· = rb) w w4) := HO1.out.trans (ho2.trans (ho3.trans ho4)); have HM4 : Hid (Mp w4 y.mb E) := HM1.out.only (ho2.trans (ho3.trans ho4)) hmy) | (go_at_call 78; have hc := names_any E rb S y ts1 _ HI4.out hS HM4.out hmy; rw [T4.out] at hc; refine hc.mono ?_; clear hc; rintro e w5 ⟨rfl, hI5, ho5⟩; have HI5 : Hid (In w5 rb S y ts2) := hI5; clear hI5) | (go_at_call 54; have hc := want_any 93 rb S y ts2 _ HI5.out hS; rw [T5.out] at hc; refine hc.mono ?_; clear hc; rintro e w6 ⟨rfl, hI6, ho6⟩; have HI6 : Hid (In w6 rb S y ts3) := hI6; obtain ⟨i6, hR6, _, _⟩ := hI6) | (go_at_call 96; refine (all_any nc rb S _ y _ hR6 a cap hvy.out hnc).mono ?_; rintro e w7 ⟨rfl, rfl⟩))
                go_ret
                refine ⟨rfl, ?_, HO4.out.trans (ho5.trans ho6)⟩
                rw [← HY.out]
                exact HI6.out
      · rw [if_neg h91]
        have T2 : Hid (Rl.took 91 (t :: ts) = .ok (false, t :: ts)) := by show Rl.took 91 (t :: ts) = .ok (false, t :: ts); rw [took_cons, if_neg hb, if_neg h91]
        have hnm : Rl.isNm t = true := by
          unfold Rl.beg at hbeg
          simpa [h46, h91, hno] using hbeg
        cases hf : Rl.find E t.text with
        | none =>
          have T3 : Hid (clsF E (t :: ts) = .error (22, t.at')) := clsF_none hb hnm hf
          clear hb h46 h91 hbeg hno hf hnm
          simp only
          go_enter Try.func95, Try.ntmps95
          go_wp2_with (first | (go_at_call_of 70 (Value.string ⟨#[46]⟩); have hc := took_any 46 rb S y (t :: ts) _ HI1.out hS; rw [T1.out] at hc; refine hc.mono ?_; clear hc; rintro e w2 ⟨rfl, hI2, ho2⟩; have HI2 : Hid (In w2 rb S y (t :: ts)) := hI2; clear hI2) | (go_at_call_of 70 (Value.string ⟨#[91]⟩); have hc := took_any 91 rb S y (t :: ts) _ HI2.out hS; rw [T2.out] at hc; refine hc.mono ?_; clear hc; rintro e w3 ⟨rfl, hI3, ho3⟩; have HI3 : Hid (In w3 rb S y (t :: ts)) := hI3; clear hI3; have HO3 : Hid (Only (· = rb) w w3) := HO1.out.trans (ho2.trans ho3); have HM3 : Hid (Mp w3 y.mb E) := HM1.out.only (ho2.trans ho3) hmy) | (go_at_call 86; have hc := classes_any E rb S y (t :: ts) _ HI3.out hS HM3.out hmy; rw [T3.out] at hc; refine hc.mono ?_; clear hc; rintro e w4 ⟨rfl, ho4⟩))
          exact ⟨rfl, rfl, HO3.out.trans ho4⟩
        | some b =>
          have T3 : Hid (clsF E (t :: ts) = .ok (b, ts)) := clsF_some hb hnm hf
          clear hb h46 h91 hbeg hno hf hnm
          simp only
          go_enter Try.func95, Try.ntmps95
          go_wp2_with (first | (go_at_call_of 70 (Value.string ⟨#[46]⟩); have hc := took_any 46 rb S y (t :: ts) _ HI1.out hS; rw [T1.out] at hc; refine hc.mono ?_; clear hc; rintro e w2 ⟨rfl, hI2, ho2⟩; have HI2 : Hid (In w2 rb S y (t :: ts)) := hI2; clear hI2) | (go_at_call_of 70 (Value.string ⟨#[91]⟩); have hc := took_any 91 rb S y (t :: ts) _ HI2.out hS; rw [T2.out] at hc; refine hc.mono ?_; clear hc; rintro e w3 ⟨rfl, hI3, ho3⟩; have HI3 : Hid (In w3 rb S y (t :: ts)) := hI3; clear hI3; have HO3 : Hid (Only (· = rb) w w3) := HO1.out.trans (ho2.trans ho3); have HM3 : Hid (Mp w3 y.mb E) := HM1.out.only (ho2.trans ho3) hmy) | (go_at_call 86; have hc := classes_any E rb S y (t :: ts) _ HI3.out hS HM3.out hmy; rw [T3.out] at hc; refine hc.mono ?_; clear hc; rintro e w4 ⟨rfl, hI4, ho4⟩))
          go_ret
          refine ⟨rfl, ?_, HO3.out.trans ho4⟩
          rw [← HY.out]
          exact hI4
end Go.Proofs.Ytfbcijnacbfjpaa
