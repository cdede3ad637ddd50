/-
  word of the document's own parser.
-/
import Derived.Test.YtahoepmnekconaaR3
import Derived.Test.YtahoepmnekconaaState
namespace Go.Proofs.Ytahoepmnekconaa
open Go.RowKit
set_option linter.unusedVariables false
set_option linter.unusedSimpArgs false
set_option maxRecDepth 100000 in
set_option maxHeartbeats 2000000 in
theorem word_bad (rb : Nat) (S : ByteArray) (f : Rl.Ft) (w : World) (h : Qb w rb S f) :
    Calls Try.prog 33 #[.pointer (some ⟨rb, 0, none⟩)] w fun e w' => ∃ a : Int, e = .returned (.tuple #[.string ⟨#[]⟩, .int .i64 a]) ∧ Qb w' rb S f ∧ Only (fun _ => False) w w' := by
  have HB : Hid (Qb w rb S f) := h
  obtain ⟨i, x, hR, hc, _⟩ := h
  have q : ((f.1 : Int) == 0) = false := by simpa using hc
  have q2 : ((f.1 : Int) != 0) = true := by simpa using hc
  have HR : Hid (Rpr w rb S i x f.1 f.2) := hR
  clear hR hc
  go_enter Try.func33, Try.ntmps33
  go_wp2_with (go_at_call 23; refine (here_bad rb S f _ HB.out).mono ?_; rintro e w1 ⟨rfl, ho1⟩; have d11 := (HR.out.only ho1 (fun h => h)).c11; have d1 := (HR.out.only ho1 (fun h => h)).c1)
  go_ret2
  exact ⟨_, rfl, HB.out.only ho1 (fun h => h), ho1⟩
/-- how word ends. -/
def wordP (rb : Nat) (S : ByteArray) (x : Rq) (w : World) (F : Rl.R (Rl.Tk × List Rl.Tk)) (e : Ending) (w' : World) : Prop :=
  match F with
  | .error f => (∃ a : Int, e = .returned (.tuple #[.string ⟨#[]⟩, .int .i64 a])) ∧ Qb w' rb S f ∧ Only (· = rb) w w'
  | .ok (t, ts) => e = .returned (.tuple #[.string (bs t.text), .int .i64 (t.at' : Int)]) ∧ Qn w' rb S x ts ∧ Only (· = rb) w w'
theorem rname_cons (t : Rl.Tk) (ts : List Rl.Tk) : Rl.name (t :: ts) = if t.bad = true then .error (20, t.at') else if Rl.isNm t = true then .ok (t, ts) else .error (21, t.at') := rfl
theorem tk_name {l : Rl.Str} {i : Nat} {t : Rl.Tk} (ht : t = Rl.tk l i) (hn : Rl.isNm t = true) : t.text = (l.drop t.at').take (Rl.nml (l.drop t.at')) ∧ t.text.length = Rl.nml (l.drop t.at') := by
  have htx : t.text = (l.drop t.at').take (Rl.plen (l.drop t.at')) := by rw [ht]; rfl
  have hp : 0 < Rl.nml (l.drop t.at') := by
    rw [isNm_hd] at hn
    unfold hdB at hn
    cases hr : l.drop t.at' with
    | nil => rw [htx, hr] at hn; simp at hn; exact absurd hn (by decide)
    | cons b r =>
      rw [htx, hr] at hn
      by_cases hb : Rl.isN b = true
      · rw [Rl.nml_cons, if_pos hb]; omega
      · exfalso
        cases hq : Rl.plen (b :: r) with
        | zero => rw [hq] at hn; simp at hn; exact absurd hn (by decide)
        | succ m => rw [hq, List.take_succ_cons] at hn; exact hb hn
  have hpl : Rl.plen (l.drop t.at') = Rl.nml (l.drop t.at') := by unfold Rl.plen; rw [if_pos hp]
  rw [hpl] at htx
  refine ⟨htx, ?_⟩
  rw [htx, List.length_take]
  have := Rl.nml_le (l.drop t.at')
  omega
set_option maxRecDepth 100000 in
set_option maxHeartbeats 4000000 in
theorem word_any (rb : Nat) (S : ByteArray) (x : Rq) (ts : List Rl.Tk) (w : World) (h : Qn w rb S x ts) (hS : S.size ≤ 4096) (hv : Vc x) :
    Calls Try.prog 33 #[.pointer (some ⟨rb, 0, none⟩)] w (wordP rb S x w (Rl.name ts)) := by
  cases ts with
  | nil => obtain ⟨i, _, h2, _⟩ := h; exact h2.elim
  | cons t ts =>
    have HI : Hid (Qn w rb S x (t :: ts)) := h
    have HV : Hid (Vc x) := hv
    obtain ⟨i0, ht⟩ := strm_tk h
    have HT : Hid (t = Rl.tk S.data.toList i0) := ht
    rw [rname_cons]
    clear h hv ht
    by_cases hb : t.bad = true
    · rw [if_pos hb]
      have HB : Hid (t.bad = true) := hb
      clear hb
      go_enter Try.func33, Try.ntmps33
      go_wp2_with (go_at_call 23; refine (here_bd rb S x t ts _ HI.out hS HV.out HB.out).mono ?_; rintro e w1 ⟨rfl, hR1, ho1⟩; have d11 : w1.cell? ⟨rb, 11, none⟩ = some (.int .i64 20) := hR1.c11; have d1 := hR1.c1; have HR1 : Hid (Rpr w1 rb S (t.at' : Int) x ((20 : Nat) : Int) (t.at' : Int)) := hR1; clear hR1)
      go_ret2
      exact ⟨⟨_, rfl⟩, HR1.out.qb (by decide) HV.out, ho1⟩
    · rw [if_neg hb]
      have HB : Hid (¬ t.bad = true) := hb
      clear hb
      by_cases hn : Rl.isNm t = true
      · rw [if_pos hn]
        have hl : Rl.isN (hdB t) = true := by rw [← isNm_hd]; exact hn
        have HN : Hid (Rl.isNm t = true) := hn
        have HD : Hid (hd t = ((hdB t).toNat : Int)) := hd_eq t
        obtain ⟨htx, htl⟩ := tk_name HT.out hn
        have HTX : Hid (t.text = (S.data.toList.drop t.at').take (Rl.nml (S.data.toList.drop t.at'))) := htx
        have HTL : Hid (t.text.length = Rl.nml (S.data.toList.drop t.at')) := htl
        clear hn htx htl
        go_enter Try.func33, Try.ntmps33
        go_wp2_with (first | (go_at_call 23; refine (here_ok rb S x t ts _ HI.out hS HB.out).mono ?_; rintro e w1 ⟨rfl, hR1, hs1, he1, ho1⟩; have d11 := hR1.c11; have d1 := hR1.c1; have HR1 : Hid (Rpr w1 rb S (t.at' : Int) x 0 0) := hR1; have HS1 : Hid (Rl.Strm S.data.toList t.at' (t :: ts)) := hs1; clear hR1 hs1; rw [HD.out]) | (go_at_call 31; refine (letter_any (hdB t) _).mono ?_; rintro e w2 ⟨rfl, rfl⟩))
        go_loopg [] (S.size - t.at') (fun g wr => ∃ (m : Nat) (W : World), W = wr ∧ g = S.size - m ∧ t.at' ≤ m ∧ m ≤ S.size ∧ Rpr W rb S m x 0 0 ∧ Hid (t.at' + t.text.length = m + Rl.nml (S.data.toList.drop m)) ∧ Only (· = rb) w W)
        case atStart => exact ⟨t.at', _, rfl, rfl, Nat.le_refl _, by omega, HR1.out, (by rw [HTL.out] : t.at' + t.text.length = t.at' + Rl.nml (S.data.toList.drop t.at')), ho1⟩
        case round =>
          obtain ⟨m, W, hW, rfl, hm1, hm2, hRm, hNm, hOm⟩ := hrel
          subst hW
          clear d11 d1
          have e0 := hRm.c0
          have e1 := hRm.c1
          have f1 := hRm.fz 1
          have HRm : Hid (Rpr W rb S m x 0 0) := hRm
          have HOm : Hid (Only (· = rb) w W) := hOm
          clear hRm hOm
          have hsz := Lib.size_eq S
          have HSZ : Hid (S.size = S.data.toList.length) := hsz
          clear hsz
          have fin : Rl.nml (S.data.toList.drop m) = 0 → Hid (t.at' + t.text.length = m) := fun h0 => by
            have := hNm.out
            rw [h0] at this
            exact this
          have cut : Rl.nml (S.data.toList.drop m) = 0 → Hid (S.extract t.at' m = bs t.text) := fun h0 => by
            show S.extract t.at' m = bs t.text
            have h1 := (fin h0).out
            rw [Lib.extract_eq]
            unfold bs
            congr 1
            rw [HTX.out, ← HTL.out]
            rw [show m - t.at' = t.text.length by omega]
          have HF : Hid (Rl.nml (S.data.toList.drop m) = 0 → Hid (t.at' + t.text.length = m)) := fin
          have HC : Hid (Rl.nml (S.data.toList.drop m) = 0 → Hid (S.extract t.at' m = bs t.text)) := cut
          clear fin cut
          by_cases hlt : m < S.size
          · have t1 : (m : Int) < (S.size : Int) := by omega
            have t2 : decide ((m : Int) < (S.size : Int)) = true := decide_eq_true t1
            have HDm : Hid (S.data.toList.drop m = S[m] :: S.data.toList.drop (m + 1)) := drop_data hlt
            by_cases hc : Rl.isN S[m] = true
            · have H1 : Hid (t.at' + t.text.length = (m + 1) + Rl.nml (S.data.toList.drop (m + 1))) := by
                show _ = _
                have := hNm.out
                rw [HDm.out, Rl.nml_cons, if_pos hc] at this
                omega
              go_wp2_with fail
              go_quiet ((go_at_call 31; exact Calls.quiet_of_same (letter_any _ _)))
              go_wp2_with fail
              go_roundg (S.size - (m + 1))
              case measure => omega
              case rel => exact ⟨m + 1, _, rfl, rfl, by omega, by omega, (HRm.out.drewN _).set1 _, H1.out, (HOm.out.drewN _).setCell (p := ⟨rb, 1, none⟩) rfl _⟩
            · have hc' : Rl.isN S[m] = false := by simpa using hc
              have H0 : Hid (Rl.nml (S.data.toList.drop m) = 0) := by
                show _ = _
                rw [HDm.out, Rl.nml_cons, if_neg hc]
              have hle : (t.at' : Int) ≤ (m : Int) := by omega
              have hle2 : (m : Int) ≤ (S.size : Int) := by omega
              clear hc
              go_wp2_with fail
              go_quiet ((go_at_call 31; exact Calls.quiet_of_same (letter_any _ _)))
              go_wp2_with fail
              go_quiet (fail)
              go_wp2_with fail
              go_ret2
              have hcut := (HC.out H0.out).out
              have hfin := (HF.out H0.out).out
              refine ⟨?_, ⟨m, HRm.out, ?_, hm2⟩, (HOm.out.drewN _).drewN _⟩
              · rw [← hcut]; rfl
              · rw [← hfin]; exact Rl.strm_tail HS1.out (isNm_ne HN.out)
          · have t1 : ¬ (m : Int) < (S.size : Int) := by omega
            have t2 : decide ((m : Int) < (S.size : Int)) = false := decide_eq_false t1
            have H0 : Hid (Rl.nml (S.data.toList.drop m) = 0) := by
              show _ = _
              rw [List.drop_of_length_le (by rw [← HSZ.out]; omega)]; rfl
            have hle : (t.at' : Int) ≤ (m : Int) := by omega
            have hle2 : (m : Int) ≤ (S.size : Int) := by omega
            go_wp2_with fail
            go_quiet ((go_at_call 31; exact Calls.quiet_of_same (letter_any _ _)))
            go_wp2_with fail
            go_quiet (fail)
            go_wp2_with fail
            go_ret2
            have hcut := (HC.out H0.out).out
            have hfin := (HF.out H0.out).out
            refine ⟨?_, ⟨m, HRm.out, ?_, hm2⟩, (HOm.out.drewN _).drewN _⟩
            · rw [← hcut]; rfl
            · rw [← hfin]; exact Rl.strm_tail HS1.out (isNm_ne HN.out)
      · rw [if_neg hn]
        have hl : Rl.isN (hdB t) = false := by rw [← isNm_hd]; simpa using hn
        have HD : Hid (hd t = ((hdB t).toNat : Int)) := hd_eq t
        clear hn
        go_enter Try.func33, Try.ntmps33
        go_wp2_with (first | (go_at_call 23; refine (here_ok rb S x t ts _ HI.out hS HB.out).mono ?_; rintro e w1 ⟨rfl, hR1, hs1, he1, ho1⟩; have d11 := hR1.c11; have d1 := hR1.c1; have HR1 : Hid (Rpr w1 rb S (t.at' : Int) x 0 0) := hR1; clear hR1 hs1; rw [HD.out]) | (go_at_call 31; refine (letter_any (hdB t) _).mono ?_; rintro e w2 ⟨rfl, rfl⟩) | (go_at_call 32; refine (bad_first rb S t.at' x 21 t.at' _ HR1.out).mono ?_; rintro e w3 ⟨rfl, hR3, ho3⟩; have HR3 : Hid (Rpr w3 rb S (t.at' : Int) x ((21 : Nat) : Int) (t.at' : Int)) := hR3; have g11 : w3.cell? ⟨rb, 11, none⟩ = some (.int .i64 21) := hR3.c11; clear hR3))
        go_ret2
        exact ⟨⟨_, rfl⟩, HR3.out.qb (by decide) HV.out, ho1.trans ho3⟩
set_option maxRecDepth 100000 in
set_option maxHeartbeats 2000000 in
theorem whole_any (rb : Nat) (S : ByteArray) (i : Int) (x : Rq) (c t : Int) (w : World) (hR : Rpr w rb S i x c t) (a : Option Addr) (n cap : Nat) (hv : x.vC = .slice a n cap) (hn : n ≤ 24) :
    Calls Try.prog 73 #[.pointer (some ⟨rb, 0, none⟩)] w fun e w' => e = .returned (.int .u32 (Rl.whole n)) ∧ w' = w := by
  have d2 := hR.c2
  rw [hv] at d2
  clear hR
  go_enter Try.func73, Try.ntmps73
  go_wp2_with fail
  go_ret
  exact ⟨congrArg (fun z => Ending.returned (.int .u32 z)) (pow24 ⟨n, by omega⟩).1, rfl⟩
end Go.Proofs.Ytahoepmnekconaa
