/-
  list, fresh, class of the document's own parser.
-/
import Derived.Test.YtahoepmnekconaaR5
namespace Go.Proofs.Ytahoepmnekconaa
open Go.RowKit Go.Maps
set_option linter.unusedVariables false
set_option linter.unusedSimpArgs false
/-- names, and the sign behind them. -/
def listF (E : Rl.Env) (c : UInt8) (ts : List Rl.Tk) (acc : Int) : Rl.R (Int × List Rl.Tk) :=
  match Rl.names E ts acc with
  | .error f => .error f
  | .ok (b, ts1) => match Rl.want c ts1 with
    | .error f => .error f
    | .ok ts2 => .ok (b, ts2)
theorem listF_cons (E : Rl.Env) (c : UInt8) (hn : Rl.isN c = false) (t : Rl.Tk) (ts : List Rl.Tk) (acc : Int) : listF E c (t :: ts) acc = if t.bad = true then .error (20, t.at') else if t.text = [c] then .ok (acc, ts) else if Rl.isNm t = true then
      match Rl.find E t.text with
      | none => .error (22, t.at')
      | some b => listF E c ts (Rl.bor acc b)
    else .error (21, t.at') := by
  unfold listF
  rw [names_cons]
  by_cases hb : t.bad = true
  · rw [if_pos hb, if_pos hb]
  · rw [if_neg hb, if_neg hb]
    by_cases he : t.text = [c]
    · have h1 : ¬ Rl.isNm t = true := by rw [isNm_hd]; unfold hdB; rw [he, hn]; simp
      rw [if_neg h1, if_pos he]
      show (match Rl.want c (t :: ts) with | .error f => _ | .ok ts2 => _) = _
      have : Rl.want c (t :: ts) = .ok ts := by show (if _ then _ else _) = _; rw [if_neg hb, if_pos he]
      rw [this]
    · rw [if_neg he]
      by_cases h1 : Rl.isNm t = true
      · rw [if_pos h1, if_pos h1]
        cases Rl.find E t.text <;> rfl
      · rw [if_neg h1, if_neg h1]
        show (match Rl.want c (t :: ts) with | .error f => _ | .ok ts2 => _) = _
        have : Rl.want c (t :: ts) = .error (21, t.at') := by show (if _ then _ else _) = _; rw [if_neg hb, if_neg he]
        rw [this]
theorem rtook_cons (c : UInt8) (t : Rl.Tk) (ts : List Rl.Tk) : Rl.took c (t :: ts) = if t.bad = true then .error (20, t.at') else if t.text = [c] then .ok (true, ts) else .ok (false, t :: ts) := rfl
theorem clsF_not {E : Rl.Env} {t : Rl.Tk} {ts : List Rl.Tk} (hb : ¬ t.bad = true) (hn : ¬ Rl.isNm t = true) : clsF E (t :: ts) = .error (21, t.at') := by
  unfold clsF
  rw [name_cons, if_neg hb, if_neg hn]
set_option maxRecDepth 100000 in
set_option maxHeartbeats 4000000 in
theorem list_bad (c : Int) (rb : Nat) (S : ByteArray) (f : Rl.Ft) (w : World) (h : Qb w rb S f) :
    Calls Try.prog 38 #[.pointer (some ⟨rb, 0, none⟩), .int .u8 c] w fun e w' => e = .returned (.int .u32 0) ∧ Qb w' rb S f ∧ Only (fun _ => False) w w' := by
  have HB : Hid (Qb w rb S f) := h
  obtain ⟨i1, x1, hR1, hc1, _⟩ := h
  have d11 := hR1.c11
  have q : ((f.1 : Int) == 0) = false := by simpa using hc1
  clear hR1 hc1
  go_enter Try.func38, Try.ntmps38
  go_wp2_with fail
  go_loopg [5] 0 (fun g v wr => w = wr ∧ v = .int .u32 0)
  case atStart => exact ⟨rfl, rfl⟩
  case round =>
    obtain ⟨rfl, rfl⟩ := hrel
    go_wp2_with fail
    go_ret
    exact ⟨rfl, HB.out, Only.refl _ _⟩
set_option maxRecDepth 100000 in
set_option maxHeartbeats 4000000 in
theorem list_any (c : UInt8) (E : Rl.Env) (rb : Nat) (S : ByteArray) (x : Rq) (ts : List Rl.Tk) (w : World) (h : Qn w rb S x ts) (hS : S.size ≤ 4096) (hv : Vc x) (hE : Dec w rb x E) (hc : Rl.signs.contains c = true) (hn : Rl.isN c = false) :
    Calls Try.prog 38 #[.pointer (some ⟨rb, 0, none⟩), .int .u8 (c.toNat : Int)] w (rclsP rb S x w (listF E c ts 0)) := by
  have HI : Hid (Qn w rb S x ts) := h
  have HV : Hid (Vc x) := hv
  have HE : Hid (Dec w rb x E) := hE
  have HC : Hid (Rl.signs.contains c = true) := hc
  have HN : Hid (Rl.isN c = false) := hn
  clear h hE hv hc hn
  obtain ⟨F, hF⟩ : ∃ F, F = listF E c ts 0 := ⟨_, rfl⟩
  have HF : Hid (F = listF E c ts 0) := hF
  rw [← hF]
  clear hF
  go_enter Try.func38, Try.ntmps38
  go_wp2_with fail
  go_loopg [5] (ts.length + 1) (fun g v wr => (∃ (tsr : List Rl.Tk) (acc : Int) (W : World), W = wr ∧ g = tsr.length + 1 ∧ v = .int .u32 acc ∧ Qn W rb S x tsr ∧ Only (· = rb) w W ∧ Hid (F = listF E c tsr acc)) ∨ (∃ (f : Rl.Ft) (b : Int) (W : World), W = wr ∧ g = 0 ∧ v = .int .u32 b ∧ Qb W rb S f ∧ Only (· = rb) w W ∧ Hid (F = .error f)))
  case atStart => exact Or.inl ⟨ts, 0, _, rfl, rfl, rfl, HI.out, Only.refl _ _, HF.out⟩
  case round =>
    rcases hrel with ⟨tsr, acc, W, hW, rfl, rfl, hIr, hOr, hFr⟩ | ⟨f, b, W, hW, rfl, rfl, hBr, hOr, hFr⟩
    · subst hW
      cases tsr with
      | nil => obtain ⟨i, _, h2, _⟩ := hIr; exact h2.elim
      | cons t tsr =>
        have HIr : Hid (Qn W rb S x (t :: tsr)) := hIr
        have HOr : Hid (Only (· = rb) w W) := hOr
        have HEr : Hid (Dec W rb x E) := HE.out.only hOr
        have hFr' := hFr.out
        rw [listF_cons E c HN.out] at hFr'
        obtain ⟨ir, hRr, _, _⟩ := hIr
        have d11 := hRr.c11
        clear hOr hFr hRr
        by_cases hb : t.bad = true
        · rw [if_pos hb] at hFr'
          have HE2 : Hid (F = .error (20, t.at')) := hFr'
          have T1 : Hid (Rl.took c (t :: tsr) = .error (20, t.at')) := by show Rl.took c (t :: tsr) = .error (20, t.at'); rw [rtook_cons, if_pos hb]
          clear hb hFr'
          go_wp2_with (first | (go_at_call 34; have hc := sign_any c rb S x (t :: tsr) _ HIr.out hS HV.out HC.out HN.out; rw [T1.out] at hc; refine hc.mono ?_; clear hc; rintro e w1 ⟨rfl, hb1, ho1⟩) | (go_at_call 54; refine (named_bad rb S _ _ hb1).mono ?_; rintro e w2 ⟨rfl, hb2, ho2⟩))
          go_roundg 0
          case measure => omega
          case rel => exact Or.inr ⟨_, _, _, rfl, rfl, rfl, hb2, HOr.out.trans (ho1.trans (ho2.mono (fun _ h => h.elim))), HE2.out⟩
        · rw [if_neg hb] at hFr'
          by_cases he : t.text = [c]
          · rw [if_pos he] at hFr'
            have HE2 : Hid (F = .ok (acc, tsr)) := hFr'
            have T1 : Hid (Rl.took c (t :: tsr) = .ok (true, tsr)) := by show Rl.took c (t :: tsr) = .ok (true, tsr); rw [rtook_cons, if_neg hb, if_pos he]
            clear hb hFr' he
            go_wp2_with (go_at_call 34; have hc := sign_any c rb S x (t :: tsr) _ HIr.out hS HV.out HC.out HN.out; rw [T1.out] at hc; refine hc.mono ?_; clear hc; rintro e w1 ⟨rfl, hi1, ho1⟩)
            go_ret
            rw [HE2.out]
            exact ⟨rfl, hi1, HOr.out.trans ho1⟩
          · rw [if_neg he] at hFr'
            have T1 : Hid (Rl.took c (t :: tsr) = .ok (false, t :: tsr)) := by show Rl.took c (t :: tsr) = .ok (false, t :: tsr); rw [rtook_cons, if_neg hb, if_neg he]
            by_cases hnm : Rl.isNm t = true
            · rw [if_pos hnm] at hFr'
              cases hf : Rl.find E t.text with
              | none =>
                rw [hf] at hFr'
                have HE2 : Hid (F = .error (22, t.at')) := hFr'
                have T2 : Hid (clsF E (t :: tsr) = .error (22, t.at')) := clsF_none hb hnm hf
                clear hb hnm hFr' hf he
                go_wp2_with (first | (go_at_call 34; have hc := sign_any c rb S x (t :: tsr) _ HIr.out hS HV.out HC.out HN.out; rw [T1.out] at hc; refine hc.mono ?_; clear hc; rintro e w1 ⟨rfl, hi1, ho1⟩) | (go_at_call 54; have hc := named_any E rb S x _ _ hi1 hS HV.out (HEr.out.only ho1); rw [T2.out] at hc; refine hc.mono ?_; clear hc; rintro e w2 ⟨⟨b2, rfl⟩, hb2, ho2⟩))
                go_roundg 0
                case measure => omega
                case rel => exact Or.inr ⟨_, _, _, rfl, rfl, rfl, hb2, HOr.out.trans (ho1.trans ho2), HE2.out⟩
              | some b =>
                rw [hf] at hFr'
                have HE2 : Hid (F = listF E c tsr (Rl.bor acc b)) := hFr'
                have T2 : Hid (clsF E (t :: tsr) = .ok (b, tsr)) := clsF_some hb hnm hf
                clear hb hnm hFr' hf he
                go_wp2_with (first | (go_at_call 34; have hc := sign_any c rb S x (t :: tsr) _ HIr.out hS HV.out HC.out HN.out; rw [T1.out] at hc; refine hc.mono ?_; clear hc; rintro e w1 ⟨rfl, hi1, ho1⟩) | (go_at_call 54; have hc := named_any E rb S x _ _ hi1 hS HV.out (HEr.out.only ho1); rw [T2.out] at hc; refine hc.mono ?_; clear hc; rintro e w2 ⟨rfl, hi2, ho2⟩))
                go_roundg (tsr.length + 1)
                case measure => simp
                case rel => exact Or.inl ⟨tsr, Rl.bor acc b, _, rfl, rfl, rfl, hi2, HOr.out.trans (ho1.trans ho2), HE2.out⟩
            · rw [if_neg hnm] at hFr'
              have HE2 : Hid (F = .error (21, t.at')) := hFr'
              have T2 : Hid (clsF E (t :: tsr) = .error (21, t.at')) := clsF_not hb hnm
              clear hb hnm hFr' he
              go_wp2_with (first | (go_at_call 34; have hc := sign_any c rb S x (t :: tsr) _ HIr.out hS HV.out HC.out HN.out; rw [T1.out] at hc; refine hc.mono ?_; clear hc; rintro e w1 ⟨rfl, hi1, ho1⟩) | (go_at_call 54; have hc := named_any E rb S x _ _ hi1 hS HV.out (HEr.out.only ho1); rw [T2.out] at hc; refine hc.mono ?_; clear hc; rintro e w2 ⟨⟨b2, rfl⟩, hb2, ho2⟩))
              go_roundg 0
              case measure => omega
              case rel => exact Or.inr ⟨_, _, _, rfl, rfl, rfl, hb2, HOr.out.trans (ho1.trans ho2), HE2.out⟩
    · subst hW
      have HBr : Hid (Qb W rb S f) := hBr
      obtain ⟨i1, x1, hR1, hc1, _⟩ := hBr
      have d11 := hR1.c11
      have q : ((f.1 : Int) == 0) = false := by simpa using hc1
      clear hR1 hc1
      go_wp2_with fail
      go_ret
      rw [hFr.out]
      exact ⟨⟨_, rfl⟩, HBr.out, hOr⟩
/-- how fresh ends. -/
def rfreshP (rb : Nat) (S : ByteArray) (x : Rq) (w : World) (F : Rl.R (Rl.Tk × List Rl.Tk)) (e : Ending) (w' : World) : Prop :=
  match F with
  | .error f => (∃ (s : ByteArray) (a : Int), e = .returned (.tuple #[.string s, .int .i64 a])) ∧ Qb w' rb S f ∧ Only (· = rb) w w'
  | .ok (t, ts) => e = .returned (.tuple #[.string (bs t.text), .int .i64 (t.at' : Int)]) ∧ Qn w' rb S x ts ∧ Only (· = rb) w w'
set_option maxRecDepth 100000 in
set_option maxHeartbeats 4000000 in
theorem rfresh_bad (rb : Nat) (S : ByteArray) (f : Rl.Ft) (w : World) (h : Qb w rb S f) :
    Calls Try.prog 35 #[.pointer (some ⟨rb, 0, none⟩)] w fun e w' => (∃ (s : ByteArray) (a : Int), e = .returned (.tuple #[.string s, .int .i64 a])) ∧ Qb w' rb S f ∧ Only (fun _ => False) w w' := by
  have HB : Hid (Qb w rb S f) := h
  clear h
  go_enter Try.func35, Try.ntmps35
  go_wp2_with (go_at_call 33; refine (word_bad rb S f _ HB.out).mono ?_; rintro e w1 ⟨a, rfl, hb1, ho1⟩; have HB1 : Hid (Qb w1 rb S f) := hb1; obtain ⟨i1, x1, hR1, hc1, _⟩ := hb1; have d11 := hR1.c11; have q : ((f.1 : Int) == 0) = false := (by simpa using hc1); clear hR1 hc1)
  go_ret2
  exact ⟨⟨_, _, rfl⟩, HB1.out, ho1⟩
set_option maxRecDepth 100000 in
set_option maxHeartbeats 4000000 in
theorem rfresh_any (E : Rl.Env) (rb : Nat) (S : ByteArray) (x : Rq) (ts : List Rl.Tk) (w : World) (h : Qn w rb S x ts) (hS : S.size ≤ 4096) (hv : Vc x) (hE : Dec w rb x E) :
    Calls Try.prog 35 #[.pointer (some ⟨rb, 0, none⟩)] w (rfreshP rb S x w (Rl.fresh E ts)) := by
  have hn := word_any rb S x ts w h hS hv
  have HV : Hid (Vc x) := hv
  have HE : Hid (Dec w rb x E) := hE
  cases hnm : Rl.name ts with
  | error f =>
    have hF : Rl.fresh E ts = .error f := by unfold Rl.fresh; rw [hnm]
    rw [hF]
    rw [hnm] at hn
    have HN : Hid (Calls Try.prog 33 #[.pointer (some ⟨rb, 0, none⟩)] w (wordP rb S x w (.error f))) := hn
    clear hF hnm hn h hE hv
    go_enter Try.func35, Try.ntmps35
    go_wp2_with (go_at_call 33; refine HN.out.mono ?_; rintro e w1 ⟨⟨a, rfl⟩, hb1, ho1⟩; have HB1 : Hid (Qb w1 rb S f) := hb1; obtain ⟨i1, x1, hR1, hc1, _⟩ := hb1; have d11 := hR1.c11; have q : ((f.1 : Int) == 0) = false := (by simpa using hc1); clear hR1 hc1)
    go_ret2
    exact ⟨⟨_, _, rfl⟩, HB1.out, ho1⟩
  | ok r =>
    obtain ⟨t, ts1⟩ := r
    rw [hnm] at hn
    have HN : Hid (Calls Try.prog 33 #[.pointer (some ⟨rb, 0, none⟩)] w (wordP rb S x w (.ok (t, ts1)))) := hn
    rcases idx_find E t.text with ⟨k, b, hi, hk, hkl, hf⟩ | ⟨hi, hf⟩
    · have hF : Rl.fresh E ts = .error (23, t.at') := by unfold Rl.fresh; rw [hnm]; simp only [hf]; rfl
      rw [hF]
      have HX : Hid (idxI (E.map Prod.fst) t.text = (k : Int)) := hi
      clear hF hnm hn hi hk hf h hE hv hkl
      go_enter Try.func35, Try.ntmps35
      go_wp2_with (first | (go_at_call 33; refine HN.out.mono ?_; rintro e w1 ⟨rfl, hi1, ho1⟩; obtain ⟨i1, hR1, _, _⟩ := hi1; have d11 := hR1.c11; have HR1 : Hid (Rpr w1 rb S i1 x 0 0) := hR1; clear hR1; have HE1 : Hid (Dec w1 rb x E) := HE.out.only ho1) | (go_at_call 53; have hc := rfind_any E t.text rb S _ x _ _ _ HR1.out HE1.out; rw [HX.out] at hc; refine hc.mono ?_; clear hc; rintro e w2 ⟨rfl, rfl⟩) | (go_at_call 32; refine (bad_first rb S _ x 23 t.at' _ HR1.out).mono ?_; rintro e w3 ⟨rfl, hR3, ho3⟩))
      go_ret2
      exact ⟨⟨_, _, rfl⟩, (show Rpr w3 rb S (i1 : Int) x ((23 : Nat) : Int) (t.at' : Int) from hR3).qb (by decide) HV.out, ho1.trans ho3⟩
    · have hF : Rl.fresh E ts = .ok (t, ts1) := by unfold Rl.fresh; rw [hnm]; simp only [hf]; rfl
      rw [hF]
      have HX : Hid (idxI (E.map Prod.fst) t.text = -1) := hi
      clear hF hnm hn hi hf h hE hv
      go_enter Try.func35, Try.ntmps35
      go_wp2_with (first | (go_at_call 33; refine HN.out.mono ?_; rintro e w1 ⟨rfl, hi1, ho1⟩; have HI1 : Hid (Qn w1 rb S x ts1) := hi1; obtain ⟨i1, hR1, _, _⟩ := hi1; have d11 := hR1.c11; have HR1 : Hid (Rpr w1 rb S i1 x 0 0) := hR1; clear hR1; have HE1 : Hid (Dec w1 rb x E) := HE.out.only ho1) | (go_at_call 53; have hc := rfind_any E t.text rb S _ x _ _ _ HR1.out HE1.out; rw [HX.out] at hc; refine hc.mono ?_; clear hc; rintro e w2 ⟨rfl, rfl⟩))
      go_ret2
      exact ⟨rfl, HI1.out, ho1⟩
end Go.Proofs.Ytahoepmnekconaa
