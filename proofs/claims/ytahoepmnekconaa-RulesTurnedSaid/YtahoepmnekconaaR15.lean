/-
  line of the document's own parser: class, and what is no line.
-/
import Derived.Test.YtahoepmnekconaaR14
namespace Go.Proofs.Ytahoepmnekconaa
open Go.RowKit Go.Maps
set_option linter.unusedVariables false
set_option linter.unusedSimpArgs false
/-- classes, and the sign behind them. -/
def clsLF (ts : List Rl.Tk) (s : Rl.St) : Rl.R (List Rl.Tk × Rl.St) :=
  match Rl.classes ts s with
  | .error f => .error f
  | .ok (ts1, s1) => match Rl.want 59 ts1 with
    | .error f => .error f
    | .ok ts2 => .ok (ts2, s1)
theorem clsLF_cons (t : Rl.Tk) (ts : List Rl.Tk) (s : Rl.St) : clsLF (t :: ts) s = if t.bad = true then .error (20, t.at') else if t.text = [59] then .ok (ts, s) else if Rl.isNm t = true then
      (if (Rl.find s.env t.text).isSome = true then .error (23, t.at') else if s.cls.length = 24 then .error (24, t.at') else clsLF ts (Rl.addClass s t.text))
    else .error (21, t.at') := by
  unfold clsLF
  have hc : Rl.classes (t :: ts) s = if t.bad = true then .error (20, t.at') else if Rl.isNm t = true then
      if (Rl.find s.env t.text).isSome = true then .error (23, t.at') else if s.cls.length = 24 then .error (24, t.at') else Rl.classes ts (Rl.addClass s t.text)
    else .ok (t :: ts, s) := rfl
  rw [hc]
  by_cases hb : t.bad = true
  · rw [if_pos hb, if_pos hb]
  · rw [if_neg hb, if_neg hb]
    by_cases he : t.text = [59]
    · have h1 : ¬ Rl.isNm t = true := by rw [isNm_hd]; unfold hdB; rw [he]; decide
      rw [if_neg h1, if_pos he]
      have : Rl.want 59 (t :: ts) = .ok ts := by show (if _ then _ else _) = _; rw [if_neg hb, if_pos he]
      simp only [this]
    · rw [if_neg he]
      by_cases h1 : Rl.isNm t = true
      · rw [if_pos h1, if_pos h1]
        by_cases h2 : (Rl.find s.env t.text).isSome = true
        · rw [if_pos h2, if_pos h2]
        · rw [if_neg h2, if_neg h2]
          by_cases h3 : s.cls.length = 24
          · rw [if_pos h3, if_pos h3]
          · rw [if_neg h3, if_neg h3]
      · rw [if_neg h1, if_neg h1]
        have : Rl.want 59 (t :: ts) = .error (21, t.at') := by show (if _ then _ else _) = _; rw [if_neg hb, if_neg he]
        simp only [this]
theorem Up.rb {rb : Nat} {w w' : World} (h : Only (· = rb) w w') : Up rb w w' := h.up
set_option maxRecDepth 100000 in
set_option maxHeartbeats 8000000 in
theorem lineClass (rb : Nat) (S : ByteArray) (x : Rq) (s : Rl.St) (t : Rl.Tk) (ts : List Rl.Tk) (w : World) (h : Qn w rb S x (t :: ts)) (hS : S.size ≤ 4096) (hT : Sr w rb x s) (hb : ¬ t.bad = true) (hen : s.env.length + ts.length < 5000) (hW : t.text = Rl.wClass) :
    Calls Try.prog 24 #[.pointer (some ⟨rb, 0, none⟩)] w (rlineP rb S w (lineF t ts s)) := by
  have hlt := h.lt
  have HI : Hid (Qn w rb S x (t :: ts)) := h
  have HS : Hid (Sr w rb x s) := hT
  have T0 : Hid (Rl.name (t :: ts) = .ok (t, ts)) := by
    show Rl.name (t :: ts) = .ok (t, ts)
    rw [rname_cons, if_neg hb, if_pos]
    show decide (0 < Rl.nml t.text) = true
    rw [hW]; rfl
  have htt := bs_toList t.text
  have q0 : (t.text == [99, 108, 97, 115, 115]) = true := by rw [hW]; rfl
  have l0 : (⟨#[99, 108, 97, 115, 115]⟩ : ByteArray).toList = [99, 108, 97, 115, 115] := by rw [Lib.toList_data]
  obtain ⟨F, hF⟩ : ∃ F, F = lineF t ts s := ⟨_, rfl⟩
  have HF : Hid (F = lineF t ts s) := hF
  rw [← hF]
  have HW : Hid (t.text = Rl.wClass) := hW
  clear hF hT h hb hW
  obtain ⟨i9, hi9, hz90, hz91, hz92⟩ := info_parts info9
  obtain ⟨i3t, hi3t, hz30, hz31, hz32⟩ := info_parts info3
  have HL : Hid (F = clsLF ts s) := by
    show F = clsLF ts s
    rw [HF.out]; unfold lineF Rl.line; rw [if_pos HW.out]; rfl
  clear HF
  go_enter Try.func24, Try.ntmps24
  go_wp2_with (go_at_call 33; have hc := word_any rb S x (t :: ts) _ HI.out hS HS.out.vc; rw [T0.out] at hc; refine hc.mono ?_; clear hc; rintro e w1 ⟨rfl, hi1, ho1⟩; have HI1 : Hid (Qn w1 rb S x ts) := hi1; clear hi1; have HO1 : Hid (Only (· = rb) w w1) := ho1; clear ho1; have HS1 : Hid (Sr w1 rb x s) := HS.out.only HO1.out)
  go_loopg [] (ts.length + 1) (fun g wr => (∃ (tsr : List Rl.Tk) (sr : Rl.St) (xr : Rq) (W : World), W = wr ∧ g = tsr.length + 1 ∧ Qn W rb S xr tsr ∧ Sr W rb xr sr ∧ Up rb w W ∧ sr.env.length + tsr.length < 5000 ∧ Hid (F = clsLF tsr sr)) ∨ (∃ (f : Rl.Ft) (W : World), W = wr ∧ g = 0 ∧ Qb W rb S f ∧ Up rb w W ∧ Hid (F = .error f)))
  case atStart => exact Or.inl ⟨ts, s, x, _, rfl, rfl, HI1.out, HS1.out, HO1.out.up, hen, HL.out⟩
  case round =>
    rcases hrel with ⟨tsr, sr, xr, W, hW, rfl, hIr, hSr, hOr, henr, hFr⟩ | ⟨f, W, hW, rfl, hBr, hOr, hFr⟩
    · subst hW
      cases tsr with
      | nil => obtain ⟨i, _, h2, _⟩ := hIr; exact h2.elim
      | cons t1 tsr =>
        have HIr : Hid (Qn W rb S xr (t1 :: tsr)) := hIr
        have HSr : Hid (Sr W rb xr sr) := hSr
        have HOr : Hid (Up rb w W) := hOr
        have hFr' := hFr.out
        rw [clsLF_cons] at hFr'
        simp only [List.length_cons] at henr
        obtain ⟨ir, hRr, _, _⟩ := hIr
        have d11 := hRr.c11
        have hlr := hRr.lt
        clear hSr hOr hFr hRr
        by_cases hb : t1.bad = true
        · rw [if_pos hb] at hFr'
          obtain ⟨f, hfd⟩ : ∃ f : Rl.Ft, f = (20, t1.at') := ⟨_, rfl⟩
          have HE : Hid (F = .error f) := by rw [hfd]; exact hFr'
          have T1 : Hid (Rl.took 59 (t1 :: tsr) = .error f) := by show Rl.took 59 (t1 :: tsr) = .error f; rw [rtook_cons, if_pos hb, hfd]
          clear hFr' hb hfd
          go_wp2_with (first | (go_at_call_of 34 (Value.int .u8 59); have hc := sign_any 59 rb S xr (t1 :: tsr) _ HIr.out hS HSr.out.vc (by decide) (by decide); rw [T1.out] at hc; refine hc.mono ?_; clear hc; rintro e w2 ⟨rfl, hb2, ho2⟩; have HB2 : Hid (Qb w2 rb S f) := hb2; clear hb2; have HO2 : Hid (Only (· = rb) W w2) := ho2; clear ho2) | (go_at_call 35; refine (rfresh_bad rb S f _ HB2.out).mono ?_; rintro e w3 ⟨⟨s3, a3, rfl⟩, hb3, ho3⟩; have HB3 : Hid (Qb w3 rb S f) := hb3; clear hb3; have HO3 : Hid (Only (· = rb) W w3) := HO2.out.trans (ho3.mono (fun _ h => h.elim)); clear ho3; have hq3 := HB3.out; obtain ⟨i3, x3, hR3, hc3, _⟩ := hq3; have e11 := hR3.c11; have qf : ((f.1 : Int) == 0) = false := (by simpa using hc3); clear hR3 hc3))
          go_roundg 0
          case measure => omega
          case rel => exact Or.inr ⟨f, _, rfl, rfl, HB3.out, HOr.out.trans HO3.out.up, HE.out⟩
        · rw [if_neg hb] at hFr'
          by_cases he : t1.text = [59]
          · rw [if_pos he] at hFr'
            have HE : Hid (F = .ok (tsr, sr)) := hFr'
            have T1 : Hid (Rl.took 59 (t1 :: tsr) = .ok (true, tsr)) := by show Rl.took 59 (t1 :: tsr) = .ok (true, tsr); rw [rtook_cons, if_neg hb, if_pos he]
            clear hFr' hb he
            go_wp2_with (go_at_call_of 34 (Value.int .u8 59); have hc := sign_any 59 rb S xr (t1 :: tsr) _ HIr.out hS HSr.out.vc (by decide) (by decide); rw [T1.out] at hc; refine hc.mono ?_; clear hc; rintro e w2 ⟨rfl, hi2, ho2⟩; have HI2 : Hid (Qn w2 rb S xr tsr) := hi2; clear hi2; have HO2 : Hid (Only (· = rb) W w2) := ho2; clear ho2)
            go_end0
            rw [HE.out]
            exact ⟨rfl, xr, HI2.out, HSr.out.only HO2.out, HOr.out.trans HO2.out.up⟩
          · rw [if_neg he] at hFr'
            have T1 : Hid (Rl.took 59 (t1 :: tsr) = .ok (false, t1 :: tsr)) := by show Rl.took 59 (t1 :: tsr) = .ok (false, t1 :: tsr); rw [rtook_cons, if_neg hb, if_neg he]
            by_cases hn : Rl.isNm t1 = true
            · rw [if_pos hn] at hFr'
              have hnm : Rl.name (t1 :: tsr) = .ok (t1, tsr) := by rw [rname_cons, if_neg hb, if_pos hn]
              by_cases hf : (Rl.find sr.env t1.text).isSome = true
              · rw [if_pos hf] at hFr'
                obtain ⟨f, hfd⟩ : ∃ f : Rl.Ft, f = (23, t1.at') := ⟨_, rfl⟩
                have HE : Hid (F = .error f) := by rw [hfd]; exact hFr'
                have T2 : Hid (Rl.fresh sr.env (t1 :: tsr) = .error f) := by show Rl.fresh sr.env (t1 :: tsr) = .error f; unfold Rl.fresh; rw [hnm]; simp only [hf, if_true]; rw [hfd]
                clear hFr' hb hfd hn hf hnm he
                go_wp2_with (first | (go_at_call_of 34 (Value.int .u8 59); have hc := sign_any 59 rb S xr (t1 :: tsr) _ HIr.out hS HSr.out.vc (by decide) (by decide); rw [T1.out] at hc; refine hc.mono ?_; clear hc; rintro e w2 ⟨rfl, hi2, ho2⟩; have HI2 : Hid (Qn w2 rb S xr (t1 :: tsr)) := hi2; clear hi2; have HO2 : Hid (Only (· = rb) W w2) := ho2; clear ho2) | (go_at_call 35; have hc := rfresh_any sr.env rb S xr (t1 :: tsr) _ HI2.out hS HSr.out.vc (HSr.out.only HO2.out).dec; rw [T2.out] at hc; refine hc.mono ?_; clear hc; rintro e w3 ⟨⟨s3, a3, rfl⟩, hb3, ho3⟩; have HB3 : Hid (Qb w3 rb S f) := hb3; clear hb3; have HO3 : Hid (Only (· = rb) W w3) := HO2.out.trans ho3; clear ho3; have hq3 := HB3.out; obtain ⟨i3, x3, hR3, hc3, _⟩ := hq3; have e11 := hR3.c11; have qf : ((f.1 : Int) == 0) = false := (by simpa using hc3); clear hR3 hc3))
                go_roundg 0
                case measure => omega
                case rel => exact Or.inr ⟨f, _, rfl, rfl, HB3.out, HOr.out.trans HO3.out.up, HE.out⟩
              · rw [if_neg hf] at hFr'
                have T2 : Hid (Rl.fresh sr.env (t1 :: tsr) = .ok (t1, tsr)) := by show Rl.fresh sr.env (t1 :: tsr) = .ok (t1, tsr); unfold Rl.fresh; rw [hnm]; simp only [hf]; rfl
                obtain ⟨aC, capC, hvC⟩ := own_form HSr.out.p.cls
                have HvC : Hid (xr.vC = .slice aC sr.cls.length capC) := hvC
                obtain ⟨aT, capT, hvT⟩ := own_form HSr.out.p.trt
                have HvT : Hid (xr.vT = .slice aT sr.treat.length capT) := hvT
                have hc24 := HSr.out.c24
                have HTL : Hid (sr.treat.length = sr.cls.length) := HSr.out.tl
                have htl : sr.treat.length ≤ 24 := by have := HTL.out; omega
                have Hf : Hid (Rl.find sr.env t1.text = none) := by
                  show Rl.find sr.env t1.text = none
                  cases hh : Rl.find sr.env t1.text with
                  | none => rfl
                  | some b => rw [hh] at hf; simp at hf
                clear hb hn hf hnm he hvC hvT
                by_cases h24 : sr.cls.length = 24
                · rw [if_pos h24] at hFr'
                  obtain ⟨f, hfd⟩ : ∃ f : Rl.Ft, f = (24, t1.at') := ⟨_, rfl⟩
                  have HE : Hid (F = .error f) := by rw [hfd]; exact hFr'
                  have Hfd : Hid (f = (24, t1.at')) := hfd
                  have q24 : ((sr.cls.length : Int) == 24) = true := by simp; omega
                  clear hFr' hfd h24
                  go_wp2_with (first | (go_at_call_of 34 (Value.int .u8 59); have hc := sign_any 59 rb S xr (t1 :: tsr) _ HIr.out hS HSr.out.vc (by decide) (by decide); rw [T1.out] at hc; refine hc.mono ?_; clear hc; rintro e w2 ⟨rfl, hi2, ho2⟩; have HI2 : Hid (Qn w2 rb S xr (t1 :: tsr)) := hi2; clear hi2; have HO2 : Hid (Only (· = rb) W w2) := ho2; clear ho2) | (go_at_call 35; have hc := rfresh_any sr.env rb S xr (t1 :: tsr) _ HI2.out hS HSr.out.vc (HSr.out.only HO2.out).dec; rw [T2.out] at hc; refine hc.mono ?_; clear hc; rintro e w3 ⟨rfl, hi3, ho3⟩; have HI3 : Hid (Qn w3 rb S xr tsr) := hi3; clear hi3; have HO3 : Hid (Only (· = rb) W w3) := HO2.out.trans ho3; clear ho3; have hq3 := HI3.out; obtain ⟨i3, hR3, hs3, hi3'⟩ := hq3; have e11 := hR3.c11; have e2 := hR3.c2; rw [HvC.out] at e2; have HR3 : Hid (Rpr w3 rb S i3 xr 0 0) := hR3; have HS3 : Hid (Rl.Strm S.data.toList i3 tsr ∧ i3 ≤ S.size) := ⟨hs3, hi3'⟩; clear hR3 hs3 hi3') | (go_at_call 32; refine (bad_first rb S i3 xr 24 t1.at' _ HR3.out).mono ?_; rintro e w4 ⟨rfl, hR4, ho4⟩; have HB4 : Hid (Qb w4 rb S f) := (by rw [Hfd.out]; exact (show Rpr w4 rb S (i3 : Int) xr ((24 : Nat) : Int) (t1.at' : Int) from hR4).qb (by decide) HSr.out.vc); have e11' : w4.cell? ⟨rb, 11, none⟩ = some (.int .i64 24) := hR4.c11; have HO4 : Hid (Only (· = rb) W w4) := HO3.out.trans ho4; clear ho4))
                  go_roundg 0
                  case measure => omega
                  case rel => exact Or.inr ⟨f, _, rfl, rfl, HB4.out, HOr.out.trans HO4.out.up, HE.out⟩
                · rw [if_neg h24] at hFr'
                  have HE : Hid (F = clsLF tsr (Rl.addClass sr t1.text)) := hFr'
                  have q24 : ((sr.cls.length : Int) == 24) = false := by simp; omega
                  have hlt24 : sr.cls.length < 24 := by omega
                  clear hFr' h24
                  go_wp2_with (first | (go_at_call_of 34 (Value.int .u8 59); have hc := sign_any 59 rb S xr (t1 :: tsr) _ HIr.out hS HSr.out.vc (by decide) (by decide); rw [T1.out] at hc; refine hc.mono ?_; clear hc; rintro e w2 ⟨rfl, hi2, ho2⟩; have HI2 : Hid (Qn w2 rb S xr (t1 :: tsr)) := hi2; clear hi2; have HO2 : Hid (Only (· = rb) W w2) := ho2; clear ho2) | (go_at_call 35; have hc := rfresh_any sr.env rb S xr (t1 :: tsr) _ HI2.out hS HSr.out.vc (HSr.out.only HO2.out).dec; rw [T2.out] at hc; refine hc.mono ?_; clear hc; rintro e w3 ⟨rfl, hi3, ho3⟩; have HI3 : Hid (Qn w3 rb S xr tsr) := hi3; clear hi3; have HO3 : Hid (Only (· = rb) W w3) := HO2.out.trans ho3; clear ho3; have hq3 := HI3.out; obtain ⟨i3, hR3, hs3, hi3'⟩ := hq3; have e11 := hR3.c11; have e2 := hR3.c2; rw [HvC.out] at e2; have HR3 : Hid (Rpr w3 rb S i3 xr 0 0) := hR3; have HS3 : Hid (Rl.Strm S.data.toList i3 tsr ∧ i3 ≤ S.size) := ⟨hs3, hi3'⟩; clear hR3 hs3 hi3') | (go_at_call 36; refine (declare_any rb S i3 xr sr _ _ _ _ t1.text _ _ HR3.out (HSr.out.only HO3.out).p (by rw [List.length_map]; omega) (by rw [List.length_map]; omega)).mono ?_; rintro e w4 ⟨rfl, vN, vB, hR4, hP4, ho4⟩; have HR4 : Hid (Rpr w4 rb S i3 { xr with vN := vN, vB := vB } 0 0) := hR4; have HP4 := hP4; have h2 : w4.cell? ⟨rb, 2, none⟩ = some (.slice aC sr.cls.length capC) := (by rw [← HvC.out]; exact hR4.c2); have k2 := hR4.fz 2; have HO4 : Hid (Up rb W w4) := HO3.out.up.trans ho4; clear hR4 hP4 ho4; have hlr4 := HR4.out.lt) | (at_builtin; refine wpList_append_own_at _ rfl _ _ 33 rfl (rb + 1) 9 i9 (.string ⟨#[]⟩) 1 16 Try.underlying33 hi9 hz90 hz91 hz92 rfl (by decide) (.slice aC sr.cls.length capC) _ _ rfl (by rw [← HvC.out]; exact HP4.cls.alloc _) ⟨w4.heap.size, 0, none⟩ 1 1 [.string (bs t1.text)] rfl rfl (one_news9 _ _ _) (one_cell _ rfl) (by unfold maxLen; omega) (by omega) (by simp; omega) ?_; intro V_ w5 hown5 hg5 _ hat5; obtain ⟨g4, cap4, rfl, _, _, _, _⟩ := row_form hown5 (by omega); rw [← HvC.out] at hg5 hat5; obtain ⟨hP5, hO5⟩ := HP4.addC ((Only.refl (fun _ => False) w4).alloc _) hown5 hg5 hat5; have hR5 : Rpr w5 rb S i3 { xr with vN := vN, vB := vB } 0 0 := HR4.out.only hO5 (fun e => by have := own_low HP4.cls _ e; omega); have h2' := hR5.c2; have k2' := hR5.fz 2; have h5 : w5.cell? ⟨rb, 5, none⟩ = some (.slice aT sr.treat.length capT) := (by rw [← HvT.out]; exact hR5.c5); have k5 := hR5.fz 5; have HP5 := hP5.only (setRb 2 (.slice (some ⟨g4, 0, none⟩) (sr.cls.length + 1) cap4)); have HR5 : Hid (Rpr w5 rb S i3 { xr with vN := vN, vB := vB } 0 0) := hR5; have HO5 : Hid (Up rb W w5) := HO4.out.trans (hO5.upOwn HP4.cls); clear hP5 hR5 hO5 hown5 hg5 hat5; have hlr5 := HR5.out.lt) | (at_builtin; refine wpList_append_own_at _ rfl _ _ 28 rfl (rb + 1) 3 i3t (.int .i64 0) 1 8 Try.underlying28 hi3t hz30 hz31 hz32 rfl (by decide) (.slice aT sr.treat.length capT) _ _ rfl (by rw [← HvT.out]; exact HP5.trt.alloc _) ⟨w5.heap.size, 0, none⟩ 1 1 [.int .i64 (sr.cls.length : Int)] rfl rfl (by have := one_news9 (w5.setCell ⟨rb, 2, none⟩ (.slice (some ⟨g4, 0, none⟩) (sr.cls.length + 1) cap4)) (.int .i64 (sr.cls.length : Int)) 3; simp only [World.setCell, Array.size_modify] at this ⊢; exact this) (one_cell _ rfl) (by unfold maxLen; omega) (by omega) (by simp; omega) ?_; intro V_ w6 hown6 hg6 _ hat6; obtain ⟨g5, cap5, rfl, _, _, _, _⟩ := row_form hown6 (by omega); rw [← HvT.out] at hg6 hat6; obtain ⟨hP6, hO6⟩ := HP5.addT ((Only.refl (fun _ => False) _).alloc _) hown6 hg6; have hR6 : Rpr w6 rb S i3 { xr with vN := vN, vB := vB, vC := (.slice (some ⟨g4, 0, none⟩) (sr.cls.length + 1) cap4) } 0 0 := (HR5.out.set2 (.slice (some ⟨g4, 0, none⟩) (sr.cls.length + 1) cap4)).only hO6 (fun e => by have := own_low HP5.trt _ e; omega); have h5' := hR6.c5; have k5' := hR6.fz 5; have HP6 := hP6.only (setRb 5 (.slice (some ⟨g5, 0, none⟩) (sr.treat.length + 1) cap5)); have HR6 : Hid (Rpr w6 rb S i3 { xr with vN := vN, vB := vB, vC := (.slice (some ⟨g4, 0, none⟩) (sr.cls.length + 1) cap4) } 0 0) := hR6; have HO6 : Hid (Up rb W w6) := (HO5.out.trans (setRb 2 (.slice (some ⟨g4, 0, none⟩) (sr.cls.length + 1) cap4)).up).trans (hO6.upOwn HP5.trt); clear hP6 hR6 hO6 hown6 hg6 hat6))
                  go_roundg (tsr.length + 1)
                  case measure => simp
                  case rel =>
                    refine Or.inl ⟨tsr, Rl.addClass sr t1.text, _, _, rfl, rfl, ⟨i3, HR6.out.set5 _, HS3.out⟩, ⟨?_, by unfold Rl.addClass; simp; omega, by have := HTL.out; unfold Rl.addClass; simp; omega, by unfold Rl.addClass; simp; omega⟩, HOr.out.trans (HO6.out.trans (setRb 5 _).up), by unfold Rl.addClass; simp; omega, HE.out⟩
                    have hpw := (pow24 ⟨sr.cls.length, by omega⟩).2.1
                    simp only at hpw
                    have hP := HP6
                    unfold Rl.addClass
                    simp only [List.map_append, List.map_cons, List.map_nil]
                    rw [hpw] at hP
                    exact ⟨hP.nm, hP.bt, hP.cls, hP.trt, hP.lst, hP.jn, hP.af, hP.pl, hP.dp, hP.l24, hP.p200, hP.ap⟩
            · rw [if_neg hn] at hFr'
              obtain ⟨f, hfd⟩ : ∃ f : Rl.Ft, f = (21, t1.at') := ⟨_, rfl⟩
              have HE : Hid (F = .error f) := by rw [hfd]; exact hFr'
              have T2 : Hid (Rl.fresh sr.env (t1 :: tsr) = .error f) := by show Rl.fresh sr.env (t1 :: tsr) = .error f; unfold Rl.fresh; rw [rname_cons, if_neg hb, if_neg hn, hfd]
              clear hFr' hb hfd hn he
              go_wp2_with (first | (go_at_call_of 34 (Value.int .u8 59); have hc := sign_any 59 rb S xr (t1 :: tsr) _ HIr.out hS HSr.out.vc (by decide) (by decide); rw [T1.out] at hc; refine hc.mono ?_; clear hc; rintro e w2 ⟨rfl, hi2, ho2⟩; have HI2 : Hid (Qn w2 rb S xr (t1 :: tsr)) := hi2; clear hi2; have HO2 : Hid (Only (· = rb) W w2) := ho2; clear ho2) | (go_at_call 35; have hc := rfresh_any sr.env rb S xr (t1 :: tsr) _ HI2.out hS HSr.out.vc (HSr.out.only HO2.out).dec; rw [T2.out] at hc; refine hc.mono ?_; clear hc; rintro e w3 ⟨⟨s3, a3, rfl⟩, hb3, ho3⟩; have HB3 : Hid (Qb w3 rb S f) := hb3; clear hb3; have HO3 : Hid (Only (· = rb) W w3) := HO2.out.trans ho3; clear ho3; have hq3 := HB3.out; obtain ⟨i3, x3, hR3, hc3, _⟩ := hq3; have e11 := hR3.c11; have qf : ((f.1 : Int) == 0) = false := (by simpa using hc3); clear hR3 hc3))
              go_roundg 0
              case measure => omega
              case rel => exact Or.inr ⟨f, _, rfl, rfl, HB3.out, HOr.out.trans HO3.out.up, HE.out⟩
    · subst hW
      have HBr : Hid (Qb W rb S f) := hBr
      obtain ⟨i1, x1, hR1, hc1, _⟩ := hBr
      have d11 := hR1.c11
      have q : ((f.1 : Int) == 0) = false := by simpa using hc1
      clear hR1 hc1
      go_wp2_with fail
      go_end0
      rw [hFr.out]
      exact ⟨rfl, HBr.out, hOr⟩
set_option maxRecDepth 100000 in
set_option maxHeartbeats 8000000 in
theorem lineElse (rb : Nat) (S : ByteArray) (x : Rq) (s : Rl.St) (t : Rl.Tk) (ts : List Rl.Tk) (w : World) (h : Qn w rb S x (t :: ts)) (hS : S.size ≤ 4096) (hT : Sr w rb x s) (hb : ¬ t.bad = true) (hW0 : ¬ t.text = Rl.wClass) (hW1 : ¬ t.text = Rl.wSet) (hW2 : ¬ t.text = Rl.wJoin) (hW3 : ¬ t.text = Rl.wTreat) (hW4 : ¬ t.text = Rl.wKeep) (hW5 : ¬ t.text = Rl.wMay) (hW6 : ¬ t.text = Rl.wMust) :
    Calls Try.prog 24 #[.pointer (some ⟨rb, 0, none⟩)] w (rlineP rb S w (lineF t ts s)) := by
  have hF : lineF t ts s = .error (21, t.at') := by
    unfold lineF Rl.line
    rw [if_neg hW0, if_neg hW1, if_neg hW2, if_neg hW3, if_neg hW4, if_neg hW5, if_neg hW6]
  rw [hF]
  clear hF
  have hlt := h.lt
  have HI : Hid (Qn w rb S x (t :: ts)) := h
  have HS : Hid (Sr w rb x s) := hT
  have htt := bs_toList t.text
  have q0 : (t.text == [99, 108, 97, 115, 115]) = false := by simpa using (show ¬ t.text = [99, 108, 97, 115, 115] from hW0)
  have l0 : (⟨#[99, 108, 97, 115, 115]⟩ : ByteArray).toList = [99, 108, 97, 115, 115] := by rw [Lib.toList_data]
  have q1 : (t.text == [115, 101, 116]) = false := by simpa using (show ¬ t.text = [115, 101, 116] from hW1)
  have l1 : (⟨#[115, 101, 116]⟩ : ByteArray).toList = [115, 101, 116] := by rw [Lib.toList_data]
  have q2 : (t.text == [106, 111, 105, 110]) = false := by simpa using (show ¬ t.text = [106, 111, 105, 110] from hW2)
  have l2 : (⟨#[106, 111, 105, 110]⟩ : ByteArray).toList = [106, 111, 105, 110] := by rw [Lib.toList_data]
  have q3 : (t.text == [116, 114, 101, 97, 116]) = false := by simpa using (show ¬ t.text = [116, 114, 101, 97, 116] from hW3)
  have l3 : (⟨#[116, 114, 101, 97, 116]⟩ : ByteArray).toList = [116, 114, 101, 97, 116] := by rw [Lib.toList_data]
  have q4 : (t.text == [107, 101, 101, 112]) = false := by simpa using (show ¬ t.text = [107, 101, 101, 112] from hW4)
  have l4 : (⟨#[107, 101, 101, 112]⟩ : ByteArray).toList = [107, 101, 101, 112] := by rw [Lib.toList_data]
  have q5 : (t.text == [109, 97, 121]) = false := by simpa using (show ¬ t.text = [109, 97, 121] from hW5)
  have l5 : (⟨#[109, 97, 121]⟩ : ByteArray).toList = [109, 97, 121] := by rw [Lib.toList_data]
  have q6 : (t.text == [109, 117, 115, 116]) = false := by simpa using (show ¬ t.text = [109, 117, 115, 116] from hW6)
  have l6 : (⟨#[109, 117, 115, 116]⟩ : ByteArray).toList = [109, 117, 115, 116] := by rw [Lib.toList_data]
  have hnil : (⟨#[]⟩ : ByteArray).toList = [] := by rw [Lib.toList_data]
  by_cases hn : Rl.isNm t = true
  · have T0 : Hid (Rl.name (t :: ts) = .ok (t, ts)) := by show Rl.name (t :: ts) = .ok (t, ts); rw [rname_cons, if_neg hb, if_pos hn]
    clear hT h hb hn hW0 hW1 hW2 hW3 hW4 hW5 hW6
    go_enter Try.func24, Try.ntmps24
    go_wp2_with (first | (go_at_call 33; have hc := word_any rb S x (t :: ts) _ HI.out hS HS.out.vc; rw [T0.out] at hc; refine hc.mono ?_; clear hc; rintro e w1 ⟨rfl, hi1, ho1⟩; obtain ⟨i1, hR1, _, _⟩ := hi1; have HR1 : Hid (Rpr w1 rb S i1 x 0 0) := hR1; clear hR1) | (go_at_call 32; refine (bad_first rb S i1 x 21 t.at' _ HR1.out).mono ?_; rintro e w2 ⟨rfl, hR2, ho2⟩))
    go_end0
    exact ⟨rfl, (show Rpr w2 rb S (i1 : Int) x ((21 : Nat) : Int) (t.at' : Int) from hR2).qb (by decide) HS.out.vc, (ho1.trans ho2).up⟩
  · have T0 : Hid (Rl.name (t :: ts) = .error (21, t.at')) := by show Rl.name (t :: ts) = .error (21, t.at'); rw [rname_cons, if_neg hb, if_neg hn]
    clear hT h hb hn hW0 q0 hW1 q1 hW2 q2 hW3 q3 hW4 q4 hW5 q5 hW6 q6
    go_enter Try.func24, Try.ntmps24
    go_wp2_with (first | (go_at_call 33; have hc := word_any rb S x (t :: ts) _ HI.out hS HS.out.vc; rw [T0.out] at hc; refine hc.mono ?_; clear hc; rintro e w1 ⟨⟨a1, rfl⟩, hb1, ho1⟩; have HB1 : Hid (Qb w1 rb S (21, t.at')) := hb1; obtain ⟨i1, x1, hR1, _, _⟩ := hb1; have HR1 : Hid (Rpr w1 rb S i1 x1 ((21 : Nat) : Int) (t.at' : Int)) := hR1; clear hR1) | (go_at_call 32; refine (bad_later rb S i1 x1 21 t.at' _ _ _ HR1.out (by decide)).mono ?_; rintro e w2 ⟨rfl, rfl⟩))
    go_end0
    exact ⟨rfl, HB1.out, ho1.up⟩
theorem rline_any (rb : Nat) (S : ByteArray) (x : Rq) (s : Rl.St) (t : Rl.Tk) (ts : List Rl.Tk) (w : World) (h : Qn w rb S x (t :: ts)) (hS : S.size ≤ 4096) (hT : Sr w rb x s) (hb : ¬ t.bad = true) (hen : s.env.length + ts.length < 5000) :
    Calls Try.prog 24 #[.pointer (some ⟨rb, 0, none⟩)] w (rlineP rb S w (lineF t ts s)) := by
  by_cases h0 : t.text = Rl.wClass
  · exact lineClass rb S x s t ts w h hS hT hb hen h0
  by_cases h1 : t.text = Rl.wSet
  · exact lineSet rb S x s t ts w h hS hT hb hen h1
  by_cases h2 : t.text = Rl.wJoin
  · exact lineJoin rb S x s t ts w h hS hT hb hen h2
  by_cases h3 : t.text = Rl.wTreat
  · exact lineTreat rb S x s t ts w h hS hT hb hen h3
  by_cases h4 : t.text = Rl.wKeep
  · exact lineKeep rb S x s t ts w h hS hT hb hen h4
  by_cases h5 : t.text = Rl.wMay
  · exact lineMay rb S x s t ts w h hS hT hb hen h5
  by_cases h6 : t.text = Rl.wMust
  · exact lineMust rb S x s t ts w h hS hT hb hen h6
  exact lineElse rb S x s t ts w h hS hT hb h0 h1 h2 h3 h4 h5 h6
end Go.Proofs.Ytahoepmnekconaa
