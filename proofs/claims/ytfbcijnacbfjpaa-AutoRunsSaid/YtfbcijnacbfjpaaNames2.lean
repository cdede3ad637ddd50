/-
  names, fresh of the rules' reader.
-/
import Derived.Test.YtfbcijnacbfjpaaNames
import Derived.Deep.LoopGhost
namespace Go.Proofs.Ytfbcijnacbfjpaa
open Go.RowKit Go.Maps
set_option linter.unusedVariables false
set_option linter.unusedSimpArgs false

theorem names_cons (E : Rl.Env) (t : Rl.Tk) (ts : List Rl.Tk) (acc : Int) : Rl.names E (t :: ts) acc = if t.bad = true then .error (20, t.at') else if Rl.isNm t = true then
      match Rl.find E t.text with
      | none => .error (22, t.at')
      | some b => Rl.names E ts (Rl.bor acc b)
    else .ok (acc, t :: ts) := rfl
theorem name_cons (t : Rl.Tk) (ts : List Rl.Tk) : Rl.name (t :: ts) = if t.bad = true then .error (20, t.at') else if Rl.isNm t = true then .ok (t, ts) else .error (21, t.at') := rfl
theorem clsF_some {E : Rl.Env} {t : Rl.Tk} {ts : List Rl.Tk} {b : Int} (hb : ¬ t.bad = true) (hn : Rl.isNm t = true) (hf : Rl.find E t.text = some b) : clsF E (t :: ts) = .ok (b, ts) := by
  unfold clsF
  rw [name_cons, if_neg hb, if_pos hn]
  simp only [hf]
theorem clsF_none {E : Rl.Env} {t : Rl.Tk} {ts : List Rl.Tk} (hb : ¬ t.bad = true) (hn : Rl.isNm t = true) (hf : Rl.find E t.text = none) : clsF E (t :: ts) = .error (22, t.at') := by
  unfold clsF
  rw [name_cons, if_neg hb, if_pos hn]
  simp only [hf]

set_option maxRecDepth 100000 in
set_option maxHeartbeats 2000000 in
theorem names_any (E : Rl.Env) (rb : Nat) (S : ByteArray) (x : Rd) (ts : List Rl.Tk) (w : World) (h : In w rb S x ts) (hS : S.size ≤ 4096) (hM : Mp w x.mb E) (hmb : x.mb ≠ rb) :
    Calls Try.prog 78 #[.pointer (some ⟨rb, 0, none⟩)] w (clsP rb S x w (Rl.names E ts 0)) := by
  have HI : Hid (In w rb S x ts) := h
  have HM : Hid (Mp w x.mb E) := hM
  clear h hM
  obtain ⟨F, hF⟩ : ∃ F, F = Rl.names E ts 0 := ⟨_, rfl⟩
  have HF : Hid (F = Rl.names E ts 0) := hF
  rw [← hF]
  clear hF
  go_enter Try.func78, Try.ntmps78
  go_wp2_with fail
  go_loopg [3] ts.length (fun k v wr => ∃ (tsr : List Rl.Tk) (acc : Int), k = tsr.length ∧ v = .int .u32 acc ∧ In wr rb S x tsr ∧ Only (· = rb) w wr ∧ Hid (F = Rl.names E tsr acc))
  case atStart => exact ⟨ts, 0, rfl, rfl, HI.out, Only.refl _ _, HF.out⟩
  case round =>
    obtain ⟨tsr, acc, rfl, rfl, hIr, hOr, hFr⟩ := hrel
    cases tsr with
    | nil => obtain ⟨i, _, h2, _⟩ := hIr; exact h2.elim
    | cons t tsr =>
      have HIr : Hid (In wr rb S x (t :: tsr)) := hIr
      have HOr : Hid (Only (· = rb) w wr) := hOr
      have HMr : Hid (Mp wr x.mb E) := HM.out.only hOr hmb
      have hFr' := hFr.out
      rw [names_cons] at hFr'
      clear hIr hOr hFr
      by_cases hb : t.bad = true
      · have HB : Hid (t.bad = true) := hb
        rw [if_pos hb] at hFr'
        have HE : Hid (F = .error (20, t.at')) := hFr'
        clear hb hFr'
        go_wp2_with (go_at_call 51; refine (next_bad rb S x t tsr _ HIr.out hS HB.out).mono ?_; rintro e w1 ⟨rfl, ho1⟩)
        refine ⟨rfl, ?_⟩
        rw [HE.out]
        exact ⟨rfl, HOr.out.trans ho1⟩
      · have HB : Hid (¬ t.bad = true) := hb
        rw [if_neg hb] at hFr'
        by_cases hnm : Rl.isNm t = true
        · have hq : decide (0 < Rl.nml t.text) = true := hnm
          have HNM : Hid (Rl.isNm t = true) := hnm
          rw [if_pos hnm] at hFr'
          cases hf : Rl.find E t.text with
          | none =>
            rw [hf] at hFr'
            have HE : Hid (F = .error (22, t.at')) := hFr'
            have HC : Hid (clsF E (t :: tsr) = .error (22, t.at')) := clsF_none hb hnm hf
            clear hb hnm hFr' hf
            go_wp2_with (first | (go_at_call 51; refine (next_ok rb S x t tsr _ HIr.out hS HB.out).mono ?_; rintro e w1 ⟨rfl, hR1, hs1, he1, ho1⟩; have HS1 : Hid (Rl.Strm S.data.toList t.at' (t :: tsr)) := hs1; clear hs1) | (go_at_call 75; refine (isName_any t.text _ _ (by omega)).mono ?_; rintro e w2 ⟨rfl, ho2⟩; have hI2 : In w2 rb S x (t :: tsr) := ⟨_, hR1.only ho2 (fun h => h), HS1.out, by omega⟩; have HI2 : Hid (In w2 rb S x (t :: tsr)) := hI2; clear hI2; have ho12 : Only (· = rb) wr w2 := ho1.trans (ho2.mono (fun _ h => h.elim)); have HO12 : Hid (Only (· = rb) wr w2) := ho12; clear ho12) | (go_at_call 86; have hc := classes_any E rb S x (t :: tsr) _ HI2.out hS (HMr.out.only HO12.out hmb) hmb; rw [HC.out] at hc; refine hc.mono ?_; clear hc; rintro e w3 ⟨rfl, ho3⟩))
            refine ⟨rfl, ?_⟩
            rw [HE.out]
            exact ⟨rfl, HOr.out.trans (HO12.out.trans ho3)⟩
          | some b =>
            rw [hf] at hFr'
            have HE : Hid (F = Rl.names E tsr (Rl.bor acc b)) := hFr'
            have HC : Hid (clsF E (t :: tsr) = .ok (b, tsr)) := clsF_some hb hnm hf
            clear hb hnm hFr' hf
            go_wp2_with (first | (go_at_call 51; refine (next_ok rb S x t tsr _ HIr.out hS HB.out).mono ?_; rintro e w1 ⟨rfl, hR1, hs1, he1, ho1⟩; have HS1 : Hid (Rl.Strm S.data.toList t.at' (t :: tsr)) := hs1; clear hs1) | (go_at_call 75; refine (isName_any t.text _ _ (by omega)).mono ?_; rintro e w2 ⟨rfl, ho2⟩; have hI2 : In w2 rb S x (t :: tsr) := ⟨_, hR1.only ho2 (fun h => h), HS1.out, by omega⟩; have HI2 : Hid (In w2 rb S x (t :: tsr)) := hI2; clear hI2; have ho12 : Only (· = rb) wr w2 := ho1.trans (ho2.mono (fun _ h => h.elim)); have HO12 : Hid (Only (· = rb) wr w2) := ho12; clear ho12) | (go_at_call 86; have hc := classes_any E rb S x (t :: tsr) _ HI2.out hS (HMr.out.only HO12.out hmb) hmb; rw [HC.out] at hc; refine hc.mono ?_; clear hc; rintro e w3 ⟨rfl, hi3, ho3⟩))
            go_roundg tsr.length
            case measure => simp
            case rel => exact ⟨tsr, Rl.bor acc b, rfl, rfl, hi3, HOr.out.trans (HO12.out.trans ho3), HE.out⟩
        · have hq : decide (0 < Rl.nml t.text) = false := by simpa [isNm_iff] using hnm
          rw [if_neg hnm] at hFr'
          have HE : Hid (F = .ok (acc, t :: tsr)) := hFr'
          clear hb hnm hFr'
          go_wp2_with (first | (go_at_call 51; refine (next_ok rb S x t tsr _ HIr.out hS HB.out).mono ?_; rintro e w1 ⟨rfl, hR1, hs1, he1, ho1⟩; have HS1 : Hid (Rl.Strm S.data.toList t.at' (t :: tsr)) := hs1; clear hs1) | (go_at_call 75; refine (isName_any t.text _ _ (by omega)).mono ?_; rintro e w2 ⟨rfl, ho2⟩))
          go_ret
          rw [HE.out]
          exact ⟨rfl, ⟨_, hR1.only ho2 (fun h => h), HS1.out, by omega⟩, HOr.out.trans (ho1.trans (ho2.mono (fun _ h => h.elim)))⟩
end Go.Proofs.Ytfbcijnacbfjpaa
