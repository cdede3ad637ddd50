/-
  here of the document's own parser: the byte with which the next piece begins.
-/
import Derived.Test.YtahoepmnekconaaR1
namespace Go.Proofs.Ytahoepmnekconaa
open Go.RowKit
set_option linter.unusedVariables false
set_option linter.unusedSimpArgs false
namespace Rl
theorem nx_step {l : Str} {k : Nat} {c : UInt8} {r : Str} (h : l.drop k = c :: l.drop (k + 1)) (hc : c.toNat = 32 ∨ c.toNat = 9 ∨ c.toNat = 10 ∨ c.toNat = 13) : nx l (k + 1) = nx l k := by
  unfold nx
  rw [h, blk_cons]
  split
  · omega
  · rw [if_pos (by omega)]; omega
theorem nx_rem {l : Str} {k : Nat} {c : UInt8} (h : l.drop k = c :: l.drop (k + 1)) (hc : c.toNat = 35) : nx l k = k + blk true (l.drop k) := by
  unfold nx
  rw [h, blk_cons, if_neg (by omega), if_neg (by simp; omega), if_pos hc, blk_cons, if_neg (by omega), if_pos (by simp)]
theorem rem_step {l : Str} {k : Nat} {c : UInt8} (h : l.drop k = c :: l.drop (k + 1)) (hc : c.toNat ≠ 10) : k + blk true (l.drop k) = (k + 1) + blk true (l.drop (k + 1)) := by
  rw [h, blk_cons, if_neg hc, if_pos (by simp)]; omega
theorem rem_end {l : Str} {k : Nat} {c : UInt8} (h : l.drop k = c :: l.drop (k + 1)) (hc : c.toNat = 10) : k + blk true (l.drop k) = nx l k := by
  unfold nx
  rw [h, blk_cons, if_pos hc, blk_cons, if_pos hc]
theorem rem_nil {l : Str} {k : Nat} (h : l.length ≤ k) : k + blk true (l.drop k) = nx l k := by
  unfold nx
  rw [List.drop_of_length_le h]; rfl
theorem nx_stop {l : Str} {k : Nat} {c : UInt8} (h : l.drop k = c :: l.drop (k + 1)) (hc : c.toNat ≠ 10 ∧ c.toNat ≠ 32 ∧ c.toNat ≠ 9 ∧ c.toNat ≠ 13 ∧ c.toNat ≠ 35) : nx l k = k := by
  unfold nx
  rw [h, blk_cons, if_neg hc.1, if_neg (by simp; omega), if_neg hc.2.2.2.2]; rfl
theorem nx_nil {l : Str} {k : Nat} (h : l.length ≤ k) : nx l k = k := by
  unfold nx
  rw [List.drop_of_length_le h]; rfl
/-- what a piece is, by the byte at its place. -/
theorem tk_at {l : Str} {i k : Nat} {t : Tk} (ht : t = tk l i) (hk : nx l i = k) : t.text = (l.drop k).take (plen (l.drop k)) ∧ t.bad = decide (l.drop k ≠ [] ∧ plen (l.drop k) = 0) ∧ t.at' = k := by
  subst ht; subst hk
  exact ⟨rfl, rfl, rfl⟩
end Rl
theorem hd_sign {l : Rl.Str} {i k : Nat} {t : Rl.Tk} {c : UInt8} (ht : t = Rl.tk l i) (hk : Rl.nx l i = k) (h : l.drop k = c :: l.drop (k + 1)) (hc : Rl.isN c = true ∨ Rl.signs.contains c = true) : hd t = (c.toNat : Int) ∧ ¬ t.bad = true := by
  obtain ⟨h1, h2, h3⟩ := Rl.tk_at ht hk
  have hp : 0 < Rl.plen (l.drop k) := by
    unfold Rl.plen
    by_cases hn : 0 < Rl.nml (l.drop k)
    · rw [if_pos hn]; exact hn
    · rw [if_neg hn]
      rcases hc with hc | hc
      · rw [h, Rl.nml_cons, if_pos hc] at hn; omega
      · rw [h]; simp only [hc, if_true]; exact Nat.one_pos
  obtain ⟨m, hm⟩ : ∃ m, Rl.plen (l.drop k) = m + 1 := ⟨Rl.plen (l.drop k) - 1, by omega⟩
  rw [hm, h, List.take_succ_cons] at h1
  refine ⟨by unfold hd; rw [h1], ?_⟩
  rw [h2, hm]; simp
theorem hd_bad {l : Rl.Str} {i k : Nat} {t : Rl.Tk} {c : UInt8} (ht : t = Rl.tk l i) (hk : Rl.nx l i = k) (h : l.drop k = c :: l.drop (k + 1)) (hc : ¬ Rl.isN c = true) (hc2 : ¬ Rl.signs.contains c = true) : t.bad = true := by
  obtain ⟨h1, h2, h3⟩ := Rl.tk_at ht hk
  rw [h2]
  have hp : Rl.plen (l.drop k) = 0 := by
    unfold Rl.plen
    rw [if_neg (by rw [h, Rl.nml_cons, if_neg hc]; omega), h]
    simp only [hc2]; rfl
  rw [hp, h]; simp
theorem hd_nil {l : Rl.Str} {i k : Nat} {t : Rl.Tk} (ht : t = Rl.tk l i) (hk : Rl.nx l i = k) (h : l.length ≤ k) : hd t = 0 ∧ ¬ t.bad = true := by
  obtain ⟨h1, h2, h3⟩ := Rl.tk_at ht hk
  rw [List.drop_of_length_le h] at h1 h2
  refine ⟨by unfold hd; rw [h1]; rfl, by rw [h2]; simp⟩
set_option maxRecDepth 100000 in
set_option maxHeartbeats 2000000 in
/-- here, where there was a fault. -/
theorem here_bad (rb : Nat) (S : ByteArray) (f : Rl.Ft) (w : World) (h : Qb w rb S f) :
    Calls Try.prog 23 #[.pointer (some ⟨rb, 0, none⟩)] w fun e w' => e = .returned (.int .u8 0) ∧ Only (fun _ => False) w w' := by
  obtain ⟨i, x, hR, hc, _⟩ := h
  have d0 := hR.c0
  have d1 := hR.c1
  have d11 := hR.c11
  have q : ((f.1 : Int) == 0) = false := by simpa using hc
  clear hR hc
  go_enter Try.func23, Try.ntmps23
  go_wp2_with fail
  go_loopg [] 0 (fun g wr => w = wr)
  case atStart => rfl
  case round =>
    subst hrel
    go_wp2_with fail
    go_quiet (fail)
    go_wp2_with fail
    go_ret
    exact ⟨rfl, (Only.refl _ _).drewN _⟩
/-- how here ends. -/
def hereP (rb : Nat) (S : ByteArray) (x : Rq) (w : World) (t : Rl.Tk) (e : Ending) (w' : World) : Prop :=
  (t.bad = true ∧ e = .returned (.int .u8 0) ∧ Rpr w' rb S (t.at' : Int) x 20 (t.at' : Int) ∨ ¬ t.bad = true ∧ e = .returned (.int .u8 (hd t)) ∧ Rpr w' rb S (t.at' : Int) x 0 0) ∧ Only (· = rb) w w'
set_option maxRecDepth 100000 in
set_option maxHeartbeats 4000000 in
theorem here_any (rb : Nat) (S : ByteArray) (i : Nat) (x : Rq) (t : Rl.Tk) (w : World) (hR : Rpr w rb S i x 0 0) (ht : t = Rl.tk S.data.toList i) (hi : i ≤ S.size) (hS : S.size ≤ 4096) :
    Calls Try.prog 23 #[.pointer (some ⟨rb, 0, none⟩)] w (hereP rb S x w t) := by
  have HT : Hid (t = Rl.tk S.data.toList i) := ht
  have HA : Hid (Rl.nx S.data.toList i = t.at') := by show _ = _; rw [ht]; rfl
  have HR0 : Hid (Rpr w rb S i x 0 0) := hR
  have hsz := Lib.size_eq S
  have HSZ : Hid (S.size = S.data.toList.length) := hsz
  clear hR ht hsz
  go_enter Try.func23, Try.ntmps23
  go_wp2_with fail
  go_loopg [] (S.size + 1 - i) (fun g wr => (∃ k : Nat, g = S.size + 1 - k ∧ k ≤ S.size ∧ Rpr wr rb S k x 0 0 ∧ Hid (Rl.nx S.data.toList i = Rl.nx S.data.toList k) ∧ Only (· = rb) w wr) ∨ (g = 0 ∧ t.bad = true ∧ Rpr wr rb S (t.at' : Int) x 20 (t.at' : Int) ∧ Only (· = rb) w wr))
  case atStart => exact Or.inl ⟨i, rfl, hi, HR0.out, (rfl : Rl.nx S.data.toList i = Rl.nx S.data.toList i), Only.refl _ _⟩
  case round =>
    rcases hrel with ⟨k, rfl, hk, hRk, hNk, hOk⟩ | ⟨rfl, hbt, hRk, hOk⟩
    · have d0 := hRk.c0
      have d1 := hRk.c1
      have d11 := hRk.c11
      have f1 := hRk.fz 1
      have HRk : Hid (Rpr wr rb S k x 0 0) := hRk
      have HOk : Hid (Only (· = rb) w wr) := hOk
      clear hRk hOk
      by_cases hlt : k < S.size
      · have t1 : (k : Int) < (S.size : Int) := by omega
        have t2 : decide ((k : Int) < (S.size : Int)) = true := decide_eq_true t1
        have HD : Hid (S.data.toList.drop k = S[k] :: S.data.toList.drop (k + 1)) := drop_data hlt
        have hu := u8_lt S[k]
        have step : Rl.nx S.data.toList i = Rl.nx S.data.toList k := hNk.out
        by_cases c35 : S[k].toNat = 35
        · have q35 : ((S[k].toNat : Int) == 35) = true := by simp; omega
          have HC : Hid (S[k].toNat = 35) := c35
          have HN : Hid (Rl.nx S.data.toList i = k + Rl.blk true (S.data.toList.drop k)) := step.trans (Rl.nx_rem HD.out c35)
          clear c35 step
          go_wp2_with fail
          go_quiet (fail)
          go_wp2_with fail
          go_quiet (fail)
          go_wp2_with fail
          go_loopg [] (S.size - k) (fun g wi => ∃ m : Nat, g = S.size - m ∧ k ≤ m ∧ m ≤ S.size ∧ Rpr wi rb S m x 0 0 ∧ Hid (Rl.nx S.data.toList i = m + Rl.blk true (S.data.toList.drop m)) ∧ Only (· = rb) w wi)
          case atStart => exact ⟨k, rfl, Nat.le_refl _, by omega, HRk.out, HN.out, HOk.out.drewN _⟩
          case round =>
            obtain ⟨m, rfl, hkm, hmS, hRm, hNm, hOm⟩ := hrel
            clear d0 d1 d11 f1
            have d0 := hRm.c0
            have d1 := hRm.c1
            have d11 := hRm.c11
            have f1 := hRm.fz 1
            have HRm : Hid (Rpr _ rb S m x 0 0) := hRm
            have HOm : Hid (Only (· = rb) w _) := hOm
            clear hRm hOm
            by_cases hml : m < S.size
            · have t3 : (m : Int) < (S.size : Int) := by omega
              have t4 : decide ((m : Int) < (S.size : Int)) = true := decide_eq_true t3
              have HDm : Hid (S.data.toList.drop m = S[m] :: S.data.toList.drop (m + 1)) := drop_data hml
              by_cases c10 : S[m].toNat = 10
              · have q10 : ((S[m].toNat : Int) != 10) = false := by simp; omega
                have H10 : Hid (S[m].toNat = 10) := c10
                clear c10
                go_wp2_with fail
                go_quiet (fail)
                go_wp2_with fail
                go_roundg (S.size + 1 - m)
                case measure =>
                  have hne : m ≠ k := by
                    rintro rfl
                    have := H10.out
                    have := HC.out
                    omega
                  omega
                case rel => exact Or.inl ⟨m, rfl, hmS, HRm.out, hNm.out.trans (Rl.rem_end HDm.out H10.out), HOm.out.drewN _⟩
              · have q10 : ((S[m].toNat : Int) != 10) = true := by simp; omega
                have H10 : Hid (S[m].toNat ≠ 10) := c10
                clear c10
                go_wp2_with fail
                go_quiet (fail)
                go_wp2_with fail
                go_roundg (S.size - (m + 1))
                case measure => omega
                case rel => exact ⟨m + 1, rfl, by omega, by omega, (HRm.out.drewN _).set1 _, hNm.out.trans (Rl.rem_step HDm.out H10.out), (HOm.out.drewN _).setCell (p := ⟨rb, 1, none⟩) rfl _⟩
            · have t3 : ¬ (m : Int) < (S.size : Int) := by omega
              have t4 : decide ((m : Int) < (S.size : Int)) = false := decide_eq_false t3
              go_wp2_with fail
              go_quiet (fail)
              go_wp2_with fail
              go_roundg (S.size + 1 - m)
              case measure => omega
              case rel => exact Or.inl ⟨m, rfl, hmS, HRm.out, hNm.out.trans (Rl.rem_nil (by rw [← HSZ.out]; omega)), HOm.out.drewN _⟩
        · have q35 : ((S[k].toNat : Int) == 35) = false := by simp; omega
          by_cases cb : S[k].toNat = 32 ∨ S[k].toNat = 9 ∨ S[k].toNat = 10 ∨ S[k].toNat = 13
          · have HN : Hid (Rl.nx S.data.toList i = Rl.nx S.data.toList (k + 1)) := step.trans (Rl.nx_step (r := []) HD.out cb).symm
            clear step
            obtain ⟨n, hn⟩ : ∃ n : Int, n = (S[k].toNat : Int) := ⟨_, rfl⟩
            have hnb : n = 32 ∨ n = 9 ∨ n = 10 ∨ n = 13 := by omega
            clear cb c35
            rw [← hn] at q35
            go_wp2_with fail
            go_quiet (fail)
            go_wp2_with fail
            go_quiet (fail)
            rw [← hn]
            clear hn hu
            rcases hnb with rfl | rfl | rfl | rfl
            all_goals
              go_wp2_with fail
              go_roundg (S.size + 1 - (k + 1))
              case measure => omega
              case rel => exact Or.inl ⟨k + 1, rfl, by omega, (HRk.out.drewN _).set1 _, HN.out, (HOk.out.drewN _).setCell (p := ⟨rb, 1, none⟩) rfl _⟩
          · have HN : Hid (Rl.nx S.data.toList i = k) := step.trans (Rl.nx_stop HD.out (by omega))
            have q32 : ((S[k].toNat : Int) == 32) = false := by simp; omega
            have q9 : ((S[k].toNat : Int) == 9) = false := by simp; omega
            have q10 : ((S[k].toNat : Int) == 10) = false := by simp; omega
            have q13 : ((S[k].toNat : Int) == 13) = false := by simp; omega
            have hat : t.at' = k := HA.out.symm.trans HN.out
            have HAT : Hid (t.at' = k) := hat
            clear step c35 cb hat
            go_wp2_with fail
            go_quiet (fail)
            go_wp2_with fail
            go_quiet (fail)
            go_wp2_with fail
            go_loopg [5] 13 (fun g u wi => ∃ (m : Nat) (W : World), W = wi ∧ g = 13 - m ∧ m ≤ 13 ∧ u = .int .i64 (m : Int) ∧ Rpr W rb S k x 0 0 ∧ Only (· = rb) w W ∧ Hid (∀ j, j < m → Rl.signs[j]? ≠ some S[k]))
            case atStart => exact ⟨0, _, rfl, rfl, by omega, rfl, HRk.out, HOk.out.drewN _, (fun j hj => absurd hj (Nat.not_lt_zero _) : ∀ j, j < 0 → Rl.signs[j]? ≠ some S[k])⟩
            case round =>
              obtain ⟨m, W, hW, rfl, hm13, rfl, hRm, hOm, hno⟩ := hrel
              subst hW
              by_cases hlm : m < 13
              · have t3 : (m : Int) < 13 := by omega
                have t4 : decide ((m : Int) < 13) = true := decide_eq_true t3
                have hg : Rl.signs[m]? = some ((⟨#[40, 41, 91, 93, 94, 124, 42, 43, 63, 46, 59, 47, 61]⟩ : ByteArray)[m]'(hlm)) := by
                  rw [List.getElem?_eq_getElem (h := hlm)]; rfl
                have HG : Hid (Rl.signs[m]? = some ((⟨#[40, 41, 91, 93, 94, 124, 42, 43, 63, 46, 59, 47, 61]⟩ : ByteArray)[m]'(hlm))) := hg
                clear hg
                by_cases he : ((⟨#[40, 41, 91, 93, 94, 124, 42, 43, 63, 46, 59, 47, 61]⟩ : ByteArray)[m]'(hlm)) = S[k]
                · have q : ((((⟨#[40, 41, 91, 93, 94, 124, 42, 43, 63, 46, 59, 47, 61]⟩ : ByteArray)[m]'(hlm)).toNat : Int) == (S[k].toNat : Int)) = true := by rw [he]; simp
                  have HE : Hid (((⟨#[40, 41, 91, 93, 94, 124, 42, 43, 63, 46, 59, 47, 61]⟩ : ByteArray)[m]'(hlm)) = S[k]) := he
                  clear he
                  go_wp2_with fail
                  go_ret
                  have hm : Rl.signs.contains S[k] = true := by
                    have h1 := HG.out
                    rw [HE.out] at h1
                    rw [List.contains_iff_mem]
                    exact List.mem_of_getElem? h1
                  have h3 := hd_sign HT.out HN.out HD.out (Or.inr hm)
                  exact ⟨Or.inr ⟨h3.2, by rw [h3.1]; rfl, by rw [HAT.out]; exact hRm⟩, hOm⟩
                · have q : ((((⟨#[40, 41, 91, 93, 94, 124, 42, 43, 63, 46, 59, 47, 61]⟩ : ByteArray)[m]'(hlm)).toNat : Int) == (S[k].toNat : Int)) = false := by
                    simp only [beq_eq_false_iff_ne, ne_eq]
                    intro h
                    exact he (UInt8.toNat_inj.1 (by omega))
                  have HE : Hid (¬ ((⟨#[40, 41, 91, 93, 94, 124, 42, 43, 63, 46, 59, 47, 61]⟩ : ByteArray)[m]'(hlm)) = S[k]) := he
                  clear he
                  go_wp2_with fail
                  go_roundg (13 - (m + 1))
                  case measure => omega
                  case rel =>
                    refine ⟨m + 1, _, rfl, rfl, by omega, by go_num, hRm, hOm, (fun j hj => ?_ : ∀ j, j < m + 1 → Rl.signs[j]? ≠ some S[k])⟩
                    by_cases hjm : j = m
                    · subst hjm
                      rw [HG.out]
                      intro h
                      injection h with h
                      exact HE.out h
                    · exact hno.out j (by omega)
              · obtain rfl : m = 13 := by omega
                have hns : ¬ Rl.signs.contains S[k] = true := by
                  rw [List.contains_iff_mem]
                  intro h
                  obtain ⟨j, hj⟩ := List.mem_iff_getElem?.1 h
                  have hj13 : j < 13 := (List.getElem?_eq_some_iff.1 hj).1
                  exact hno.out j hj13 hj
                have HNS : Hid (¬ Rl.signs.contains S[k] = true) := hns
                clear hns hno
                have d1' := hRm.c1
                have HRm : Hid (Rpr W rb S k x 0 0) := hRm
                clear hRm
                by_cases hl : Rl.isN S[k] = true
                · have HL : Hid (Rl.isN S[k] = true) := hl
                  go_wp2_with (go_at_call 31; refine (letter_any S[k] _).mono ?_; rintro e w' ⟨rfl, rfl⟩)
                  go_ret
                  have h3 := hd_sign HT.out HN.out HD.out (Or.inl HL.out)
                  exact ⟨Or.inr ⟨h3.2, by rw [h3.1]; rfl, by rw [HAT.out]; exact HRm.out⟩, hOm⟩
                · have hl' : Rl.isN S[k] = false := by simpa using hl
                  have HL : Hid (¬ Rl.isN S[k] = true) := hl
                  clear hl
                  go_wp2_with (first | (go_at_call 31; refine (letter_any S[k] _).mono ?_; rintro e w' ⟨rfl, rfl⟩) | (go_at_call 32; refine (bad_first rb S k x 20 k _ HRm.out).mono ?_; rintro e w1 ⟨rfl, hR1, ho1⟩))
                  go_roundg 0
                  case measure => omega
                  case rel => exact Or.inr ⟨rfl, hd_bad HT.out HN.out HD.out HL.out HNS.out, by rw [HAT.out]; exact hR1, hOm.trans ho1⟩
      · have t1 : ¬ (k : Int) < (S.size : Int) := by omega
        have t2 : decide ((k : Int) < (S.size : Int)) = false := decide_eq_false t1
        go_wp2_with fail
        go_quiet (fail)
        go_wp2_with fail
        go_ret
        obtain rfl : k = S.size := by omega
        have hn : Rl.nx S.data.toList i = S.size := hNk.out.trans (Rl.nx_nil (by rw [HSZ.out]; omega))
        have h3 := hd_nil HT.out hn (by rw [HSZ.out]; omega)
        have h4 : t.at' = S.size := HA.out.symm.trans hn
        refine ⟨Or.inr ⟨h3.2, by rw [h3.1]; rfl, ?_⟩, HOk.out.drewN _⟩
        rw [h4]; exact HRk.out
    · have d0 := hRk.c0
      have d1 := hRk.c1
      have d11 := hRk.c11
      have HRk : Hid (Rpr wr rb S (t.at' : Int) x 20 (t.at' : Int)) := hRk
      clear hRk
      go_wp2_with fail
      go_quiet (fail)
      go_wp2_with fail
      go_ret
      exact ⟨Or.inl ⟨hbt, rfl, HRk.out⟩, hOk.drewN _⟩
end Go.Proofs.Ytahoepmnekconaa
