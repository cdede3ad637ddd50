/-
  pats.pointsAtEnds.
-/
import Derived.Test.YtjgbfpemkjpikaaDoorL2
namespace Go.Proofs.YtjgbfpemkjpikaaDoor
open Go.RowKit Go.Maps
set_option linter.unusedVariables false
set_option linter.unusedSimpArgs false
namespace Pt
/-- the second half of the question. -/
def ends2 (L M I : List Nat) : Bool :=
  let b := if I.getLast? = some 46 then (if M[L.length]? = some 0 then some I.dropLast else none) else some I
  match b with
  | none => false
  | some J => decide (J ≠ []) && decide (46 ∉ J)
theorem ends_pt (L' M' : List Nat) : ends (46 :: L') (0 :: M') = ends2 (46 :: L') (0 :: M') L' := by simp [ends, ends2]; rfl
theorem ends_bad (L' M' : List Nat) {m : Nat} (h : m ≠ 0) : ends (46 :: L') (m :: M') = false := by simp [ends, h]
theorem ends_no {c : Nat} (L' M : List Nat) (h : c ≠ 46) : ends (c :: L') M = ends2 (c :: L') M (c :: L') := by simp [ends, ends2, h]; rfl
theorem ne_len {J : List Nat} {k : Nat} (h : J.length = k) : decide (J ≠ []) = decide (0 < k) := by
  apply decide_eq_decide.2
  rw [← h]
  exact List.length_pos_iff.symm
theorem not_dec (J : List Nat) : decide (46 ∉ J) = !decide (46 ∈ J) := by simp
theorem ends2_last {L M I : List Nat} {k : Nat} (h : I.getLast? = some 46) (hz : M[L.length]? = some 0) (hk : I.dropLast.length = k) : ends2 L M I = (decide (0 < k) && !decide (46 ∈ I.dropLast)) := by
  unfold ends2
  rw [if_pos h, if_pos hz]
  dsimp only
  rw [ne_len hk, not_dec]
theorem ends2_bad {L M I : List Nat} (h : I.getLast? = some 46) (hz : M[L.length]? ≠ some 0) : ends2 L M I = false := by
  unfold ends2
  rw [if_pos h, if_neg hz]
theorem ends2_none {L M I : List Nat} {x k : Nat} (h : I.getLast? = some x) (hx : x ≠ 46) (hk : I.length = k) : ends2 L M I = (decide (0 < k) && !decide (46 ∈ I)) := by
  unfold ends2
  rw [if_neg (by rw [h]; intro e; injection e with e; exact hx e)]
  dsimp only
  rw [ne_len hk, not_dec]
end Pt
theorem Nl.init {w : World} {a : Option Addr} {n : Nat} {L : List Nat} (h : Nl w a (n + 1) L) : Nl w a n L.dropLast := by
  obtain ⟨hl, b, off, h1, h2⟩ := h
  refine ⟨by rw [List.length_dropLast]; omega, b, off, fun _ => h1 (by omega), fun j x hj => h2 j x ?_⟩
  rw [List.getElem?_dropLast] at hj
  split at hj
  · exact hj
  · cases hj
theorem Nl.tail {w : World} {b off n x : Nat} {L : List Nat} (h : Nl w (some ⟨b, off, none⟩) (n + 1) (x :: L)) : Nl w (some ⟨b, off + 1, none⟩) n L := by
  obtain ⟨hl, b', off', h1, h2⟩ := h
  obtain ⟨e, hb⟩ := h1 (by omega)
  injection e with e
  injection e with e1 e2 _
  subst e1 e2
  refine ⟨by simpa using hl, b, off + 1, fun _ => ⟨rfl, hb⟩, fun j y hj => ?_⟩
  have := h2 (j + 1) y (by simpa using hj)
  rw [show off + 1 + j = off + (j + 1) by omega]
  exact this
set_option maxRecDepth 100000 in
set_option maxHeartbeats 4000000 in
theorem points_any (L M : List Nat) (aL aM : Option Addr) (n cL cM : Nat) (w : World) (hL : Nl w aL n L) (hM : Nl w aM (n + 1) M) (hn : 0 < n) (hn2 : n ≤ 24) (hc : n ≤ cL) (hc2 : cL ≤ 9223372036854775807) :
    Calls Tryd.prog 34 #[.slice aL n cL, .slice aM (n + 1) cM] w fun e w' => e = .returned (.bool (Pt.ends L M)) ∧ w' = w := by
  obtain ⟨B, hB⟩ : ∃ B, B = Pt.ends L M := ⟨_, rfl⟩
  rw [← hB]
  have HNL : Hid (Nl w aL n L) := hL
  have HNM : Hid (Nl w aM (n + 1) M) := hM
  have HL : Hid (L.length = n) := hL.1
  obtain ⟨bL, offL, c, haL, hbL, hxL, cxL⟩ := HNL.out.at hn
  subst haL
  obtain ⟨bM, offM, m, haM, hbM, hxM, cxM⟩ := HNM.out.at (Nat.succ_pos n)
  subst haM
  rw [Nat.add_zero] at cxL cxM
  obtain ⟨L', rfl⟩ : ∃ L', L = c :: L' := by
    cases L with
    | nil => simp at hxL
    | cons d L' => simp at hxL; exact ⟨L', by rw [hxL]⟩
  obtain ⟨M', rfl⟩ : ∃ M', M = m :: M' := by
    cases M with
    | nil => simp at hxM
    | cons d M' => simp at hxM; exact ⟨M', by rw [hxM]⟩
  obtain ⟨k, hk⟩ : ∃ k, n = k + 1 := ⟨n - 1, by omega⟩
  subst hk
  clear hxL hxM hL hM hn
  by_cases h46 : c = 46
  · subst h46
    by_cases hm : m = 0
    · subst hm
      have HNI0 : Hid (Nl w (some ⟨bL, offL + 1, none⟩) k L') := HNL.out.tail
      have HBI : Hid (B = Pt.ends2 (46 :: L') (0 :: M') L') := by show B = _; rw [hB]; exact Pt.ends_pt L' M'
      clear hB
      by_cases hk0 : k = 0
      · subst hk0
        have hIn : L' = [] := List.eq_nil_of_length_eq_zero HNI0.out.1
        have HE2 : Hid (B = false) := by
          show B = false
          rw [HBI.out, hIn]
          simp [Pt.ends2]
        clear hIn
        go_enter Tryd.func34, Tryd.ntmps34
        go_wp2_with fail
        all_goals
          go_ret
          rw [HE2.out]
          exact ⟨rfl, rfl⟩
      obtain ⟨n1, hn1⟩ : ∃ n1, k = n1 + 1 := ⟨k - 1, by omega⟩
      subst hn1
      have HNI : Hid (Nl w (some ⟨bL, offL + 1, none⟩) (n1 + 1) L') := HNI0.out
      obtain ⟨bI, offI, x, haI, hbI, hxI, cxI⟩ := HNI.out.at (show n1 < n1 + 1 by omega)
      injection haI with haI
      injection haI with eI1 eI2 _
      subst eI1
      subst eI2
      have hgl : (L').getLast? = some x := by rw [List.getLast?_eq_getElem?, HNI.out.1]; exact hxI
      by_cases hx46 : x = 46
      · subst hx46
        obtain ⟨bM2, offM2, z, haM, hbM2, hzM, czM⟩ := HNM.out.at (show (n1 + 1 + 1) < (n1 + 1 + 1) + 1 by omega)
        injection haM with haM
        injection haM with eM1 eM2 _
        subst eM1
        subst eM2
        by_cases hz0 : z = 0
        · subst hz0
          have HNJ : Hid (Nl w (some ⟨bL, offL + 1, none⟩) n1 (L').dropLast) := HNI.out.init
          obtain ⟨bJ, hbJ⟩ : ∃ bJ, bJ = decide (46 ∈ (L').dropLast) := ⟨_, rfl⟩
          have HE2 : Hid (B = (decide (0 < n1) && !bJ)) := by
            show B = _
            rw [HBI.out, hbJ]
            exact Pt.ends2_last hgl (by rw [HL.out]; exact hzM) HNJ.out.1
          by_cases hJ : n1 = 0
          · subst hJ
            clear hgl hxI hzM hbJ
            go_enter Tryd.func34, Tryd.ntmps34
            go_wp2_with fail
            all_goals
              go_ret
              rw [HE2.out]
              exact ⟨rfl, rfl⟩
          · have j1 : (0 : Int) < (n1 : Int) := by omega
            have HCN : Hid (∀ cc, Calls Tryd.prog 39 #[.slice (some ⟨bL, offL + 1, none⟩) n1 cc, .int .i32 ((46 : Nat) : Int)] w fun e w' => e = .returned (.bool bJ) ∧ w' = w) := fun cc => by rw [hbJ]; exact contains_any _ _ n1 cc 46 w HNJ.out (by omega)
            have HJ0 : Hid (0 < n1) := (by omega : 0 < n1)
            clear hgl hxI hzM hbJ
            go_enter Tryd.func34, Tryd.ntmps34
            go_wp2_with (go_at_call 39; refine Calls.mono (HCN.out _) ?_; rintro e w1 ⟨rfl, hw1⟩; obtain rfl := hw1.symm)
            go_ret
            rw [HE2.out, decide_eq_true HJ0.out, Bool.true_and]
            exact ⟨rfl, rfl⟩
        · have HE2 : Hid (B = false) := by
            show B = false
            rw [HBI.out]
            exact Pt.ends2_bad hgl (by rw [HL.out, hzM]; intro e; injection e with e; exact hz0 e)
          have q3 : ((z : Int) == 0) = false := by simp; omega
          have q4 : ¬ (z : Int) = 0 := by omega
          clear hgl hxI hzM
          go_enter Tryd.func34, Tryd.ntmps34
          go_wp2_with fail
          go_ret
          rw [HE2.out]
          exact ⟨rfl, rfl⟩
      · have q5 : ((x : Int) == 46) = false := by simp; omega
        obtain ⟨bJ, hbJ⟩ : ∃ bJ, bJ = decide (46 ∈ L') := ⟨_, rfl⟩
        have HE2 : Hid (B = (decide (0 < n1 + 1) && !bJ)) := by
          show B = _
          rw [HBI.out, hbJ]
          exact Pt.ends2_none hgl hx46 HNI.out.1
        have HCN : Hid (∀ cc, Calls Tryd.prog 39 #[.slice (some ⟨bL, offL + 1, none⟩) (n1 + 1) cc, .int .i32 ((46 : Nat) : Int)] w fun e w' => e = .returned (.bool bJ) ∧ w' = w) := fun cc => by rw [hbJ]; exact contains_any _ _ (n1 + 1) cc 46 w HNI.out (by omega)
        clear hgl hxI hbJ
        go_enter Tryd.func34, Tryd.ntmps34
        go_wp2_with (go_at_call 39; refine Calls.mono (HCN.out _) ?_; rintro e w1 ⟨rfl, hw1⟩; obtain rfl := hw1.symm)
        go_ret
        rw [HE2.out, decide_eq_true (Nat.succ_pos _), Bool.true_and]
        exact ⟨rfl, rfl⟩
    · have HE2 : Hid (B = false) := by show B = false; rw [hB]; exact Pt.ends_bad L' M' hm
      have q1 : ((m : Int) == 0) = false := by simp; omega
      have q2 : ¬ (m : Int) = 0 := by omega
      clear hB
      go_enter Tryd.func34, Tryd.ntmps34
      go_wp2_with fail
      go_ret
      rw [HE2.out]
      exact ⟨rfl, rfl⟩
  · have q0 : ((c : Int) == 46) = false := by simp; omega
    obtain ⟨n1, hn1⟩ : ∃ n1, n1 = k := ⟨k, rfl⟩
    subst hn1
    have HNI : Hid (Nl w (some ⟨bL, offL, none⟩) (n1 + 1) (c :: L')) := HNL.out
    have HBI : Hid (B = Pt.ends2 (c :: L') (m :: M') (c :: L')) := by show B = _; rw [hB]; exact Pt.ends_no L' _ h46
    clear hB
    obtain ⟨bI, offI, x, haI, hbI, hxI, cxI⟩ := HNI.out.at (show n1 < n1 + 1 by omega)
    injection haI with haI
    injection haI with eI1 eI2 _
    subst eI1
    subst eI2
    have hgl : (c :: L').getLast? = some x := by rw [List.getLast?_eq_getElem?, HNI.out.1]; exact hxI
    by_cases hx46 : x = 46
    · subst hx46
      obtain ⟨bM2, offM2, z, haM, hbM2, hzM, czM⟩ := HNM.out.at (show (n1 + 1) < (n1 + 1) + 1 by omega)
      injection haM with haM
      injection haM with eM1 eM2 _
      subst eM1
      subst eM2
      by_cases hz0 : z = 0
      · subst hz0
        have HNJ : Hid (Nl w (some ⟨bL, offL, none⟩) n1 (c :: L').dropLast) := HNI.out.init
        obtain ⟨bJ, hbJ⟩ : ∃ bJ, bJ = decide (46 ∈ (c :: L').dropLast) := ⟨_, rfl⟩
        have HE2 : Hid (B = (decide (0 < n1) && !bJ)) := by
          show B = _
          rw [HBI.out, hbJ]
          exact Pt.ends2_last hgl (by rw [HL.out]; exact hzM) HNJ.out.1
        by_cases hJ : n1 = 0
        · subst hJ
          exfalso
          have h1 := HNI.out.1
          simp only [List.length_cons] at h1
          have h2 : L' = [] := List.eq_nil_of_length_eq_zero (by omega)
          rw [h2] at hgl
          simp at hgl
          exact h46 hgl
        · have j1 : (0 : Int) < (n1 : Int) := by omega
          have HCN : Hid (∀ cc, Calls Tryd.prog 39 #[.slice (some ⟨bL, offL, none⟩) n1 cc, .int .i32 ((46 : Nat) : Int)] w fun e w' => e = .returned (.bool bJ) ∧ w' = w) := fun cc => by rw [hbJ]; exact contains_any _ _ n1 cc 46 w HNJ.out (by omega)
          have HJ0 : Hid (0 < n1) := (by omega : 0 < n1)
          clear hgl hxI hzM hbJ
          go_enter Tryd.func34, Tryd.ntmps34
          go_wp2_with (go_at_call 39; refine Calls.mono (HCN.out _) ?_; rintro e w1 ⟨rfl, hw1⟩; obtain rfl := hw1.symm)
          go_ret
          rw [HE2.out, decide_eq_true HJ0.out, Bool.true_and]
          exact ⟨rfl, rfl⟩
      · have HE2 : Hid (B = false) := by
          show B = false
          rw [HBI.out]
          exact Pt.ends2_bad hgl (by rw [HL.out, hzM]; intro e; injection e with e; exact hz0 e)
        have q3 : ((z : Int) == 0) = false := by simp; omega
        have q4 : ¬ (z : Int) = 0 := by omega
        clear hgl hxI hzM
        go_enter Tryd.func34, Tryd.ntmps34
        go_wp2_with fail
        go_ret
        rw [HE2.out]
        exact ⟨rfl, rfl⟩
    · have q5 : ((x : Int) == 46) = false := by simp; omega
      obtain ⟨bJ, hbJ⟩ : ∃ bJ, bJ = decide (46 ∈ c :: L') := ⟨_, rfl⟩
      have HE2 : Hid (B = (decide (0 < n1 + 1) && !bJ)) := by
        show B = _
        rw [HBI.out, hbJ]
        exact Pt.ends2_none hgl hx46 HNI.out.1
      have HCN : Hid (∀ cc, Calls Tryd.prog 39 #[.slice (some ⟨bL, offL, none⟩) (n1 + 1) cc, .int .i32 ((46 : Nat) : Int)] w fun e w' => e = .returned (.bool bJ) ∧ w' = w) := fun cc => by rw [hbJ]; exact contains_any _ _ (n1 + 1) cc 46 w HNI.out (by omega)
      clear hgl hxI hbJ
      go_enter Tryd.func34, Tryd.ntmps34
      go_wp2_with (go_at_call 39; refine Calls.mono (HCN.out _) ?_; rintro e w1 ⟨rfl, hw1⟩; obtain rfl := hw1.symm)
      go_ret
      rw [HE2.out, decide_eq_true (Nat.succ_pos _), Bool.true_and]
      exact ⟨rfl, rfl⟩
end Go.Proofs.YtjgbfpemkjpikaaDoor
