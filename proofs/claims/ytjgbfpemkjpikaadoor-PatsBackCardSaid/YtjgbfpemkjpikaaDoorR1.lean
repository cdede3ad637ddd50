/-
  The reference's Same and SamePatterns.
-/
import Derived.Test.YtjgbfpemkjpikaaDoorL13
import Derived.Laws.BytesArg
namespace Go.Proofs.YtjgbfpemkjpikaaDoor
open Go.RowKit Go.Maps
set_option linter.unusedVariables false
set_option linter.unusedSimpArgs false
set_option maxRecDepth 100000 in
set_option maxHeartbeats 2000000 in
theorem same_any (A B : List Nat) (a b : Option Addr) (n m c d : Nat) (w : World) (hA : Nl w a n A) (hB : Nl w b m B) (hn : n ≤ 1000000) (hm : m ≤ 1000000) :
    Calls Tryd.prog 17 #[.slice a n c, .slice b m d] w fun e w' => e = .returned (.bool (decide (A = B))) ∧ Only (fun _ => False) w w' := by
  obtain ⟨bb, hbb⟩ : ∃ bb, bb = decide (A = B) := ⟨_, rfl⟩
  rw [← hbb]
  have HBB : Hid (bb = decide (A = B)) := hbb
  have HA : Hid (Nl w a n A) := hA
  have HB : Hid (Nl w b m B) := hB
  clear hA hB hbb
  by_cases hnm : n = m
  · subst hnm
    go_enter Tryd.func17, Tryd.ntmps17
    go_wp2_with fail
    go_loopg [5] n (fun gh v wr => ∃ (i : Nat) (W : World), W = wr ∧ gh = n - i ∧ i ≤ n ∧ v = .int .i64 (i : Int) ∧ Only (fun _ => False) w W ∧ (∀ j, j < i → A[j]? = B[j]?))
    case atStart => exact ⟨0, _, rfl, rfl, Nat.zero_le _, rfl, Only.refl _ _, fun j h => absurd h (Nat.not_lt_zero j)⟩
    case round =>
      obtain ⟨i, W, hW, rfl, hi, rfl, ho, hpre⟩ := hrel
      subst hW
      have HO : Hid (Only (fun _ => False) w W) := ho
      have HP : Hid (∀ j, j < i → A[j]? = B[j]?) := hpre
      clear ho hpre
      by_cases hlt : i < n
      · have t1 : (i : Int) < (n : Int) := by omega
        obtain ⟨ba, oa, x, rfl, hba, hxa, ca⟩ := (HA.out.keep HO.out).at hlt
        obtain ⟨bb2, ob, y, rfl, hbb2, hxb, cb⟩ := (HB.out.keep HO.out).at hlt
        have HXA : Hid (A[i]? = some x) := hxa
        have HXB : Hid (B[i]? = some y) := hxb
        clear hxa hxb
        by_cases hxy : x = y
        · subst hxy
          go_wp2_with fail
          go_quiet (fail)
          go_wp2_with fail
          go_roundg (n - (i + 1))
          case measure => omega
          case rel =>
            refine ⟨i + 1, _, rfl, rfl, by omega, by go_num, by first | exact HO.out.drew | exact HO.out.drewN _ | exact HO.out, fun j hj => ?_⟩
            by_cases e : j = i
            · subst e
              rw [HXA.out, HXB.out]
            · exact HP.out j (by omega)
        · have q1 : ((x : Int) == (y : Int)) = false := by simp; omega
          have q2 : ¬ (x : Int) = (y : Int) := by omega
          have HF : Hid (bb = false) := by show bb = false; rw [HBB.out]; exact decide_eq_false (drop_ne HXA.out HXB.out hxy)
          go_wp2_with fail
          go_quiet (fail)
          go_wp2_with fail
          go_ret
          rw [HF.out]
          exact ⟨rfl, by first | exact HO.out.drew | exact HO.out.drewN _ | exact HO.out⟩
      · have t2 : decide ((i : Int) < (n : Int)) = false := decide_eq_false (by omega)
        obtain rfl : n = i := by omega
        have HF : Hid (bb = true) := by show bb = true; rw [HBB.out]; exact decide_eq_true (eq_of_pre HA.out.1 HB.out.1 HP.out)
        go_wp2_with fail
        go_ret
        rw [HF.out]
        exact ⟨rfl, HO.out⟩
  · have q1 : ((n : Int) == (m : Int)) = false := by simp; omega
    have q2 : ¬ (n : Int) = (m : Int) := by omega
    have HF : Hid (bb = false) := by
      show bb = false
      rw [HBB.out]
      exact decide_eq_false (fun e => hnm (by rw [← HA.out.1, ← HB.out.1, e]))
    go_enter Tryd.func17, Tryd.ntmps17
    go_wp2_with fail
    go_ret
    rw [HF.out]
    exact ⟨rfl, Only.refl _ _⟩
/-- bytes as a string. -/
def vstr (L : List Nat) : ByteArray := strOfNums (L.map (fun (x : Nat) => (x : Int)))
theorem conv_bl {w : World} {a : Option Addr} {n c : Nat} {L : List Nat} (h : Bl w a n L) (hn : 0 < n) : (convert 35 9 (.slice a n c)).run Tryd.prog w = .ok (.string (vstr L)) w := by
  obtain ⟨hl, b, off, h1, h2⟩ := h
  obtain ⟨rfl, hb⟩ := h1 hn
  refine run_convert_bytes_arg (P := Tryd.prog) w 35 5 Tryd.underlying35 Tryd.underlying5 b off n c _ (by simp [hl]) (fun i hi => ?_) 9 Tryd.underlying9
  have hx : L[i]? = some L[i] := List.getElem?_eq_getElem (by omega)
  rw [h2 i _ hx]
  simp [List.getD, hx]
set_option maxRecDepth 100000 in
set_option maxHeartbeats 4000000 in
theorem samePat_any (P : List Pt.Pat) (a b : Option Addr) (n c d : Nat) (w : World) (hA : Pw w a n P) (hB : Pw w b n P) (hn : n ≤ 1000000) :
    Calls Tryd.prog 12 #[.slice a n c, .slice b n d] w fun e w' => e = .returned (.bool true) ∧ Only (fun _ => False) w w' := by
  have HA : Hid (Pw w a n P) := hA
  have HB : Hid (Pw w b n P) := hB
  clear hA hB
  go_enter Tryd.func12, Tryd.ntmps12
  go_wp2_with fail
  go_loopg [5] n (fun gh v wr => ∃ (i : Nat) (W : World), W = wr ∧ gh = n - i ∧ i ≤ n ∧ v = .int .i64 (i : Int) ∧ Only (fun _ => False) w W)
  case atStart => exact ⟨0, _, rfl, rfl, Nat.zero_le _, rfl, Only.refl _ _⟩
  case round =>
    obtain ⟨i, W, hW, rfl, hi, rfl, ho⟩ := hrel
    subst hW
    have HO : Hid (Only (fun _ => False) w W) := ho
    clear ho
    by_cases hlt : i < n
    · have t1 : (i : Int) < (n : Int) := by omega
      obtain ⟨ba, oa, p, aL, cL, aV, cV, rfl, hba, hx, c0, c1, hNL, hBV, h24, h25, hv0⟩ := (HA.out.keep HO.out).at hlt
      obtain ⟨bb, ob, p', aL', cL', aV', cV', rfl, hbb, hx', d0, d1, hNL', hBV', _, _, _⟩ := (HB.out.keep HO.out).at hlt
      obtain rfl : p = p' := by rw [hx] at hx'; injection hx'
      have HN : Hid (Nl W aL p.letters.length p.letters ∧ Nl W aL' p.letters.length p.letters ∧ Bl W aV p.values.length p.values ∧ Bl W aV' p.values.length p.values) := ⟨hNL, hNL', hBV, hBV'⟩
      obtain ⟨sv, hsv⟩ : ∃ sv, sv = vstr p.values := ⟨_, rfl⟩
      have HSV : Hid (sv = vstr p.values) := hsv
      clear hx hx' hNL hNL' hBV hBV' hsv
      have HK : Hid (∀ w', Only (fun _ => False) W w' → w'.cell? ⟨ba, oa + i * 2, none⟩ = some (.slice aL p.letters.length cL) ∧ w'.cell? ⟨ba, oa + i * 2 + 1, none⟩ = some (.slice aV p.values.length cV) ∧ w'.cell? ⟨bb, ob + i * 2, none⟩ = some (.slice aL' p.letters.length cL') ∧ w'.cell? ⟨bb, ob + i * 2 + 1, none⟩ = some (.slice aV' p.values.length cV') ∧ (convert 35 9 (.slice aV p.values.length cV)).run Tryd.prog w' = .ok (.string sv) w' ∧ (convert 35 9 (.slice aV' p.values.length cV')).run Tryd.prog w' = .ok (.string sv) w') := fun w' h => ⟨(World.cell?_of_block (a := ⟨ba, oa + i * 2, none⟩) (h.block ba hba (fun h => h))).trans c0, (World.cell?_of_block (a := ⟨ba, oa + i * 2 + 1, none⟩) (h.block ba hba (fun h => h))).trans c1, (World.cell?_of_block (a := ⟨bb, ob + i * 2, none⟩) (h.block bb hbb (fun h => h))).trans d0, (World.cell?_of_block (a := ⟨bb, ob + i * 2 + 1, none⟩) (h.block bb hbb (fun h => h))).trans d1, (by rw [HSV.out]; exact conv_bl (HN.out.2.2.1.keep h) hv0), (by rw [HSV.out]; exact conv_bl (HN.out.2.2.2.keep h) hv0)⟩
      go_wp2_with fail
      go_region_held3 (fun w' => w'.cell? ⟨ba, oa + i * 2, none⟩ = some (.slice aL p.letters.length cL) ∧ w'.cell? ⟨ba, oa + i * 2 + 1, none⟩ = some (.slice aV p.values.length cV) ∧ w'.cell? ⟨bb, ob + i * 2, none⟩ = some (.slice aL' p.letters.length cL') ∧ w'.cell? ⟨bb, ob + i * 2 + 1, none⟩ = some (.slice aV' p.values.length cV') ∧ (convert 35 9 (.slice aV p.values.length cV)).run Tryd.prog w' = .ok (.string sv) w' ∧ (convert 35 9 (.slice aV' p.values.length cV')).run Tryd.prog w' = .ok (.string sv) w') ((first | exact HK.out _ (Only.refl _ _).drew | exact HK.out _ HO1.out)) ((go_at_call 17; refine Calls.mono (same_any p.letters p.letters aL aL' _ _ cL cL' _ (HN.out.1.keep ((Only.refl _ _).drew)) (HN.out.2.1.keep ((Only.refl _ _).drew)) (by omega) (by omega)) ?_; rintro e w1 ⟨he, ho1⟩; have he' : e = .returned (.bool true) := (he.trans (by simp)); subst he'; have HO1 : Hid (Only (fun _ => False) W w1) := ((Only.refl _ _).drew).trans ho1; have hv1 : (convert 35 9 (.slice aV p.values.length cV)).run Tryd.prog w1 = .ok (.string sv) w1 := (by rw [HSV.out]; exact conv_bl (HN.out.2.2.1.keep HO1.out) hv0); have hv2 : (convert 35 9 (.slice aV' p.values.length cV')).run Tryd.prog w1 = .ok (.string sv) w1 := (by rw [HSV.out]; exact conv_bl (HN.out.2.2.2.keep HO1.out) hv0); clear ho1 he))
      all_goals
        go_wp2_with fail
        go_roundg (n - (i + 1))
        case measure => omega
        case rel => exact ⟨i + 1, _, rfl, rfl, by omega, by go_num, by first | exact HO.out.trans HO1.out | exact (HO.out.trans HO1.out).drew⟩
    · have t2 : decide ((i : Int) < (n : Int)) = false := decide_eq_false (by omega)
      go_wp2_with fail
      go_ret
      exact ⟨rfl, HO.out⟩
end Go.Proofs.YtjgbfpemkjpikaaDoor
