/-
  stanzalaw04.AutoLimits returns true at every byte; no condition.
-/
import Derived.Test.YtfbcijnacbfjpaaRows
import Derived.Test.YtfbcijnacbfjpaaAwk
import Derived.Test.YtfbcijnacbfjpaaLim0
import Derived.ChangeMaps5
import Derived.ChangeOld
import Derived.OpenShut
import Derived.ProofKit
import Derived.Deep.QuietTactic
import Derived.BigQuiet
namespace Go.Proofs.Ytfbcijnacbfjpaa.autoLimits
open Go.ChangeShapes Go.WideShapes Go.ChangeAt Go.RowKit Go.Maps
set_option linter.unusedVariables false
set_option linter.unusedSimpArgs false
open Rl (Ex)
theorem tes_of {w : World} {F : Nat → Prop} {b : Nat} : ∀ (es : List Ex) (off : Nat), (∀ (i : Nat) (e : Ex), es[i]? = some e → ∃ o s k, w.cell? ⟨b, off + 3 * i, none⟩ = some o ∧ w.cell? ⟨b, off + 3 * i + 1, none⟩ = some s ∧ w.cell? ⟨b, off + 3 * i + 2, none⟩ = some k ∧ Te w F e (.agg #[o, s, k])) → Tes w F es b off
  | [], _, _ => by unfold Tes; trivial
  | e :: es, off, h => by
    unfold Tes
    refine ⟨h 0 e rfl, tes_of es (off + 3) (fun i x hx => ?_)⟩
    obtain ⟨o, s, k, h0, h1, h2, h3⟩ := h (i + 1) x (by simpa using hx)
    rw [show off + 3 * (i + 1) = off + 3 + 3 * i by omega] at h0 h1 h2
    exact ⟨o, s, k, h0, h1, h2, h3⟩
/-- the letters as cells. -/
def exL : Nat → List Value
  | 0 => [.int .u8 1, .int .u32 1, .slice none 0 0]
  | j + 1 => exL j ++ [.int .u8 1, .int .u32 3, .slice none 0 0]
theorem exL_len : ∀ j, (exL j).length = (j + 1) * 3
  | 0 => rfl
  | j + 1 => by rw [exL, List.length_append, exL_len j]; simp; omega
theorem exL_at : ∀ (j i : Nat), i ≤ j → (exL j)[3 * i]? = some (.int .u8 1) ∧ (exL j)[3 * i + 1]? = some (.int .u32 (if i = 0 then 1 else 3)) ∧ (exL j)[3 * i + 2]? = some (.slice none 0 0)
  | 0, i, h => by
    obtain rfl : i = 0 := by omega
    exact ⟨rfl, rfl, rfl⟩
  | j + 1, i, h => by
    have hl := exL_len j
    by_cases e : i = j + 1
    · subst e
      rw [exL, List.getElem?_append_right (by omega), List.getElem?_append_right (by omega), List.getElem?_append_right (by omega), hl, show 3 * (j + 1) - (j + 1) * 3 = 0 by omega, show 3 * (j + 1) + 1 - (j + 1) * 3 = 1 by omega, show 3 * (j + 1) + 2 - (j + 1) * 3 = 2 by omega, if_neg (by omega)]
      exact ⟨rfl, rfl, rfl⟩
    · rw [exL, List.getElem?_append_left (by omega), List.getElem?_append_left (by omega), List.getElem?_append_left (by omega)]
      exact exL_at j i (by omega)
theorem kid_at (k i : Nat) (e : Ex) (h : (eA 1 :: List.replicate k (eA 3))[i]? = some e) : i ≤ k ∧ e = eA (if i = 0 then 1 else 3) := by
  have hi := (List.getElem?_eq_some_iff.1 h).1
  simp at hi
  refine ⟨by omega, ?_⟩
  cases i with
  | zero => injection h with h; rw [← h]; rfl
  | succ i =>
    rw [List.getElem?_cons_succ, List.getElem?_replicate, if_pos (by omega)] at h
    injection h with h
    rw [← h]
    rfl
theorem te_lim {w : World} {F : Nat → Prop} {gb k c : Nat} (hc : ∀ j, j < (k + 1) * 3 → w.cell? ⟨gb, j, none⟩ = (exL k)[j]?) (hkc : k + 1 ≤ c) (hk : k ≤ 10) (hF : F gb) : Te w F (limE k) (.agg #[.int .u8 2, .int .u32 0, .slice (some ⟨gb, 0, none⟩) (k + 1) c]) := by
  unfold limE Te
  refine ⟨_, c, by simp, by simp; omega, by unfold maxLen; simp; omega, by omega, by omega, fun _ => ⟨gb, 0, rfl, hF, tes_of _ _ (fun i e he => ?_)⟩⟩
  obtain ⟨hi, rfl⟩ := kid_at k i e he
  obtain ⟨e0, e1, e2⟩ := exL_at k i hi
  refine ⟨_, _, _, ?_, ?_, ?_, Te.leaf w F _ (by split <;> omega) (by split <;> omega)⟩
  · rw [Nat.zero_add, hc (3 * i) (by omega)]; exact e0
  · rw [Nat.zero_add, hc (3 * i + 1) (by omega)]; exact e1
  · rw [Nat.zero_add, hc (3 * i + 2) (by omega)]; exact e2
theorem dp_lim (k : Nat) : Au.dp (limE k) ≤ 1000000 := by
  unfold limE Au.dp
  have : Au.dps (.mk 1 1 [] :: List.replicate k (.mk 1 3 [])) ≤ 1 := Au.dps_le _ _ (fun e he => by
    rcases List.mem_cons.1 he with rfl | he
    · decide
    · rw [(List.mem_replicate.1 he).2]; decide)
  omega
theorem lim_ok {k m : Nat} (h : lim k = some m) (hm : m ≠ 0) : ∃ nx o, Au.make [limE k] 2 = .ok (nx, o) ∧ o.length = m := by
  unfold lim at h
  cases he : Au.make [limE k] 2 with
  | ok r => rw [he] at h; injection h with h; exact ⟨r.1, r.2, rfl, h⟩
  | error e =>
    rw [he] at h
    simp only at h
    split at h
    · cases h
    · injection h with h; exact absurd h.symm hm
theorem lim_no {k : Nat} (h : lim k = none) : Au.make [limE k] 2 = .error 3 := by
  unfold lim at h
  cases he : Au.make [limE k] 2 with
  | ok r => rw [he] at h; cases h
  | error e =>
    rw [he] at h
    simp only at h
    split at h
    · rename_i h3; rw [h3]
    · cases h
theorem news3 (w : World) : ∀ j u, [Value.int .u8 1, .int .u32 3, .slice none 0 0][j]? = some u → (w.alloc (.cells #[.int .u8 1, .int .u32 3, .slice none 0 0] 49)).cell? ((⟨w.heap.size, 0, none⟩ : Addr).add j) = some u := ex_news w 1 3 _
theorem below_drewN {B : Nat} {a w : World} (h : Below B a w) (n : Nat) : Below B a (w.drewN n) := ⟨h.os, h.tape, h.output, h.size, h.block⟩
theorem own : ownKnob Try.prog.godebug = none := by kernel_rfl
theorem wf8 {a : Int} (h : (Lit.int .u8 a).wf = true) : 0 ≤ a ∧ a ≤ 255 := by
  simp only [Lit.wf, Bool.and_eq_true, decide_eq_true_eq] at h
  have e1 : IntKind.min .u8 = 0 := by decide
  have e2 : IntKind.max .u8 = 255 := by decide
  rw [e1, e2] at h
  omega
set_option maxRecDepth 100000 in
set_option maxHeartbeats 8000000 in
theorem walk (n : Int) (h0 : 0 ≤ n) (h1 : n ≤ 255) (w : World) : Calls Try.prog 8 #[.int .u8 n] w fun e w' => e = .returned (.bool true) ∧ Below w.heap.size w w' := by
  obtain ⟨k, hk, hk10⟩ : ∃ k : Nat, n % 11 = (k : Int) ∧ k ≤ 10 := ⟨(n % 11).toNat, by omega, by omega⟩
  have hkw : IntKind.i64.wrap (k : Int) = (k : Int) := wrap_small _ (by omega) (by omega)
  obtain ⟨i4, g4, g40, g41, g42⟩ := info_parts info50
  go_enter Try.func8, Try.ntmps8
  go_wp2_with (go_at_call 9; refine (awake_any _).mono ?_; rintro e w1 ⟨rfl, ho1⟩; have HO1 : Hid (Only (fun _ => False) w w1) := ho1; clear ho1)
  have hs1 : w.heap.size ≤ w1.heap.size := HO1.out.size
  clear hk hkw
  go_loopg [4, 15] k (fun gh v4 v15 wr => ∃ (j gb cap : Nat) (W : World), W = wr ∧ gh = k - j ∧ j ≤ k ∧ v4 = .slice (some ⟨gb, 0, none⟩) (j + 1) cap ∧ v15 = .int .i64 (j : Int) ∧ W.ownsRow w1.heap.size 49 3 (.slice (some ⟨gb, 0, none⟩) (j + 1) cap) (j + 1) (exL j) ∧ Only (fun h => w1.heap.size ≤ h) w1 W)
  case atStart =>
    refine ⟨0, w1.heap.size, 1, _, rfl, rfl, Nat.zero_le _, rfl, rfl, ?_, (Only.refl _ _).alloc _⟩
    exact ⟨rfl, Or.inr ⟨w1.heap.size, 1, #[.int .u8 1, .int .u32 1, .slice none 0 0], rfl, Nat.le_refl _, heap_alloc_new _ _, Nat.le_refl _, by unfold maxLen; omega, rfl, rfl⟩⟩
  case round =>
    obtain ⟨j, gb, cap, W, hW, rfl, hj, rfl, rfl, hown, hO⟩ := hrel
    subst hW
    have HOW : Hid (W.ownsRow w1.heap.size 49 3 (.slice (some ⟨gb, 0, none⟩) (j + 1) cap) (j + 1) (exL j)) := hown
    have HO : Hid (Only (fun h => w1.heap.size ≤ h) w1 W) := hO
    have hgb : w1.heap.size ≤ gb ∧ gb < W.heap.size := hown.lt gb rfl
    clear hown hO
    by_cases hlt : j < k
    · have t1 : (j : Int) < (k : Int) := by omega
      go_wp2_with (at_builtin; refine wpList_append_own_at _ rfl _ _ 27 rfl w1.heap.size 49 i4 _ 3 32 Try.underlying27 g4 g40 g41 g42 rfl (by decide) _ _ _ rfl (HOW.out.alloc (.cells #[.int .u8 1, .int .u32 3, .slice none 0 0] 49)) ⟨W.heap.size, 0, none⟩ 1 1 [.int .u8 1, .int .u32 3, .slice none 0 0] rfl rfl (news3 _) (ex_cells _ _ _ _ _) (by unfold maxLen; omega) (by omega) (by simp; omega) ?_; intro v6 w6 hown6 hg6 _ _; obtain ⟨gb6, cap6, rfl, _, _, _, _⟩ := row_form hown6 (by omega); have HOW6 : Hid (w6.ownsRow w1.heap.size 49 3 (.slice (some ⟨gb6, 0, none⟩) (j + 1 + 1) cap6) (j + 1 + 1) (exL j ++ [.int .u8 1, .int .u32 3, .slice none 0 0])) := hown6; have HG6 : Hid (Only (· = gb) (W.alloc (.cells #[.int .u8 1, .int .u32 3, .slice none 0 0] 49)) w6) := (Only.refl (· = gb) _).grown hg6 (fun k h => by injection h with h; exact h.symm); clear hown6 hg6)
      go_roundg (k - (j + 1))
      case measure => omega
      case rel => exact ⟨j + 1, gb6, cap6, w6, rfl, rfl, by omega, rfl, by go_num, HOW6.out, (HO.out.alloc _).trans (HG6.out.mono (fun _ h => by omega))⟩
    · have t2 : decide ((j : Int) < (k : Int)) = false := decide_eq_false (by omega)
      obtain rfl : j = k := by omega
      obtain ⟨gb', cap', hv, _, _, hcap, hcell⟩ := row_form HOW.out (by omega)
      injection hv with e1 e2 e3
      injection e1 with e1
      injection e1 with e1
      subst e1 e3
      have HCe : Hid (∀ i, i < (j + 1) * 3 → W.cell? ⟨gb, i, none⟩ = (exL j)[i]?) := hcell
      have HC : Hid (Calls Try.prog 11 #[.slice (some ⟨W.heap.size, 0, none⟩) 1 1, .int .i64 2] (W.alloc (.cells #[.int .u8 2, .int .u32 0, .slice (some ⟨gb, 0, none⟩) (j + 1) cap] 49)) (makeP (W.alloc (.cells #[.int .u8 2, .int .u32 0, .slice (some ⟨gb, 0, none⟩) (j + 1) cap] 49)) 2 (Au.make [limE j] 2))) :=
        call1 (heap_alloc_new _ _) (te_lim (fun i hi => keep0 ((Only.refl _ _).alloc _) (by rw [HCe.out i hi]; exact List.getElem?_eq_getElem (by rw [exL_len]; exact hi)) |>.trans (by rw [List.getElem?_eq_getElem (by rw [exL_len]; exact hi)])) hcap hk10 (by simp; omega)) (dp_lim j)
      clear hcell e2 HCe
      have HBl : Hid (∀ w', Only (fun _ => False) (W.alloc (.cells #[.int .u8 2, .int .u32 0, .slice (some ⟨gb, 0, none⟩) (j + 1) cap] 49)) w' → Below w.heap.size w w') := fun w' h => ((HO1.out.mono (fun _ h => h.elim)).trans ((HO.out.alloc _).trans (h.mono (fun _ h => h.elim)))).below (Nat.le_refl _) (fun b hb => by omega)
      rcases (show j = 0 ∨ j = 1 ∨ j = 2 ∨ j = 3 ∨ j = 4 ∨ j = 5 ∨ j = 6 ∨ j = 7 ∨ j = 8 ∨ j = 9 ∨ j = 10 by omega) with rfl | rfl | rfl | rfl | rfl | rfl | rfl | rfl | rfl | rfl | rfl
      · obtain ⟨nx, o, he, hol⟩ := lim_ok lim0 (by decide)
        have HE : Hid (Au.make [limE 0] 2 = .ok (nx, o)) := he
        have HOL : Hid (o.length = 2) := hol
        clear he hol
        go_wp2_with (go_at_call 11; have hc := HC.out; rw [HE.out] at hc; refine hc.mono ?_; clear hc; rintro e w2 ⟨⟨v, rfl, hA⟩, ho2⟩; obtain ⟨aN, cN, aO, cO, rfl⟩ := hA.form; rw [HOL.out]; have HB2 : Hid (Below w.heap.size w w2) := HBl.out w2 ho2; have hw2 : w.heap.size ≤ w2.heap.size := HB2.out.size; clear hA ho2)
        go_quiet (fail)
        go_wp2_with fail
        go_ret
        exact ⟨rfl, below_drewN (HB2.out.alloc hw2 _) _⟩
      · obtain ⟨nx, o, he, hol⟩ := lim_ok lim1 (by decide)
        have HE : Hid (Au.make [limE 1] 2 = .ok (nx, o)) := he
        have HOL : Hid (o.length = 4) := hol
        clear he hol
        go_wp2_with (go_at_call 11; have hc := HC.out; rw [HE.out] at hc; refine hc.mono ?_; clear hc; rintro e w2 ⟨⟨v, rfl, hA⟩, ho2⟩; obtain ⟨aN, cN, aO, cO, rfl⟩ := hA.form; rw [HOL.out]; have HB2 : Hid (Below w.heap.size w w2) := HBl.out w2 ho2; have hw2 : w.heap.size ≤ w2.heap.size := HB2.out.size; clear hA ho2)
        go_quiet (fail)
        go_wp2_with fail
        go_ret
        exact ⟨rfl, below_drewN (HB2.out.alloc hw2 _) _⟩
      · obtain ⟨nx, o, he, hol⟩ := lim_ok lim2 (by decide)
        have HE : Hid (Au.make [limE 2] 2 = .ok (nx, o)) := he
        have HOL : Hid (o.length = 8) := hol
        clear he hol
        go_wp2_with (go_at_call 11; have hc := HC.out; rw [HE.out] at hc; refine hc.mono ?_; clear hc; rintro e w2 ⟨⟨v, rfl, hA⟩, ho2⟩; obtain ⟨aN, cN, aO, cO, rfl⟩ := hA.form; rw [HOL.out]; have HB2 : Hid (Below w.heap.size w w2) := HBl.out w2 ho2; have hw2 : w.heap.size ≤ w2.heap.size := HB2.out.size; clear hA ho2)
        go_quiet (fail)
        go_wp2_with fail
        go_ret
        exact ⟨rfl, below_drewN (HB2.out.alloc hw2 _) _⟩
      · obtain ⟨nx, o, he, hol⟩ := lim_ok lim3 (by decide)
        have HE : Hid (Au.make [limE 3] 2 = .ok (nx, o)) := he
        have HOL : Hid (o.length = 16) := hol
        clear he hol
        go_wp2_with (go_at_call 11; have hc := HC.out; rw [HE.out] at hc; refine hc.mono ?_; clear hc; rintro e w2 ⟨⟨v, rfl, hA⟩, ho2⟩; obtain ⟨aN, cN, aO, cO, rfl⟩ := hA.form; rw [HOL.out]; have HB2 : Hid (Below w.heap.size w w2) := HBl.out w2 ho2; have hw2 : w.heap.size ≤ w2.heap.size := HB2.out.size; clear hA ho2)
        go_quiet (fail)
        go_wp2_with fail
        go_ret
        exact ⟨rfl, below_drewN (HB2.out.alloc hw2 _) _⟩
      · obtain ⟨nx, o, he, hol⟩ := lim_ok lim4 (by decide)
        have HE : Hid (Au.make [limE 4] 2 = .ok (nx, o)) := he
        have HOL : Hid (o.length = 32) := hol
        clear he hol
        go_wp2_with (go_at_call 11; have hc := HC.out; rw [HE.out] at hc; refine hc.mono ?_; clear hc; rintro e w2 ⟨⟨v, rfl, hA⟩, ho2⟩; obtain ⟨aN, cN, aO, cO, rfl⟩ := hA.form; rw [HOL.out]; have HB2 : Hid (Below w.heap.size w w2) := HBl.out w2 ho2; have hw2 : w.heap.size ≤ w2.heap.size := HB2.out.size; clear hA ho2)
        go_quiet (fail)
        go_wp2_with fail
        go_ret
        exact ⟨rfl, below_drewN (HB2.out.alloc hw2 _) _⟩
      · obtain ⟨nx, o, he, hol⟩ := lim_ok lim5 (by decide)
        have HE : Hid (Au.make [limE 5] 2 = .ok (nx, o)) := he
        have HOL : Hid (o.length = 64) := hol
        clear he hol
        go_wp2_with (go_at_call 11; have hc := HC.out; rw [HE.out] at hc; refine hc.mono ?_; clear hc; rintro e w2 ⟨⟨v, rfl, hA⟩, ho2⟩; obtain ⟨aN, cN, aO, cO, rfl⟩ := hA.form; rw [HOL.out]; have HB2 : Hid (Below w.heap.size w w2) := HBl.out w2 ho2; have hw2 : w.heap.size ≤ w2.heap.size := HB2.out.size; clear hA ho2)
        go_quiet (fail)
        go_wp2_with fail
        go_ret
        exact ⟨rfl, below_drewN (HB2.out.alloc hw2 _) _⟩
      · obtain ⟨nx, o, he, hol⟩ := lim_ok lim6 (by decide)
        have HE : Hid (Au.make [limE 6] 2 = .ok (nx, o)) := he
        have HOL : Hid (o.length = 128) := hol
        clear he hol
        go_wp2_with (go_at_call 11; have hc := HC.out; rw [HE.out] at hc; refine hc.mono ?_; clear hc; rintro e w2 ⟨⟨v, rfl, hA⟩, ho2⟩; obtain ⟨aN, cN, aO, cO, rfl⟩ := hA.form; rw [HOL.out]; have HB2 : Hid (Below w.heap.size w w2) := HBl.out w2 ho2; have hw2 : w.heap.size ≤ w2.heap.size := HB2.out.size; clear hA ho2)
        go_quiet (fail)
        go_wp2_with fail
        go_ret
        exact ⟨rfl, below_drewN (HB2.out.alloc hw2 _) _⟩
      · obtain ⟨nx, o, he, hol⟩ := lim_ok lim7 (by decide)
        have HE : Hid (Au.make [limE 7] 2 = .ok (nx, o)) := he
        have HOL : Hid (o.length = 256) := hol
        clear he hol
        go_wp2_with (go_at_call 11; have hc := HC.out; rw [HE.out] at hc; refine hc.mono ?_; clear hc; rintro e w2 ⟨⟨v, rfl, hA⟩, ho2⟩; obtain ⟨aN, cN, aO, cO, rfl⟩ := hA.form; rw [HOL.out]; have HB2 : Hid (Below w.heap.size w w2) := HBl.out w2 ho2; have hw2 : w.heap.size ≤ w2.heap.size := HB2.out.size; clear hA ho2)
        go_quiet (fail)
        go_wp2_with fail
        go_ret
        exact ⟨rfl, below_drewN (HB2.out.alloc hw2 _) _⟩
      · have HE : Hid (Au.make [limE 8] 2 = .error 3) := lim_no lim8
        go_wp2_with (go_at_call 11; have hc := HC.out; rw [HE.out] at hc; refine hc.mono ?_; clear hc; rintro e w2 ⟨rfl, ho2⟩; unfold noAut errN; have HB2 : Hid (Below w.heap.size w w2) := HBl.out w2 ho2; have hw2 : w.heap.size ≤ w2.heap.size := HB2.out.size; clear ho2)
        go_ret
        exact ⟨rfl, HB2.out.alloc hw2 _⟩
      · have HE : Hid (Au.make [limE 9] 2 = .error 3) := lim_no lim9
        go_wp2_with (go_at_call 11; have hc := HC.out; rw [HE.out] at hc; refine hc.mono ?_; clear hc; rintro e w2 ⟨rfl, ho2⟩; unfold noAut errN; have HB2 : Hid (Below w.heap.size w w2) := HBl.out w2 ho2; have hw2 : w.heap.size ≤ w2.heap.size := HB2.out.size; clear ho2)
        go_ret
        exact ⟨rfl, HB2.out.alloc hw2 _⟩
      · have HE : Hid (Au.make [limE 10] 2 = .error 3) := lim_no lim10
        go_wp2_with (go_at_call 11; have hc := HC.out; rw [HE.out] at hc; refine hc.mono ?_; clear hc; rintro e w2 ⟨rfl, ho2⟩; unfold noAut errN; have HB2 : Hid (Below w.heap.size w w2) := HBl.out w2 ho2; have hw2 : w.heap.size ≤ w2.heap.size := HB2.out.size; clear ho2)
        go_ret
        exact ⟨rfl, HB2.out.alloc hw2 _⟩
set_option maxRecDepth 100000 in
theorem contract (H : Type) (enc : TypeId × Value → H) (W : World) (base : Nat) (args : Array Value) (ds gs : List (DataW H)) (before : List MemPlace)
    (hval : ∀ (j : Nat) t v, Try.f8.params[j]? = some t → args[j]? = some v → Value.okWide Try.prog W .any base t v)
    (hW : DataW.Whole enc Try.prog Try.f8.params.toList Rows.autoLimitsSpec.vars false W args.toList ds gs before) :
    Calls Try.prog 8 args W fun e W' => ∃ v, e = .returned v ∧ Rows.autoLimitsSpec.post enc Try.prog Try.f8 false true false false W args v W' := by
  have hW' := hW
  obtain ⟨p, q, hA0, hV, rfl, hfz, hnd⟩ := hW
  have hA : DataW.TrodAll enc Try.prog W 0 (fun _ => true) true Try.f8.params.toList args.toList ds p := hA0
  rw [Try.params8] at hA hval
  obtain ⟨v0, vs0, d0, ds0, p0, q0, hargs, rfl, rfl, h0, r0⟩ := trodAll_cons hA
  obtain ⟨rfl, rfl, rfl⟩ := trodAll_nil r0
  obtain rfl : args = #[v0] := by cases args; simp_all
  obtain ⟨rfl, rfl⟩ := trodVars_none hV
  obtain ⟨a0, rfl, rfl, rfl, w0⟩ := open_int Try.underlying5 (hval 0 5 v0 rfl rfl) h0
  clear hA0
  refine (walk a0 (wf8 w0).1 (wf8 w0).2 W).mono fun e W' ⟨he, bel⟩ => ?_
  subst he
  exact ⟨_, rfl, _, _, _, [], _, [], hW', trodAll_mk1 (shut_bool Try.underlying4 _), (trodAll_cons_mk (shut_int Try.underlying5 w0) trodAll_mk0), rfl, bel.frame _, fun h => by cases h⟩

set_option maxRecDepth 100000 in
theorem lifted (os : Os) (started : os.Started) (H : Type) (enc : TypeId × Value → H) :
    ReturnsInHanded {} Try.checked os 8 .any (Rows.autoLimitsSpec.pre6 enc Try.prog Try.f8 Rows.autoLimitsRow.domain false) (Rows.autoLimitsSpec.post enc Try.prog Try.f8 false true false false) := by
  refine returnsInHanded_of_change (C := Try.checked) own started (by kernel_rfl) Try.func8
    (ChangeSpec.witness6 (enc := enc) (C := Try.checked) false ⟨#[], #[.int .u8 0], []⟩ 8 (by kernel_rfl) (by kernel_rfl) (by kernel_rfl) (by kernel_rfl)) ?_
  intro W base args ds gs before hval hW _ _
  exact contract H enc W base args ds gs before hval hW

theorem over : Rows.autoLimitsRow.holds Try.pinned (OpenSpec.ofChange Rows.autoLimitsSpec) :=
  OpenClaim.holds_of_wide 8 Try.f8 rfl rfl rfl rfl rfl rfl rfl ⟨rfl, rfl, rfl, rfl, rfl⟩ rfl rfl rfl rfl rfl (by kernel_rfl) Try.func8 (by kernel_rfl)
    (of_decide_eq_true (by kernel_rfl)) (by unfold Func.isWrapper; first | (rw [if_pos (by decide +kernel)]; kernel_rfl) | (rw [if_neg (by decide +kernel)]; exact ⟨rfl, rfl⟩))
    (fun os started H enc _ => lifted os started H enc)
end Go.Proofs.Ytfbcijnacbfjpaa.autoLimits
namespace Go.Proofs.Ytfbcijnacbfjpaa
/-- THE STATEMENT. -/
theorem autoLimits_holds : Rows.AutoLimitsSaid := autoLimits.over
#print axioms autoLimits_holds
end Go.Proofs.Ytfbcijnacbfjpaa
