/-
  The laws' own light and all: how much expressions are, as far as they are looked at.
-/
import Derived.Test.YtfbcijnacbfjpaaSamx
import Derived.Test.YtfbcijnacbfjpaaEx1x
import Derived.ChangeMaps5
import Derived.Deep.Strs
import Derived.OpenShut
import Derived.ProofKit
import Derived.WideShapes
import Derived.ChangeSame
namespace Go.Proofs.Ytfbcijnacbfjpaa
open Go.RowKit Go.Maps
set_option linter.unusedVariables false
set_option linter.unusedSimpArgs false
open Rl (Ex)
namespace Au
mutual
/-- how much an expression is, as far as it is looked at. -/
def lt : Nat → Ex → Nat
  | 0, _ => 1048576
  | d + 1, .mk _ _ kids => lts d kids 1
def lts : Nat → List Ex → Nat → Nat
  | _, [], n => n
  | d, k :: ks, n => if 3000 < n + lt d k then n + lt d k else lts d ks (n + lt d k)
end
theorem lt_zero (e : Ex) : lt 0 e = 1048576 := by cases e; simp only [lt]
set_option maxRecDepth 100000 in
theorem lt_bound : ∀ (d : Nat), (∀ e, lt d e ≤ 1048576 + 3000 * d) ∧ ∀ ks n, n ≤ 3000 → lts d ks n ≤ 1048576 + 3000 * (d + 1)
  | 0 => by
    have h0 : ∀ e, lt 0 e ≤ 1048576 + 3000 * 0 := fun e => by rw [lt_zero]; omega
    refine ⟨h0, fun ks => ?_⟩
    induction ks with
    | nil => intro n hn; simp only [lts]; omega
    | cons k ks ih =>
      intro n hn
      have := h0 k
      simp only [lts]
      split
      · omega
      · exact ih _ (by omega)
  | d + 1 => by
    obtain ⟨h1, h2⟩ := lt_bound d
    have h3 : ∀ e, lt (d + 1) e ≤ 1048576 + 3000 * (d + 1) := fun e => by
      cases e with
      | mk op set kids => simp only [lt]; exact h2 kids 1 (by omega)
    refine ⟨h3, fun ks => ?_⟩
    induction ks with
    | nil => intro n hn; simp only [lts]; omega
    | cons k ks ih =>
      intro n hn
      have := h3 k
      simp only [lts]
      split
      · omega
      · exact ih _ (by omega)
theorem lts_ge (d : Nat) : ∀ ks n, n ≤ lts d ks n
  | [], n => by simp only [lts]; omega
  | k :: ks, n => by
    simp only [lts]
    split
    · omega
    · have := lts_ge d ks (n + lt d k); omega
set_option maxRecDepth 100000 in
theorem lt_fine : ∀ (d : Nat), (∀ e, lt d e ≤ 3000 → cnt e ≤ lt d e ∧ 1 ≤ lt d e ∧ dp e ≤ d) ∧ ∀ ks n, lts d ks n ≤ 3000 → cnts ks + n ≤ lts d ks n ∧ dps ks ≤ d
  | 0 => by
    refine ⟨fun e h => by rw [lt_zero] at h; omega, fun ks n h => ?_⟩
    cases ks with
    | nil => simp only [lts, cnts, dps]; omega
    | cons k ks =>
      have := lts_ge 0 (k :: ks) n
      simp only [lts] at h
      rw [lt_zero] at h
      split at h <;> omega
  | d + 1 => by
    obtain ⟨h1, h2⟩ := lt_fine d
    have h3 : ∀ e, lt (d + 1) e ≤ 3000 → cnt e ≤ lt (d + 1) e ∧ 1 ≤ lt (d + 1) e ∧ dp e ≤ d + 1 := fun e h => by
      cases e with
      | mk op set kids =>
        simp only [lt] at h ⊢
        obtain ⟨a, b⟩ := h2 kids 1 h
        refine ⟨?_, by omega, by unfold dp; omega⟩
        unfold cnt
        split
        · omega
        · split
          · omega
          · split
            · cases kids with
              | nil => simp only [cnt1]; omega
              | cons k ks => simp only [cnt1, cnts] at a ⊢; omega
            · omega
    refine ⟨h3, fun ks => ?_⟩
    induction ks with
    | nil => intro n h; simp only [lts, cnts, dps] at h ⊢; omega
    | cons k ks ih =>
      intro n h
      simp only [lts] at h ⊢
      split at h
      · omega
      · rename_i hc
        rw [if_neg hc]
        obtain ⟨a1, a2, a3⟩ := h3 k (by omega)
        obtain ⟨b1, b2⟩ := ih _ h
        simp only [cnts, dps]
        omega
/-- all together. -/
def lta : List Ex → Nat → Bool
  | [], _ => true
  | e :: es, n => if 1500 < n + lt 40 e then false else lta es (n + lt 40 e)
theorem lta_fine : ∀ (es : List Ex) (n : Nat), lta es n = true → cnts es + n ≤ 1500 ∨ es = [] := by
  intro es
  induction es with
  | nil => intro n _; exact Or.inr rfl
  | cons e es ih =>
    intro n h
    simp only [lta] at h
    split at h
    · cases h
    · rename_i hc
      have h1 := (lt_fine 40).1 e (by omega)
      rcases ih _ h with h2 | h2
      · left; simp only [cnts]; omega
      · subst h2; left; simp only [cnts]; omega
theorem lta_dp : ∀ (es : List Ex) (n : Nat), lta es n = true → ∀ e ∈ es, dp e ≤ 40 := by
  intro es
  induction es with
  | nil => intro n _ e he; cases he
  | cons e es ih =>
    intro n h x hx
    simp only [lta] at h
    split at h
    · cases h
    · rename_i hc
      rcases List.mem_cons.1 hx with rfl | hx
      · exact ((lt_fine 40).1 _ (by omega)).2.2
      · exact ih _ h x hx
end Au
theorem lts_step (d : Nat) (ks : List Ex) (i n : Nat) (k : Ex) (h : ks[i]? = some k) : Au.lts d (ks.drop i) n = if 3000 < n + Au.lt d k then n + Au.lt d k else Au.lts d (ks.drop (i + 1)) (n + Au.lt d k) := by
  have hlt := (List.getElem?_eq_some_iff.1 h).1
  rw [List.drop_eq_getElem_cons hlt, (List.getElem?_eq_some_iff.1 h).2]
  simp only [Au.lts]
def LtOk (d : Nat) : Prop := ∀ (e : Ex) (F : Nat → Prop) (v : Value) (w : World), Te w F e v →
    Calls Try.prog 31 #[v, .int .i64 (d : Int)] w fun e' w' => e' = .returned (.int .i64 (Au.lt d e : Int)) ∧ Only (fun _ => False) w w'
set_option maxRecDepth 100000 in
set_option maxHeartbeats 4000000 in
theorem light_zero : LtOk 0 := by
  intro e F v w hT
  obtain ⟨op, set, kids⟩ := e
  obtain ⟨a, cap, rfl, hs0, hs1, hL⟩ := hT.kids
  rw [Au.lt_zero]
  clear hT hL
  go_enter Try.func31, Try.ntmps31
  go_wp2_with fail
  go_ret
  exact ⟨rfl, (Only.refl _ _).alloc _⟩
set_option maxRecDepth 100000 in
set_option maxHeartbeats 4000000 in
theorem light_succ (d : Nat) (hd : d ≤ 100) (ih : LtOk d) : LtOk (d + 1) := by
  intro e F v w hT
  obtain ⟨op, set, kids⟩ := e
  obtain ⟨a, c, rfl, hs0, hs1, hL⟩ := hT.kids
  have HIH : Hid (LtOk d) := ih
  have HL : Hid (Lf w F kids a c) := hL
  have hKm := hL.2.1
  have HB : Hid (∀ e, Au.lt d e ≤ 1048576 + 3000 * d) := (Au.lt_bound d).1
  obtain ⟨R, hRe⟩ : ∃ R, R = Au.lt (d + 1) (.mk op set kids) := ⟨_, rfl⟩
  have HR : Hid (R = Au.lts d kids 1) := by show R = _; rw [hRe]; simp only [Au.lt]
  rw [← hRe]
  obtain ⟨K, hKe⟩ : ∃ K, K = kids.length := ⟨_, rfl⟩
  have HKE : Hid (K = kids.length) := hKe
  rw [← hKe] at hKm ⊢
  unfold maxLen at hKm
  have hd1 : ((d + 1 : Nat) : Int) - 1 = (d : Int) := by omega
  have hdn : (((d + 1 : Nat) : Int) == 0) = false := by simp; omega
  have hdw : wrap64 (((d + 1 : Nat) : Int) - 1) = (d : Int) := by rw [hd1]; simp [wrap64]; omega
  obtain ⟨D, hD⟩ : ∃ D : Int, D = ((d + 1 : Nat) : Int) := ⟨_, rfl⟩
  have hD0 : 0 < D := by omega
  have hD1 : D ≤ 101 := by omega
  have hDz : (D == 0) = false := by simp; omega
  have HD : Hid (D - 1 = (d : Int)) := by rw [hD]; exact hd1
  rw [← hD]
  clear hd1 hdn hdw hD ih hL hT hRe hKe
  go_enter Try.func31, Try.ntmps31
  go_wp2_with fail
  go_loopg [5, 13] K (fun gh v5 v13 wr => ∃ (i n : Nat) (W : World), W = wr ∧ gh = K - i ∧ i ≤ K ∧ v5 = .int .i64 (n : Int) ∧ v13 = .int .i64 (i : Int) ∧ n ≤ 3000 ∧ Au.lts d (kids.drop i) n = R ∧ Only (fun _ => False) w W)
  case atStart => exact ⟨0, 1, _, rfl, rfl, Nat.zero_le _, rfl, rfl, by omega, HR.out.symm, (Only.refl _ _).alloc _⟩
  case round =>
    obtain ⟨i, n, W, hW, rfl, hi, rfl, rfl, hn, hlts, hO⟩ := hrel
    subst hW
    have HO : Hid (Only (fun _ => False) w W) := hO
    have HLS : Hid (Au.lts d (kids.drop i) n = R) := hlts
    clear hO hlts
    by_cases hlt : i < K
    · have t1 : (i : Int) < (K : Int) := by omega
      obtain ⟨kd, hkd⟩ : ∃ kd, kids[i]? = some kd := ⟨_, List.getElem?_eq_getElem (by rw [← HKE.out]; omega)⟩
      obtain ⟨kb, ko, op', set', a', n', c', rfl, hkl, d0, d1, d2, hTe⟩ := kid_at0 HL.out HO.out hkd
      have hst := lts_step d kids i n kd hkd
      rw [HLS.out] at hst
      have HST : Hid (R = if 3000 < n + Au.lt d kd then n + Au.lt d kd else Au.lts d (kids.drop (i + 1)) (n + Au.lt d kd)) := hst
      have hbd := HB.out kd
      have HTE : Hid (Te W F kd (.agg #[.int .u8 op', .int .u32 set', .slice a' n' c'])) := hTe
      have HC : Hid (Calls Try.prog 31 #[.agg #[.int .u8 op', .int .u32 set', .slice a' n' c'], .int .i64 (D - 1)] (W.alloc (.cells #[.int .u8 op', .int .u32 set', .slice a' n' c'] 49)) fun e' w' => e' = .returned (.int .i64 (Au.lt d kd : Int)) ∧ Only (fun _ => False) (W.alloc (.cells #[.int .u8 op', .int .u32 set', .slice a' n' c'] 49)) w') := by
        rw [HD.out]
        exact HIH.out kd F _ _ (Te.keep (Kp.only ((Only.refl (fun _ => False) _).alloc _) (fun _ _ h => h)) (fun _ h => h) kd _ HTE.out)
      obtain ⟨q, hq⟩ : ∃ q, q = Au.lt d kd := ⟨_, rfl⟩
      rw [← hq] at HST HC hbd
      have hqb : q ≤ 1400000 := by omega
      clear hst hkd hTe hq hbd
      by_cases h3 : 3000 < n + q
      · have HRR : Hid (R = n + q) := by rw [HST.out, if_pos h3]; exact rfl
        have h4 : (3000 : Int) < (n : Int) + (q : Int) := by omega
        clear h3
        go_wp2_with (go_at_call 31; refine HC.out.mono ?_; rintro e w2 ⟨rfl, ho2⟩; have HO2 : Hid (Only (fun _ => False) w w2) := (HO.out.alloc _).trans ho2; clear ho2)
        go_ret
        refine ⟨?_, HO2.out⟩
        rw [HRR.out]
        rfl
      · have HRR : Hid (Au.lts d (kids.drop (i + 1)) (n + q) = R) := by rw [HST.out, if_neg h3]; exact rfl
        have h4 : decide ((3000 : Int) < (n : Int) + (q : Int)) = false := decide_eq_false (by omega)
        go_wp2_with (go_at_call 31; refine HC.out.mono ?_; rintro e w2 ⟨rfl, ho2⟩; have HO2 : Hid (Only (fun _ => False) w w2) := (HO.out.alloc _).trans ho2; clear ho2)
        go_roundg (K - (i + 1))
        case measure => omega
        case rel => exact ⟨i + 1, n + q, _, rfl, rfl, by omega, by go_num, by go_num, by omega, HRR.out, HO2.out⟩
    · have t2 : decide ((i : Int) < (K : Int)) = false := decide_eq_false (by omega)
      obtain rfl : K = i := by omega
      have hls := HLS.out
      rw [List.drop_eq_nil_of_le (by rw [← HKE.out]; exact Nat.le_refl _)] at hls
      simp only [Au.lts] at hls
      have HE : Hid (n = R) := hls
      clear hls
      go_wp2_with fail
      go_ret
      exact ⟨by rw [← HE.out]; rfl, HO.out⟩
theorem light_all : ∀ d, d ≤ 100 → LtOk d
  | 0, _ => light_zero
  | d + 1, h => light_succ d (by omega) (light_all d (by omega))
theorem lta_step (es : List Ex) (i n : Nat) (k : Ex) (h : es[i]? = some k) : Au.lta (es.drop i) n = if 1500 < n + Au.lt 40 k then false else Au.lta (es.drop (i + 1)) (n + Au.lt 40 k) := by
  have hlt := (List.getElem?_eq_some_iff.1 h).1
  rw [List.drop_eq_getElem_cons hlt, (List.getElem?_eq_some_iff.1 h).2]
  simp only [Au.lta]
set_option maxRecDepth 100000 in
set_option maxHeartbeats 4000000 in
theorem all_laws (F : Nat → Prop) (es : List Ex) (a : Option Addr) (c : Nat) (w : World) (hL : Lex w F es a c) :
    Calls Try.prog 14 #[.slice a es.length c] w fun e' w' => e' = .returned (.bool (Au.lta es 0 && decide (es.length ≤ 100))) ∧ Only (fun _ => False) w w' := by
  have HL : Hid (Lf w F es a es.length) := ⟨Nat.le_refl _, hL.1, hL.2⟩
  have hKm := hL.1
  have HB : Hid (∀ e, Au.lt 40 e ≤ 1048576 + 3000 * 40) := (Au.lt_bound 40).1
  obtain ⟨R, hRe⟩ : ∃ R, R = Au.lta es 0 := ⟨_, rfl⟩
  have HR : Hid (R = Au.lta es 0) := hRe
  rw [← hRe]
  obtain ⟨K, hKe⟩ : ∃ K, K = es.length := ⟨_, rfl⟩
  have HKE : Hid (K = es.length) := hKe
  rw [← hKe] at hKm ⊢
  unfold maxLen at hKm
  clear hL hRe hKe
  go_enter Try.func14, Try.ntmps14
  go_wp2_with fail
  go_loopg [3, 8] K (fun gh v3 v8 wr => ∃ (i n : Nat) (W : World), W = wr ∧ gh = K - i ∧ i ≤ K ∧ v3 = .int .i64 (n : Int) ∧ v8 = .int .i64 (i : Int) ∧ n ≤ 1500 ∧ Au.lta (es.drop i) n = R ∧ Only (fun _ => False) w W)
  case atStart => exact ⟨0, 0, _, rfl, rfl, Nat.zero_le _, rfl, rfl, by omega, HR.out.symm, Only.refl _ _⟩
  case round =>
    obtain ⟨i, n, W, hW, rfl, hi, rfl, rfl, hn, hlts, hO⟩ := hrel
    subst hW
    have HO : Hid (Only (fun _ => False) w W) := hO
    have HLS : Hid (Au.lta (es.drop i) n = R) := hlts
    clear hO hlts
    by_cases hlt : i < K
    · have t1 : (i : Int) < (K : Int) := by omega
      obtain ⟨kd, hkd⟩ : ∃ kd, es[i]? = some kd := ⟨_, List.getElem?_eq_getElem (by rw [← HKE.out]; omega)⟩
      obtain ⟨kb, ko, op', set', a', n', c', rfl, hkl, d0, d1, d2, hTe⟩ := kid_at0 HL.out HO.out hkd
      have hst := lta_step es i n kd hkd
      rw [HLS.out] at hst
      have HST : Hid (R = if 1500 < n + Au.lt 40 kd then false else Au.lta (es.drop (i + 1)) (n + Au.lt 40 kd)) := hst
      have hbd := HB.out kd
      have HTE : Hid (Te W F kd (.agg #[.int .u8 op', .int .u32 set', .slice a' n' c'])) := hTe
      have HC : Hid (Calls Try.prog 31 #[.agg #[.int .u8 op', .int .u32 set', .slice a' n' c'], .int .i64 40] (W.alloc (.cells #[.int .u8 op', .int .u32 set', .slice a' n' c'] 49)) fun e' w' => e' = .returned (.int .i64 (Au.lt 40 kd : Int)) ∧ Only (fun _ => False) (W.alloc (.cells #[.int .u8 op', .int .u32 set', .slice a' n' c'] 49)) w') := light_all 40 (by omega) kd F _ _ (Te.keep (Kp.only ((Only.refl (fun _ => False) _).alloc _) (fun _ _ h => h)) (fun _ h => h) kd _ HTE.out)
      obtain ⟨q, hq⟩ : ∃ q, q = Au.lt 40 kd := ⟨_, rfl⟩
      rw [← hq] at HST HC hbd
      have hqb : q ≤ 1400000 := by omega
      clear hst hkd hTe hq hbd
      by_cases h3 : 1500 < n + q
      · have HRR : Hid (R = false) := by rw [HST.out, if_pos h3]; exact rfl
        have h4 : (1500 : Int) < (n : Int) + (q : Int) := by omega
        clear h3
        go_wp2_with (go_at_call 31; refine HC.out.mono ?_; rintro e w2 ⟨rfl, ho2⟩; have HO2 : Hid (Only (fun _ => False) w w2) := (HO.out.alloc _).trans ho2; clear ho2)
        go_ret
        refine ⟨?_, HO2.out⟩
        rw [HRR.out]
        rfl
      · have HRR : Hid (Au.lta (es.drop (i + 1)) (n + q) = R) := by rw [HST.out, if_neg h3]; exact rfl
        have h4 : decide ((1500 : Int) < (n : Int) + (q : Int)) = false := decide_eq_false (by omega)
        go_wp2_with (go_at_call 31; refine HC.out.mono ?_; rintro e w2 ⟨rfl, ho2⟩; have HO2 : Hid (Only (fun _ => False) w w2) := (HO.out.alloc _).trans ho2; clear ho2)
        go_roundg (K - (i + 1))
        case measure => omega
        case rel => exact ⟨i + 1, n + q, _, rfl, rfl, by omega, by go_num, by go_num, by omega, HRR.out, HO2.out⟩
    · have t2 : decide ((i : Int) < (K : Int)) = false := decide_eq_false (by omega)
      obtain rfl : K = i := by omega
      have hls := HLS.out
      rw [List.drop_eq_nil_of_le (by rw [← HKE.out]; exact Nat.le_refl _)] at hls
      simp only [Au.lta] at hls
      have HE : Hid (R = true) := hls.symm
      clear hls
      by_cases hk : K ≤ 100
      · have h5 : (K : Int) ≤ 100 := by omega
        have HK1 : Hid (decide (K ≤ 100) = true) := decide_eq_true hk
        clear hk
        go_wp2_with fail
        go_ret
        exact ⟨by rw [HE.out, HK1.out]; rfl, HO.out⟩
      · have h5 : decide ((K : Int) ≤ 100) = false := decide_eq_false (by omega)
        have HK1 : Hid (decide (K ≤ 100) = false) := decide_eq_false hk
        clear hk
        go_wp2_with fail
        go_ret
        exact ⟨by rw [HE.out, HK1.out]; rfl, HO.out⟩
end Go.Proofs.Ytfbcijnacbfjpaa
namespace Go.Proofs.Ytfbcijnacbfjpaa
open Go.RowKit Go.Maps Go.ChangeShapes Go.WideShapes
set_option linter.unusedVariables false
set_option linter.unusedSimpArgs false
open Rl (Ex)
theorem wf_u32' {a : Int} (h : (Lit.int .u32 a).wf = true) : 0 ≤ a ∧ a < 4294967296 := by
  have e1 : IntKind.min .u32 = 0 := by decide
  have e2 : IntKind.max .u32 = 4294967295 := by decide
  simp only [Lit.wf, e1, e2, Bool.and_eq_true, decide_eq_true_eq] at h
  omega
theorem u49 : ∃ f0 f1 f2 : Field, Try.prog.underlying 49 = some (.struct #[f0, f1, f2]) ∧ f0.type = 46 ∧ f1.type = 47 ∧ f2.type = 27 ∧ f0.offset = 0 ∧ f1.offset = 1 ∧ f2.offset = 2 := ⟨_, _, _, Try.underlying49, rfl, rfl, rfl, rfl, rfl, rfl⟩
theorem nns_of : ∀ (es : List Ex), (∀ e ∈ es, Nn e) → Nns es
  | [], _ => by unfold Nns; trivial
  | e :: es, h => by
    unfold Nns
    exact ⟨h e (by simp), nns_of es (fun x hx => h x (by simp [hx]))⟩
theorem map_get2 {α : Type} {F : Nat → α} {len j : Nat} {x : α} (hj : ((List.range len).map F)[j]? = some x) : j < len ∧ x = F j := by
  have hl := (List.getElem?_eq_some_iff.1 hj).1
  simp at hl
  rw [List.getElem?_map, List.getElem?_range hl] at hj
  injection hj with hj
  exact ⟨hl, hj.symm⟩
/-- a list of expressions can be read. -/
def Exw (W : World) (a : Option Addr) (len cap : Nat) (es : List Ex) : Prop := es.length = len ∧ Nns es ∧ len ≤ cap ∧ cap ≤ maxLen ∧ (es ≠ [] → ∃ b off, a = some ⟨b, off, none⟩ ∧ b < W.heap.size ∧ Tes W (fun b => b < W.heap.size) es b off)
set_option maxRecDepth 100000 in
theorem exs_cells {H : Type} {enc : TypeId × Value → H} {W : World} : ∀ (fuel : Nat) (cs : List Value) (x : DataW H × List MemPlace),
    DataW.trod enc Try.prog W 0 (fun _ => true) true fuel 27 cs = some x → ∃ (a : Option Addr) (len cap : Nat) (es : List Ex), cs = [.slice a len cap] ∧ Exw W a len cap es := by
  intro fuel
  induction fuel using Nat.strongRecOn with
  | _ fuel ih =>
    intro cs x hf
    rcases DataW.trod_slice Try.underlying27 hf with ⟨rfl, _⟩ | ⟨ad, len, cap, elems, rest, n, hfu, rfl, _, hb, hl, hm, hlen, hel, _, _⟩
    · exact ⟨none, 0, 0, [], rfl, rfl, by unfold Nns; trivial, Nat.le_refl _, Nat.zero_le _, fun h => absurd rfl h⟩
    · obtain ⟨f0, f1, f2, hu, t0, t1, t2, o0, o1, o2⟩ := u49
      have each : ∀ i, i < len → ∃ e : Ex, Nn e ∧ ∃ o s k, W.cell? (ad.add (i * 3)) = some o ∧ W.cell? (ad.add (i * 3 + 1)) = some s ∧ W.cell? (ad.add (i * 3 + 2)) = some k ∧ Te W (fun b => b < W.heap.size) e (.agg #[o, s, k]) := by
        intro i hi
        have key := hel i hi
        rw [List.getElem?_eq_getElem (by omega)] at key
        obtain ⟨cs', h1, h2⟩ := Option.bind_eq_some_iff.1 key
        have ce : Try.prog.cellsOf 49 = 3 := by kernel_rfl
        have c46 : Try.prog.cellsOf 46 = 1 := by kernel_rfl
        have c47 : Try.prog.cellsOf 47 = 1 := by kernel_rfl
        have c27 : Try.prog.cellsOf 27 = 1 := by kernel_rfl
        rw [ce] at h1
        obtain ⟨_, hlen3, hcell⟩ := World.cells?_some h1
        obtain ⟨xs, k, hnk, _, _, hxl, hx⟩ := DataW.trod_struct hu h2
        match xs, hxl with
        | [y0, y1, y2], _ =>
          have g0 := hx 0 f0 rfl
          have g1 := hx 1 f1 rfl
          have g2 := hx 2 f2 rfl
          rw [t0, o0, c46] at g0
          rw [t1, o1, c47] at g1
          rw [t2, o2, c27] at g2
          match cs', hlen3 with
          | [v0, v1, v2], _ =>
            obtain ⟨n0, e0, _, w0⟩ := DataW.trod_int (x := y0) Try.underlying46 (by simpa using g0)
            obtain ⟨n1, e1, _, w1⟩ := DataW.trod_int (x := y1) Try.underlying47 (by simpa using g1)
            obtain ⟨a2, l2, p2, es2, e2, q1, q2, q3, q4, q5⟩ := ih k (by omega) [v2] y2 (by simpa using g2)
            simp at e0 e1 e2
            subst e0 e1 e2
            have k0 := hcell 0 (by omega)
            have k1 := hcell 1 (by omega)
            have k2 := hcell 2 (by omega)
            rw [Deep.add_add] at k0 k1 k2
            obtain ⟨b1, b2⟩ := wf_u8 w0
            obtain ⟨b3, b4⟩ := wf_u32' w1
            refine ⟨.mk n0 n1 es2, by unfold Nn; exact ⟨b1, q2⟩, _, _, _, k0, k1, k2, ?_⟩
            unfold Te
            refine ⟨a2, p2, by rw [q1], by rw [q1]; exact q3, by rw [q1]; exact Nat.le_trans q3 q4, b3, b4, fun hn => ?_⟩
            obtain ⟨b, off, r1, r2, r3⟩ := q5 hn
            exact ⟨b, off, r1, r2, r3⟩
      have hInh : Inhabited Ex := ⟨.mk 0 0 []⟩
      obtain ⟨F, hF⟩ := Deep.choose_lt each
      by_cases h0 : 0 < len
      · obtain ⟨b, off, spot⟩ := ad
        have hspot : spot = none := by
          obtain ⟨_, o, s, k, k0, _⟩ := hF 0 h0
          simpa [Addr.add] using World.cell?_spot k0
        subst hspot
        refine ⟨some ⟨b, off, none⟩, len, cap, (List.range len).map F, rfl, by simp, nns_of _ (fun e he => ?_), hl, hm, fun _ => ⟨b, off, rfl, ?_, ?_⟩⟩
        · obtain ⟨j, hj, rfl⟩ := List.mem_map.1 he
          exact (hF j (List.mem_range.1 hj)).1
        · obtain ⟨_, o, s, k, k0, _⟩ := hF 0 h0
          rw [Addr.add_mid] at k0
          exact World.block_lt_of_cell? W _ k0
        · refine Tes.of (w := W) (F := fun b => b < W.heap.size) (fun _ _ _ _ h => h) (fun _ h => h) _ b off (fun j e hj => ?_)
          obtain ⟨hj', rfl⟩ := map_get2 hj
          obtain ⟨_, o, s, k, k0, k1, k2, kt⟩ := hF j hj'
          rw [Addr.add_mid] at k0 k1 k2
          exact ⟨o, s, k, k0, by rw [Nat.add_assoc]; exact k1, by rw [Nat.add_assoc]; exact k2, kt⟩
      · obtain rfl : len = 0 := by omega
        exact ⟨some ad, 0, cap, [], rfl, rfl, by unfold Nns; trivial, hl, hm, fun h => absurd rfl h⟩
set_option maxRecDepth 100000 in
theorem exs_view {H : Type} {enc : TypeId × Value → H} {W : World} {v : Value} {d : DataW H} {p : List MemPlace} {b0 : Nat} (hv : Value.okWide Try.prog W .any b0 27 v)
    (h : DataW.Trod enc Try.prog W 0 (fun _ => true) true 27 v d p) : ∃ (a : Option Addr) (len cap : Nat) (es : List Ex), v = .slice a len cap ∧ Exw W a len cap es := by
  obtain ⟨a, len, cap, rfl⟩ := okWide_slice Try.underlying27 hv
  obtain ⟨fuel, hf⟩ := h
  obtain ⟨a', len', cap', es, e, hE⟩ := exs_cells fuel _ _ hf
  have e2 : [Value.slice a len cap] = [Value.slice a' len' cap'] := e
  injection e2 with e2
  rw [e2]
  exact ⟨a', len', cap', es, rfl, hE⟩
end Go.Proofs.Ytfbcijnacbfjpaa
