/-
  just's steps and widen.
-/
import Derived.Test.YtegoadhnilmchaaJc
namespace Go.Proofs.Ytegoadhnilmchaa
open Go.RowKit Go.Maps
set_option linter.unusedVariables false
set_option linter.unusedSimpArgs false
namespace Sd
theorem mix_skip {f1 f0 : Nat → Nat} {n i : Nat} (h : f1 i = f0 i) : mix f1 f0 n (i + 1) = mix f1 f0 n i := by
  apply List.ext_getElem?
  intro j
  by_cases hj : j < n
  · rw [mix_at hj, mix_at hj]
    by_cases q : j < i
    · rw [if_pos q, if_pos (by omega)]
    · rw [if_neg q]
      by_cases e : j = i
      · subst e
        rw [if_pos (by omega), h]
      · rw [if_neg (by omega)]
  · rw [List.getElem?_eq_none (by rw [mix_len]; omega), List.getElem?_eq_none (by rw [mix_len]; omega)]
/-- how far it is from a column to the next one. -/
def stp (C : List Ct) (t x i : Nat) : Nat := Sp.col C t x (i + 1) - Sp.col C t x i
end Sd
set_option maxRecDepth 100000 in
set_option maxHeartbeats 4000000 in
theorem steps_any (C : List Ct) (t x k k1 B : Nat) (a : Option Addr) (c : Nat) (w : World) (hk1 : k1 = k + 1) (hown : w.ownsRow B 3 1 (.slice a k1 c) k1 (natI (Sp.cols C t x k))) (h0 : 0 < t) (hk : k ≤ 100000) (hC : ∀ i, i ≤ k → Sp.col C t x i ≤ 100200000) :
    Calls Try.prog 32 #[.slice a k1 c] w fun e w' => ∃ b, e = .returned (.slice (some ⟨b, 0, none⟩) k k) ∧ Nb w' b ((List.range k).map (Sd.stp C t x)) ∧ w.heap.size ≤ b ∧ Only (fun _ => False) w w' := by
  have hmk' : ∀ w : World, (Instr.makeSlice 58 (.int .i64 (k : Int)) (.int .i64 (k : Int))).run Try.prog w = .ok (.slice (some ⟨w.heap.size, 0, none⟩) k k) (w.alloc (.cells (nums (Sd.mix (Sd.stp C t x) (fun _ => 0) k 0)) 3)) := fun w => by
    rw [← Sd.made_mix]
    exact run_make_row' (P := Try.prog) 58 3 (.int .i64 0) 8 Try.underlying58 info3 rfl .i64 .i64 k (by omega) (by omega) w
  have HO : Hid (w.ownsRow B 3 1 (.slice a k1 c) k1 (natI (Sp.cols C t x k))) := hown
  have HK : Hid (k1 = k + 1) := hk1
  have HC : Hid (∀ i, i ≤ k → Sp.col C t x i ≤ 100200000) := hC
  have p0 : IntKind.i64.wrap ((k1 : Int) - 1) = (k : Int) := by rw [IntKind.wrap_i64]; omega
  obtain ⟨g, cap, hv, hgl, hml, hcell⟩ := own_cells hown (by omega)
  have e0 : a = some ⟨g, 0, none⟩ := by injection hv
  subst e0
  have HCL : Hid (∀ i q, i ≤ k → q = Sp.col C t x i → w.cell? ⟨g, i, none⟩ = some (.int .i64 (q : Int))) := fun i q hi hq => hcell i _ (natI_get (by rw [hq]; exact Sp.cols_at hi))
  have HGL : Hid (g < w.heap.size) := hgl
  clear hown hv hcell hk1 hC hml hgl
  go_enter Try.func32, Try.ntmps32
  go_wp2_with fail
  obtain ⟨b, hb⟩ : ∃ b, b = w.heap.size := ⟨_, rfl⟩
  obtain ⟨w2, hw2⟩ : ∃ Z, Z = w.alloc (.cells (nums (Sd.mix (Sd.stp C t x) (fun _ => 0) k 0)) 3) := ⟨_, rfl⟩
  rw [← hw2, ← hb]
  have H2 : Hid (Nb w2 b (Sd.mix (Sd.stp C t x) (fun _ => 0) k 0) ∧ Only (fun _ => False) w w2 ∧ b = w.heap.size) := by
    rw [hw2, hb]
    exact ⟨heap_alloc_new w _, (Only.refl _ _).alloc _, rfl⟩
  have hgb : g ≠ b := by have := HGL.out; omega
  clear hw2 hb hmk' p0
  go_loopg [4, 11] k (fun gh v4 v wr => ∃ (i : Nat) (W : World), W = wr ∧ gh = k - i ∧ i ≤ k ∧ v = .int .i64 (i : Int) ∧ Nb W b (Sd.mix (Sd.stp C t x) (fun _ => 0) k i) ∧ Only (fun q => q = b) w2 W)
  case atStart => exact ⟨0, _, rfl, rfl, Nat.zero_le _, rfl, H2.out.1, Only.refl _ _⟩
  case round =>
    obtain ⟨i, W, hW, rfl, hi, rfl, hnb, hoW⟩ := hrel
    subst hW
    have HG : Hid (Nb W b (Sd.mix (Sd.stp C t x) (fun _ => 0) k i) ∧ Only (fun q => q = b) w2 W ∧ Only (fun _ => False) w W) := ⟨hnb, hoW, ((H2.out.2.1.mono (fun _ h => h.elim)).trans hoW).old (fun q hq => Or.inl (by rw [hq]; exact Nat.le_of_eq H2.out.2.2.symm))⟩
    clear hnb hoW
    by_cases hlt : i < k
    · have t1 : (i : Int) < (k : Int) := by omega
      have t2 : (i : Int) < (k1 : Int) := by have := HK.out; omega
      obtain ⟨i1, hi1⟩ : ∃ i1, i1 = i + 1 := ⟨_, rfl⟩
      have t3 : (i1 : Int) < (k1 : Int) := by have := HK.out; omega
      obtain ⟨q0, hq0⟩ : ∃ x1, x1 = Sp.col C t x i := ⟨_, rfl⟩
      obtain ⟨q1, hq1⟩ : ∃ x1, x1 = Sp.col C t x i1 := ⟨_, rfl⟩
      obtain ⟨s, hs⟩ : ∃ x1, x1 = Sd.stp C t x i := ⟨_, rfl⟩
      have hl0 : q0 ≤ 100200000 := by rw [hq0]; exact HC.out i hi
      have hl1 : q1 ≤ 100200000 := by rw [hq1]; exact HC.out i1 (by omega)
      have hle : q0 ≤ q1 := by rw [hq0, hq1, hi1]; exact Sp.col_step C h0 x i
      have hs2 : s = q1 - q0 := by rw [hs, hq0, hq1, hi1]; rfl
      have j0 : IntKind.i64.wrap ((i : Int) + 1) = (i1 : Int) := by rw [IntKind.wrap_i64]; omega
      have u2 : IntKind.i64.wrap ((q1 : Int) - (q0 : Int)) = (s : Int) := by rw [IntKind.wrap_i64]; omega
      have HS : Hid (s = Sd.stp C t x i ∧ i1 = i + 1) := ⟨hs, hi1⟩
      have c9 : W.cell? ⟨b, i, none⟩ = some (.int .i64 0) := HG.out.1.cell (Sd.mix_this hlt)
      have f9 : W.frozen? ⟨b, i, none⟩ = false := HG.out.1.fz _
      have lb : b < W.heap.size := HG.out.1.lt
      have HKS : Hid (∀ W', Only (fun q => q = b) W W' → W'.cell? ⟨g, i, none⟩ = some (.int .i64 (q0 : Int)) ∧ W'.cell? ⟨g, i1, none⟩ = some (.int .i64 (q1 : Int))) := fun W' ho => ⟨keepS ho (keep0 HG.out.2.2 (HCL.out i q0 hi hq0)) hgb, keepS ho (keep0 HG.out.2.2 (HCL.out i1 q1 (by omega) hq1)) hgb⟩
      clear hs hs2 hq0 hq1 hi1
      go_wp2_with fail
      go_region_held3 (fun W' => W'.cell? ⟨g, i, none⟩ = some (.int .i64 (q0 : Int)) ∧ W'.cell? ⟨g, i1, none⟩ = some (.int .i64 (q1 : Int))) ((first | exact HKS.out _ (Only.refl _ _).drew | exact HKS.out _ ((Only.refl (fun q => q = b) _).drew.setCell (p := ⟨b, i, none⟩) rfl _) | exact HKS.out _ (((Only.refl (fun q => q = b) _).setCell (p := ⟨b, i, none⟩) rfl _).drew))) (fail)
      go_wp2_with fail
      go_roundg (k - (i + 1))
      case measure => omega
      case rel =>
        refine ⟨i1, _, rfl, by rw [HS.out.2], by have := HS.out.2; omega, by go_num, ?_, ?_⟩
        · have h := HG.out.1.set i s
          rw [HS.out.1, Sd.mix_set hlt, ← HS.out.2, ← HS.out.1] at h
          exact h
        · first
          | exact (HG.out.2.1.drew).setCell (p := ⟨b, i, none⟩) rfl _
          | exact (HG.out.2.1.setCell (p := ⟨b, i, none⟩) rfl _).drew
    · have t1 : decide ((i : Int) < (k : Int)) = false := decide_eq_false (by omega)
      have hin : i = k := by omega
      subst hin
      go_wp2_with fail
      go_ret
      have hn := HG.out.1
      rw [Sd.mix_full] at hn
      exact ⟨b, rfl, hn, Nat.le_of_eq H2.out.2.2.symm, HG.out.2.2⟩
/-- what widen's shares are, behind so many spaces: what is left of them. -/
def Shr (w : World) (b : Nat) (M : List Nat) (a : Option Addr) (m c : Nat) : Prop := m = M.length ∧ m ≤ c ∧ c ≤ 9223372036854775807 ∧ ∀ W', Only (fun g => g = b) w W' → Vw W' a (natI M)
theorem Shr.keep {w w' : World} {b : Nat} {M : List Nat} {a : Option Addr} {m c : Nat} (h : Shr w b M a m c) (ho : Only (fun g => g = b) w w') : Shr w' b M a m c := ⟨h.1, h.2.1, h.2.2.1, fun W' o => h.2.2.2 W' (ho.trans o)⟩
theorem Vw.tail {w : World} {b off : Nat} {v : Value} {xs : List Value} (h : Vw w (some ⟨b, off, none⟩) (v :: xs)) : Vw w (some ⟨b, off + 1, none⟩) xs := by
  rcases h with h | ⟨b', off', e, hc⟩
  · cases h
  · injection e with e
    injection e with e1 e2
    subst e1 e2
    exact Or.inr ⟨b, off + 1, rfl, fun j u hj => by
      have := hc (j + 1) u (by simpa using hj)
      rw [show off + 1 + j = off + (j + 1) by omega]
      exact this⟩
theorem Shr.tail {w : World} {b : Nat} {y : Nat} {R : List Nat} {bM oM m c : Nat} (h : Shr w b (y :: R) (some ⟨bM, oM, none⟩) m c) : Shr w b R (some ⟨bM, oM + 1, none⟩) (m - 1) (c - 1) := by
  have h1 : m = R.length + 1 := h.1
  have h2 := h.2.1
  have h3 := h.2.2.1
  exact ⟨by omega, by omega, by omega, fun W' ho => (h.2.2.2 W' ho).tail⟩
theorem Shr.last {w : World} {b : Nat} {y : Nat} {R : List Nat} {a a' : Option Addr} {m : Nat} (h : Shr w b (y :: R) a m 1) : Shr w b R a' 0 0 := by
  have h1 : m = R.length + 1 := h.1
  have h2 := h.2.1
  have e : R = [] := List.eq_nil_of_length_eq_zero (by omega)
  subst e
  exact ⟨rfl, Nat.le_refl _, by omega, fun W' ho => Or.inl rfl⟩
theorem drop_cons {M : List Nat} {j y : Nat} {R : List Nat} (h : M.drop j = y :: R) : M.getD j 0 = y ∧ M.drop (j + 1) = R := by
  have h1 : (M.drop j)[0]? = some y := by rw [h]; rfl
  rw [List.getElem?_drop, Nat.add_zero] at h1
  refine ⟨by rw [List.getD_eq_getElem?_getD, h1]; rfl, ?_⟩
  rw [← List.drop_drop, h]
  rfl
theorem drop_nil {M : List Nat} {j : Nat} (h : M.drop j = []) : M.getD j 0 = 0 ∧ M.drop (j + 1) = [] := by
  have h1 : M.length ≤ j := by simpa using h
  exact ⟨by rw [List.getD_eq_getElem?_getD, List.getElem?_eq_none h1]; rfl, by rw [List.drop_eq_nil_iff]; omega⟩
set_option maxRecDepth 100000 in
set_option maxHeartbeats 4000000 in
theorem widen_any (C : List Ct) (x n b : Nat) (aK : Option Addr) (cK : Nat) (f0 : Nat → Nat) (M : List Nat) (aM : Option Addr) (m cM : Nat) (w : World) (hok : Cok C) (hn : x + n ≤ C.length) (hN : n ≤ 100000) (hb : Nb w b ((List.range n).map f0)) (hK : ∀ W', Only (fun g => g = b) w W' → Vw W' aK (ctC (sgm C x n))) (hM : Shr w b M aM m cM) (hf : ∀ i, i < n → f0 i ≤ 1000000000) (hm : ∀ i, M.getD i 0 ≤ 1048576) :
    Calls Try.prog 35 #[.slice (some ⟨b, 0, none⟩) n n, .slice aK n cK, .slice aM m cM] w fun e w' => e = .returned (.tuple #[]) ∧ Nb w' b ((List.range n).map fun i => f0 i + (if (Sp.at' C (x + i)).kind = 1 then M.getD (Sp.sps C x i) 0 else 0)) ∧ Only (fun g => g = b) w w' := by
  obtain ⟨f1, hf1⟩ : ∃ f, f = fun i => f0 i + (if (Sp.at' C (x + i)).kind = 1 then M.getD (Sp.sps C x i) 0 else 0) := ⟨_, rfl⟩
  rw [← hf1]
  have HP : Hid (Cok C ∧ x + n ≤ C.length ∧ Nb w b ((List.range n).map f0) ∧ (∀ W', Only (fun g => g = b) w W' → Vw W' aK (ctC (sgm C x n))) ∧ Shr w b M aM m cM ∧ (∀ i, i < n → f0 i ≤ 1000000000) ∧ ∀ i, M.getD i 0 ≤ 1048576) := ⟨hok, hn, hb, hK, hM, hf, hm⟩
  have HF : Hid (f1 = fun i => f0 i + (if (Sp.at' C (x + i)).kind = 1 then M.getD (Sp.sps C x i) 0 else 0)) := hf1
  clear hok hn hb hK hM hf hm hf1
  go_enter Try.func35, Try.ntmps35
  go_wp2_with fail
  go_loopg [2, 6, 7, 10] n (fun gh v2 v6 v7 v10 wr => ∃ (i : Nat) (a : Option Addr) (mm c : Nat) (W : World), W = wr ∧ gh = n - i ∧ i ≤ n ∧ v2 = .slice a mm c ∧ v10 = .int .i64 (i : Int) ∧ Shr W b (M.drop (Sp.sps C x i)) a mm c ∧ Nb W b (Sd.mix f1 f0 n i) ∧ Only (fun q => q = b) w W)
  case atStart => exact ⟨0, _, _, _, _, rfl, rfl, Nat.zero_le _, rfl, rfl, HP.out.2.2.2.2.1, by rw [Sd.mix_none]; exact HP.out.2.2.1, Only.refl _ _⟩
  case round =>
    obtain ⟨i, a, mm, c, W, hW, rfl, hi, rfl, rfl, hsh, hnb, hoW⟩ := hrel
    subst hW
    have HG : Hid (Shr W b (M.drop (Sp.sps C x i)) a mm c ∧ Nb W b (Sd.mix f1 f0 n i) ∧ Only (fun q => q = b) w W) := ⟨hsh, hnb, hoW⟩
    have hmc : mm ≤ c := hsh.2.1
    have hcm : c ≤ 9223372036854775807 := hsh.2.2.1
    clear hsh hnb hoW
    by_cases hlt : i < n
    · have t1 : (i : Int) < (n : Int) := by omega
      obtain ⟨z, hz⟩ : ∃ z, C[x + i]? = some z := ⟨_, List.getElem?_eq_getElem (by have := HP.out.2.1; omega)⟩
      obtain ⟨xp, xl, xc, xk, rfl, hxc, hxk⟩ := HP.out.1.nat hz
      have HA : Hid (Sp.at' C (x + i) = ⟨xp, xl, (xc : Int), xk⟩) := at_some hz
      obtain ⟨g, off, rfl, hg, c0, c1, c2, c3⟩ := (HP.out.2.2.2.1 W HG.out.2.2).cluster (k := i) (by rw [sgm_at hlt]; exact hz)
      simp only at c0 c1 c2 c3
      obtain ⟨q, hq⟩ : ∃ q, q = f0 i := ⟨_, rfl⟩
      have HQ : Hid (q = f0 i) := hq
      have hql : q ≤ 1000000000 := by rw [hq]; exact HP.out.2.2.2.2.2.1 i hlt
      clear hz hq
      by_cases hk : xk = 1
      · have t2 : ((xk : Int) == 1) = true := by rw [beq_iff_eq]; omega
        have HS1 : Hid (Sp.sps C x (i + 1) = Sp.sps C x i + 1) := sps_yes (by rw [HA.out]; exact hk)
        have HF1 : Hid (f1 i = f0 i + M.getD (Sp.sps C x i) 0) := by rw [HF.out]; show f0 i + (if (Sp.at' C (x + i)).kind = 1 then _ else _) = _; rw [HA.out, if_pos hk]
        cases hD : M.drop (Sp.sps C x i) with
        | nil =>
          have hmm : mm = 0 := by have h := HG.out.1.1; rw [hD] at h; exact h
          subst hmm
          have HD : Hid (M.getD (Sp.sps C x i) 0 = 0 ∧ M.drop (Sp.sps C x i + 1) = [] ∧ M.drop (Sp.sps C x i) = []) := ⟨(drop_nil hD).1, (drop_nil hD).2, hD⟩
          clear hD hk
          go_wp2_with fail
          go_roundg (n - (i + 1))
          case measure => omega
          case rel =>
            have ho : Only (fun q => q = b) W (W.alloc (.cells #[.int .i64 (xp : Int), .int .i64 (xl : Int), .int .i64 (xc : Int), .int .u8 (xk : Int)] 53)) := (Only.refl _ _).alloc _
            refine ⟨i + 1, _, _, _, _, rfl, rfl, by omega, rfl, by go_num, ?_, ?_, HG.out.2.2.trans ho⟩
            · rw [HS1.out, HD.out.2.1, ← HD.out.2.2]
              exact HG.out.1.keep ho
            · rw [Sd.mix_skip (by rw [HF1.out, HD.out.1]; rfl)]
              exact HG.out.2.1.only ((Only.refl (fun _ => False) _).alloc _) (fun h => h)
        | cons y R =>
          have hSh := HG.out.1
          rw [hD] at hSh
          have hmm : mm = R.length + 1 := hSh.1
          have HR : Hid (mm = R.length + 1) := hmm
          have hm1 : 1 ≤ mm := by omega
          have t3 : (0 : Int) < (mm : Int) := by omega
          have t3n : 0 < mm := by omega
          have HD : Hid (M.getD (Sp.sps C x i) 0 = y ∧ M.drop (Sp.sps C x i + 1) = R ∧ M.drop (Sp.sps C x i) = y :: R) := ⟨(drop_cons hD).1, (drop_cons hD).2, hD⟩
          have hyl : y ≤ 1048576 := by rw [← HD.out.1]; exact HP.out.2.2.2.2.2.2 _
          obtain ⟨bM, oM, rfl, hbM, -⟩ := (hSh.2.2.2 W (Only.refl _ _)).cells (by simp [natI])
          have HY : Hid (∀ W', Only (fun q => q = b) W W' → W'.cell? ⟨bM, oM, none⟩ = some (.int .i64 (y : Int))) := fun W' ho => by
            obtain ⟨b', o', e, -, hc⟩ := (hSh.2.2.2 W' ho).cells (by simp [natI])
            injection e with e
            injection e with e1 e2
            subst e1 e2
            exact hc 0 _ rfl
          have HSh : Hid (Shr W b (y :: R) (some ⟨bM, oM, none⟩) mm c) := hSh
          obtain ⟨s, hs⟩ : ∃ s, s = q + y := ⟨_, rfl⟩
          have u2 : IntKind.i64.wrap ((q : Int) + (y : Int)) = (s : Int) := by rw [IntKind.wrap_i64]; omega
          have hF2 : s = f1 i := by rw [HF1.out, HD.out.1, hs, HQ.out]
          have HF2 : Hid (s = f1 i) := hF2
          clear hD hk hSh hmm hs hF2
          go_upto_region 4 with fail
          obtain ⟨W2, hW2⟩ : ∃ Z, Z = W.alloc (.cells #[.int .i64 (xp : Int), .int .i64 (xl : Int), .int .i64 (xc : Int), .int .u8 (xk : Int)] 53) := ⟨_, rfl⟩
          rw [← hW2]
          have HW2 : Hid (Only (fun _ => False) W W2 ∧ Only (fun q => q = b) W W2) := by rw [hW2]; exact ⟨(Only.refl _ _).alloc _, (Only.refl _ _).alloc _⟩
          have HN2 : Hid (Nb W2 b (Sd.mix f1 f0 n i)) := HG.out.2.1.only HW2.out.1 (fun h => h)
          have d0 : W2.cell? ⟨b, i, none⟩ = some (.int .i64 (q : Int)) := by rw [HQ.out]; exact HN2.out.cell (Sd.mix_this hlt)
          have d1 : W2.frozen? ⟨b, i, none⟩ = false := HN2.out.fz _
          have lb : b < W2.heap.size := HN2.out.lt
          have HKS : Hid (∀ W', Only (fun q => q = b) W2 W' → W'.cell? ⟨bM, oM, none⟩ = some (.int .i64 (y : Int))) := fun W' ho => HY.out W' (HW2.out.2.trans ho)
          clear hW2 c0 c1 c2 c3
          refine wp_region_held_drew (S := fun W' => W'.cell? ⟨bM, oM, none⟩ = some (.int .i64 (y : Int))) (by kernel_rfl) (HKS.out _ (Only.refl _ _).drew) (fun hHeld => ?_)
          refine wpAnyH_take (i := 0) (oi := { dst := some 23, op := _, type := _, pos := _, after := _, guard := _ }) (v := .slice (some ⟨b, 0, none⟩) n n) rfl (by kernel_rfl) (by kernel_rfl) (by kernel_rfl) (fun _ _ _ h => h) (Or.inl ⟨by rfl, fun w hSw => by obtain y0 : w.cell? ⟨bM, oM, none⟩ = some (.int .i64 (y : Int)) := hSw; first | (go_simp; done) | go_simp⟩) (by assumption) ?_
          (try simp only [Act.put, List.setIfInBounds_toArray, List.set_cons_zero, List.set_cons_succ])
          refine wpAnyH_take (i := 1) (oi := { dst := some 24, op := _, type := _, pos := _, after := _, guard := _ }) (v := .int .i64 (i : Int)) rfl (by kernel_rfl) (by kernel_rfl) (by kernel_rfl) (fun _ _ _ h => h) (Or.inl ⟨by rfl, fun w hSw => by obtain y0 : w.cell? ⟨bM, oM, none⟩ = some (.int .i64 (y : Int)) := hSw; first | (go_simp; done) | go_simp⟩) (by assumption) ?_
          (try simp only [Act.put, List.setIfInBounds_toArray, List.set_cons_zero, List.set_cons_succ])
          refine wpAnyH_take (i := 2) (oi := { dst := some 25, op := _, type := _, pos := _, after := _, guard := _ }) (v := .pointer (some ⟨b, i, none⟩)) rfl (by kernel_rfl) (by kernel_rfl) (by kernel_rfl) (fun _ _ _ h => h) (Or.inl ⟨by rfl, fun w hSw => by obtain y0 : w.cell? ⟨bM, oM, none⟩ = some (.int .i64 (y : Int)) := hSw; first | (go_simp; done) | go_simp⟩) (by assumption) ?_
          (try simp only [Act.put, List.setIfInBounds_toArray, List.set_cons_zero, List.set_cons_succ])
          refine wpAnyH_take (i := 4) (oi := { dst := some 27, op := _, type := _, pos := _, after := _, guard := _ }) (v := .slice (some ⟨bM, oM, none⟩) mm c) rfl (by kernel_rfl) (by kernel_rfl) (by kernel_rfl) (fun _ _ _ h => h) (Or.inl ⟨by rfl, fun w hSw => by obtain y0 : w.cell? ⟨bM, oM, none⟩ = some (.int .i64 (y : Int)) := hSw; first | (go_simp; done) | go_simp⟩) (by assumption) ?_
          (try simp only [Act.put, List.setIfInBounds_toArray, List.set_cons_zero, List.set_cons_succ])
          refine wpAnyH_take (i := 5) (oi := { dst := some 28, op := _, type := _, pos := _, after := _, guard := _ }) (v := .pointer (some ⟨bM, oM, none⟩)) rfl (by kernel_rfl) (by kernel_rfl) (by kernel_rfl) (fun _ _ _ h => h) (Or.inl ⟨by rfl, fun w hSw => by obtain y0 : w.cell? ⟨bM, oM, none⟩ = some (.int .i64 (y : Int)) := hSw; first | (go_simp; done) | go_simp⟩) (by assumption) ?_
          (try simp only [Act.put, List.setIfInBounds_toArray, List.set_cons_zero, List.set_cons_succ])
          refine wpAnyH_take (i := 6) (oi := { dst := some 29, op := _, type := _, pos := _, after := _, guard := _ }) (v := .int .i64 (y : Int)) rfl (by kernel_rfl) (by kernel_rfl) (by kernel_rfl) (fun _ _ _ h => h) (Or.inl ⟨by rfl, fun w hSw => by obtain y0 : w.cell? ⟨bM, oM, none⟩ = some (.int .i64 (y : Int)) := hSw; first | (go_simp; done) | go_simp⟩) (by assumption) ?_
          (try simp only [Act.put, List.setIfInBounds_toArray, List.set_cons_zero, List.set_cons_succ])
          refine wpAnyH_ready (rs := [3]) (by kernel_rfl) (by simp) ?_
          refine AllReadyH.cons rfl (fun K hK => ?_) AllReadyH.nil
          rw [if_pos (by rfl)]
          go_simp
          refine hK.out _ _ (HKS.out _ (Only.refl _ _).drew) (fun hHeld => ?_)
          clear hK
          (try simp only [Act.put, List.setIfInBounds_toArray, List.set_cons_zero, List.set_cons_succ])
          refine wpAnyH_take (i := 7) (oi := { dst := some 30, op := _, type := _, pos := _, after := _, guard := _ }) (v := .int .i64 (s : Int)) rfl (by kernel_rfl) (by kernel_rfl) (by kernel_rfl) (fun _ _ _ h => h) (Or.inl ⟨by rfl, fun w hSw => by obtain y0 : w.cell? ⟨bM, oM, none⟩ = some (.int .i64 (y : Int)) := hSw; first | (go_simp; done) | go_simp⟩) (by assumption) ?_
          (try simp only [Act.put, List.setIfInBounds_toArray, List.set_cons_zero, List.set_cons_succ])
          refine wpAnyH_take (i := 8) (oi := { dst := some 31, op := _, type := _, pos := _, after := _, guard := _ }) (v := .pointer (some ⟨b, i, none⟩)) rfl (by kernel_rfl) (by kernel_rfl) (by kernel_rfl) (fun _ _ _ h => h) (Or.inl ⟨by rfl, fun w hSw => by obtain y0 : w.cell? ⟨bM, oM, none⟩ = some (.int .i64 (y : Int)) := hSw; first | (go_simp; done) | go_simp⟩) (by assumption) ?_
          (try simp only [Act.put, List.setIfInBounds_toArray, List.set_cons_zero, List.set_cons_succ])
          refine wpAnyH_ready (rs := [9]) (by kernel_rfl) (by simp) ?_
          refine AllReadyH.cons rfl (fun K hK => ?_) AllReadyH.nil
          rw [if_pos (by rfl)]
          go_simp
          refine hK.out _ _ (by first | exact HKS.out _ ((Only.refl (fun q => q = b) _).drew.setCell (p := ⟨b, i, none⟩) rfl _) | exact HKS.out _ (((Only.refl (fun q => q = b) _).setCell (p := ⟨b, i, none⟩) rfl _).drew)) (fun hHeld => ?_)
          clear hK
          (try simp only [Act.put, List.setIfInBounds_toArray, List.set_cons_zero, List.set_cons_succ])
          refine wpAnyH_done (by kernel_rfl) ?_ _
          clear hHeld
          have HN3 : Hid (Nb (W2.setCell ⟨b, i, none⟩ (.int .i64 (s : Int))) b (Sd.mix f1 f0 n (i + 1))) := by
            have h := HN2.out.set i s
            rw [HF2.out, Sd.mix_set hlt, ← HF2.out] at h
            exact h
          have HO3 : Hid (Only (fun q => q = b) W (W2.setCell ⟨b, i, none⟩ (.int .i64 (s : Int))).drew) := (HW2.out.2.setCell (p := ⟨b, i, none⟩) rfl _).drew
          by_cases hc1 : c = 1
          · subst hc1
            go_wp2_with fail
            go_roundg (n - (i + 1))
            case measure => omega
            case rel =>
              refine ⟨i + 1, _, _, _, _, rfl, rfl, by omega, rfl, by go_num, ?_, HN3.out, HG.out.2.2.trans HO3.out⟩
              rw [HS1.out, HD.out.2.1]
              exact HSh.out.last.keep HO3.out
          · go_wp2_with fail
            go_roundg (n - (i + 1))
            case measure => omega
            case rel =>
              refine ⟨i + 1, _, _, _, _, rfl, rfl, by omega, rfl, by go_num, ?_, HN3.out, HG.out.2.2.trans HO3.out⟩
              rw [HS1.out, HD.out.2.1]
              exact HSh.out.tail.keep HO3.out
      · have t2 : ((xk : Int) == 1) = false := by rw [beq_eq_false_iff_ne]; omega
        have HS1 : Hid (Sp.sps C x (i + 1) = Sp.sps C x i) := sps_no (by rw [HA.out]; exact hk)
        have HF1 : Hid (f1 i = f0 i) := by rw [HF.out]; show f0 i + (if (Sp.at' C (x + i)).kind = 1 then _ else _) = _; rw [HA.out, if_neg hk]; rfl
        clear hk
        go_wp2_with fail
        go_roundg (n - (i + 1))
        case measure => omega
        case rel =>
          have ho : Only (fun q => q = b) W (W.alloc (.cells #[.int .i64 (xp : Int), .int .i64 (xl : Int), .int .i64 (xc : Int), .int .u8 (xk : Int)] 53)) := (Only.refl _ _).alloc _
          refine ⟨i + 1, _, _, _, _, rfl, rfl, by omega, rfl, by go_num, ?_, ?_, HG.out.2.2.trans ho⟩
          · rw [HS1.out]
            exact HG.out.1.keep ho
          · rw [Sd.mix_skip HF1.out]
            exact HG.out.2.1.only ((Only.refl (fun _ => False) _).alloc _) (fun h => h)
    · have t1 : decide ((i : Int) < (n : Int)) = false := decide_eq_false (by omega)
      have hin : i = n := by omega
      subst hin
      go_wp2_with fail
      go_end0
      have hn := HG.out.2.1
      rw [Sd.mix_full] at hn
      exact ⟨rfl, hn, HG.out.2.2⟩
end Go.Proofs.Ytegoadhnilmchaa
