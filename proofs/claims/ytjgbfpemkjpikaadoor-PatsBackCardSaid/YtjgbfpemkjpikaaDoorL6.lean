/-
  pats.told: a word that is told.
-/
import Derived.Test.YtjgbfpemkjpikaaDoorL5
namespace Go.Proofs.YtjgbfpemkjpikaaDoor
open Go.RowKit Go.Maps
set_option linter.unusedVariables false
set_option linter.unusedSimpArgs false
theorem Nl.cell {w : World} {g n : Nat} {L : List Nat} (h : Nl w (some ⟨g, 0, none⟩) n L) (j x : Nat) (hj : L[j]? = some x) : w.cell? ⟨g, 0 + j, none⟩ = some (.int .i32 (x : Int)) := by
  obtain ⟨hl, b, off, h1, h2⟩ := h
  have hjl := (List.getElem?_eq_some_iff.1 hj).1
  obtain ⟨e, _⟩ := h1 (by omega)
  injection e with e
  injection e with e1 e2 _
  subst e1
  subst e2
  exact h2 j x hj
theorem Nl.blk {w : World} {g n : Nat} {L : List Nat} (h : Nl w (some ⟨g, 0, none⟩) n L) (hn : 0 < n) : g < w.heap.size := by
  obtain ⟨hl, b, off, h1, h2⟩ := h
  obtain ⟨e, hb⟩ := h1 hn
  injection e with e
  injection e with e1 e2 _
  subst e1
  exact hb
set_option maxRecDepth 100000 in
set_option maxHeartbeats 4000000 in
theorem told_any (S : List (Nat × Nat × Nat)) (a : Option Addr) (n c : Nat) (w : World) (hS : Sw w a n S) (hn : n ≤ 10000) :
    Calls Tryd.prog 25 #[.slice a n c] w (rdP w (Pt.told (rs S))) := by
  obtain ⟨PR, hPR⟩ : ∃ PR, PR = Pt.told (rs S) := ⟨_, rfl⟩
  rw [← hPR]
  have HZ : Hid (∀ W, Only (fun _ => False) (w.alloc (.cells #[.slice none 0 0, .slice none 0 0] 37)) W → W.heap[w.heap.size]? = some (.cells #[.slice none 0 0, .slice none 0 0] 37 (0, 0))) := fun W h => (h.block _ (by simp) (fun h => h)).trans (heap_alloc_new _ _)
  have HP := parted_hy S a n c (w.alloc (.cells #[.slice none 0 0, .slice none 0 0] 37)) (hS.keep ((Only.refl _ _).alloc _)) hn
  unfold Pt.told at hPR
  cases hp : Pt.parted Pt.isHy (rs S) with
  | none =>
    rw [hp] at HP hPR
    simp only at hPR
    subst hPR
    have HC : Hid (Calls Tryd.prog 32 #[.slice a n c, .func (.func 37) #[] #[]] (w.alloc (.cells #[.slice none 0 0, .slice none 0 0] 37)) fun e w' => e = .returned (.tuple #[.slice none 0 0, .slice none 0 0, .bool false]) ∧ Only (fun _ => False) (w.alloc (.cells #[.slice none 0 0, .slice none 0 0] 37)) w') := HP
    clear HP hp hS
    go_enter Tryd.func25, Tryd.ntmps25
    go_wp2_with (go_at_call 32; refine Calls.mono HC.out ?_; rintro e w1 ⟨rfl, ho1⟩; have hb := HZ.out w1 ho1; have HB : Hid (w1.heap[w.heap.size]? = some (.cells #[.slice none 0 0, .slice none 0 0] 37 (0, 0))) := hb; have k0 : w1.cell? ⟨w.heap.size, 0, none⟩ = some (.slice none 0 0) := cell_blk hb; have k1 : w1.cell? ⟨w.heap.size, 1, none⟩ = some (.slice none 0 0) := cell_blk hb; have f0 := fz_blk hb 0; have f1 := fz_blk hb 1; have hl1 : w.heap.size < w1.heap.size := (Array.getElem?_eq_some_iff.1 hb).1; have HO1 : Hid (Only (fun _ => False) w w1) := ((Only.refl _ _).alloc _).trans ho1; clear ho1 hb)
    refine bodyPost_ret (v := .tuple #[.agg #[.slice none 0 0, .slice none 0 0], .bool false]) (results_row1 (p := 2) (u := 3) rfl _ _ w.heap.size 37 #[.slice none 0 0, .slice none 0 0] (0, 0) _ rfl (set2_blk HB.out) Tryd.underlying37 rfl sz37 rfl) rfl ?_
    exact ⟨rfl, set2_only HO1.out (Nat.le_refl _) _ _⟩
  | some r =>
    obtain ⟨L, M⟩ := r
    rw [hp] at HP hPR
    simp only at hPR
    have HMK : Hid (∀ x ∈ M, x = 0 ∨ Pt.isHy x = true) := parted_marks hp
    obtain ⟨nL, hnL⟩ : ∃ nL, nL = L.length := ⟨_, rfl⟩
    have HC : Hid (Calls Tryd.prog 32 #[.slice a n c, .func (.func 37) #[] #[]] (w.alloc (.cells #[.slice none 0 0, .slice none 0 0] 37)) fun e w' => ∃ gL cL gM cM, e = .returned (.tuple #[.slice (some ⟨gL, 0, none⟩) nL cL, .slice (some ⟨gM, 0, none⟩) (nL + 1) cM, .bool true]) ∧ Nl w' (some ⟨gL, 0, none⟩) nL L ∧ Nl w' (some ⟨gM, 0, none⟩) (nL + 1) M ∧ nL ≤ cL ∧ cL ≤ 9223372036854775807 ∧ w.heap.size + 1 ≤ gL ∧ Only (fun _ => False) (w.alloc (.cells #[.slice none 0 0, .slice none 0 0] 37)) w') := by
      refine Calls.mono HP ?_
      rintro e w' ⟨gL, cL, gM, cM, he, h1, h2, ho, h3, h4, h5⟩
      rw [h3, ← hnL] at he h2
      rw [← hnL] at h1
      exact ⟨gL, cL, gM, cM, he, own_nl h1 hnL.symm, own_nl h2 (by rw [h3, ← hnL]), (cap_of h1).1, (cap_of h1).2, by have := (h1.lt gL rfl).1; simpa using this, ho⟩
    obtain ⟨hL0, hL24, hML⟩ : 0 < nL ∧ nL ≤ 24 ∧ M.length = nL + 1 := by
      unfold Pt.parted at hp
      cases hr : Pt.raw Pt.isHy (rs S) 0 with
      | none => rw [hr] at hp; cases hp
      | some r =>
        obtain ⟨L', M'⟩ := r
        rw [hr] at hp
        simp only at hp
        split at hp
        · cases hp
        · rename_i hh
          injection hp with hp
          injection hp with e1 e2
          subst e1 e2
          have := (Pt.raw_len (by decide) _ _ _ _ hr).1
          simp only [not_or] at hh
          exact ⟨by omega, by omega, by omega⟩
    clear HP hp hS
    obtain ⟨m0, hm0⟩ : ∃ m0, M[0]? = some m0 := ⟨_, List.getElem?_eq_getElem (by omega)⟩
    obtain ⟨z, hz⟩ : ∃ z, M[nL]? = some z := ⟨_, List.getElem?_eq_getElem (by omega)⟩
    have HM0 : Hid (M[0]? = some m0) := hm0
    have HMZ : Hid (M[nL]? = some z) := hz
    have hh0 : M.head? = some m0 := by rw [List.head?_eq_getElem?]; exact hm0
    rw [hh0, ← hnL, hz] at hPR
    obtain ⟨bD, hbD⟩ : ∃ bD, bD = L.any Pt.isDg := ⟨_, rfl⟩
    obtain ⟨bP, hbP⟩ : ∃ bP, bP = decide (46 ∈ L) := ⟨_, rfl⟩
    have HBD : Hid (bD = L.any Pt.isDg) := hbD
    have HBP : Hid (bP = decide (46 ∈ L)) := hbP
    have HLL : Hid (nL = L.length) := hnL
    have HMLL : Hid (M.length = nL + 1) := hML
    have nL0 : 0 < nL := hL0
    clear hnL hML hm0 hz hh0
    have nLi : (nL : Int) < (nL : Int) + 1 := by omega
    by_cases q0 : m0 = 0
    · subst q0
      by_cases qz : z = 0
      · subst qz
        cases bD with
        | true =>
          rw [if_pos (Or.inr (Or.inr (Or.inl hbD.symm)))] at hPR
          subst hPR
          clear hbD hbP
          go_enter Tryd.func25, Tryd.ntmps25
          go_wp2_with (first
            | (go_at_call 32; refine Calls.mono HC.out ?_; rintro e w1 ⟨gL, cL, gM, cM, rfl, hNL, hNM, hc1, hc2, hgL, ho1⟩; have hb := HZ.out w1 ho1; have HB : Hid (w1.heap[w.heap.size]? = some (.cells #[.slice none 0 0, .slice none 0 0] 37 (0, 0))) := hb; have k0 : w1.cell? ⟨w.heap.size, 0, none⟩ = some (.slice none 0 0) := cell_blk hb; have k1 : w1.cell? ⟨w.heap.size, 1, none⟩ = some (.slice none 0 0) := cell_blk hb; have f0 := fz_blk hb 0; have f1 := fz_blk hb 1; have hl1 : w.heap.size < w1.heap.size := (Array.getElem?_eq_some_iff.1 hb).1; have HO1 : Hid (Only (fun _ => False) w w1) := ((Only.refl _ _).alloc _).trans ho1; have hM0 := hNM.cell 0 _ HM0.out; rw [Nat.zero_add] at hM0; have hMz := hNM.cell nL _ HMZ.out; rw [Nat.zero_add] at hMz; have hgM : gM < w1.heap.size := hNM.blk (Nat.succ_pos _); have HCD : Hid (Calls Tryd.prog 38 #[.slice (some ⟨gL, 0, none⟩) nL cL, .func (.func 33) #[] #[]] w1 fun e w' => e = .returned (.bool true) ∧ w' = w1) := (by rw [HBD.out]; exact containsDg_any L _ nL cL w1 hNL (by omega)); have HCP : Hid (Calls Tryd.prog 39 #[.slice (some ⟨gL, 0, none⟩) nL cL, .int .i32 ((46 : Nat) : Int)] w1 fun e w' => e = .returned (.bool bP) ∧ w' = w1) := (by rw [HBP.out]; exact contains_any L _ nL cL 46 w1 hNL (by omega)); have HNL : Hid (Nl w1 (some ⟨gL, 0, none⟩) nL L) := hNL; have HNM : Hid (Nl w1 (some ⟨gM, 0, none⟩) (nL + 1) M) := hNM; have HOA : Hid (Only (fun _ => False) (w.alloc (.cells #[.slice none 0 0, .slice none 0 0] 37)) w1) := ho1; clear ho1 hb hNL hNM hc1 hc2)
            | (go_at_call 38; refine Calls.mono HCD.out ?_; rintro e w2 ⟨rfl, hw2⟩; obtain rfl := hw2.symm))
          refine bodyPost_ret (v := .tuple #[.agg #[.slice none 0 0, .slice none 0 0], .bool false]) (results_row1 (p := 2) (u := 3) rfl _ _ w.heap.size 37 #[.slice none 0 0, .slice none 0 0] (0, 0) _ rfl (set2_blk HB.out) Tryd.underlying37 rfl sz37 rfl) rfl ?_
          exact ⟨rfl, set2_only HO1.out (Nat.le_refl _) _ _⟩
        | false =>
          cases bP with
          | true =>
            rw [if_pos (Or.inr (Or.inr (Or.inr (of_decide_eq_true hbP.symm))))] at hPR
            subst hPR
            clear hbD hbP
            go_enter Tryd.func25, Tryd.ntmps25
            go_wp2_with (first
              | (go_at_call 32; refine Calls.mono HC.out ?_; rintro e w1 ⟨gL, cL, gM, cM, rfl, hNL, hNM, hc1, hc2, hgL, ho1⟩; have hb := HZ.out w1 ho1; have HB : Hid (w1.heap[w.heap.size]? = some (.cells #[.slice none 0 0, .slice none 0 0] 37 (0, 0))) := hb; have k0 : w1.cell? ⟨w.heap.size, 0, none⟩ = some (.slice none 0 0) := cell_blk hb; have k1 : w1.cell? ⟨w.heap.size, 1, none⟩ = some (.slice none 0 0) := cell_blk hb; have f0 := fz_blk hb 0; have f1 := fz_blk hb 1; have hl1 : w.heap.size < w1.heap.size := (Array.getElem?_eq_some_iff.1 hb).1; have HO1 : Hid (Only (fun _ => False) w w1) := ((Only.refl _ _).alloc _).trans ho1; have hM0 := hNM.cell 0 _ HM0.out; rw [Nat.zero_add] at hM0; have hMz := hNM.cell nL _ HMZ.out; rw [Nat.zero_add] at hMz; have hgM : gM < w1.heap.size := hNM.blk (Nat.succ_pos _); have HCD : Hid (Calls Tryd.prog 38 #[.slice (some ⟨gL, 0, none⟩) nL cL, .func (.func 33) #[] #[]] w1 fun e w' => e = .returned (.bool false) ∧ w' = w1) := (by rw [HBD.out]; exact containsDg_any L _ nL cL w1 hNL (by omega)); have HCP : Hid (Calls Tryd.prog 39 #[.slice (some ⟨gL, 0, none⟩) nL cL, .int .i32 ((46 : Nat) : Int)] w1 fun e w' => e = .returned (.bool true) ∧ w' = w1) := (by rw [HBP.out]; exact contains_any L _ nL cL 46 w1 hNL (by omega)); have HNL : Hid (Nl w1 (some ⟨gL, 0, none⟩) nL L) := hNL; have HNM : Hid (Nl w1 (some ⟨gM, 0, none⟩) (nL + 1) M) := hNM; have HOA : Hid (Only (fun _ => False) (w.alloc (.cells #[.slice none 0 0, .slice none 0 0] 37)) w1) := ho1; clear ho1 hb hNL hNM hc1 hc2)
              | (go_at_call 38; refine Calls.mono HCD.out ?_; rintro e w2 ⟨rfl, hw2⟩; obtain rfl := hw2.symm)
              | (go_at_call 39; refine Calls.mono HCP.out ?_; rintro e w2 ⟨rfl, hw2⟩; obtain rfl := hw2.symm))
            refine bodyPost_ret (v := .tuple #[.agg #[.slice none 0 0, .slice none 0 0], .bool false]) (results_row1 (p := 2) (u := 3) rfl _ _ w.heap.size 37 #[.slice none 0 0, .slice none 0 0] (0, 0) _ rfl (set2_blk HB.out) Tryd.underlying37 rfl sz37 rfl) rfl ?_
            exact ⟨rfl, set2_only HO1.out (Nat.le_refl _) _ _⟩
          | false =>
            rw [if_neg (by
              rintro (h | h | h | h)
              · exact h rfl
              · exact h rfl
              · rw [← hbD] at h; cases h
              · have := of_decide_eq_false hbP.symm; exact this h)] at hPR
            subst hPR
            clear hbD hbP
            go_enter Tryd.func25, Tryd.ntmps25
            go_wp2_with (first
              | (go_at_call 32; refine Calls.mono HC.out ?_; rintro e w1 ⟨gL, cL, gM, cM, rfl, hNL, hNM, hc1, hc2, hgL, ho1⟩; have hb := HZ.out w1 ho1; have HB : Hid (w1.heap[w.heap.size]? = some (.cells #[.slice none 0 0, .slice none 0 0] 37 (0, 0))) := hb; have k0 : w1.cell? ⟨w.heap.size, 0, none⟩ = some (.slice none 0 0) := cell_blk hb; have k1 : w1.cell? ⟨w.heap.size, 1, none⟩ = some (.slice none 0 0) := cell_blk hb; have f0 := fz_blk hb 0; have f1 := fz_blk hb 1; have hl1 : w.heap.size < w1.heap.size := (Array.getElem?_eq_some_iff.1 hb).1; have HO1 : Hid (Only (fun _ => False) w w1) := ((Only.refl _ _).alloc _).trans ho1; have hM0 := hNM.cell 0 _ HM0.out; rw [Nat.zero_add] at hM0; have hMz := hNM.cell nL _ HMZ.out; rw [Nat.zero_add] at hMz; have hgM : gM < w1.heap.size := hNM.blk (Nat.succ_pos _); have HCD : Hid (Calls Tryd.prog 38 #[.slice (some ⟨gL, 0, none⟩) nL cL, .func (.func 33) #[] #[]] w1 fun e w' => e = .returned (.bool false) ∧ w' = w1) := (by rw [HBD.out]; exact containsDg_any L _ nL cL w1 hNL (by omega)); have HCP : Hid (Calls Tryd.prog 39 #[.slice (some ⟨gL, 0, none⟩) nL cL, .int .i32 ((46 : Nat) : Int)] w1 fun e w' => e = .returned (.bool false) ∧ w' = w1) := (by rw [HBP.out]; exact contains_any L _ nL cL 46 w1 hNL (by omega)); have HNL : Hid (Nl w1 (some ⟨gL, 0, none⟩) nL L) := hNL; have HNM : Hid (Nl w1 (some ⟨gM, 0, none⟩) (nL + 1) M) := hNM; have HOA : Hid (Only (fun _ => False) (w.alloc (.cells #[.slice none 0 0, .slice none 0 0] 37)) w1) := ho1; clear ho1 hb hNL hNM hc1 hc2)
              | (go_at_call 38; refine Calls.mono HCD.out ?_; rintro e w2 ⟨rfl, hw2⟩; obtain rfl := hw2.symm)
              | (go_at_call 39; refine Calls.mono HCP.out ?_; rintro e w2 ⟨rfl, hw2⟩; obtain rfl := hw2.symm)
              | (go_at_call 35; refine Calls.mono (valued_hy M _ (nL + 1) cM w1 HNM.out (by omega)) ?_; rintro e w3 ⟨rfl, hv3, ho3⟩; have hb3 := HZ.out w3 (HOA.out.trans ho3); have HB3 : Hid (w3.heap[w.heap.size]? = some (.cells #[.slice none 0 0, .slice none 0 0] 37 (0, 0))) := hb3; have k03 : w3.cell? ⟨w.heap.size, 0, none⟩ = some (.slice none 0 0) := cell_blk hb3; have k13 : w3.cell? ⟨w.heap.size, 1, none⟩ = some (.slice none 0 0) := cell_blk hb3; have f03 := fz_blk hb3 0; have f13 := fz_blk hb3 1; have hl3 : w.heap.size < w3.heap.size := (Array.getElem?_eq_some_iff.1 hb3).1; have HO3 : Hid (Only (fun _ => False) w1 w3) := ho3; have HV3 : Hid (w3.heap[w1.heap.size]? = some (.cells (u8s (M.map Pt.hval)).toArray 5 (0, 0))) := hv3; clear hb3 ho3 hv3))
            refine bodyPost_ret (v := .tuple #[.agg #[.slice (some ⟨gL, 0, none⟩) nL cL, .slice (some ⟨w1.heap.size, 0, none⟩) (nL + 1) (nL + 1)], .bool true]) (results_row1 (p := 2) (u := 3) rfl _ _ w.heap.size 37 #[.slice (some ⟨gL, 0, none⟩) nL cL, .slice (some ⟨w1.heap.size, 0, none⟩) (nL + 1) (nL + 1)] (0, 0) _ rfl (set2_blk HB3.out) Tryd.underlying37 rfl sz37 rfl) rfl ?_
            exact fin_pat (w := w) (w1 := w1) (w3 := w3) HOA.out HO3.out HNL.out HLL.out HV3.out (by rw [List.length_map]; exact HMLL.out) (by omega) hgL nL0
      · rw [if_pos (Or.inr (Or.inl (by intro e; injection e with e; exact qz e)))] at hPR
        subst hPR
        have r1 : ((z : Int) == 0) = false := by simp; omega
        have r2 : ¬ (z : Int) = 0 := by omega
        clear hbD hbP
        go_enter Tryd.func25, Tryd.ntmps25
        go_wp2_with (first
          | (go_at_call 32; refine Calls.mono HC.out ?_; rintro e w1 ⟨gL, cL, gM, cM, rfl, hNL, hNM, hc1, hc2, hgL, ho1⟩; have hb := HZ.out w1 ho1; have HB : Hid (w1.heap[w.heap.size]? = some (.cells #[.slice none 0 0, .slice none 0 0] 37 (0, 0))) := hb; have k0 : w1.cell? ⟨w.heap.size, 0, none⟩ = some (.slice none 0 0) := cell_blk hb; have k1 : w1.cell? ⟨w.heap.size, 1, none⟩ = some (.slice none 0 0) := cell_blk hb; have f0 := fz_blk hb 0; have f1 := fz_blk hb 1; have hl1 : w.heap.size < w1.heap.size := (Array.getElem?_eq_some_iff.1 hb).1; have HO1 : Hid (Only (fun _ => False) w w1) := ((Only.refl _ _).alloc _).trans ho1; have hM0 := hNM.cell 0 _ HM0.out; rw [Nat.zero_add] at hM0; have hMz := hNM.cell nL _ HMZ.out; rw [Nat.zero_add] at hMz; have hgM : gM < w1.heap.size := hNM.blk (Nat.succ_pos _); have HCD : Hid (Calls Tryd.prog 38 #[.slice (some ⟨gL, 0, none⟩) nL cL, .func (.func 33) #[] #[]] w1 fun e w' => e = .returned (.bool bD) ∧ w' = w1) := (by rw [HBD.out]; exact containsDg_any L _ nL cL w1 hNL (by omega)); have HCP : Hid (Calls Tryd.prog 39 #[.slice (some ⟨gL, 0, none⟩) nL cL, .int .i32 ((46 : Nat) : Int)] w1 fun e w' => e = .returned (.bool bP) ∧ w' = w1) := (by rw [HBP.out]; exact contains_any L _ nL cL 46 w1 hNL (by omega)); have HNL : Hid (Nl w1 (some ⟨gL, 0, none⟩) nL L) := hNL; have HNM : Hid (Nl w1 (some ⟨gM, 0, none⟩) (nL + 1) M) := hNM; have HOA : Hid (Only (fun _ => False) (w.alloc (.cells #[.slice none 0 0, .slice none 0 0] 37)) w1) := ho1; clear ho1 hb hNL hNM hc1 hc2))
        refine bodyPost_ret (v := .tuple #[.agg #[.slice none 0 0, .slice none 0 0], .bool false]) (results_row1 (p := 2) (u := 3) rfl _ _ w.heap.size 37 #[.slice none 0 0, .slice none 0 0] (0, 0) _ rfl (set2_blk HB.out) Tryd.underlying37 rfl sz37 rfl) rfl ?_
        exact ⟨rfl, set2_only HO1.out (Nat.le_refl _) _ _⟩
    · rw [if_pos (Or.inl (by intro e; injection e with e; exact q0 e))] at hPR
      subst hPR
      have r1 : ((m0 : Int) == 0) = false := by simp; omega
      have r2 : ¬ (m0 : Int) = 0 := by omega
      clear hbD hbP
      go_enter Tryd.func25, Tryd.ntmps25
      go_wp2_with (first
        | (go_at_call 32; refine Calls.mono HC.out ?_; rintro e w1 ⟨gL, cL, gM, cM, rfl, hNL, hNM, hc1, hc2, hgL, ho1⟩; have hb := HZ.out w1 ho1; have HB : Hid (w1.heap[w.heap.size]? = some (.cells #[.slice none 0 0, .slice none 0 0] 37 (0, 0))) := hb; have k0 : w1.cell? ⟨w.heap.size, 0, none⟩ = some (.slice none 0 0) := cell_blk hb; have k1 : w1.cell? ⟨w.heap.size, 1, none⟩ = some (.slice none 0 0) := cell_blk hb; have f0 := fz_blk hb 0; have f1 := fz_blk hb 1; have hl1 : w.heap.size < w1.heap.size := (Array.getElem?_eq_some_iff.1 hb).1; have HO1 : Hid (Only (fun _ => False) w w1) := ((Only.refl _ _).alloc _).trans ho1; have hM0 := hNM.cell 0 _ HM0.out; rw [Nat.zero_add] at hM0; have hMz := hNM.cell nL _ HMZ.out; rw [Nat.zero_add] at hMz; have hgM : gM < w1.heap.size := hNM.blk (Nat.succ_pos _); have HCD : Hid (Calls Tryd.prog 38 #[.slice (some ⟨gL, 0, none⟩) nL cL, .func (.func 33) #[] #[]] w1 fun e w' => e = .returned (.bool bD) ∧ w' = w1) := (by rw [HBD.out]; exact containsDg_any L _ nL cL w1 hNL (by omega)); have HCP : Hid (Calls Tryd.prog 39 #[.slice (some ⟨gL, 0, none⟩) nL cL, .int .i32 ((46 : Nat) : Int)] w1 fun e w' => e = .returned (.bool bP) ∧ w' = w1) := (by rw [HBP.out]; exact contains_any L _ nL cL 46 w1 hNL (by omega)); have HNL : Hid (Nl w1 (some ⟨gL, 0, none⟩) nL L) := hNL; have HNM : Hid (Nl w1 (some ⟨gM, 0, none⟩) (nL + 1) M) := hNM; have HOA : Hid (Only (fun _ => False) (w.alloc (.cells #[.slice none 0 0, .slice none 0 0] 37)) w1) := ho1; clear ho1 hb hNL hNM hc1 hc2))
      refine bodyPost_ret (v := .tuple #[.agg #[.slice none 0 0, .slice none 0 0], .bool false]) (results_row1 (p := 2) (u := 3) rfl _ _ w.heap.size 37 #[.slice none 0 0, .slice none 0 0] (0, 0) _ rfl (set2_blk HB.out) Tryd.underlying37 rfl sz37 rfl) rfl ?_
      exact ⟨rfl, set2_only HO1.out (Nat.le_refl _) _ _⟩
end Go.Proofs.YtjgbfpemkjpikaaDoor
