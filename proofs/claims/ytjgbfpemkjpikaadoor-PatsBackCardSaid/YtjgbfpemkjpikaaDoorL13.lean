/-
  pats.Parse.
-/
import Derived.Test.YtjgbfpemkjpikaaDoorL12
namespace Go.Proofs.YtjgbfpemkjpikaaDoor
open Go.RowKit Go.Maps
set_option linter.unusedVariables false
set_option linter.unusedSimpArgs false
theorem Sw.ofB {w w' : World} {g off n : Nat} {S : List (Nat × Nat × Nat)} (h : Sw w (some ⟨g, off, none⟩) n S) (hn : 0 < n) (hs : w.heap.size ≤ w'.heap.size) (e : w'.heap[g]? = w.heap[g]?) : Sw w' (some ⟨g, off, none⟩) n S := by
  obtain ⟨hl, b, off', h1, h2⟩ := h
  obtain ⟨e1, hb⟩ := h1 hn
  injection e1 with e1
  injection e1 with e1 e2 _
  subst e1
  subst e2
  have hk := fun q => World.cell?_of_block (a := ⟨g, q, none⟩) e
  refine ⟨hl, g, off, fun h => ⟨rfl, by omega⟩, fun j x hj => ?_⟩
  obtain ⟨c0, c1, c2⟩ := h2 j x hj
  exact ⟨(hk _).trans c0, (hk _).trans c1, (hk _).trans c2⟩
theorem words_any2 (S : List (Nat × Nat × Nat)) (a : Option Addr) (n c b off nC : Nat) (C : List (Nat × Nat)) (w : World) (hS : Sw w a n S) (ha : 0 < n → a = some ⟨b, off, none⟩) (hn : n ≤ 10000) (hnc : n ≤ c) (hC : C = cuts (rs S) 0 0) (hnC : nC = C.length) :
    Calls Tryd.prog 14 #[.slice a n c] w fun e w' => ∃ aC cC, e = .returned (.slice aC nC cC) ∧ Wd w w' aC cC nC b off C := by
  subst hnC
  subst hC
  exact words_any S a n c b off w hS ha hn hnc
theorem runs_zero {S : List (Nat × Nat × Nat)} {C : List (Nat × Nat)} {i : Nat} {p : Nat × Nat} {P Q P' Q' : List Pt.Pat} (h : C[i]? = some p) (hr : (0, P', Q') = addR (rs (wordOf S p)) P Q) : runs S (C.drop i) P Q = runs S (C.drop (i + 1)) P' Q' := by
  rw [List.drop_eq_getElem_cons (List.getElem?_eq_some_iff.1 h).1, (List.getElem?_eq_some_iff.1 h).2, runs, ← hr, if_pos rfl]
theorem runs_fault {S : List (Nat × Nat × Nat)} {C : List (Nat × Nat)} {i c : Nat} {p : Nat × Nat} {P Q P' Q' : List Pt.Pat} (h : C[i]? = some p) (hr : (c, P', Q') = addR (rs (wordOf S p)) P Q) (hc : c ≠ 0) : runs S (C.drop i) P Q = (c, atOf S p, [], []) := by
  rw [List.drop_eq_getElem_cons (List.getElem?_eq_some_iff.1 h).1, (List.getElem?_eq_some_iff.1 h).2, runs, ← hr, if_neg hc]
theorem bytes_cells {wc : World} {s : ByteArray} {r cp e : Nat} {z : Nat × Nat} (h : wc.heap[r]? = some (.cells (bytesRow s cp) e z)) : ∀ j, j < s.size → wc.cell? ⟨r, 0 + j, none⟩ = some (.int .u8 (bx s j : Nat)) := fun j hj => by
  have hj' : j < s.data.size := hj
  rw [Nat.zero_add, cell_of_row _ _ _ _ _ _ h, bytesRow_at s cp j hj']
  simp only [bx]
  rw [Array.getElem?_eq_getElem hj']
  rfl
theorem cuts_len : ∀ (R : List Nat) (i f : Nat), (cuts R i f).length ≤ R.length + 1
  | [], i, f => by
    unfold cuts
    split <;> simp
  | c :: cs, i, f => by
    unfold cuts
    have h1 := cuts_len cs (i + 1) (i + 1)
    have h2 := cuts_len cs (i + 1) f
    rw [List.length_cons]
    split
    · split
      · rw [List.length_cons]; omega
      · omega
    · omega
theorem Ou.keepB {S : Nat → Prop} {W W' : World} {o B : Nat} {xs ys : List Qd} {vL vW : Value} (h : Ou W o B xs ys vL vW) (ho : Only S W W') (hS : ∀ b, S b → b < o) : Ou W' o B xs ys vL vW := by
  have hob := h.ob
  refine ⟨h.ob, Nat.le_trans h.bs ho.size, (ho.block o h.lt (fun e => by have := hS _ e; omega)).trans h.blk, own_only h.rL ho (fun g hg e => by have := hS g e; omega), own_only h.rW ho (fun g hg e => by have := hS g e; omega), h.ap, fun q hq => ?_⟩
  obtain ⟨k1, k2⟩ := h.qx q hq
  have := k2.bL
  have := k2.bV
  exact ⟨k1.ofB ho.size (ho.block _ k1.bl (fun e => by have := hS _ e; omega)) (ho.block _ k1.bv (fun e => by have := hS _ e; omega)), k2⟩
theorem put4_only (W : World) (a b : Nat) (u v x y : Value) : Only (fun g => g = a ∨ g = b) W ((((W.setCell ⟨a, 0, none⟩ u).setCell ⟨a, 1, none⟩ v).setCell ⟨b, 0, none⟩ x).setCell ⟨b, 1, none⟩ y) :=
  ((((Only.refl _ W).setCell (p := ⟨a, 0, none⟩) (Or.inl rfl) u).setCell (p := ⟨a, 1, none⟩) (Or.inl rfl) v).setCell (p := ⟨b, 0, none⟩) (Or.inr rfl) x).setCell (p := ⟨b, 1, none⟩) (Or.inr rfl) y
theorem sw_at0 {W : World} {sb f n : Nat} {S : List (Nat × Nat × Nat)} {t : Nat} (h : Sw W (some ⟨sb, 0, none⟩) n S) (hf : f < n) : W.cell? ⟨sb, f * 3 + 1, none⟩ = some (.int .i64 (atOf S (f, t) : Int)) := by
  obtain ⟨b, off, r, p, q, e, hb, hx, c0, c1, c2⟩ := h.at hf
  injection e with e
  injection e with e1 e2 _
  subst e1
  subst e2
  rw [Nat.zero_add] at c1
  have : atOf S (f, t) = p := by unfold atOf; simp only [hx]
  rw [this]
  exact c1
set_option maxRecDepth 100000 in
set_option maxHeartbeats 4000000 in
theorem parse_any (s : ByteArray) (w : World) (hz : 2 ≤ w.heap.size) (hT : Lib.Utf8Tabs 0 1 w) : Calls Tryd.prog 10 #[.string s] w (paP w (parseR s)) := by
  obtain ⟨PR, hPR⟩ : ∃ PR, PR = parseR s := ⟨_, rfl⟩
  rw [← hPR]
  unfold parseR at hPR
  by_cases hbig : 4096 < s.size
  · rw [if_pos hbig] at hPR
    subst hPR
    have t1 : (4096 : Int) < (s.size : Int) := by omega
    go_enter Tryd.func10, Tryd.ntmps10
    go_wp2_with fail
    refine bodyPost_ret (v := .tuple #[.agg #[.slice none 0 0, .slice none 0 0], .agg #[.int .i64 24, .int .i64 4096]]) (results_row_row (p := 2) (q := 3) rfl _ _ w.heap.size 28 #[.slice none 0 0, .slice none 0 0] (0, 0) _ rfl ((Below.heap_alloc _ _ _ (by simp)).trans (heap_alloc_new w _)) Tryd.underlying28 rfl sz28 (w.heap.size + 1) 31 #[.int .i64 24, .int .i64 4096] (0, 0) _ rfl (heap_alloc2_new w _ _) Tryd.underlying31 rfl sz31) rfl ?_
    exact ⟨none, 0, none, 0, rfl, pw_nil _, pw_nil _, ((Only.refl _ _).alloc _).alloc _⟩
  rw [if_neg hbig] at hPR
  have t1 : ¬ (4096 : Int) < (s.size : Int) := by omega
  have hXs : (((w.alloc (.cells #[.slice none 0 0, .slice none 0 0] 28)).alloc (.cells #[.int .i64 0, .int .i64 0] 31)).alloc (.cells #[.slice none 0 0, .slice none 0 0] 28)).heap.size = w.heap.size + 1 + 1 + 1 := by simp
  have hcv := run_bytes_of_string (P := Tryd.prog) (((w.alloc (.cells #[.slice none 0 0, .slice none 0 0] 28)).alloc (.cells #[.int .i64 0, .int .i64 0] 31)).alloc (.cells #[.slice none 0 0, .slice none 0 0] 28)) 9 35 5 s Tryd.underlying9 Tryd.underlying35 Tryd.underlying5
  obtain ⟨cp, hcp⟩ : ∃ cp, cp = grownCap (((w.alloc (.cells #[.slice none 0 0, .slice none 0 0] 28)).alloc (.cells #[.int .i64 0, .int .i64 0] 31)).alloc (.cells #[.slice none 0 0, .slice none 0 0] 28)) s.size 0 5 := ⟨_, rfl⟩
  rw [← hcp] at hcv
  have hcp2 : s.size ≤ cp := by rw [hcp]; exact grownCap_ge _ _ _ _
  obtain ⟨wc, hwc⟩ : ∃ wc, wc = World.alloc (World.drew (((w.alloc (.cells #[.slice none 0 0, .slice none 0 0] 28)).alloc (.cells #[.int .i64 0, .int .i64 0] 31)).alloc (.cells #[.slice none 0 0, .slice none 0 0] 28))) (.cells (bytesRow s cp) 5 ((bytesRow s cp).size, (bytesRow s cp).size + 1)) := ⟨_, rfl⟩
  rw [← hwc, hXs] at hcv
  have HOc : Hid (Only (fun _ => False) (((w.alloc (.cells #[.slice none 0 0, .slice none 0 0] 28)).alloc (.cells #[.int .i64 0, .int .i64 0] 31)).alloc (.cells #[.slice none 0 0, .slice none 0 0] 28)) wc) := by rw [hwc]; exact ((Only.refl _ _).drew).alloc _
  have hbb : wc.heap[w.heap.size + 1 + 1 + 1]? = some (.cells (bytesRow s cp) 5 ((bytesRow s cp).size, (bytesRow s cp).size + 1)) := by
    rw [hwc, ← hXs]
    exact heap_alloc_new (World.drew (((w.alloc (.cells #[.slice none 0 0, .slice none 0 0] 28)).alloc (.cells #[.int .i64 0, .int .i64 0] 31)).alloc (.cells #[.slice none 0 0, .slice none 0 0] 28))) _
  have HOwc : Hid (Only (fun _ => False) w wc) := ((((Only.refl _ _).alloc _).alloc _).alloc _).trans HOc.out
  obtain ⟨nS, hnS⟩ : ∃ nS, nS = (sgs s).length := ⟨_, rfl⟩
  have hSl := sgs_len s
  have HALL : Hid (Calls Tryd.prog 15 #[.slice (some ⟨w.heap.size + 1 + 1 + 1, 0, none⟩) s.size cp] wc fun e w' => ∃ v, e = .returned v ∧ w'.ownsRow wc.heap.size 52 3 v nS (sgCells (sgs s)) ∧ Below wc.heap.size wc w') := by
    rw [hnS]
    exact all_any s.size (bx s) _ (w.heap.size + 1 + 1 + 1) 0 cp wc hcp2 (by omega) (fun _ => rfl) (fun _ => (Array.getElem?_eq_some_iff.1 hbb).1) (Nat.le_trans hz HOwc.out.size) (bx_lt s) (tabs_below hT hz (HOwc.out.below (Nat.le_refl _) (fun _ h => h.elim))) (bytes_cells hbb)
  have HNS : Hid (nS = (sgs s).length) := hnS
  obtain ⟨C, hC⟩ : ∃ C, C = cuts (rs (sgs s)) 0 0 := ⟨_, rfl⟩
  obtain ⟨nC, hnC⟩ : ∃ nC, nC = C.length := ⟨_, rfl⟩
  have HC : Hid (C = cuts (rs (sgs s)) 0 0) := hC
  have HNC : Hid (nC = C.length) := hnC
  have HOK : Hid (∀ p ∈ C, p.1 < p.2 ∧ p.2 ≤ nS) := fun p hp => by
    rw [hC] at hp
    have h := cuts_ok (rs (sgs s)) 0 0 (Nat.le_refl _) p hp
    rw [show (rs (sgs s)).length = nS by rw [hnS]; unfold rs; rw [List.length_map]] at h
    omega
  rw [← hC] at hPR
  have HPR : Hid (PR = runs (sgs s) C [] []) := hPR
  have hnS2 : nS ≤ 10000 := by omega
  have hnC2 : nC ≤ 100000 := by
    rw [hnC, hC]
    exact (by have := cuts_len (rs (sgs s)) 0 0; have e : (rs (sgs s)).length = nS := (by rw [hnS]; unfold rs; rw [List.length_map]); omega)
  have hwc0 : w.heap.size + 1 + 1 + 1 < wc.heap.size := (Array.getElem?_eq_some_iff.1 hbb).1
  clear hPR hnC hC hnS hbb hwc hT hSl hcp hXs
  go_enter Tryd.func10, Tryd.ntmps10
  go_wp2_with (first
    | (go_at_call 15; refine Calls.mono HALL.out ?_; rintro e w1 ⟨v, rfl, hown1, hb1⟩; obtain ⟨aS, cS, rfl⟩ := own_form hown1; have hle1 := own_le hown1; have HO1 : Hid (Only (fun _ => False) wc w1) := below_only hb1; have HSW : Hid (Sw w1 aS nS (sgs s)) := own_sw hown1 HNS.out.symm; have hsb : ∃ sb, 0 < nS → aS = some ⟨sb, 0, none⟩ ∧ wc.heap.size ≤ sb ∧ sb < w1.heap.size := (by by_cases h0 : 0 < nS; (obtain ⟨g, cap, hv, h1, h2, _, _⟩ := row_form hown1 h0; injection hv with e1; exact ⟨g, fun _ => ⟨e1, h1, h2⟩⟩); exact ⟨0, fun h => absurd h h0⟩); obtain ⟨sb, hsb⟩ := hsb; have HSB : Hid (0 < nS → aS = some ⟨sb, 0, none⟩ ∧ wc.heap.size ≤ sb ∧ sb < w1.heap.size) := hsb; have hw1 : wc.heap.size ≤ w1.heap.size := HO1.out.size; clear hown1 hb1 hsb)
    | (go_at_call 14; refine Calls.mono (words_any2 (sgs s) aS nS cS sb 0 nC C w1 HSW.out (fun h => (HSB.out h).1) (by omega) hle1 HC.out HNC.out) ?_; rintro e w2 ⟨aC, cC, rfl, hWd⟩; have HWD : Hid (Wd w1 w2 aC cC nC sb 0 C) := hWd; have hw2 : w1.heap.size ≤ w2.heap.size := hWd.on.size; clear hWd))
  have HOX : Hid (Only (fun _ => False) (((w.alloc (.cells #[.slice none 0 0, .slice none 0 0] 28)).alloc (.cells #[.int .i64 0, .int .i64 0] 31)).alloc (.cells #[.slice none 0 0, .slice none 0 0] 28)) w2) := (HOc.out.trans HO1.out).trans HWD.out.on
  have bo : w2.heap[w.heap.size + 1 + 1]? = some (.cells #[.slice none 0 0, .slice none 0 0] 28) := (HOX.out.block _ (by simp) (fun h => h)).trans (by have := heap_alloc_new ((w.alloc (.cells #[.slice none 0 0, .slice none 0 0] 28)).alloc (.cells #[.int .i64 0, .int .i64 0] 31)) (.cells #[.slice none 0 0, .slice none 0 0] 28); simpa using this)
  have b1 : w2.heap[w.heap.size + 1]? = some (.cells #[.int .i64 0, .int .i64 0] 31) := (HOX.out.block _ (by simp) (fun h => h)).trans ((Below.heap_alloc _ _ _ (by simp)).trans (by have := heap_alloc_new (w.alloc (.cells #[.slice none 0 0, .slice none 0 0] 28)) (.cells #[.int .i64 0, .int .i64 0] 31); simpa using this))
  have b0 : w2.heap[w.heap.size]? = some (.cells #[.slice none 0 0, .slice none 0 0] 28) := (HOX.out.block _ (by simp; omega) (fun h => h)).trans ((Below.heap_alloc _ _ _ (by simp; omega)).trans ((Below.heap_alloc _ _ _ (by simp)).trans (heap_alloc_new w (.cells #[.slice none 0 0, .slice none 0 0] 28))))
  have HOU0 : Hid (Ou w2 (w.heap.size + 1 + 1) w2.heap.size [] [] (.slice none 0 0) (.slice none 0 0)) := ⟨by omega, Nat.le_refl _, bo, World.ownsRow_nil _ _ _ _, World.ownsRow_nil _ _ _ _, (fun q h => by simp [Value.ownBlock] at h), (fun q h => by simp at h)⟩
  have HOw : Hid (Only (fun _ => False) w w2) := ((((Only.refl _ _).alloc _).alloc _).alloc _).trans HOX.out
  have HB0 : Hid (w2.heap[w.heap.size]? = some (.cells #[.slice none 0 0, .slice none 0 0] 28)) := b0
  have HB1 : Hid (w2.heap[w.heap.size + 1]? = some (.cells #[.int .i64 0, .int .i64 0] 31)) := b1
  clear bo b0 b1 hcv HALL HOc HOX
  go_loopg [18] nC (fun gh v wr => ∃ (i : Nat) (xs ys : List Qd) (vL vW : Value) (W : World), W = wr ∧ gh = nC - i ∧ i ≤ nC ∧ v = .int .i64 (i : Int) ∧ Only (fun b => b = w.heap.size + 1 + 1 ∨ w2.heap.size ≤ b) w2 W ∧ Ou W (w.heap.size + 1 + 1) w2.heap.size xs ys vL vW ∧ xs.length + ys.length ≤ 256 ∧ PR = runs (sgs s) (C.drop i) (xs.map (·.p)) (ys.map (·.p)))
  case atStart => exact ⟨0, [], [], _, _, _, rfl, rfl, Nat.zero_le _, rfl, Only.refl _ _, HOU0.out, by simp, HPR.out⟩
  case round =>
    obtain ⟨i, xs, ys, vL, vW, W, hW, rfl, hi, rfl, hon, hOu, h256, hrun⟩ := hrel
    subst hW
    have HON : Hid (Only (fun b => b = w.heap.size + 1 + 1 ∨ w2.heap.size ≤ b) w2 W) := hon
    have HOU : Hid (Ou W (w.heap.size + 1 + 1) w2.heap.size xs ys vL vW) := hOu
    have HRUN : Hid (PR = runs (sgs s) (C.drop i) (xs.map (·.p)) (ys.map (·.p))) := hrun
    have hWs := hon.size
    have HB0W : Hid (W.heap[w.heap.size]? = some (.cells #[.slice none 0 0, .slice none 0 0] 28)) := (hon.block _ (by omega) (by rintro (h | h) <;> omega)).trans HB0.out
    have HB1W : Hid (W.heap[w.heap.size + 1]? = some (.cells #[.int .i64 0, .int .i64 0] 31)) := (hon.block _ (by omega) (by rintro (h | h) <;> omega)).trans HB1.out
    have k00 : W.cell? ⟨w.heap.size, 0, none⟩ = some (.slice none 0 0) := cell_blk HB0W.out
    have k01 : W.cell? ⟨w.heap.size, 1, none⟩ = some (.slice none 0 0) := cell_blk HB0W.out
    have k10 : W.cell? ⟨w.heap.size + 1, 0, none⟩ = some (.int .i64 0) := cell_blk HB1W.out
    have k11 : W.cell? ⟨w.heap.size + 1, 1, none⟩ = some (.int .i64 0) := cell_blk HB1W.out
    have f00 := fz_blk HB0W.out 0
    have f01 := fz_blk HB0W.out 1
    have f10 := fz_blk HB1W.out 0
    have f11 := fz_blk HB1W.out 1
    clear hon hOu hrun
    by_cases hlt : i < nC
    · have t2 : (i : Int) < (nC : Int) := by omega
      obtain ⟨gC, capC, hv, hgb, hgl, _, hcl⟩ := row_form HWD.out.oC (by omega)
      injection hv with e1 e2 e3
      subst e1
      subst e3
      obtain ⟨⟨f, t⟩, hp⟩ : ∃ p, C[i]? = some p := ⟨_, List.getElem?_eq_getElem (by rw [← HNC.out]; exact hlt)⟩
      obtain ⟨hft, htn⟩ := HOK.out _ (List.mem_of_getElem? hp)
      have hft' : f < t := hft
      have htn' : t ≤ nS := htn
      obtain ⟨hsa, hsb1, hsb2⟩ := HSB.out (by omega)
      have hSw2 : Sw W (some ⟨sb, 0, none⟩) nS (sgs s) := by
        have h := HSW.out.keep HWD.out.on
        rw [hsa] at h
        exact h.ofB (by omega) hWs (HON.out.block sb (by omega) (by rintro (h | h) <;> omega))
      have c0 : W.cell? ⟨gC, i, none⟩ = some (.slice (some ⟨sb, f * 3, none⟩) (t - f) (t - f)) := by
        refine (World.cell?_of_block (a := ⟨gC, i, none⟩) (HON.out.block gC hgl (by rintro (h | h) <;> omega))).trans ?_
        rw [hcl i (by omega)]
        unfold wvals
        rw [List.getElem?_map, hp]
        simp [wval]
      have cA : W.cell? ⟨sb, f * 3 + 1, none⟩ = some (.int .i64 (atOf (sgs s) (f, t) : Int)) := sw_at0 hSw2 (by omega)
      have HSUB : Hid (Sw W (some ⟨sb, f * 3, none⟩) (t - f) (wordOf (sgs s) (f, t))) := by have h := hSw2.sub hft' htn'; rw [Nat.zero_add] at h; exact h
      obtain ⟨r, hr⟩ : ∃ r, r = addR (rs (wordOf (sgs s) (f, t))) (xs.map (·.p)) (ys.map (·.p)) := ⟨_, rfl⟩
      have hsm := addR_small (rs (wordOf (sgs s) (f, t))) (xs.map (·.p)) (ys.map (·.p)) (by rw [List.length_map, List.length_map]; exact h256)
      rw [← hr] at hsm
      have HADD : Hid (Calls Tryd.prog 16 #[.pointer (some ⟨w.heap.size + 1 + 1, 0, none⟩), .slice (some ⟨sb, f * 3, none⟩) (t - f) (t - f)] W (adP W (w.heap.size + 1 + 1) w2.heap.size r)) := by
        rw [hr]
        exact add_any _ _ (t - f) (t - f) _ _ xs ys vL vW W HSUB.out (by omega) HOU.out h256
      obtain ⟨rc, rP, rQ⟩ := r
      have HR : Hid ((rc, rP, rQ) = addR (rs (wordOf (sgs s) (f, t))) (xs.map (·.p)) (ys.map (·.p))) := hr
      have HP : Hid (C[i]? = some (f, t)) := hp
      have HSM : Hid (rP.length + rQ.length ≤ 256) := hsm
      have hsbW : sb < W.heap.size := by omega
      have hgCW : gC < W.heap.size := by omega
      have htf : 0 < t - f := by omega
      obtain ⟨at0, hat0⟩ : ∃ at0, at0 = atOf (sgs s) (f, t) := ⟨_, rfl⟩
      have HAT : Hid (at0 = atOf (sgs s) (f, t)) := hat0
      obtain ⟨m, hm⟩ : ∃ m, m = t - f := ⟨_, rfl⟩
      rw [← hat0] at cA
      rw [← hm] at c0 HADD htf
      clear hp hr hsm hSw2 hcl hsa HSUB hft htn hat0 hm
      by_cases hr0 : rc = 0
      · subst hr0
        go_wp2_with (go_at_call 16; refine Calls.mono HADD.out ?_; rintro e w5 ⟨xs', ys', vL', vW', he, hOu5, hx5, hy5, hon5⟩; have he' : e = .returned (.int .i64 0) := he; subst he'; have HOU5 : Hid (Ou w5 (w.heap.size + 1 + 1) w2.heap.size xs' ys' vL' vW') := hOu5; have HON5 : Hid (Only (fun b => b = w.heap.size + 1 + 1 ∨ w2.heap.size ≤ b) w2 w5) := HON.out.trans hon5; have HX5 : Hid (xs'.map (·.p) = rP ∧ ys'.map (·.p) = rQ) := ⟨hx5, hy5⟩; clear hOu5 hx5 hy5 hon5 he)
        go_roundg (nC - (i + 1))
        case measure => omega
        case rel =>
          have l1 := congrArg List.length HX5.out.1
          have l2 := congrArg List.length HX5.out.2
          rw [List.length_map] at l1 l2
          refine ⟨i + 1, xs', ys', vL', vW', _, rfl, rfl, by omega, by go_num, HON5.out, HOU5.out, by have := HSM.out; omega, ?_⟩
          rw [HX5.out.1, HX5.out.2, HRUN.out]
          exact runs_zero HP.out HR.out
      · have q1 : ¬ (rc : Int) = 0 := by omega
        have q2 : ((rc : Int) == 0) = false := beq_eq_false_iff_ne.2 q1
        go_wp2_with (go_at_call 16; refine Calls.mono HADD.out ?_; rintro e w5 ⟨xs', ys', vL', vW', he, hOu5, hx5, hy5, hon5⟩; have he' : e = .returned (.int .i64 (rc : Int)) := he; subst he'; have hon6 : Only (fun b => b = w.heap.size + 1 + 1 ∨ w2.heap.size ≤ b) w2 w5 := HON.out.trans hon5; have HB05 : Hid (w5.heap[w.heap.size]? = some (.cells #[.slice none 0 0, .slice none 0 0] 28)) := (hon6.block _ (by omega) (by rintro (h | h) <;> omega)).trans HB0.out; have HB15 : Hid (w5.heap[w.heap.size + 1]? = some (.cells #[.int .i64 0, .int .i64 0] 31)) := (hon6.block _ (by omega) (by rintro (h | h) <;> omega)).trans HB1.out; have z00 : w5.cell? ⟨w.heap.size, 0, none⟩ = some (.slice none 0 0) := cell_blk HB05.out; have z01 : w5.cell? ⟨w.heap.size, 1, none⟩ = some (.slice none 0 0) := cell_blk HB05.out; have z10 : w5.cell? ⟨w.heap.size + 1, 0, none⟩ = some (.int .i64 0) := cell_blk HB15.out; have z11 : w5.cell? ⟨w.heap.size + 1, 1, none⟩ = some (.int .i64 0) := cell_blk HB15.out; have y00 := fz_blk HB05.out 0; have y01 := fz_blk HB05.out 1; have y10 := fz_blk HB15.out 0; have y11 := fz_blk HB15.out 1; have zA : w5.cell? ⟨sb, f * 3 + 1, none⟩ = some (.int .i64 (at0 : Int)) := (World.cell?_of_block (a := ⟨sb, f * 3 + 1, none⟩) (hon5.block sb hsbW (by rintro (h | h) <;> omega))).trans cA; have HON5 : Hid (Only (fun _ => False) w w5) := (HOw.out.any (fun b => b = w.heap.size + 1 + 1 ∨ w2.heap.size ≤ b)).trans hon6 |>.old (fun g h => Or.inl (by rcases h with h | h <;> omega)); have hs5 : w.heap.size + 1 + 1 < w5.heap.size := (by have := hon6.size; omega); clear hOu5 hx5 hy5 hon5 he hon6)
        have HZ : Hid (PR = (rc, at0, [], [])) := by
          show PR = _
          rw [HRUN.out, HAT.out]
          exact runs_fault HP.out HR.out hr0
        go_region
        all_goals
          go_wp2_with fail
          refine bodyPost_ret (v := .tuple #[.agg #[.slice none 0 0, .slice none 0 0], .agg #[.int .i64 (rc : Int), .int .i64 (at0 : Int)]]) (results_row_row (p := 2) (q := 3) rfl _ _ w.heap.size 28 #[.slice none 0 0, .slice none 0 0] (0, 0) _ rfl (by exact (put2_off (by omega)).trans (put2_blk HB05.out)) Tryd.underlying28 rfl sz28 (w.heap.size + 1) 31 #[.int .i64 (rc : Int), .int .i64 (at0 : Int)] (0, 0) _ rfl (by exact put2_blk ((put2_off (by omega)).trans HB15.out)) Tryd.underlying31 rfl sz31) rfl ?_
          have hp4 := put4_only w5 w.heap.size (w.heap.size + 1) (.slice none 0 0) (.slice none 0 0) (.int .i64 (rc : Int)) (.int .i64 (at0 : Int))
          rw [HZ.out]
          refine ⟨none, 0, none, 0, rfl, pw_nil _, pw_nil _, ?_⟩
          have h1 := (HON5.out.any (fun b => w.heap.size ≤ b)).trans (hp4.mono (fun b h => by omega))
          exact (h1.old (fun g h => Or.inl h)).drew
    · have t2 : decide ((i : Int) < (nC : Int)) = false := decide_eq_false (by omega)
      obtain ⟨aL, cL, rfl⟩ := own_form HOU.out.rL
      obtain ⟨aW, cW, rfl⟩ := own_form HOU.out.rW
      have o0 := HOU.out.c0
      have o1 := HOU.out.c1
      have hoW := HOU.out.lt
      have HZ : Hid (PR = (0, 0, xs.map (·.p), ys.map (·.p))) := by
        show PR = _
        rw [HRUN.out, List.drop_eq_nil_of_le (by rw [← HNC.out]; omega), runs]
      go_wp2_with fail
      refine bodyPost_ret (v := .tuple #[.agg #[.slice aL xs.length cL, .slice aW ys.length cW], .agg #[.int .i64 0, .int .i64 0]]) (results_row_row (p := 2) (q := 3) rfl _ _ w.heap.size 28 #[.slice aL xs.length cL, .slice aW ys.length cW] (0, 0) _ rfl ((put2_off (by omega)).trans (put2_blk HB0W.out)) Tryd.underlying28 rfl sz28 (w.heap.size + 1) 31 #[.int .i64 0, .int .i64 0] (0, 0) _ rfl (put2_blk ((put2_off (by omega)).trans HB1W.out)) Tryd.underlying31 rfl sz31) rfl ?_
      have hp4 := put4_only W w.heap.size (w.heap.size + 1) (.slice aL xs.length cL) (.slice aW ys.length cW) (.int .i64 0) (.int .i64 0)
      have hU := HOU.out.keepB hp4 (fun b h => by omega)
      rw [HZ.out]
      refine ⟨aL, cL, aW, cW, by simp, ?_, ?_, ?_⟩
      · have h := hU.pl rfl
        simp only [List.length_map]
        exact h
      · have h := hU.pw rfl
        simp only [List.length_map]
        exact h
      · have h1 := ((HOw.out.any (fun b => w.heap.size ≤ b)).trans (HON.out.mono (fun b h => by omega))).trans (hp4.mono (fun b h => by omega))
        exact h1.old (fun g h => Or.inl h)
end Go.Proofs.YtjgbfpemkjpikaaDoor
