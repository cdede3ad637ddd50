/-
  slices.Equal of numbers; pats.isTold.
-/
import Derived.Test.YtjgbfpemkjpikaaDoorL7
namespace Go.Proofs.YtjgbfpemkjpikaaDoor
open Go.RowKit Go.Maps
set_option linter.unusedVariables false
set_option linter.unusedSimpArgs false
theorem drop_ne {A B : List Nat} {i x y : Nat} (h1 : A[i]? = some x) (h2 : B[i]? = some y) (hne : x ≠ y) : A ≠ B := fun e => by
  rw [e, h2] at h1
  injection h1 with h1
  exact hne h1.symm
theorem eq_of_pre {A B : List Nat} {n : Nat} (h1 : A.length = n) (h2 : B.length = n) (h : ∀ j, j < n → A[j]? = B[j]?) : A = B := by
  apply List.ext_getElem?
  intro j
  by_cases hj : j < n
  · exact h j hj
  · rw [List.getElem?_eq_none (by omega), List.getElem?_eq_none (by omega)]
set_option maxRecDepth 100000 in
set_option maxHeartbeats 2000000 in
theorem equal_any (A B : List Nat) (a b : Option Addr) (n m c d : Nat) (w : World) (hA : Nl w a n A) (hB : Nl w b m B) (hn : n ≤ 1000000) (hm : m ≤ 1000000) :
    Calls Tryd.prog 43 #[.slice a n c, .slice b m d] w fun e w' => e = .returned (.bool (decide (A = B))) ∧ Only (fun _ => False) w w' := by
  obtain ⟨bb, hbb⟩ : ∃ bb, bb = decide (A = B) := ⟨_, rfl⟩
  rw [← hbb]
  have HBB : Hid (bb = decide (A = B)) := hbb
  have HA : Hid (Nl w a n A) := hA
  have HB : Hid (Nl w b m B) := hB
  clear hA hB hbb
  by_cases hnm : n = m
  · subst hnm
    go_enter Tryd.func43, Tryd.ntmps43
    go_wp2_with fail
    go_loopg [13] n (fun gh v wr => ∃ (i : Nat) (W : World), W = wr ∧ gh = n - i ∧ i ≤ n ∧ v = .int .i64 (i : Int) ∧ Only (fun _ => False) w W ∧ (∀ j, j < i → A[j]? = B[j]?))
    case atStart => exact ⟨0, _, rfl, rfl, Nat.zero_le _, rfl, Only.refl _ _, fun j h => absurd h (Nat.not_lt_zero j)⟩
    case round =>
      obtain ⟨i, W, hW, rfl, hi, rfl, ho, hpre⟩ := hrel
      subst hW
      have HO : Hid (Only (fun _ => False) w W) := ho
      have HP : Hid (∀ j, j < i → A[j]? = B[j]?) := hpre
      clear ho hpre
      by_cases hlt : i < n
      · have t1 : (i : Int) < (n : Int) := by omega
        obtain ⟨ba, oa, x, rfl, hba, hxa, ca⟩ := (HA.out.keep HO.out).at hlt
        obtain ⟨bb2, ob, y, rfl, hbb2, hxb, cb⟩ := (HB.out.keep HO.out).at hlt
        have HXA : Hid (A[i]? = some x) := hxa
        have HXB : Hid (B[i]? = some y) := hxb
        clear hxa hxb
        by_cases hxy : x = y
        · subst hxy
          go_wp2_with fail
          go_quiet (fail)
          go_wp2_with fail
          go_roundg (n - (i + 1))
          case measure => omega
          case rel =>
            refine ⟨i + 1, _, rfl, rfl, by omega, by go_num, by first | exact HO.out.drew | exact HO.out.drewN _ | exact HO.out, fun j hj => ?_⟩
            by_cases e : j = i
            · subst e
              rw [HXA.out, HXB.out]
            · exact HP.out j (by omega)
        · have q1 : ((x : Int) == (y : Int)) = false := by simp; omega
          have q2 : ¬ (x : Int) = (y : Int) := by omega
          have HF : Hid (bb = false) := by show bb = false; rw [HBB.out]; exact decide_eq_false (drop_ne HXA.out HXB.out hxy)
          go_wp2_with fail
          go_quiet (fail)
          go_wp2_with fail
          go_ret
          rw [HF.out]
          exact ⟨rfl, by first | exact HO.out.drew | exact HO.out.drewN _ | exact HO.out⟩
      · have t2 : decide ((i : Int) < (n : Int)) = false := decide_eq_false (by omega)
        obtain rfl : n = i := by omega
        have HF : Hid (bb = true) := by show bb = true; rw [HBB.out]; exact decide_eq_true (eq_of_pre HA.out.1 HB.out.1 HP.out)
        go_wp2_with fail
        go_ret
        rw [HF.out]
        exact ⟨rfl, HO.out⟩
  · have q1 : ((n : Int) == (m : Int)) = false := by simp; omega
    have q2 : ¬ (n : Int) = (m : Int) := by omega
    have HF : Hid (bb = false) := by
      show bb = false
      rw [HBB.out]
      exact decide_eq_false (fun e => hnm (by rw [← HA.out.1, ← HB.out.1, e]))
    go_enter Tryd.func43, Tryd.ntmps43
    go_wp2_with fail
    go_ret
    rw [HF.out]
    exact ⟨rfl, Only.refl _ _⟩
/-- a pattern's two cells. -/
def P2 (w : World) (p : Pt.Pat) (x y : Value) : Prop := ∃ aL cL aV cV, x = .slice aL p.letters.length cL ∧ y = .slice aV p.values.length cV ∧ Nl w aL p.letters.length p.letters ∧ Bl w aV p.values.length p.values ∧ p.letters.length ≤ 24 ∧ p.values.length ≤ 25 ∧ 0 < p.values.length
theorem P2.keep {w w' : World} {p : Pt.Pat} {x y : Value} (h : P2 w p x y) (ho : Only (fun _ => False) w w') : P2 w' p x y := by
  obtain ⟨aL, cL, aV, cV, h1, h2, h3, h4, h5⟩ := h
  exact ⟨aL, cL, aV, cV, h1, h2, h3.keep ho, h4.keep ho, h5⟩
/-- a slice of patterns. -/
def Pw (w : World) (a : Option Addr) (n : Nat) (P : List Pt.Pat) : Prop := P.length = n ∧ ∃ b off, (0 < n → a = some ⟨b, off, none⟩ ∧ b < w.heap.size) ∧ ∀ (j : Nat) (p : Pt.Pat), P[j]? = some p → ∃ x y, w.cell? ⟨b, off + j * 2, none⟩ = some x ∧ w.cell? ⟨b, off + j * 2 + 1, none⟩ = some y ∧ P2 w p x y
theorem Pw.keep {w w' : World} {a : Option Addr} {n : Nat} {P : List Pt.Pat} (h : Pw w a n P) (ho : Only (fun _ => False) w w') : Pw w' a n P := by
  obtain ⟨hl, b, off, h1, h2⟩ := h
  refine ⟨hl, b, off, fun h => ⟨(h1 h).1, Nat.lt_of_lt_of_le (h1 h).2 ho.size⟩, fun j p hj => ?_⟩
  have hb := (h1 (by have := (List.getElem?_eq_some_iff.1 hj).1; omega)).2
  have hk := fun o => World.cell?_of_block (a := ⟨b, o, none⟩) (ho.block b hb (fun h => h))
  obtain ⟨x, y, k0, k1, k2⟩ := h2 j p hj
  exact ⟨x, y, (hk _).trans k0, (hk _).trans k1, k2.keep ho⟩
theorem Pw.at {w : World} {a : Option Addr} {n : Nat} {P : List Pt.Pat} (h : Pw w a n P) {i : Nat} (hi : i < n) : ∃ b off p aL cL aV cV, a = some ⟨b, off, none⟩ ∧ b < w.heap.size ∧ P[i]? = some p ∧ w.cell? ⟨b, off + i * 2, none⟩ = some (.slice aL p.letters.length cL) ∧ w.cell? ⟨b, off + i * 2 + 1, none⟩ = some (.slice aV p.values.length cV) ∧ Nl w aL p.letters.length p.letters ∧ Bl w aV p.values.length p.values ∧ p.letters.length ≤ 24 ∧ p.values.length ≤ 25 ∧ 0 < p.values.length := by
  obtain ⟨hl, b, off, h1, h2⟩ := h
  obtain ⟨ha, hb⟩ := h1 (by omega)
  have hx : P[i]? = some P[i] := List.getElem?_eq_getElem (by omega)
  obtain ⟨x, y, k0, k1, aL, cL, aV, cV, rfl, rfl, k4, k5, k6, k7⟩ := h2 i _ hx
  exact ⟨b, off, _, aL, cL, aV, cV, ha, hb, hx, k0, k1, k4, k5, k6, k7⟩
set_option maxRecDepth 100000 in
set_option maxHeartbeats 2000000 in
theorem toldFn_any (A B : List Nat) (aL : Option Addr) (nL cL : Nat) (vV : Value) (aM : Option Addr) (nM cM g : Nat) (w : World) (hA : Nl w aL nL A) (hB : Nl w aM nM B) (hn : nL ≤ 1000000) (hm : nM ≤ 1000000) (hg : w.cell? ⟨g, 0, none⟩ = some (.slice aM nM cM)) (aV : Option Addr) (nV cV : Nat) (hv : vV = .slice aV nV cV) :
    Calls Tryd.prog 42 #[.agg #[.slice aL nL cL, vV], .pointer (some ⟨g, 0, none⟩)] w fun e w' => e = .returned (.bool (decide (A = B))) ∧ Only (fun _ => False) w w' := by
  subst hv
  obtain ⟨bb, hbb⟩ : ∃ bb, bb = decide (A = B) := ⟨_, rfl⟩
  rw [← hbb]
  have hl := World.block_lt_of_cell? w _ hg
  have hg2 : (w.alloc (.cells #[.slice aL nL cL, .slice aV nV cV] 37)).cell? ⟨g, 0, none⟩ = some (.slice aM nM cM) := (World.cell?_alloc_some _ _ _ (by rw [hg]; rfl)).trans hg
  have HC : Hid (Calls Tryd.prog 43 #[.slice aL nL cL, .slice aM nM cM] (w.alloc (.cells #[.slice aL nL cL, .slice aV nV cV] 37)) fun e w' => e = .returned (.bool bb) ∧ Only (fun _ => False) (w.alloc (.cells #[.slice aL nL cL, .slice aV nV cV] 37)) w') := by
    rw [hbb]
    exact equal_any A B aL aM nL nM cL cM _ (hA.keep ((Only.refl _ _).alloc _)) (hB.keep ((Only.refl _ _).alloc _)) hn hm
  clear hbb hA hB
  go_enter Tryd.func42, Tryd.ntmps42
  go_wp2_with (go_at_call 43; refine Calls.mono HC.out ?_; rintro e w1 ⟨rfl, ho1⟩; have HO1 : Hid (Only (fun _ => False) w w1) := ((Only.refl _ _).alloc _).trans ho1; clear ho1)
  go_ret
  exact ⟨rfl, HO1.out⟩
theorem patAny_step {P : List Pt.Pat} {i : Nat} {p : Pt.Pat} (h : P[i]? = some p) (f : Pt.Pat → Bool) : (P.drop i).any f = (f p || (P.drop (i + 1)).any f) := by
  rw [List.drop_eq_getElem_cons (List.getElem?_eq_some_iff.1 h).1, (List.getElem?_eq_some_iff.1 h).2, List.any_cons]
def tq (B : List Nat) (p : Pt.Pat) : Bool := decide (p.letters = B)
set_option maxRecDepth 100000 in
set_option maxHeartbeats 2000000 in
theorem indexTold_any (P : List Pt.Pat) (B : List Nat) (a : Option Addr) (n c : Nat) (aM : Option Addr) (nM cM g : Nat) (w : World) (hP : Pw w a n P) (hn : n ≤ 10000) (hB : Nl w aM nM B) (hm : nM ≤ 1000000) (hg : w.cell? ⟨g, 0, none⟩ = some (.slice aM nM cM)) :
    Calls Tryd.prog 51 #[.slice a n c, .func (.func 42) #[] #[.pointer (some ⟨g, 0, none⟩)]] w fun e w' => (∃ i : Int, e = .returned (.int .i64 i) ∧ (0 ≤ i ↔ P.any (tq B) = true)) ∧ Only (fun _ => False) w w' := by
  have HP : Hid (Pw w a n P) := hP
  have HB : Hid (Nl w aM nM B) := hB
  have HG : Hid (w.cell? ⟨g, 0, none⟩ = some (.slice aM nM cM)) := hg
  clear hP hB hg
  go_enter Tryd.func51, Tryd.ntmps51
  go_wp2_with fail
  go_loopg [8] n (fun gh v wr => ∃ (i : Nat) (W : World), W = wr ∧ gh = n - i ∧ i ≤ n ∧ v = .int .i64 (i : Int) ∧ Only (fun _ => False) w W ∧ (P.any (tq B) = (P.drop i).any (tq B)))
  case atStart => exact ⟨0, _, rfl, rfl, Nat.zero_le _, rfl, Only.refl _ _, by simp⟩
  case round =>
    obtain ⟨i, W, hW, rfl, hi, rfl, ho, hm2⟩ := hrel
    subst hW
    have HM : Hid (P.any (tq B) = (P.drop i).any (tq B)) := hm2
    have HO : Hid (Only (fun _ => False) w W) := ho
    clear hm2 ho
    by_cases hlt : i < n
    · have t1 : (i : Int) < (n : Int) := by omega
      obtain ⟨b, off, p, aL, cL, aV, cV, rfl, hb, hx, c0, c1, hNL, hBV, h24, h25, _⟩ := (HP.out.keep HO.out).at hlt
      have HX : Hid ((P.drop i).any (tq B) = (tq B p || (P.drop (i + 1)).any (tq B))) := patAny_step hx _
      have HGW : Hid (W.cell? ⟨g, 0, none⟩ = some (.slice aM nM cM)) := (World.cell?_of_block (a := ⟨g, 0, none⟩) (HO.out.block g (World.block_lt_of_cell? w _ HG.out) (fun h => h))).trans HG.out
      obtain ⟨bb, hbb⟩ : ∃ bb, bb = tq B p := ⟨_, rfl⟩
      have HBB : Hid (bb = tq B p) := hbb
      obtain ⟨nl, hnl⟩ : ∃ nl, nl = p.letters.length := ⟨_, rfl⟩
      obtain ⟨nv, hnv⟩ : ∃ nv, nv = p.values.length := ⟨_, rfl⟩
      have HC : Hid (Calls Tryd.prog 42 #[.agg #[.slice aL nl cL, .slice aV nv cV], .pointer (some ⟨g, 0, none⟩)] W fun e w' => e = .returned (.bool bb) ∧ Only (fun _ => False) W w') := by rw [hbb, hnl]; exact toldFn_any p.letters B aL _ cL _ aM nM cM g W hNL (HB.out.keep HO.out) (by omega) hm HGW.out aV nv cV rfl
      rw [← hnl] at c0
      rw [← hnv] at c1
      clear hx hNL hBV hbb hnl hnv
      cases bb with
      | true =>
        go_wp2_with (go_at_call 42; refine Calls.mono HC.out ?_; rintro e w1 ⟨rfl, ho1⟩; have HO1 : Hid (Only (fun _ => False) W w1) := ho1; clear ho1)
        go_ret
        refine ⟨⟨(i : Int), rfl, ?_⟩, HO.out.trans HO1.out⟩
        rw [HM.out, HX.out, ← HBB.out]
        simp
      | false =>
        go_wp2_with (go_at_call 42; refine Calls.mono HC.out ?_; rintro e w1 ⟨rfl, ho1⟩; have HO1 : Hid (Only (fun _ => False) W w1) := ho1; clear ho1)
        go_roundg (n - (i + 1))
        case measure => omega
        case rel =>
          refine ⟨i + 1, _, rfl, rfl, by omega, by go_num, HO.out.trans HO1.out, ?_⟩
          rw [HM.out, HX.out, ← HBB.out, Bool.false_or]
    · have t2 : decide ((i : Int) < (n : Int)) = false := decide_eq_false (by omega)
      go_wp2_with fail
      go_ret
      refine ⟨⟨-1, rfl, ?_⟩, HO.out⟩
      rw [HM.out, List.drop_eq_nil_of_le (by have := HP.out.1; omega)]
      simp
set_option maxRecDepth 100000 in
set_option maxHeartbeats 2000000 in
theorem isTold_any (P : List Pt.Pat) (B : List Nat) (a : Option Addr) (n c : Nat) (aM : Option Addr) (nM cM : Nat) (w : World) (hP : Pw w a n P) (hn : n ≤ 10000) (hB : Nl w aM nM B) (hm : nM ≤ 1000000) :
    Calls Tryd.prog 26 #[.slice a n c, .slice aM nM cM] w fun e w' => e = .returned (.bool (P.any (tq B))) ∧ Only (fun _ => False) w w' := by
  obtain ⟨bb, hbb⟩ : ∃ bb, bb = P.any (tq B) := ⟨_, rfl⟩
  rw [← hbb]
  have HBB : Hid (bb = P.any (tq B)) := hbb
  have hI := indexTold_any P B a n c aM nM cM w.heap.size (w.alloc (.cells #[.slice aM nM cM] 34)) (hP.keep ((Only.refl _ _).alloc _)) hn (hB.keep ((Only.refl _ _).alloc _)) hm (cell_blk (heap_alloc_new w _))
  have HC : Hid (Calls Tryd.prog 41 #[.slice a n c, .func (.func 42) #[] #[.pointer (some ⟨w.heap.size, 0, none⟩)]] (w.alloc (.cells #[.slice aM nM cM] 34)) fun e w' => e = .returned (.bool bb) ∧ Only (fun _ => False) (w.alloc (.cells #[.slice aM nM cM] 34)) w') := by
    have HI : Hid (Calls Tryd.prog 51 #[.slice a n c, .func (.func 42) #[] #[.pointer (some ⟨w.heap.size, 0, none⟩)]] (w.alloc (.cells #[.slice aM nM cM] 34)) fun e w' => (∃ i : Int, e = .returned (.int .i64 i) ∧ (0 ≤ i ↔ P.any (tq B) = true)) ∧ Only (fun _ => False) (w.alloc (.cells #[.slice aM nM cM] 34)) w') := hI
    clear hI hbb hP hB
    go_enter Tryd.func41, Tryd.ntmps41
    go_wp2_with (go_at_call 51; refine Calls.mono HI.out ?_; rintro e w1 ⟨⟨i, rfl, hi⟩, ho1⟩; have HII : Hid (0 ≤ i ↔ P.any (tq B) = true) := hi; have HO1 : Hid (Only (fun _ => False) (w.alloc (.cells #[.slice aM nM cM] 34)) w1) := ho1; clear hi ho1)
    go_ret
    refine ⟨?_, HO1.out⟩
    have : bb = decide (0 ≤ i) := by
      rw [HBB.out, Bool.eq_iff_iff, decide_eq_true_eq]
      exact HII.out.symm
    rw [this]
    first | rfl | simp
  clear hbb hP hB hI
  go_enter Tryd.func26, Tryd.ntmps26
  go_wp2_with (go_at_call 41; refine Calls.mono HC.out ?_; rintro e w1 ⟨rfl, ho1⟩; have HO1 : Hid (Only (fun _ => False) w w1) := ((Only.refl _ _).alloc _).trans ho1; clear ho1)
  go_ret
  exact ⟨rfl, HO1.out⟩
end Go.Proofs.YtjgbfpemkjpikaaDoor
