/-
  The reference's Parse.
-/
import Derived.Test.YtjgbfpemkjpikaaDoorR1
import Derived.Test.YtjgbfpemkjpikaaDoorR3t
import Derived.Test.YtjgbfpemkjpikaaDoorR3f
namespace Go.Proofs.YtjgbfpemkjpikaaDoor
open Go.RowKit Go.Maps
set_option linter.unusedVariables false
set_option linter.unusedSimpArgs false
theorem results_row2 {P : Program} {fn : Func} {p u v : Tmp} {ty : TypeId} (h : fn.results = #[.cell p ty, .tmp u, .tmp v]) (tmps : Array Value) (w : World) (g : Nat) (t : TypeId) (cs : Array Value) (fr : Nat × Nat) (d : TypeDesc)
    (hp : tmps.getD p undef = .pointer (some ⟨g, 0, none⟩)) (hg : w.heap[g]? = some (.cells cs t fr)) (hu : P.underlying ty = some d) (hd : (match d with | .struct _ | .array _ _ => true | _ => false) = true) (hi : (P.info? ty).map (·.size) = some cs.size)
    {y z : Value} (hy : tmps.getD u undef = y) (hz : tmps.getD v undef = z) : (results fn tmps).run P w = .ok (.tuple #[.agg cs, y, z]) w := by
  have hp' : tmps[p]?.getD undef = .pointer (some ⟨g, 0, none⟩) := by simpa using hp
  have hy' : tmps[u]?.getD undef = y := by simpa using hy
  have hz' : tmps[v]?.getD undef = z := by simpa using hz
  simp [results, h, hp', hy', hz', asAddr, run_loadVar_row w g t ty cs fr d hg hu hd hi]
theorem cuts_blank {c i : Nat} {cs : List Nat} (h : Pt.isBl c = true) : cuts (c :: cs) i i = cuts cs (i + 1) (i + 1) := by
  rw [cuts, if_pos h, if_neg (Nat.lt_irrefl _)]
theorem cuts_step {c k i : Nat} {cs : List Nat} (h : Pt.isBl c = false) : cuts (c :: cs) k i = cuts cs (k + 1) i := by
  rw [cuts, if_neg (by rw [h]; simp)]
theorem cuts_end {t i : Nat} (h : i < t) : cuts [] t i = (i, t) :: cuts [] t t := by
  rw [cuts, if_pos h, cuts, if_neg (Nat.lt_irrefl _)]
theorem cuts_stop {c t i : Nat} {cs : List Nat} (h : i < t) (hc : Pt.isBl c = true) : cuts (c :: cs) t i = (i, t) :: cuts (c :: cs) t t := by
  rw [cuts_blank hc, cuts, if_pos hc, if_pos h]
theorem word_more {S : List (Nat × Nat × Nat)} {i k r p q : Nat} (hk : S[k]? = some (r, p, q)) (hi : i ≤ k) : rs (wordOf S (i, k)) ++ [r] = rs (wordOf S (i, k + 1)) := by
  unfold rs wordOf
  simp only []
  have e : k + 1 - i = (k - i) + 1 := by omega
  rw [e, List.take_add_one, List.getElem?_drop, show i + (k - i) = k by omega, hk]
  simp
theorem word_len {S : List (Nat × Nat × Nat)} {i k n : Nat} (hn : S.length = n) (hk : k ≤ n) : (rs (wordOf S (i, k))).length = k - i := by
  unfold rs wordOf
  simp
  omega
theorem take_mem {L : List Nat} {j y : Nat} (h : L[j]? = some y) : 45 ∈ L.take (j + 1) ↔ (45 ∈ L.take j ∨ y = 45) := by
  rw [List.take_add_one, h]
  simp
  exact ⟨fun h => h.imp id Eq.symm, fun h => h.imp id Eq.symm⟩
/-- how it ends. -/
def rpP (w : World) (R : Nat × Nat × List Pt.Pat × List Pt.Pat) (e : Ending) (w' : World) : Prop :=
  ∃ aL cL aW cW, e = .returned (.tuple #[.agg #[.slice aL R.2.2.1.length cL, .slice aW R.2.2.2.length cW], .int .i64 (R.1 : Int), .int .i64 (R.2.1 : Int)]) ∧ Pw w' aL R.2.2.1.length R.2.2.1 ∧ Pw w' aW R.2.2.2.length R.2.2.2 ∧ Only (fun _ => False) w w'
/-- a row of numbers grows. -/
theorem own_more {w W W1 w3 : World} {a : Option Addr} {l c : Nat} (ho : Only (fun _ => False) W W1) {L : List Value} (hown : W1.ownsRow W.heap.size 21 1 (.slice a l c) l L) (hg : W1.grownBy w3 (Value.slice a l c).ownBlock) : Only (fun _ => False) W w3 := by
  have o3 : Only (fun q => (Value.slice a l c).ownBlock = some q) W1 w3 := (Only.refl _ _).grown hg (fun k h => h)
  have o4 : Only (fun q => (Value.slice a l c).ownBlock = some q) W w3 := (ho.mono (fun _ h => h.elim)).trans o3
  exact ⟨o4.os, o4.tape, o4.output, o4.size, fun b hb _ => o4.block b hb (fun e => by have := (hown.lt b e).1; omega)⟩
set_option maxRecDepth 100000 in
set_option maxHeartbeats 40000000 in
theorem refParse_any (s : ByteArray) (w : World) : Calls Tryd.prog 13 #[.string s] w (rpP w (parseR s)) := by
  obtain ⟨PR, hPR⟩ : ∃ PR, PR = parseR s := ⟨_, rfl⟩
  rw [← hPR]
  unfold parseR at hPR
  by_cases hbig : 4096 < s.size
  · rw [if_pos hbig] at hPR
    subst hPR
    have t1 : (4096 : Int) < (s.size : Int) := by omega
    go_enter Tryd.func13, Tryd.ntmps13
    go_wp2_with fail
    refine bodyPost_ret (v := .tuple #[.agg #[.slice none 0 0, .slice none 0 0], .int .i64 24, .int .i64 4096]) (results_row2 (p := 2) (u := 3) (v := 4) rfl _ _ w.heap.size 28 #[.slice none 0 0, .slice none 0 0] (0, 0) _ rfl (by exact heap_alloc_new w _) Tryd.underlying28 rfl sz28 rfl rfl) rfl ?_
    exact ⟨none, 0, none, 0, rfl, pw_nil _, pw_nil _, (Only.refl _ _).alloc _⟩
  rw [if_neg hbig] at hPR
  have t1 : ¬ (4096 : Int) < (s.size : Int) := by omega
  have hXs : (w.alloc (.cells #[.slice none 0 0, .slice none 0 0] 28)).heap.size = w.heap.size + 1 := by simp
  have hcv := run_bytes_of_string (P := Tryd.prog) (w.alloc (.cells #[.slice none 0 0, .slice none 0 0] 28)) 9 35 5 s Tryd.underlying9 Tryd.underlying35 Tryd.underlying5
  obtain ⟨cp, hcp⟩ : ∃ cp, cp = grownCap (w.alloc (.cells #[.slice none 0 0, .slice none 0 0] 28)) s.size 0 5 := ⟨_, rfl⟩
  rw [← hcp] at hcv
  have hcp2 : s.size ≤ cp := by rw [hcp]; exact grownCap_ge _ _ _ _
  obtain ⟨wc, hwc⟩ : ∃ wc, wc = World.alloc (World.drew (w.alloc (.cells #[.slice none 0 0, .slice none 0 0] 28))) (.cells (bytesRow s cp) 5 ((bytesRow s cp).size, (bytesRow s cp).size + 1)) := ⟨_, rfl⟩
  rw [← hwc, hXs] at hcv
  have HOc : Hid (Only (fun _ => False) (w.alloc (.cells #[.slice none 0 0, .slice none 0 0] 28)) wc) := by rw [hwc]; exact ((Only.refl _ _).drew).alloc _
  have hbb : wc.heap[w.heap.size + 1]? = some (.cells (bytesRow s cp) 5 ((bytesRow s cp).size, (bytesRow s cp).size + 1)) := by
    rw [hwc, ← hXs]
    exact heap_alloc_new (World.drew (w.alloc (.cells #[.slice none 0 0, .slice none 0 0] 28))) _
  obtain ⟨nS, hnS⟩ : ∃ nS, nS = (sgs s).length := ⟨_, rfl⟩
  have hSl := sgs_len s
  have HALL : Hid (Calls Tryd.prog 18 #[.slice (some ⟨w.heap.size + 1, 0, none⟩) s.size cp] wc fun e w' => ∃ v, e = .returned v ∧ w'.ownsRow wc.heap.size 52 3 v nS (sgCells (sgs s)) ∧ Below wc.heap.size wc w') := by
    rw [hnS]
    exact refAll_any s.size (bx s) _ (w.heap.size + 1) 0 cp wc hcp2 (by omega) (fun _ => rfl) (fun _ => (Array.getElem?_eq_some_iff.1 hbb).1) (bx_lt s) (bytes_cells hbb)
  have HNS : Hid (nS = (sgs s).length) := hnS
  have HPR : Hid (PR = runs (sgs s) (cuts (rs (sgs s)) 0 0) [] []) := hPR
  have hnS2 : nS ≤ 10000 := by omega
  have hwc0 : w.heap.size + 1 < wc.heap.size := (Array.getElem?_eq_some_iff.1 hbb).1
  obtain ⟨i1, h1, h10, h11, h12⟩ := info_parts info21
  obtain ⟨i7, h7, h70, h71, h72⟩ := info_parts info37
  clear hPR hnS hbb hwc hSl hcp hXs
  go_enter Tryd.func13, Tryd.ntmps13
  go_wp2_with (go_at_call 18; refine Calls.mono HALL.out ?_; rintro e w1 ⟨v, rfl, hown1, hb1⟩; obtain ⟨aS, cS, rfl⟩ := own_form hown1; have HO1 : Hid (Only (fun _ => False) wc w1) := below_only hb1; have HSW : Hid (Sw w1 aS nS (sgs s)) := own_sw hown1 HNS.out.symm; have hw1 : wc.heap.size ≤ w1.heap.size := HO1.out.size; clear hown1 hb1)
  have HOX : Hid (Only (fun _ => False) (w.alloc (.cells #[.slice none 0 0, .slice none 0 0] 28)) w1) := HOc.out.trans HO1.out
  have HB0 : Hid (w1.heap[w.heap.size]? = some (.cells #[.slice none 0 0, .slice none 0 0] 28)) := (HOX.out.block _ (by simp) (fun h => h)).trans (heap_alloc_new w (.cells #[.slice none 0 0, .slice none 0 0] 28))
  have HOw : Hid (Only (fun _ => False) w w1) := ((Only.refl _ _).alloc _).trans HOX.out
  have HOU0 : Hid (Ou (w1.alloc (.cells #[.slice none 0 0, .slice none 0 0] 28)) w1.heap.size (w1.heap.size + 1) [] [] (.slice none 0 0) (.slice none 0 0)) := ⟨by omega, by simp, heap_alloc_new _ _, World.ownsRow_nil _ _ _ _, World.ownsRow_nil _ _ _ _, (fun q h => by simp [Value.ownBlock] at h), (fun q h => by simp at h)⟩
  clear hcv HALL HOc HOX
  go_loopg [7] nS (fun gh v wr => ∃ (i : Nat) (xs ys : List Qd) (vL vW : Value) (W : World), W = wr ∧ gh = nS - i ∧ i ≤ nS ∧ v = .int .i64 (i : Int) ∧ Only (fun b => w1.heap.size ≤ b) w1 W ∧ Ou W w1.heap.size (w1.heap.size + 1) xs ys vL vW ∧ xs.length + ys.length ≤ 256 ∧ PR = runs (sgs s) (cuts ((rs (sgs s)).drop i) i i) (xs.map (·.p)) (ys.map (·.p)))
  case atStart => exact ⟨0, [], [], _, _, _, rfl, rfl, Nat.zero_le _, rfl, (Only.refl _ _).alloc _, HOU0.out, by simp, HPR.out⟩
  case round =>
    obtain ⟨i, xs, ys, vL, vW, W, hW, rfl, hi, rfl, hon, hOu, h256, hrun⟩ := hrel
    subst hW
    have HON : Hid (Only (fun b => w1.heap.size ≤ b) w1 W) := hon
    have HOU : Hid (Ou W w1.heap.size (w1.heap.size + 1) xs ys vL vW) := hOu
    have HRUN : Hid (PR = runs (sgs s) (cuts ((rs (sgs s)).drop i) i i) (xs.map (·.p)) (ys.map (·.p))) := hrun
    have hWs := hon.size
    have HON0 : Hid (Only (fun _ => False) w1 W) := hon.old (fun g h => Or.inl h)
    have hWo := hOu.lt
    obtain ⟨aL, cL, rfl⟩ := own_form hOu.rL
    obtain ⟨aW, cW, rfl⟩ := own_form hOu.rW
    obtain ⟨nl, hnl⟩ : ∃ nl, nl = xs.length := ⟨_, rfl⟩
    obtain ⟨nw, hnw⟩ : ∃ nw, nw = ys.length := ⟨_, rfl⟩
    have HNL : Hid (nl = xs.length) := hnl
    have HNW : Hid (nw = ys.length) := hnw
    rw [← hnl, ← hnw] at HOU h256
    clear hon hOu hrun hnl hnw
    by_cases hlt : i < nS
    · have t2 : (i : Int) < (nS : Int) := by omega
      obtain ⟨sb, so, r, p, q, rfl, hsb, hx, c0, c1, c2⟩ := (HSW.out.keep HON0.out).at hlt
      have HD : Hid ((rs (sgs s)).drop i = r :: (rs (sgs s)).drop (i + 1)) := rs_step hx
      have HAT : Hid (∀ t, p = atOf (sgs s) (i, t)) := fun t => by unfold atOf; simp only [hx]
      clear hx
      cases hmk : Pt.isBl r with
      | true =>
        have HMK : Hid (Pt.isBl r = true) := hmk
        clear hmk
        go_wp2_with (go_at_call 19; refine Calls.mono (blank_any r _) ?_; rintro e w2 ⟨rfl, hw2⟩; obtain rfl := hw2.symm; rw [HMK.out])
        go_roundg (nS - (i + 1))
        case measure => omega
        case rel =>
          refine ⟨i + 1, xs, ys, _, _, _, rfl, rfl, by omega, by go_num, HON0.out.any _, HOU.out, by rw [← HNL.out, ← HNW.out]; exact h256, ?_⟩
          rw [HRUN.out, HD.out, cuts_blank HMK.out]
      | false =>
        have HMK : Hid (Pt.isBl r = false) := hmk
        clear hmk
        go_wp2_with (go_at_call 19; refine Calls.mono (blank_any r _) ?_; rintro e w2 ⟨rfl, hw2⟩; obtain rfl := hw2.symm; rw [HMK.out])
        go_loopg [7, 8] (nS - i) (fun gh v7 v8 wr => ∃ (k l : Nat) (a8 : Option Addr) (c8 : Nat) (Wk : World), Wk = wr ∧ gh = nS - k ∧ i ≤ k ∧ k ≤ nS ∧ l = k - i ∧ v7 = .int .i64 (k : Int) ∧ v8 = .slice a8 l c8 ∧ Only (fun _ => False) W Wk ∧ Wk.ownsRow W.heap.size 21 1 (.slice a8 l c8) l (i32s (rs (wordOf (sgs s) (i, k)))) ∧ cuts ((rs (sgs s)).drop i) i i = cuts ((rs (sgs s)).drop k) k i)
        case atStart => exact ⟨i, 0, none, 0, _, rfl, by omega, Nat.le_refl _, hi, by omega, rfl, rfl, Only.refl _ _, by have e : rs (wordOf (sgs s) (i, i)) = [] := (by unfold wordOf; simp [rs]); rw [e]; exact World.ownsRow_nil _ _ _ _, rfl⟩
        case round =>
          obtain ⟨k, l, a8, c8, Wk, hWk, rfl, hik, hkn, hl, rfl, rfl, honk, hown, hcut⟩ := hrel
          subst hWk
          have HONK : Hid (Only (fun _ => False) W Wk) := honk
          have HOWN : Hid (Wk.ownsRow W.heap.size 21 1 (.slice a8 l c8) l (i32s (rs (wordOf (sgs s) (i, k))))) := hown
          have HCUT : Hid (cuts ((rs (sgs s)).drop i) i i = cuts ((rs (sgs s)).drop k) k i) := hcut
          have HL : Hid (l = k - i) := hl
          have hl5 : l ≤ 10000 := by omega
          have hWks := honk.size
          clear honk hown hcut hl
          by_cases hltk : k < nS
          · have t3 : (k : Int) < (nS : Int) := by omega
            obtain ⟨sb', so', r', p', q', ea, hsb', hx', d0, d1, d2⟩ := ((HSW.out.keep HON0.out).keep HONK.out).at hltk
            injection ea with ea
            injection ea with ea1 ea2 _
            subst ea1
            subst ea2
            have HX : Hid ((sgs s)[k]? = some (r', p', q')) := hx'
            have HDK : Hid ((rs (sgs s)).drop k = r' :: (rs (sgs s)).drop (k + 1)) := rs_step hx'
            clear hx'
            cases hmk2 : Pt.isBl r' with
            | false =>
              have HMK2 : Hid (Pt.isBl r' = false) := hmk2
              clear hmk2
              go_wp2_with (first
                | (go_at_call 19; refine Calls.mono (blank_any r' _) ?_; rintro e w2 ⟨rfl, hw2⟩; obtain rfl := hw2.symm; rw [HMK2.out])
                | (at_builtin; refine wpList_append_own_at _ rfl _ _ 34 rfl W.heap.size 21 i1 (.int .i32 0) 1 4 Tryd.underlying34 h1 h10 h11 h12 rfl (by decide) (.slice a8 l c8) l (i32s (rs (wordOf (sgs s) (i, k)))) rfl (HOWN.out.alloc (.cells #[.int .i32 (r' : Int)] 21)) ⟨Wk.heap.size, 0, none⟩ 1 1 [.int .i32 (r' : Int)] rfl rfl (news1 _ _ _) (fun u hu => by simp at hu; subst hu; rfl) (by unfold maxLen; omega) (by omega) (by simp; omega) ?_; intro v3 w3 hown3 hg3 _ hat3; rw [i32s_app, word_more HX.out hik] at hown3; obtain ⟨g3, c3, rfl, _, _, _, _⟩ := row_form hown3 (by omega); have HO3 : Hid (Only (fun _ => False) W w3) := own_more (w := w) (HONK.out.alloc _) (HOWN.out.alloc _) hg3; have HOWN3 : Hid (w3.ownsRow W.heap.size 21 1 (.slice (some ⟨g3, 0, none⟩) (l + 1) c3) (l + 1) (i32s (rs (wordOf (sgs s) (i, k + 1))))) := hown3; clear hown3 hg3 hat3))
              go_roundg (nS - (k + 1))
              case measure => omega
              case rel =>
                have := HL.out
                refine ⟨k + 1, l + 1, _, _, _, rfl, rfl, by omega, by omega, by omega, by go_num, rfl, HO3.out, HOWN3.out, ?_⟩
                rw [HCUT.out, HDK.out, cuts_step HMK2.out]
            | true =>
              have HMK2 : Hid (Pt.isBl r' = true) := hmk2
              clear hmk2
              have hik2 : i < k := by
                rcases Nat.lt_or_ge i k with h | h
                · exact h
                · exfalso
                  obtain rfl : k = i := by omega
                  have := HDK.out
                  rw [HD.out] at this
                  injection this with this
                  rw [← this] at HMK2
                  have h1 := HMK.out
                  rw [HMK2.out] at h1
                  cases h1
              have HCUT2 : Hid (cuts ((rs (sgs s)).drop i) i i = (i, k) :: cuts ((rs (sgs s)).drop k) k k) := by
                show cuts ((rs (sgs s)).drop i) i i = _
                rw [HCUT.out, HDK.out, cuts_stop hik2 HMK2.out]
              have HNLW : Hid (Nl Wk a8 l (rs (wordOf (sgs s) (i, k)))) := own_nl HOWN.out ((word_len (HNS.out.symm) hkn).trans HL.out.symm)
              obtain ⟨WD, hWD⟩ : ∃ WD, WD = rs (wordOf (sgs s) (i, k)) := ⟨_, rfl⟩
              have HWDL : Hid (WD.length = l) := by rw [hWD]; exact (word_len (HNS.out.symm) hkn).trans HL.out.symm
              have HRUN2 : Hid (PR = runs (sgs s) ((i, k) :: cuts ((rs (sgs s)).drop k) k k) (xs.map (·.p)) (ys.map (·.p))) := by rw [← HCUT2.out]; exact HRUN.out
              have HWDE : Hid (WD = rs (wordOf (sgs s) (i, k))) := hWD
              rw [← hWD] at HNLW
              clear hWD HOWN HCUT
              have HOUK : Hid (Ou Wk w1.heap.size (w1.heap.size + 1) xs ys (.slice aL nl cL) (.slice aW nw cW)) := HOU.out.keep HONK.out
              have g0 : Wk.cell? ⟨w1.heap.size, 0, none⟩ = some (.slice aL nl cL) := HOUK.out.c0
              have g1 : Wk.cell? ⟨w1.heap.size, 1, none⟩ = some (.slice aW nw cW) := HOUK.out.c1
              have hoK : w1.heap.size < Wk.heap.size := HOUK.out.lt
              have HBK : Hid (∀ X, Only (fun _ => False) Wk X → X.heap[w.heap.size]? = some (.cells #[.slice none 0 0, .slice none 0 0] 28)) := fun X h => (h.block _ (by omega) (fun h => h)).trans ((HONK.out.block _ (by omega) (fun h => h)).trans ((HON0.out.block _ (by omega) (fun h => h)).trans HB0.out))
              have b0 : Wk.cell? ⟨w.heap.size, 0, none⟩ = some (.slice none 0 0) := cell_blk (HBK.out _ (Only.refl _ _))
              have b1 : Wk.cell? ⟨w.heap.size, 1, none⟩ = some (.slice none 0 0) := cell_blk (HBK.out _ (Only.refl _ _))
              have bf0 := fz_blk (HBK.out _ (Only.refl _ _)) 0
              have bf1 := fz_blk (HBK.out _ (Only.refl _ _)) 1
              have HOWK : Hid (Only (fun _ => False) w Wk) := (HOw.out.trans HON0.out).trans HONK.out
              by_cases hfull : nl + nw = 256
              · have y1 : (256 : Int) ≤ (nl : Int) + (nw : Int) := by omega
                have y2 : IntKind.i64.wrap ((nl : Int) + (nw : Int)) = (nl : Int) + (nw : Int) := by rw [IntKind.wrap_i64]; omega
                have HZ : Hid (PR = (24, p, [], [])) := by
                  show PR = _
                  rw [HRUN2.out, runs, HAT.out k]
                  have e : addR (rs (wordOf (sgs s) (i, k))) (xs.map (·.p)) (ys.map (·.p)) = (24, xs.map (·.p), ys.map (·.p)) := by
                    unfold addR
                    rw [if_pos (by rw [List.length_map, List.length_map, ← HNL.out, ← HNW.out]; exact hfull)]
                  rw [e]
                  rfl
                go_wp2_with (go_at_call 19; refine Calls.mono (blank_any r' _) ?_; rintro e w2 ⟨rfl, hw2⟩; obtain rfl := hw2.symm; rw [HMK2.out])
                refine bodyPost_ret (v := .tuple #[.agg #[.slice none 0 0, .slice none 0 0], .int .i64 24, .int .i64 (p : Int)]) (results_row2 (p := 2) (u := 3) (v := 4) rfl _ _ w.heap.size 28 #[.slice none 0 0, .slice none 0 0] (0, 0) _ rfl (by exact put2_blk (HBK.out _ (Only.refl _ _))) Tryd.underlying28 rfl sz28 rfl rfl) rfl ?_
                rw [HZ.out]
                exact ⟨none, 0, none, 0, rfl, pw_nil _, pw_nil _, set2_only HOWK.out (Nat.le_refl _) _ _⟩
              have y1 : ¬ (256 : Int) ≤ (nl : Int) + (nw : Int) := by omega
              have y1' : decide ((256 : Int) ≤ (nl : Int) + (nw : Int)) = false := decide_eq_false y1
              have y2 : IntKind.i64.wrap ((nl : Int) + (nw : Int)) = (nl : Int) + (nw : Int) := by rw [IntKind.wrap_i64]; omega
              go_wp2_with (go_at_call 19; refine Calls.mono (blank_any r' _) ?_; rintro e w2 ⟨rfl, hw2⟩; obtain rfl := hw2.symm; rw [HMK2.out])
              go_loopg [10, 11] l (fun gh v10 v11 wr => ∃ (h j : Nat), wr = Wk ∧ gh = l - j ∧ j ≤ l ∧ h ≤ j ∧ v10 = .int .i64 (h : Int) ∧ v11 = .int .i64 (j : Int) ∧ (0 < h ↔ 45 ∈ WD.take j))
              case atStart => exact ⟨0, 0, rfl, rfl, Nat.zero_le _, Nat.le_refl _, rfl, rfl, by simp⟩
              case round =>
                obtain ⟨h, j, hwr, rfl, hj, hh, rfl, rfl, hm⟩ := hrel
                obtain rfl := hwr.symm
                have HM : Hid (0 < h ↔ 45 ∈ WD.take j) := hm
                clear hm
                by_cases hjl : j < l
                · have m1 : (j : Int) < (l : Int) := by omega
                  obtain ⟨b8, o8, y, rfl, hb8, hy, cy⟩ := HNLW.out.at hjl
                  have HY : Hid (45 ∈ WD.take (j + 1) ↔ (45 ∈ WD.take j ∨ y = 45)) := take_mem hy
                  clear hy
                  by_cases h45 : y = 45
                  · subst h45
                    have cy' : Wk.cell? ⟨b8, o8 + j, none⟩ = some (.int .i32 45) := cy
                    clear cy
                    go_wp2_with fail
                    go_roundg (l - (j + 1))
                    case measure => omega
                    case rel =>
                      refine ⟨h + 1, j + 1, rfl, rfl, by omega, by omega, by go_num, by go_num, ?_⟩
                      rw [HY.out]
                      simp
                  · have p45 : ¬ (y : Int) = 45 := by omega
                    have p45' : ((y : Int) == 45) = false := beq_eq_false_iff_ne.2 p45
                    go_wp2_with fail
                    go_roundg (l - (j + 1))
                    case measure => omega
                    case rel =>
                      refine ⟨h, j + 1, rfl, rfl, by omega, by omega, rfl, by go_num, ?_⟩
                      rw [HY.out, HM.out]
                      simp [h45]
                · have m1 : decide ((j : Int) < (l : Int)) = false := decide_eq_false (by omega)
                  obtain rfl : l = j := by omega
                  have hm := HM.out
                  rw [List.take_of_length_le (by rw [HWDL.out]; exact Nat.le_refl _)] at hm
                  have HBOTH := Hid_in (Pt.rl_both WD)
                  rw [HWDL.out] at HBOTH
                  by_cases h45 : 45 ∈ WD
                  · have m2 : (0 : Int) < (h : Int) := by have := hm.2 h45; omega
                    have m2n : 0 < h := hm.2 h45
                    have m4n : ¬ h = 0 := by omega
                    have m3 : ¬ (h : Int) = 0 := by omega
                    have m3' : ((h : Int) == 0) = false := beq_eq_false_iff_ne.2 m3
                    have HREF0 : Hid (Calls Tryd.prog 20 #[.slice a8 l c8, .bool true] Wk (rfP Wk (Pt.told WD))) := by
                      have h := refPat_true WD a8 l c8 Wk HNLW.out hl5
                      have e := HBOTH.out
                      rw [if_pos h45, decide_eq_true h45] at e
                      rw [e] at h
                      exact h
                    have H45 : Hid (45 ∈ WD) := h45
                    clear hm h45 HBOTH
                    cases hpt : Pt.told WD with
                    | none =>
                      have HREF : Hid (Calls Tryd.prog 20 #[.slice a8 l c8, .bool true] Wk (rfP Wk none)) := by rw [← hpt]; exact HREF0
                      have HZ : Hid (PR = (30, p, [], [])) := by
                        show PR = _
                        rw [HRUN2.out, runs, HAT.out k]
                        have e : addR (rs (wordOf (sgs s) (i, k))) (xs.map (·.p)) (ys.map (·.p)) = (30, xs.map (·.p), ys.map (·.p)) := by
                          rw [← HWDE.out]
                          unfold addR
                          rw [if_neg (by rw [List.length_map, List.length_map, ← HNL.out, ← HNW.out]; exact hfull)]
                          rw [if_pos H45.out, hpt]
                        rw [e]
                        rfl
                      clear hpt HREF0
                      go_wp2_with (go_at_call 20; refine Calls.mono HREF.out ?_; rintro e w5 ⟨ua, um, uc, ub, un, ud, rfl, ho5⟩; have HO5 : Hid (Only (fun _ => False) Wk w5) := ho5; have z0 : w5.cell? ⟨w.heap.size, 0, none⟩ = some (.slice none 0 0) := cell_blk (HBK.out _ ho5); have z1 : w5.cell? ⟨w.heap.size, 1, none⟩ = some (.slice none 0 0) := cell_blk (HBK.out _ ho5); have zf0 := fz_blk (HBK.out _ ho5) 0; have zf1 := fz_blk (HBK.out _ ho5) 1; have hw5 : w.heap.size < w5.heap.size := (by have := ho5.size; omega); clear ho5)
                      refine bodyPost_ret (v := .tuple #[.agg #[.slice none 0 0, .slice none 0 0], .int .i64 30, .int .i64 (p : Int)]) (results_row2 (p := 2) (u := 3) (v := 4) rfl _ _ w.heap.size 28 #[.slice none 0 0, .slice none 0 0] (0, 0) _ rfl (by exact (Below.heap_alloc _ _ _ (by simp [World.setCell]; omega)).trans (put2_blk (HBK.out _ HO5.out))) Tryd.underlying28 rfl sz28 rfl rfl) rfl ?_
                      rw [HZ.out]
                      exact ⟨none, 0, none, 0, rfl, pw_nil _, pw_nil _, (set2_only (HOWK.out.trans HO5.out) (Nat.le_refl _) _ _).alloc _⟩
                    | some pt =>
                      have HREF : Hid (Calls Tryd.prog 20 #[.slice a8 l c8, .bool true] Wk (rfP Wk (some pt))) := by rw [← hpt]; exact HREF0
                      have HPT : Hid (Pt.told WD = some pt) := hpt
                      clear hpt HREF0
                      go_wp2_with (go_at_call 20; refine Calls.mono HREF.out ?_; rintro e w5 ⟨gL, cL2, gV, cV2, rfl, hNL5, hBV5, h24, h25, ho5, hgl, hgv, hp0, hpv⟩; have HO5 : Hid (Only (fun _ => False) Wk w5) := ho5; have HQ5 : Hid (Qok w5 ⟨pt, gL, cL2, gV, cV2⟩) := ⟨hNL5, hBV5, h24, h25, hp0, hpv⟩; have HG5 : Hid (W.heap.size ≤ gL ∧ W.heap.size ≤ gV) := ⟨Nat.le_trans hWks hgl, Nat.le_trans hWks hgv⟩; have HU5 : Hid (Ou w5 w1.heap.size (w1.heap.size + 1) xs ys (.slice aL nl cL) (.slice aW nw cW)) := HOUK.out.keep ho5; have d50 : w5.cell? ⟨w1.heap.size, 0, none⟩ = some (.slice aL nl cL) := HU5.out.c0; have d51 : w5.cell? ⟨w1.heap.size, 1, none⟩ = some (.slice aW nw cW) := HU5.out.c1; have ho5w : w1.heap.size < w5.heap.size := HU5.out.lt; have HOW5 : Hid (Only (fun _ => False) W w5) := HONK.out.trans ho5; clear hNL5 hBV5 h24 h25 ho5 hgl hgv hp0 hpv)
                      go_loopg [14] nw (fun gh v14 wr => ∃ (j : Nat) (W7 : World), W7 = wr ∧ gh = nw - j ∧ j ≤ nw ∧ v14 = .int .i64 (j : Int) ∧ Only (fun _ => False) (w5.alloc (.cells #[.slice (some ⟨gL, 0, none⟩) pt.letters.length cL2, .slice (some ⟨gV, 0, none⟩) pt.values.length cV2] 37)) W7 ∧ (ys.map (·.p)).any (tq pt.letters) = ((ys.map (·.p)).drop j).any (tq pt.letters))
                      case atStart => exact ⟨0, _, rfl, rfl, Nat.zero_le _, rfl, Only.refl _ _, by simp⟩
                      case round =>
                        obtain ⟨j, W7, hW7, rfl, hj7, rfl, ho7, ha7⟩ := hrel
                        subst hW7
                        have HO7 : Hid (Only (fun _ => False) (w5.alloc (.cells #[.slice (some ⟨gL, 0, none⟩) pt.letters.length cL2, .slice (some ⟨gV, 0, none⟩) pt.values.length cV2] 37)) W7) := ho7
                        have HA7 : Hid ((ys.map (·.p)).any (tq pt.letters) = ((ys.map (·.p)).drop j).any (tq pt.letters)) := ha7
                        have HOW7 : Hid (Only (fun _ => False) W W7) := (HOW5.out.alloc (.cells #[.slice (some ⟨gL, 0, none⟩) pt.letters.length cL2, .slice (some ⟨gV, 0, none⟩) pt.values.length cV2] 37)).trans ho7
                        have HO5K : Hid (Only (fun _ => False) Wk W7) := (HO5.out.alloc (.cells #[.slice (some ⟨gL, 0, none⟩) pt.letters.length cL2, .slice (some ⟨gV, 0, none⟩) pt.values.length cV2] 37)).trans ho7
                        have HU7 : Hid (Ou W7 w1.heap.size (w1.heap.size + 1) xs ys (.slice aL nl cL) (.slice aW nw cW)) := HOU.out.keep HOW7.out
                        have HQ7 : Hid (Qok W7 ⟨pt, gL, cL2, gV, cV2⟩) := (HQ5.out.keep ((Only.refl _ _).alloc (.cells #[.slice (some ⟨gL, 0, none⟩) pt.letters.length cL2, .slice (some ⟨gV, 0, none⟩) pt.values.length cV2] 37))).keep ho7
                        have e1 : W7.cell? ⟨w1.heap.size, 1, none⟩ = some (.slice aW nw cW) := HU7.out.c1
                        have b12 : W7.heap[w5.heap.size]? = some (.cells #[.slice (some ⟨gL, 0, none⟩) pt.letters.length cL2, .slice (some ⟨gV, 0, none⟩) pt.values.length cV2] 37) := (ho7.block _ (by simp) (fun h => h)).trans (heap_alloc_new w5 (.cells #[.slice (some ⟨gL, 0, none⟩) pt.letters.length cL2, .slice (some ⟨gV, 0, none⟩) pt.values.length cV2] 37))
                        have k0 : W7.cell? ⟨w5.heap.size, 0, none⟩ = some (.slice (some ⟨gL, 0, none⟩) pt.letters.length cL2) := cell_blk b12
                        have k1 : W7.cell? ⟨w5.heap.size, 1, none⟩ = some (.slice (some ⟨gV, 0, none⟩) pt.values.length cV2) := cell_blk b12
                        have hz7 : w5.heap.size < W7.heap.size := (Array.getElem?_eq_some_iff.1 b12).1
                        have ho7w : w1.heap.size < W7.heap.size := HU7.out.lt
                        clear ho7 ha7 b12
                        by_cases hjn : j < nw
                        · have m5 : (j : Int) < (nw : Int) := by omega
                          obtain ⟨bq, oq, pq, aLq, cLq, aVq, cVq, ea, hbq, hxq, cq0, cq1, hNLq, hBVq, h24q, h25q, _⟩ := (HU7.out.pw HNW.out).at hjn
                          subst ea
                          have HXQ : Hid (((ys.map (·.p)).drop j).any (tq pt.letters) = (tq pt.letters pq || ((ys.map (·.p)).drop (j + 1)).any (tq pt.letters))) := patAny_step hxq _
                          obtain ⟨bbq, hbbq⟩ : ∃ bbq, bbq = tq pt.letters pq := ⟨_, rfl⟩
                          have HBQ : Hid (bbq = tq pt.letters pq) := hbbq
                          have HS17 : Hid (∀ X, Only (fun _ => False) W7 X → Calls Tryd.prog 17 #[.slice aLq pq.letters.length cLq, .slice (some ⟨gL, 0, none⟩) pt.letters.length cL2] X fun e w' => e = .returned (.bool bbq) ∧ Only (fun _ => False) X w') := fun X hX => by
                            rw [hbbq]
                            exact same_any pq.letters pt.letters _ _ _ _ _ _ X (hNLq.keep hX) (HQ7.out.l.keep hX) (by omega) (by have : pt.letters.length ≤ 24 := HQ7.out.l24; omega)
                          have HK : Hid (∀ w', Only (fun _ => False) W7 w' → w'.cell? ⟨w1.heap.size, 1, none⟩ = some (.slice (some ⟨bq, oq, none⟩) nw cW) ∧ w'.cell? ⟨bq, oq + j * 2, none⟩ = some (.slice aLq pq.letters.length cLq) ∧ w'.cell? ⟨w5.heap.size, 0, none⟩ = some (.slice (some ⟨gL, 0, none⟩) pt.letters.length cL2)) := fun w' h => ⟨(World.cell?_of_block (a := ⟨w1.heap.size, 1, none⟩) (h.block _ ho7w (fun h => h))).trans e1, (World.cell?_of_block (a := ⟨bq, oq + j * 2, none⟩) (h.block bq hbq (fun h => h))).trans cq0, (World.cell?_of_block (a := ⟨w5.heap.size, 0, none⟩) (h.block _ hz7 (fun h => h))).trans k0⟩
                          clear hxq hNLq hBVq hbbq h24q h25q
                          cases bbq with
                          | true =>
                            have HAN : Hid ((ys.map (·.p)).any (tq pt.letters) = true) := by
                              show (ys.map (·.p)).any (tq pt.letters) = true
                              rw [HA7.out, HXQ.out, ← HBQ.out]
                              rfl
                            have HZ : Hid (PR = (23, p, [], [])) := by
                              show PR = _
                              rw [HRUN2.out, runs, HAT.out k]
                              have e : addR (rs (wordOf (sgs s) (i, k))) (xs.map (·.p)) (ys.map (·.p)) = (23, xs.map (·.p), ys.map (·.p)) := by
                                rw [← HWDE.out]
                                unfold addR
                                rw [if_neg (by rw [List.length_map, List.length_map, ← HNL.out, ← HNW.out]; exact hfull)]
                                rw [if_pos H45.out, HPT.out]
                                simp only [HAN.out, if_true]
                              rw [e]
                              rfl
                            go_wp2_with fail
                            go_region_held3 (fun w' => w'.cell? ⟨w1.heap.size, 1, none⟩ = some (.slice (some ⟨bq, oq, none⟩) nw cW) ∧ w'.cell? ⟨bq, oq + j * 2, none⟩ = some (.slice aLq pq.letters.length cLq) ∧ w'.cell? ⟨w5.heap.size, 0, none⟩ = some (.slice (some ⟨gL, 0, none⟩) pt.letters.length cL2)) ((first | exact HK.out _ (Only.refl _ _).drew | exact HK.out _ HO8.out)) ((go_at_call 17; refine Calls.mono (HS17.out _ (Only.refl _ _).drew) ?_; rintro e w8 ⟨rfl, ho8⟩; have HO8 : Hid (Only (fun _ => False) W7 w8) := ((Only.refl _ _).drew).trans ho8; have ho9 : Only (fun _ => False) Wk w8 := HO5K.out.trans HO8.out; have x0 : w8.cell? ⟨w.heap.size, 0, none⟩ = some (.slice none 0 0) := cell_blk (HBK.out _ ho9); have x1 : w8.cell? ⟨w.heap.size, 1, none⟩ = some (.slice none 0 0) := cell_blk (HBK.out _ ho9); have xf0 := fz_blk (HBK.out _ ho9) 0; have xf1 := fz_blk (HBK.out _ ho9) 1; have hw8 : w.heap.size < w8.heap.size := (by have := ho9.size; omega); clear ho8 ho9))
                            all_goals
                              go_wp2_with fail
                              refine bodyPost_ret (v := .tuple #[.agg #[.slice none 0 0, .slice none 0 0], .int .i64 23, .int .i64 (p : Int)]) (results_row2 (p := 2) (u := 3) (v := 4) rfl _ _ w.heap.size 28 #[.slice none 0 0, .slice none 0 0] (0, 0) _ rfl (by exact put2_blk (HBK.out _ (HO5K.out.trans HO8.out))) Tryd.underlying28 rfl sz28 rfl rfl) rfl ?_
                              rw [HZ.out]
                              exact ⟨none, 0, none, 0, rfl, pw_nil _, pw_nil _, set2_only (HOWK.out.trans (HO5K.out.trans HO8.out)) (Nat.le_refl _) _ _⟩
                          | false =>
                            go_wp2_with fail
                            go_region_held3 (fun w' => w'.cell? ⟨w1.heap.size, 1, none⟩ = some (.slice (some ⟨bq, oq, none⟩) nw cW) ∧ w'.cell? ⟨bq, oq + j * 2, none⟩ = some (.slice aLq pq.letters.length cLq) ∧ w'.cell? ⟨w5.heap.size, 0, none⟩ = some (.slice (some ⟨gL, 0, none⟩) pt.letters.length cL2)) ((first | exact HK.out _ (Only.refl _ _).drew | exact HK.out _ HO8.out)) ((go_at_call 17; refine Calls.mono (HS17.out _ (Only.refl _ _).drew) ?_; rintro e w8 ⟨rfl, ho8⟩; have HO8 : Hid (Only (fun _ => False) W7 w8) := ((Only.refl _ _).drew).trans ho8; have ho9 : Only (fun _ => False) Wk w8 := HO5K.out.trans HO8.out; have x0 : w8.cell? ⟨w.heap.size, 0, none⟩ = some (.slice none 0 0) := cell_blk (HBK.out _ ho9); have x1 : w8.cell? ⟨w.heap.size, 1, none⟩ = some (.slice none 0 0) := cell_blk (HBK.out _ ho9); have xf0 := fz_blk (HBK.out _ ho9) 0; have xf1 := fz_blk (HBK.out _ ho9) 1; have hw8 : w.heap.size < w8.heap.size := (by have := ho9.size; omega); clear ho8 ho9))
                            all_goals
                              go_wp2_with fail
                              go_roundg (nw - (j + 1))
                              case measure => omega
                              case rel =>
                                refine ⟨j + 1, _, rfl, rfl, by omega, by go_num, HO7.out.trans HO8.out, ?_⟩
                                rw [HA7.out, HXQ.out, ← HBQ.out, Bool.false_or]
                        · have m5 : decide ((j : Int) < (nw : Int)) = false := decide_eq_false (by omega)
                          have HAN : Hid ((ys.map (·.p)).any (tq pt.letters) = false) := by
                            show (ys.map (·.p)).any (tq pt.letters) = false
                            rw [HA7.out, List.drop_eq_nil_of_le (by rw [List.length_map, ← HNW.out]; omega)]
                            rfl
                          have HZ : Hid (PR = runs (sgs s) (cuts ((rs (sgs s)).drop k) k k) (xs.map (·.p)) (ys.map (·.p) ++ [pt])) := by
                            show PR = _
                            rw [HRUN2.out, runs]
                            have e : addR (rs (wordOf (sgs s) (i, k))) (xs.map (·.p)) (ys.map (·.p)) = (0, xs.map (·.p), ys.map (·.p) ++ [pt]) := by
                              rw [← HWDE.out]
                              unfold addR
                              rw [if_neg (by rw [List.length_map, List.length_map, ← HNL.out, ← HNW.out]; exact hfull)]
                              rw [if_pos H45.out, HPT.out]
                              simp only [HAN.out, Bool.false_eq_true, if_false]
                            rw [e, if_pos rfl]
                          go_wp2_with (at_builtin; refine wpList_append_own_at _ rfl _ _ 26 rfl (w1.heap.size + 1) 37 i7 (.agg #[.slice none 0 0, .slice none 0 0]) 2 48 Tryd.underlying26 h7 h70 h71 h72 rfl (by decide) (.slice aW nw cW) nw (qcs ys) rfl (by have hk := (HOU.out.keep (HOW7.out.alloc (.cells #[.slice (some ⟨gL, 0, none⟩) pt.letters.length cL2, .slice (some ⟨gV, 0, none⟩) pt.values.length cV2] 37))).rW; rw [← HNW.out] at hk; exact hk) ⟨W7.heap.size, 0, none⟩ 1 1 (Qd.cells ⟨pt, gL, cL2, gV, cV2⟩) rfl rfl (World.news_of_block (cs := #[.slice (some ⟨gL, 0, none⟩) pt.letters.length cL2, .slice (some ⟨gV, 0, none⟩) pt.values.length cV2]) (heap_alloc_new W7 (.cells #[.slice (some ⟨gL, 0, none⟩) pt.letters.length cL2, .slice (some ⟨gV, 0, none⟩) pt.values.length cV2] 37))) (fun u hu => by simp [Qd.cells] at hu; rcases hu with rfl | rfl <;> rfl) (by unfold maxLen; omega) (by omega) (by have := HOU.out.bs; have := HOW7.out.size; simp; omega) ?_; intro v6 w6 hown6 hg6 _ hat6; rw [HNW.out] at hown6; obtain ⟨g6, c6, rfl, _, _, _, _⟩ := row_form hown6 (by omega); have hA := Ou.addW (q := ⟨pt, gL, cL2, gV, cV2⟩) HOU.out (HOW7.out.alloc (.cells #[.slice (some ⟨gL, 0, none⟩) pt.letters.length cL2, .slice (some ⟨gV, 0, none⟩) pt.values.length cV2] 37)) (HQ7.out.keep ((Only.refl _ _).alloc (.cells #[.slice (some ⟨gL, 0, none⟩) pt.letters.length cL2, .slice (some ⟨gV, 0, none⟩) pt.values.length cV2] 37))) HG5.out.1 HG5.out.2 hown6 hg6 (by rcases hat6 with h | h; exact Or.inl h.symm; right; injection h); obtain ⟨hA1, hA2⟩ := hA; have q0 : w6.cell? ⟨w1.heap.size, 1, none⟩ = some (.slice aW nw cW) := cell_blk hA1; have qf := fz_blk hA1 1; have HA6 := (Hid_in hA2); clear hA1 hA2 hown6 hg6 hat6)
                          go_roundg (nS - k)
                          case measure => omega
                          case rel =>
                            have l1 := HNL.out
                            have l2 := HNW.out
                            refine ⟨k, xs, ys ++ [⟨pt, gL, cL2, gV, cV2⟩], _, _, _, rfl, rfl, hkn, rfl, (HON.out.trans (HA6.out.2.mono (fun b h => by omega))), HA6.out.1, by simp; omega, ?_⟩
                            rw [HZ.out]
                            simp
                  · have h0 : h = 0 := by
                      rcases Nat.eq_zero_or_pos h with e | e
                      · exact e
                      · exact absurd (hm.1 e) h45
                    subst h0
                    have HREF0 : Hid (Calls Tryd.prog 20 #[.slice a8 l c8, .bool false] Wk (rfP Wk (Pt.patt WD))) := by
                      have h := refPat_false WD a8 l c8 Wk HNLW.out hl5
                      have e := HBOTH.out
                      rw [if_neg h45, decide_eq_false h45] at e
                      rw [e] at h
                      exact h
                    have H45 : Hid (¬ 45 ∈ WD) := h45
                    clear hm h45 HBOTH
                    cases hpt : Pt.patt WD with
                    | none =>
                      have HREF : Hid (Calls Tryd.prog 20 #[.slice a8 l c8, .bool false] Wk (rfP Wk none)) := by rw [← hpt]; exact HREF0
                      have HZ : Hid (PR = (30, p, [], [])) := by
                        show PR = _
                        rw [HRUN2.out, runs, HAT.out k]
                        have e : addR (rs (wordOf (sgs s) (i, k))) (xs.map (·.p)) (ys.map (·.p)) = (30, xs.map (·.p), ys.map (·.p)) := by
                          rw [← HWDE.out]
                          unfold addR
                          rw [if_neg (by rw [List.length_map, List.length_map, ← HNL.out, ← HNW.out]; exact hfull)]
                          rw [if_neg H45.out, hpt]
                        rw [e]
                        rfl
                      clear hpt HREF0
                      go_wp2_with (go_at_call 20; refine Calls.mono HREF.out ?_; rintro e w5 ⟨ua, um, uc, ub, un, ud, rfl, ho5⟩; have HO5 : Hid (Only (fun _ => False) Wk w5) := ho5; have z0 : w5.cell? ⟨w.heap.size, 0, none⟩ = some (.slice none 0 0) := cell_blk (HBK.out _ ho5); have z1 : w5.cell? ⟨w.heap.size, 1, none⟩ = some (.slice none 0 0) := cell_blk (HBK.out _ ho5); have zf0 := fz_blk (HBK.out _ ho5) 0; have zf1 := fz_blk (HBK.out _ ho5) 1; have hw5 : w.heap.size < w5.heap.size := (by have := ho5.size; omega); clear ho5)
                      refine bodyPost_ret (v := .tuple #[.agg #[.slice none 0 0, .slice none 0 0], .int .i64 30, .int .i64 (p : Int)]) (results_row2 (p := 2) (u := 3) (v := 4) rfl _ _ w.heap.size 28 #[.slice none 0 0, .slice none 0 0] (0, 0) _ rfl (by exact (Below.heap_alloc _ _ _ (by simp [World.setCell]; omega)).trans (put2_blk (HBK.out _ HO5.out))) Tryd.underlying28 rfl sz28 rfl rfl) rfl ?_
                      rw [HZ.out]
                      exact ⟨none, 0, none, 0, rfl, pw_nil _, pw_nil _, (set2_only (HOWK.out.trans HO5.out) (Nat.le_refl _) _ _).alloc _⟩
                    | some pt =>
                      have HREF : Hid (Calls Tryd.prog 20 #[.slice a8 l c8, .bool false] Wk (rfP Wk (some pt))) := by rw [← hpt]; exact HREF0
                      have HZ : Hid (PR = runs (sgs s) (cuts ((rs (sgs s)).drop k) k k) (xs.map (·.p) ++ [pt]) (ys.map (·.p))) := by
                        show PR = _
                        rw [HRUN2.out, runs]
                        have e : addR (rs (wordOf (sgs s) (i, k))) (xs.map (·.p)) (ys.map (·.p)) = (0, xs.map (·.p) ++ [pt], ys.map (·.p)) := by
                          rw [← HWDE.out]
                          unfold addR
                          rw [if_neg (by rw [List.length_map, List.length_map, ← HNL.out, ← HNW.out]; exact hfull)]
                          rw [if_neg H45.out, hpt]
                        rw [e, if_pos rfl]
                      clear hpt HREF0
                      go_wp2_with (first
                        | (go_at_call 20; refine Calls.mono HREF.out ?_; rintro e w5 ⟨gL, cL2, gV, cV2, rfl, hNL5, hBV5, h24, h25, ho5, hgl, hgv, hp0, hpv⟩; have HO5 : Hid (Only (fun _ => False) Wk w5) := ho5; have HQ5 : Hid (Qok w5 ⟨pt, gL, cL2, gV, cV2⟩) := ⟨hNL5, hBV5, h24, h25, hp0, hpv⟩; have HG5 : Hid (W.heap.size ≤ gL ∧ W.heap.size ≤ gV) := ⟨Nat.le_trans hWks hgl, Nat.le_trans hWks hgv⟩; have HU5 : Hid (Ou w5 w1.heap.size (w1.heap.size + 1) xs ys (.slice aL nl cL) (.slice aW nw cW)) := HOUK.out.keep ho5; have d50 : w5.cell? ⟨w1.heap.size, 0, none⟩ = some (.slice aL nl cL) := HU5.out.c0; have d51 : w5.cell? ⟨w1.heap.size, 1, none⟩ = some (.slice aW nw cW) := HU5.out.c1; have ho5w : w1.heap.size < w5.heap.size := HU5.out.lt; have HOW5 : Hid (Only (fun _ => False) W w5) := HONK.out.trans ho5; clear hNL5 hBV5 h24 h25 ho5 hgl hgv hp0 hpv)
                        | (at_builtin; refine wpList_append_own_at _ rfl _ _ 26 rfl (w1.heap.size + 1) 37 i7 (.agg #[.slice none 0 0, .slice none 0 0]) 2 48 Tryd.underlying26 h7 h70 h71 h72 rfl (by decide) (.slice aL nl cL) nl (qcs xs) rfl (by have hk := (HOU.out.keep ((HOW5.out.alloc (.cells #[.slice (some ⟨gL, 0, none⟩) pt.letters.length cL2, .slice (some ⟨gV, 0, none⟩) pt.values.length cV2] 37)).alloc (.cells #[.slice (some ⟨gL, 0, none⟩) pt.letters.length cL2, .slice (some ⟨gV, 0, none⟩) pt.values.length cV2] 37))).rL; rw [← HNL.out] at hk; exact hk) ⟨w5.heap.size + 1, 0, none⟩ 1 1 (Qd.cells ⟨pt, gL, cL2, gV, cV2⟩) rfl rfl (World.news_of_block (cs := #[.slice (some ⟨gL, 0, none⟩) pt.letters.length cL2, .slice (some ⟨gV, 0, none⟩) pt.values.length cV2]) (heap_alloc2_new w5 (.cells #[.slice (some ⟨gL, 0, none⟩) pt.letters.length cL2, .slice (some ⟨gV, 0, none⟩) pt.values.length cV2] 37) (.cells #[.slice (some ⟨gL, 0, none⟩) pt.letters.length cL2, .slice (some ⟨gV, 0, none⟩) pt.values.length cV2] 37))) (fun u hu => by simp [Qd.cells] at hu; rcases hu with rfl | rfl <;> rfl) (by unfold maxLen; omega) (by omega) (by have := HOU.out.bs; have := HOW5.out.size; simp; omega) ?_; intro v6 w6 hown6 hg6 _ hat6; rw [HNL.out] at hown6; obtain ⟨g6, c6, rfl, _, _, _, _⟩ := row_form hown6 (by omega); have hA := Ou.addL (q := ⟨pt, gL, cL2, gV, cV2⟩) HOU.out ((HOW5.out.alloc (.cells #[.slice (some ⟨gL, 0, none⟩) pt.letters.length cL2, .slice (some ⟨gV, 0, none⟩) pt.values.length cV2] 37)).alloc (.cells #[.slice (some ⟨gL, 0, none⟩) pt.letters.length cL2, .slice (some ⟨gV, 0, none⟩) pt.values.length cV2] 37)) (HQ5.out.keep (((Only.refl _ _).alloc (.cells #[.slice (some ⟨gL, 0, none⟩) pt.letters.length cL2, .slice (some ⟨gV, 0, none⟩) pt.values.length cV2] 37)).alloc (.cells #[.slice (some ⟨gL, 0, none⟩) pt.letters.length cL2, .slice (some ⟨gV, 0, none⟩) pt.values.length cV2] 37))) HG5.out.1 HG5.out.2 hown6 hg6 (by rcases hat6 with h | h; exact Or.inl h.symm; right; injection h); obtain ⟨hA1, hA2⟩ := hA; have q0 : w6.cell? ⟨w1.heap.size, 0, none⟩ = some (.slice aL nl cL) := cell_blk hA1; have qf := fz_blk hA1 0; have HA6 := (Hid_in hA2); clear hA1 hA2 hown6 hg6 hat6))
                      go_roundg (nS - k)
                      case measure => omega
                      case rel =>
                        have l1 := HNL.out
                        have l2 := HNW.out
                        refine ⟨k, xs ++ [⟨pt, gL, cL2, gV, cV2⟩], ys, _, _, _, rfl, rfl, hkn, rfl, (HON.out.trans (HA6.out.2.mono (fun b h => by omega))), HA6.out.1, by simp; omega, ?_⟩
                        rw [HZ.out]
                        simp
          · have t3 : decide ((k : Int) < (nS : Int)) = false := decide_eq_false (by omega)
            have hik2 : i < k := by omega
            have HCUT2 : Hid (cuts ((rs (sgs s)).drop i) i i = (i, k) :: cuts ((rs (sgs s)).drop k) k k) := by
              show cuts ((rs (sgs s)).drop i) i i = _
              rw [HCUT.out, List.drop_eq_nil_of_le (by unfold rs; rw [List.length_map, ← HNS.out]; omega), cuts_end hik2]
            have HNLW : Hid (Nl Wk a8 l (rs (wordOf (sgs s) (i, k)))) := own_nl HOWN.out ((word_len (HNS.out.symm) hkn).trans HL.out.symm)
            obtain ⟨WD, hWD⟩ : ∃ WD, WD = rs (wordOf (sgs s) (i, k)) := ⟨_, rfl⟩
            have HWDL : Hid (WD.length = l) := by rw [hWD]; exact (word_len (HNS.out.symm) hkn).trans HL.out.symm
            have HRUN2 : Hid (PR = runs (sgs s) ((i, k) :: cuts ((rs (sgs s)).drop k) k k) (xs.map (·.p)) (ys.map (·.p))) := by rw [← HCUT2.out]; exact HRUN.out
            have HWDE : Hid (WD = rs (wordOf (sgs s) (i, k))) := hWD
            rw [← hWD] at HNLW
            clear hWD HOWN HCUT
            have HOUK : Hid (Ou Wk w1.heap.size (w1.heap.size + 1) xs ys (.slice aL nl cL) (.slice aW nw cW)) := HOU.out.keep HONK.out
            have g0 : Wk.cell? ⟨w1.heap.size, 0, none⟩ = some (.slice aL nl cL) := HOUK.out.c0
            have g1 : Wk.cell? ⟨w1.heap.size, 1, none⟩ = some (.slice aW nw cW) := HOUK.out.c1
            have hoK : w1.heap.size < Wk.heap.size := HOUK.out.lt
            have HBK : Hid (∀ X, Only (fun _ => False) Wk X → X.heap[w.heap.size]? = some (.cells #[.slice none 0 0, .slice none 0 0] 28)) := fun X h => (h.block _ (by omega) (fun h => h)).trans ((HONK.out.block _ (by omega) (fun h => h)).trans ((HON0.out.block _ (by omega) (fun h => h)).trans HB0.out))
            have b0 : Wk.cell? ⟨w.heap.size, 0, none⟩ = some (.slice none 0 0) := cell_blk (HBK.out _ (Only.refl _ _))
            have b1 : Wk.cell? ⟨w.heap.size, 1, none⟩ = some (.slice none 0 0) := cell_blk (HBK.out _ (Only.refl _ _))
            have bf0 := fz_blk (HBK.out _ (Only.refl _ _)) 0
            have bf1 := fz_blk (HBK.out _ (Only.refl _ _)) 1
            have HOWK : Hid (Only (fun _ => False) w Wk) := (HOw.out.trans HON0.out).trans HONK.out
            by_cases hfull : nl + nw = 256
            · have y1 : (256 : Int) ≤ (nl : Int) + (nw : Int) := by omega
              have y2 : IntKind.i64.wrap ((nl : Int) + (nw : Int)) = (nl : Int) + (nw : Int) := by rw [IntKind.wrap_i64]; omega
              have HZ : Hid (PR = (24, p, [], [])) := by
                show PR = _
                rw [HRUN2.out, runs, HAT.out k]
                have e : addR (rs (wordOf (sgs s) (i, k))) (xs.map (·.p)) (ys.map (·.p)) = (24, xs.map (·.p), ys.map (·.p)) := by
                  unfold addR
                  rw [if_pos (by rw [List.length_map, List.length_map, ← HNL.out, ← HNW.out]; exact hfull)]
                rw [e]
                rfl
              go_wp2_with fail
              refine bodyPost_ret (v := .tuple #[.agg #[.slice none 0 0, .slice none 0 0], .int .i64 24, .int .i64 (p : Int)]) (results_row2 (p := 2) (u := 3) (v := 4) rfl _ _ w.heap.size 28 #[.slice none 0 0, .slice none 0 0] (0, 0) _ rfl (by exact put2_blk (HBK.out _ (Only.refl _ _))) Tryd.underlying28 rfl sz28 rfl rfl) rfl ?_
              rw [HZ.out]
              exact ⟨none, 0, none, 0, rfl, pw_nil _, pw_nil _, set2_only HOWK.out (Nat.le_refl _) _ _⟩
            have y1 : ¬ (256 : Int) ≤ (nl : Int) + (nw : Int) := by omega
            have y1' : decide ((256 : Int) ≤ (nl : Int) + (nw : Int)) = false := decide_eq_false y1
            have y2 : IntKind.i64.wrap ((nl : Int) + (nw : Int)) = (nl : Int) + (nw : Int) := by rw [IntKind.wrap_i64]; omega
            go_wp2_with fail
            go_loopg [10, 11] l (fun gh v10 v11 wr => ∃ (h j : Nat), wr = Wk ∧ gh = l - j ∧ j ≤ l ∧ h ≤ j ∧ v10 = .int .i64 (h : Int) ∧ v11 = .int .i64 (j : Int) ∧ (0 < h ↔ 45 ∈ WD.take j))
            case atStart => exact ⟨0, 0, rfl, rfl, Nat.zero_le _, Nat.le_refl _, rfl, rfl, by simp⟩
            case round =>
              obtain ⟨h, j, hwr, rfl, hj, hh, rfl, rfl, hm⟩ := hrel
              obtain rfl := hwr.symm
              have HM : Hid (0 < h ↔ 45 ∈ WD.take j) := hm
              clear hm
              by_cases hjl : j < l
              · have m1 : (j : Int) < (l : Int) := by omega
                obtain ⟨b8, o8, y, rfl, hb8, hy, cy⟩ := HNLW.out.at hjl
                have HY : Hid (45 ∈ WD.take (j + 1) ↔ (45 ∈ WD.take j ∨ y = 45)) := take_mem hy
                clear hy
                by_cases h45 : y = 45
                · subst h45
                  have cy' : Wk.cell? ⟨b8, o8 + j, none⟩ = some (.int .i32 45) := cy
                  clear cy
                  go_wp2_with fail
                  go_roundg (l - (j + 1))
                  case measure => omega
                  case rel =>
                    refine ⟨h + 1, j + 1, rfl, rfl, by omega, by omega, by go_num, by go_num, ?_⟩
                    rw [HY.out]
                    simp
                · have p45 : ¬ (y : Int) = 45 := by omega
                  have p45' : ((y : Int) == 45) = false := beq_eq_false_iff_ne.2 p45
                  go_wp2_with fail
                  go_roundg (l - (j + 1))
                  case measure => omega
                  case rel =>
                    refine ⟨h, j + 1, rfl, rfl, by omega, by omega, rfl, by go_num, ?_⟩
                    rw [HY.out, HM.out]
                    simp [h45]
              · have m1 : decide ((j : Int) < (l : Int)) = false := decide_eq_false (by omega)
                obtain rfl : l = j := by omega
                have hm := HM.out
                rw [List.take_of_length_le (by rw [HWDL.out]; exact Nat.le_refl _)] at hm
                have HBOTH := Hid_in (Pt.rl_both WD)
                rw [HWDL.out] at HBOTH
                by_cases h45 : 45 ∈ WD
                · have m2 : (0 : Int) < (h : Int) := by have := hm.2 h45; omega
                  have m2n : 0 < h := hm.2 h45
                  have m4n : ¬ h = 0 := by omega
                  have m3 : ¬ (h : Int) = 0 := by omega
                  have m3' : ((h : Int) == 0) = false := beq_eq_false_iff_ne.2 m3
                  have HREF0 : Hid (Calls Tryd.prog 20 #[.slice a8 l c8, .bool true] Wk (rfP Wk (Pt.told WD))) := by
                    have h := refPat_true WD a8 l c8 Wk HNLW.out hl5
                    have e := HBOTH.out
                    rw [if_pos h45, decide_eq_true h45] at e
                    rw [e] at h
                    exact h
                  have H45 : Hid (45 ∈ WD) := h45
                  clear hm h45 HBOTH
                  cases hpt : Pt.told WD with
                  | none =>
                    have HREF : Hid (Calls Tryd.prog 20 #[.slice a8 l c8, .bool true] Wk (rfP Wk none)) := by rw [← hpt]; exact HREF0
                    have HZ : Hid (PR = (30, p, [], [])) := by
                      show PR = _
                      rw [HRUN2.out, runs, HAT.out k]
                      have e : addR (rs (wordOf (sgs s) (i, k))) (xs.map (·.p)) (ys.map (·.p)) = (30, xs.map (·.p), ys.map (·.p)) := by
                        rw [← HWDE.out]
                        unfold addR
                        rw [if_neg (by rw [List.length_map, List.length_map, ← HNL.out, ← HNW.out]; exact hfull)]
                        rw [if_pos H45.out, hpt]
                      rw [e]
                      rfl
                    clear hpt HREF0
                    go_wp2_with (go_at_call 20; refine Calls.mono HREF.out ?_; rintro e w5 ⟨ua, um, uc, ub, un, ud, rfl, ho5⟩; have HO5 : Hid (Only (fun _ => False) Wk w5) := ho5; have z0 : w5.cell? ⟨w.heap.size, 0, none⟩ = some (.slice none 0 0) := cell_blk (HBK.out _ ho5); have z1 : w5.cell? ⟨w.heap.size, 1, none⟩ = some (.slice none 0 0) := cell_blk (HBK.out _ ho5); have zf0 := fz_blk (HBK.out _ ho5) 0; have zf1 := fz_blk (HBK.out _ ho5) 1; have hw5 : w.heap.size < w5.heap.size := (by have := ho5.size; omega); clear ho5)
                    refine bodyPost_ret (v := .tuple #[.agg #[.slice none 0 0, .slice none 0 0], .int .i64 30, .int .i64 (p : Int)]) (results_row2 (p := 2) (u := 3) (v := 4) rfl _ _ w.heap.size 28 #[.slice none 0 0, .slice none 0 0] (0, 0) _ rfl (by exact (Below.heap_alloc _ _ _ (by simp [World.setCell]; omega)).trans (put2_blk (HBK.out _ HO5.out))) Tryd.underlying28 rfl sz28 rfl rfl) rfl ?_
                    rw [HZ.out]
                    exact ⟨none, 0, none, 0, rfl, pw_nil _, pw_nil _, (set2_only (HOWK.out.trans HO5.out) (Nat.le_refl _) _ _).alloc _⟩
                  | some pt =>
                    have HREF : Hid (Calls Tryd.prog 20 #[.slice a8 l c8, .bool true] Wk (rfP Wk (some pt))) := by rw [← hpt]; exact HREF0
                    have HPT : Hid (Pt.told WD = some pt) := hpt
                    clear hpt HREF0
                    go_wp2_with (go_at_call 20; refine Calls.mono HREF.out ?_; rintro e w5 ⟨gL, cL2, gV, cV2, rfl, hNL5, hBV5, h24, h25, ho5, hgl, hgv, hp0, hpv⟩; have HO5 : Hid (Only (fun _ => False) Wk w5) := ho5; have HQ5 : Hid (Qok w5 ⟨pt, gL, cL2, gV, cV2⟩) := ⟨hNL5, hBV5, h24, h25, hp0, hpv⟩; have HG5 : Hid (W.heap.size ≤ gL ∧ W.heap.size ≤ gV) := ⟨Nat.le_trans hWks hgl, Nat.le_trans hWks hgv⟩; have HU5 : Hid (Ou w5 w1.heap.size (w1.heap.size + 1) xs ys (.slice aL nl cL) (.slice aW nw cW)) := HOUK.out.keep ho5; have d50 : w5.cell? ⟨w1.heap.size, 0, none⟩ = some (.slice aL nl cL) := HU5.out.c0; have d51 : w5.cell? ⟨w1.heap.size, 1, none⟩ = some (.slice aW nw cW) := HU5.out.c1; have ho5w : w1.heap.size < w5.heap.size := HU5.out.lt; have HOW5 : Hid (Only (fun _ => False) W w5) := HONK.out.trans ho5; clear hNL5 hBV5 h24 h25 ho5 hgl hgv hp0 hpv)
                    go_loopg [14] nw (fun gh v14 wr => ∃ (j : Nat) (W7 : World), W7 = wr ∧ gh = nw - j ∧ j ≤ nw ∧ v14 = .int .i64 (j : Int) ∧ Only (fun _ => False) (w5.alloc (.cells #[.slice (some ⟨gL, 0, none⟩) pt.letters.length cL2, .slice (some ⟨gV, 0, none⟩) pt.values.length cV2] 37)) W7 ∧ (ys.map (·.p)).any (tq pt.letters) = ((ys.map (·.p)).drop j).any (tq pt.letters))
                    case atStart => exact ⟨0, _, rfl, rfl, Nat.zero_le _, rfl, Only.refl _ _, by simp⟩
                    case round =>
                      obtain ⟨j, W7, hW7, rfl, hj7, rfl, ho7, ha7⟩ := hrel
                      subst hW7
                      have HO7 : Hid (Only (fun _ => False) (w5.alloc (.cells #[.slice (some ⟨gL, 0, none⟩) pt.letters.length cL2, .slice (some ⟨gV, 0, none⟩) pt.values.length cV2] 37)) W7) := ho7
                      have HA7 : Hid ((ys.map (·.p)).any (tq pt.letters) = ((ys.map (·.p)).drop j).any (tq pt.letters)) := ha7
                      have HOW7 : Hid (Only (fun _ => False) W W7) := (HOW5.out.alloc (.cells #[.slice (some ⟨gL, 0, none⟩) pt.letters.length cL2, .slice (some ⟨gV, 0, none⟩) pt.values.length cV2] 37)).trans ho7
                      have HO5K : Hid (Only (fun _ => False) Wk W7) := (HO5.out.alloc (.cells #[.slice (some ⟨gL, 0, none⟩) pt.letters.length cL2, .slice (some ⟨gV, 0, none⟩) pt.values.length cV2] 37)).trans ho7
                      have HU7 : Hid (Ou W7 w1.heap.size (w1.heap.size + 1) xs ys (.slice aL nl cL) (.slice aW nw cW)) := HOU.out.keep HOW7.out
                      have HQ7 : Hid (Qok W7 ⟨pt, gL, cL2, gV, cV2⟩) := (HQ5.out.keep ((Only.refl _ _).alloc (.cells #[.slice (some ⟨gL, 0, none⟩) pt.letters.length cL2, .slice (some ⟨gV, 0, none⟩) pt.values.length cV2] 37))).keep ho7
                      have e1 : W7.cell? ⟨w1.heap.size, 1, none⟩ = some (.slice aW nw cW) := HU7.out.c1
                      have b12 : W7.heap[w5.heap.size]? = some (.cells #[.slice (some ⟨gL, 0, none⟩) pt.letters.length cL2, .slice (some ⟨gV, 0, none⟩) pt.values.length cV2] 37) := (ho7.block _ (by simp) (fun h => h)).trans (heap_alloc_new w5 (.cells #[.slice (some ⟨gL, 0, none⟩) pt.letters.length cL2, .slice (some ⟨gV, 0, none⟩) pt.values.length cV2] 37))
                      have k0 : W7.cell? ⟨w5.heap.size, 0, none⟩ = some (.slice (some ⟨gL, 0, none⟩) pt.letters.length cL2) := cell_blk b12
                      have k1 : W7.cell? ⟨w5.heap.size, 1, none⟩ = some (.slice (some ⟨gV, 0, none⟩) pt.values.length cV2) := cell_blk b12
                      have hz7 : w5.heap.size < W7.heap.size := (Array.getElem?_eq_some_iff.1 b12).1
                      have ho7w : w1.heap.size < W7.heap.size := HU7.out.lt
                      clear ho7 ha7 b12
                      by_cases hjn : j < nw
                      · have m5 : (j : Int) < (nw : Int) := by omega
                        obtain ⟨bq, oq, pq, aLq, cLq, aVq, cVq, ea, hbq, hxq, cq0, cq1, hNLq, hBVq, h24q, h25q, _⟩ := (HU7.out.pw HNW.out).at hjn
                        subst ea
                        have HXQ : Hid (((ys.map (·.p)).drop j).any (tq pt.letters) = (tq pt.letters pq || ((ys.map (·.p)).drop (j + 1)).any (tq pt.letters))) := patAny_step hxq _
                        obtain ⟨bbq, hbbq⟩ : ∃ bbq, bbq = tq pt.letters pq := ⟨_, rfl⟩
                        have HBQ : Hid (bbq = tq pt.letters pq) := hbbq
                        have HS17 : Hid (∀ X, Only (fun _ => False) W7 X → Calls Tryd.prog 17 #[.slice aLq pq.letters.length cLq, .slice (some ⟨gL, 0, none⟩) pt.letters.length cL2] X fun e w' => e = .returned (.bool bbq) ∧ Only (fun _ => False) X w') := fun X hX => by
                          rw [hbbq]
                          exact same_any pq.letters pt.letters _ _ _ _ _ _ X (hNLq.keep hX) (HQ7.out.l.keep hX) (by omega) (by have : pt.letters.length ≤ 24 := HQ7.out.l24; omega)
                        have HK : Hid (∀ w', Only (fun _ => False) W7 w' → w'.cell? ⟨w1.heap.size, 1, none⟩ = some (.slice (some ⟨bq, oq, none⟩) nw cW) ∧ w'.cell? ⟨bq, oq + j * 2, none⟩ = some (.slice aLq pq.letters.length cLq) ∧ w'.cell? ⟨w5.heap.size, 0, none⟩ = some (.slice (some ⟨gL, 0, none⟩) pt.letters.length cL2)) := fun w' h => ⟨(World.cell?_of_block (a := ⟨w1.heap.size, 1, none⟩) (h.block _ ho7w (fun h => h))).trans e1, (World.cell?_of_block (a := ⟨bq, oq + j * 2, none⟩) (h.block bq hbq (fun h => h))).trans cq0, (World.cell?_of_block (a := ⟨w5.heap.size, 0, none⟩) (h.block _ hz7 (fun h => h))).trans k0⟩
                        clear hxq hNLq hBVq hbbq h24q h25q
                        cases bbq with
                        | true =>
                          have HAN : Hid ((ys.map (·.p)).any (tq pt.letters) = true) := by
                            show (ys.map (·.p)).any (tq pt.letters) = true
                            rw [HA7.out, HXQ.out, ← HBQ.out]
                            rfl
                          have HZ : Hid (PR = (23, p, [], [])) := by
                            show PR = _
                            rw [HRUN2.out, runs, HAT.out k]
                            have e : addR (rs (wordOf (sgs s) (i, k))) (xs.map (·.p)) (ys.map (·.p)) = (23, xs.map (·.p), ys.map (·.p)) := by
                              rw [← HWDE.out]
                              unfold addR
                              rw [if_neg (by rw [List.length_map, List.length_map, ← HNL.out, ← HNW.out]; exact hfull)]
                              rw [if_pos H45.out, HPT.out]
                              simp only [HAN.out, if_true]
                            rw [e]
                            rfl
                          go_wp2_with fail
                          go_region_held3 (fun w' => w'.cell? ⟨w1.heap.size, 1, none⟩ = some (.slice (some ⟨bq, oq, none⟩) nw cW) ∧ w'.cell? ⟨bq, oq + j * 2, none⟩ = some (.slice aLq pq.letters.length cLq) ∧ w'.cell? ⟨w5.heap.size, 0, none⟩ = some (.slice (some ⟨gL, 0, none⟩) pt.letters.length cL2)) ((first | exact HK.out _ (Only.refl _ _).drew | exact HK.out _ HO8.out)) ((go_at_call 17; refine Calls.mono (HS17.out _ (Only.refl _ _).drew) ?_; rintro e w8 ⟨rfl, ho8⟩; have HO8 : Hid (Only (fun _ => False) W7 w8) := ((Only.refl _ _).drew).trans ho8; have ho9 : Only (fun _ => False) Wk w8 := HO5K.out.trans HO8.out; have x0 : w8.cell? ⟨w.heap.size, 0, none⟩ = some (.slice none 0 0) := cell_blk (HBK.out _ ho9); have x1 : w8.cell? ⟨w.heap.size, 1, none⟩ = some (.slice none 0 0) := cell_blk (HBK.out _ ho9); have xf0 := fz_blk (HBK.out _ ho9) 0; have xf1 := fz_blk (HBK.out _ ho9) 1; have hw8 : w.heap.size < w8.heap.size := (by have := ho9.size; omega); clear ho8 ho9))
                          all_goals
                            go_wp2_with fail
                            refine bodyPost_ret (v := .tuple #[.agg #[.slice none 0 0, .slice none 0 0], .int .i64 23, .int .i64 (p : Int)]) (results_row2 (p := 2) (u := 3) (v := 4) rfl _ _ w.heap.size 28 #[.slice none 0 0, .slice none 0 0] (0, 0) _ rfl (by exact put2_blk (HBK.out _ (HO5K.out.trans HO8.out))) Tryd.underlying28 rfl sz28 rfl rfl) rfl ?_
                            rw [HZ.out]
                            exact ⟨none, 0, none, 0, rfl, pw_nil _, pw_nil _, set2_only (HOWK.out.trans (HO5K.out.trans HO8.out)) (Nat.le_refl _) _ _⟩
                        | false =>
                          go_wp2_with fail
                          go_region_held3 (fun w' => w'.cell? ⟨w1.heap.size, 1, none⟩ = some (.slice (some ⟨bq, oq, none⟩) nw cW) ∧ w'.cell? ⟨bq, oq + j * 2, none⟩ = some (.slice aLq pq.letters.length cLq) ∧ w'.cell? ⟨w5.heap.size, 0, none⟩ = some (.slice (some ⟨gL, 0, none⟩) pt.letters.length cL2)) ((first | exact HK.out _ (Only.refl _ _).drew | exact HK.out _ HO8.out)) ((go_at_call 17; refine Calls.mono (HS17.out _ (Only.refl _ _).drew) ?_; rintro e w8 ⟨rfl, ho8⟩; have HO8 : Hid (Only (fun _ => False) W7 w8) := ((Only.refl _ _).drew).trans ho8; have ho9 : Only (fun _ => False) Wk w8 := HO5K.out.trans HO8.out; have x0 : w8.cell? ⟨w.heap.size, 0, none⟩ = some (.slice none 0 0) := cell_blk (HBK.out _ ho9); have x1 : w8.cell? ⟨w.heap.size, 1, none⟩ = some (.slice none 0 0) := cell_blk (HBK.out _ ho9); have xf0 := fz_blk (HBK.out _ ho9) 0; have xf1 := fz_blk (HBK.out _ ho9) 1; have hw8 : w.heap.size < w8.heap.size := (by have := ho9.size; omega); clear ho8 ho9))
                          all_goals
                            go_wp2_with fail
                            go_roundg (nw - (j + 1))
                            case measure => omega
                            case rel =>
                              refine ⟨j + 1, _, rfl, rfl, by omega, by go_num, HO7.out.trans HO8.out, ?_⟩
                              rw [HA7.out, HXQ.out, ← HBQ.out, Bool.false_or]
                      · have m5 : decide ((j : Int) < (nw : Int)) = false := decide_eq_false (by omega)
                        have HAN : Hid ((ys.map (·.p)).any (tq pt.letters) = false) := by
                          show (ys.map (·.p)).any (tq pt.letters) = false
                          rw [HA7.out, List.drop_eq_nil_of_le (by rw [List.length_map, ← HNW.out]; omega)]
                          rfl
                        have HZ : Hid (PR = runs (sgs s) (cuts ((rs (sgs s)).drop k) k k) (xs.map (·.p)) (ys.map (·.p) ++ [pt])) := by
                          show PR = _
                          rw [HRUN2.out, runs]
                          have e : addR (rs (wordOf (sgs s) (i, k))) (xs.map (·.p)) (ys.map (·.p)) = (0, xs.map (·.p), ys.map (·.p) ++ [pt]) := by
                            rw [← HWDE.out]
                            unfold addR
                            rw [if_neg (by rw [List.length_map, List.length_map, ← HNL.out, ← HNW.out]; exact hfull)]
                            rw [if_pos H45.out, HPT.out]
                            simp only [HAN.out, Bool.false_eq_true, if_false]
                          rw [e, if_pos rfl]
                        go_wp2_with (at_builtin; refine wpList_append_own_at _ rfl _ _ 26 rfl (w1.heap.size + 1) 37 i7 (.agg #[.slice none 0 0, .slice none 0 0]) 2 48 Tryd.underlying26 h7 h70 h71 h72 rfl (by decide) (.slice aW nw cW) nw (qcs ys) rfl (by have hk := (HOU.out.keep (HOW7.out.alloc (.cells #[.slice (some ⟨gL, 0, none⟩) pt.letters.length cL2, .slice (some ⟨gV, 0, none⟩) pt.values.length cV2] 37))).rW; rw [← HNW.out] at hk; exact hk) ⟨W7.heap.size, 0, none⟩ 1 1 (Qd.cells ⟨pt, gL, cL2, gV, cV2⟩) rfl rfl (World.news_of_block (cs := #[.slice (some ⟨gL, 0, none⟩) pt.letters.length cL2, .slice (some ⟨gV, 0, none⟩) pt.values.length cV2]) (heap_alloc_new W7 (.cells #[.slice (some ⟨gL, 0, none⟩) pt.letters.length cL2, .slice (some ⟨gV, 0, none⟩) pt.values.length cV2] 37))) (fun u hu => by simp [Qd.cells] at hu; rcases hu with rfl | rfl <;> rfl) (by unfold maxLen; omega) (by omega) (by have := HOU.out.bs; have := HOW7.out.size; simp; omega) ?_; intro v6 w6 hown6 hg6 _ hat6; rw [HNW.out] at hown6; obtain ⟨g6, c6, rfl, _, _, _, _⟩ := row_form hown6 (by omega); have hA := Ou.addW (q := ⟨pt, gL, cL2, gV, cV2⟩) HOU.out (HOW7.out.alloc (.cells #[.slice (some ⟨gL, 0, none⟩) pt.letters.length cL2, .slice (some ⟨gV, 0, none⟩) pt.values.length cV2] 37)) (HQ7.out.keep ((Only.refl _ _).alloc (.cells #[.slice (some ⟨gL, 0, none⟩) pt.letters.length cL2, .slice (some ⟨gV, 0, none⟩) pt.values.length cV2] 37))) HG5.out.1 HG5.out.2 hown6 hg6 (by rcases hat6 with h | h; exact Or.inl h.symm; right; injection h); obtain ⟨hA1, hA2⟩ := hA; have q0 : w6.cell? ⟨w1.heap.size, 1, none⟩ = some (.slice aW nw cW) := cell_blk hA1; have qf := fz_blk hA1 1; have HA6 := (Hid_in hA2); clear hA1 hA2 hown6 hg6 hat6)
                        go_roundg (nS - k)
                        case measure => omega
                        case rel =>
                          have l1 := HNL.out
                          have l2 := HNW.out
                          refine ⟨k, xs, ys ++ [⟨pt, gL, cL2, gV, cV2⟩], _, _, _, rfl, rfl, hkn, rfl, (HON.out.trans (HA6.out.2.mono (fun b h => by omega))), HA6.out.1, by simp; omega, ?_⟩
                          rw [HZ.out]
                          simp
                · have h0 : h = 0 := by
                    rcases Nat.eq_zero_or_pos h with e | e
                    · exact e
                    · exact absurd (hm.1 e) h45
                  subst h0
                  have HREF0 : Hid (Calls Tryd.prog 20 #[.slice a8 l c8, .bool false] Wk (rfP Wk (Pt.patt WD))) := by
                    have h := refPat_false WD a8 l c8 Wk HNLW.out hl5
                    have e := HBOTH.out
                    rw [if_neg h45, decide_eq_false h45] at e
                    rw [e] at h
                    exact h
                  have H45 : Hid (¬ 45 ∈ WD) := h45
                  clear hm h45 HBOTH
                  cases hpt : Pt.patt WD with
                  | none =>
                    have HREF : Hid (Calls Tryd.prog 20 #[.slice a8 l c8, .bool false] Wk (rfP Wk none)) := by rw [← hpt]; exact HREF0
                    have HZ : Hid (PR = (30, p, [], [])) := by
                      show PR = _
                      rw [HRUN2.out, runs, HAT.out k]
                      have e : addR (rs (wordOf (sgs s) (i, k))) (xs.map (·.p)) (ys.map (·.p)) = (30, xs.map (·.p), ys.map (·.p)) := by
                        rw [← HWDE.out]
                        unfold addR
                        rw [if_neg (by rw [List.length_map, List.length_map, ← HNL.out, ← HNW.out]; exact hfull)]
                        rw [if_neg H45.out, hpt]
                      rw [e]
                      rfl
                    clear hpt HREF0
                    go_wp2_with (go_at_call 20; refine Calls.mono HREF.out ?_; rintro e w5 ⟨ua, um, uc, ub, un, ud, rfl, ho5⟩; have HO5 : Hid (Only (fun _ => False) Wk w5) := ho5; have z0 : w5.cell? ⟨w.heap.size, 0, none⟩ = some (.slice none 0 0) := cell_blk (HBK.out _ ho5); have z1 : w5.cell? ⟨w.heap.size, 1, none⟩ = some (.slice none 0 0) := cell_blk (HBK.out _ ho5); have zf0 := fz_blk (HBK.out _ ho5) 0; have zf1 := fz_blk (HBK.out _ ho5) 1; have hw5 : w.heap.size < w5.heap.size := (by have := ho5.size; omega); clear ho5)
                    refine bodyPost_ret (v := .tuple #[.agg #[.slice none 0 0, .slice none 0 0], .int .i64 30, .int .i64 (p : Int)]) (results_row2 (p := 2) (u := 3) (v := 4) rfl _ _ w.heap.size 28 #[.slice none 0 0, .slice none 0 0] (0, 0) _ rfl (by exact (Below.heap_alloc _ _ _ (by simp [World.setCell]; omega)).trans (put2_blk (HBK.out _ HO5.out))) Tryd.underlying28 rfl sz28 rfl rfl) rfl ?_
                    rw [HZ.out]
                    exact ⟨none, 0, none, 0, rfl, pw_nil _, pw_nil _, (set2_only (HOWK.out.trans HO5.out) (Nat.le_refl _) _ _).alloc _⟩
                  | some pt =>
                    have HREF : Hid (Calls Tryd.prog 20 #[.slice a8 l c8, .bool false] Wk (rfP Wk (some pt))) := by rw [← hpt]; exact HREF0
                    have HZ : Hid (PR = runs (sgs s) (cuts ((rs (sgs s)).drop k) k k) (xs.map (·.p) ++ [pt]) (ys.map (·.p))) := by
                      show PR = _
                      rw [HRUN2.out, runs]
                      have e : addR (rs (wordOf (sgs s) (i, k))) (xs.map (·.p)) (ys.map (·.p)) = (0, xs.map (·.p) ++ [pt], ys.map (·.p)) := by
                        rw [← HWDE.out]
                        unfold addR
                        rw [if_neg (by rw [List.length_map, List.length_map, ← HNL.out, ← HNW.out]; exact hfull)]
                        rw [if_neg H45.out, hpt]
                      rw [e, if_pos rfl]
                    clear hpt HREF0
                    go_wp2_with (first
                      | (go_at_call 20; refine Calls.mono HREF.out ?_; rintro e w5 ⟨gL, cL2, gV, cV2, rfl, hNL5, hBV5, h24, h25, ho5, hgl, hgv, hp0, hpv⟩; have HO5 : Hid (Only (fun _ => False) Wk w5) := ho5; have HQ5 : Hid (Qok w5 ⟨pt, gL, cL2, gV, cV2⟩) := ⟨hNL5, hBV5, h24, h25, hp0, hpv⟩; have HG5 : Hid (W.heap.size ≤ gL ∧ W.heap.size ≤ gV) := ⟨Nat.le_trans hWks hgl, Nat.le_trans hWks hgv⟩; have HU5 : Hid (Ou w5 w1.heap.size (w1.heap.size + 1) xs ys (.slice aL nl cL) (.slice aW nw cW)) := HOUK.out.keep ho5; have d50 : w5.cell? ⟨w1.heap.size, 0, none⟩ = some (.slice aL nl cL) := HU5.out.c0; have d51 : w5.cell? ⟨w1.heap.size, 1, none⟩ = some (.slice aW nw cW) := HU5.out.c1; have ho5w : w1.heap.size < w5.heap.size := HU5.out.lt; have HOW5 : Hid (Only (fun _ => False) W w5) := HONK.out.trans ho5; clear hNL5 hBV5 h24 h25 ho5 hgl hgv hp0 hpv)
                      | (at_builtin; refine wpList_append_own_at _ rfl _ _ 26 rfl (w1.heap.size + 1) 37 i7 (.agg #[.slice none 0 0, .slice none 0 0]) 2 48 Tryd.underlying26 h7 h70 h71 h72 rfl (by decide) (.slice aL nl cL) nl (qcs xs) rfl (by have hk := (HOU.out.keep ((HOW5.out.alloc (.cells #[.slice (some ⟨gL, 0, none⟩) pt.letters.length cL2, .slice (some ⟨gV, 0, none⟩) pt.values.length cV2] 37)).alloc (.cells #[.slice (some ⟨gL, 0, none⟩) pt.letters.length cL2, .slice (some ⟨gV, 0, none⟩) pt.values.length cV2] 37))).rL; rw [← HNL.out] at hk; exact hk) ⟨w5.heap.size + 1, 0, none⟩ 1 1 (Qd.cells ⟨pt, gL, cL2, gV, cV2⟩) rfl rfl (World.news_of_block (cs := #[.slice (some ⟨gL, 0, none⟩) pt.letters.length cL2, .slice (some ⟨gV, 0, none⟩) pt.values.length cV2]) (heap_alloc2_new w5 (.cells #[.slice (some ⟨gL, 0, none⟩) pt.letters.length cL2, .slice (some ⟨gV, 0, none⟩) pt.values.length cV2] 37) (.cells #[.slice (some ⟨gL, 0, none⟩) pt.letters.length cL2, .slice (some ⟨gV, 0, none⟩) pt.values.length cV2] 37))) (fun u hu => by simp [Qd.cells] at hu; rcases hu with rfl | rfl <;> rfl) (by unfold maxLen; omega) (by omega) (by have := HOU.out.bs; have := HOW5.out.size; simp; omega) ?_; intro v6 w6 hown6 hg6 _ hat6; rw [HNL.out] at hown6; obtain ⟨g6, c6, rfl, _, _, _, _⟩ := row_form hown6 (by omega); have hA := Ou.addL (q := ⟨pt, gL, cL2, gV, cV2⟩) HOU.out ((HOW5.out.alloc (.cells #[.slice (some ⟨gL, 0, none⟩) pt.letters.length cL2, .slice (some ⟨gV, 0, none⟩) pt.values.length cV2] 37)).alloc (.cells #[.slice (some ⟨gL, 0, none⟩) pt.letters.length cL2, .slice (some ⟨gV, 0, none⟩) pt.values.length cV2] 37)) (HQ5.out.keep (((Only.refl _ _).alloc (.cells #[.slice (some ⟨gL, 0, none⟩) pt.letters.length cL2, .slice (some ⟨gV, 0, none⟩) pt.values.length cV2] 37)).alloc (.cells #[.slice (some ⟨gL, 0, none⟩) pt.letters.length cL2, .slice (some ⟨gV, 0, none⟩) pt.values.length cV2] 37))) HG5.out.1 HG5.out.2 hown6 hg6 (by rcases hat6 with h | h; exact Or.inl h.symm; right; injection h); obtain ⟨hA1, hA2⟩ := hA; have q0 : w6.cell? ⟨w1.heap.size, 0, none⟩ = some (.slice aL nl cL) := cell_blk hA1; have qf := fz_blk hA1 0; have HA6 := (Hid_in hA2); clear hA1 hA2 hown6 hg6 hat6))
                    go_roundg (nS - k)
                    case measure => omega
                    case rel =>
                      have l1 := HNL.out
                      have l2 := HNW.out
                      refine ⟨k, xs ++ [⟨pt, gL, cL2, gV, cV2⟩], ys, _, _, _, rfl, rfl, hkn, rfl, (HON.out.trans (HA6.out.2.mono (fun b h => by omega))), HA6.out.1, by simp; omega, ?_⟩
                      rw [HZ.out]
                      simp
    · have t2 : decide ((i : Int) < (nS : Int)) = false := decide_eq_false (by omega)
      have o0 := HOU.out.c0
      have o1 := HOU.out.c1
      have HB0W : Hid (W.heap[w.heap.size]? = some (.cells #[.slice none 0 0, .slice none 0 0] 28)) := (HON0.out.block _ (by omega) (fun h => h)).trans HB0.out
      have k00 : W.cell? ⟨w.heap.size, 0, none⟩ = some (.slice none 0 0) := cell_blk HB0W.out
      have k01 : W.cell? ⟨w.heap.size, 1, none⟩ = some (.slice none 0 0) := cell_blk HB0W.out
      have f00 := fz_blk HB0W.out 0
      have f01 := fz_blk HB0W.out 1
      have HZ : Hid (PR = (0, 0, xs.map (·.p), ys.map (·.p))) := by
        show PR = _
        rw [HRUN.out, List.drop_eq_nil_of_le (by unfold rs; rw [List.length_map, ← HNS.out]; omega), cuts, if_neg (Nat.lt_irrefl _), runs]
      go_wp2_with fail
      refine bodyPost_ret (v := .tuple #[.agg #[.slice aL nl cL, .slice aW nw cW], .int .i64 0, .int .i64 0]) (results_row2 (p := 2) (u := 3) (v := 4) rfl _ _ w.heap.size 28 #[.slice aL nl cL, .slice aW nw cW] (0, 0) _ rfl (by exact put2_blk HB0W.out) Tryd.underlying28 rfl sz28 rfl rfl) rfl ?_
      have hp2 : Only (· = w.heap.size) W ((W.setCell ⟨w.heap.size, 0, none⟩ (.slice aL nl cL)).setCell ⟨w.heap.size, 1, none⟩ (.slice aW nw cW)) := ((Only.refl (· = w.heap.size) W).setCell (p := ⟨w.heap.size, 0, none⟩) rfl _).setCell (p := ⟨w.heap.size, 1, none⟩) rfl _
      have hU := HOU.out.keepB hp2 (fun b h => by have : b = w.heap.size := h; omega)
      rw [HZ.out]
      refine ⟨aL, cL, aW, cW, by simp [← HNL.out, ← HNW.out], ?_, ?_, set2_only (HOw.out.trans HON0.out) (Nat.le_refl _) _ _⟩
      · have h := hU.pl HNL.out
        simp only [List.length_map, ← HNL.out]
        exact h
      · have h := hU.pw HNW.out
        simp only [List.length_map, ← HNW.out]
        exact h
end Go.Proofs.YtjgbfpemkjpikaaDoor
