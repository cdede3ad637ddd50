/-
  place's Spot: a byte's row and column.
-/
import Derived.Test.YteejgjapghccnaaYe
namespace Go.Proofs.Yteejgjapghccnaa
open Go.RowKit Go.Maps
set_option linter.unusedVariables false
set_option linter.unusedSimpArgs false
theorem results_row_tmp {P : Program} {fn : Func} {p u : Tmp} {ty : TypeId} (h : fn.results = #[.cell p ty, .tmp u]) (tmps : Array Value) (w : World) (g : Nat) (t : TypeId) (cs : Array Value) (fr : Nat × Nat) (d : TypeDesc)
    (hp : tmps.getD p undef = .pointer (some ⟨g, 0, none⟩)) (hg : w.heap[g]? = some (.cells cs t fr))
    (hu : P.underlying ty = some d) (hd : (match d with | .struct _ | .array _ _ => true | _ => false) = true) (hi : (P.info? ty).map (·.size) = some cs.size) (v : Value) (hv : tmps.getD u undef = v) :
    (results fn tmps).run P w = .ok (.tuple #[.agg cs, v]) w := by
  subst hv
  have hp' : tmps[p]?.getD undef = .pointer (some ⟨g, 0, none⟩) := by simpa using hp
  simp [results, h, hp', asAddr, run_loadVar_row w g t ty cs fr d hg hu hd hi]
namespace Lv
theorem spt_stay {C : List Ct} {t i k : Nat} {L : List Ln} {back : Bool} {l : Ln} (hi : rwF L k = i) (hl : L[i]? = some l) (hb : ¬ (back = true ∧ 0 < i ∧ l.a = k)) : spt C t L back k = (i, Sp.col C t l.a (k - l.a)) := by
  unfold spt
  simp only [hi]
  rw [getD_at hl, if_neg hb, getD_at hl]
theorem spt_step {C : List Ct} {t i k : Nat} {L : List Ln} {l m : Ln} (hi : rwF L k = i + 1) (hl : L[i + 1]? = some l) (ha : l.a = k) (hm : L[i]? = some m) : spt C t L true k = (i, Sp.col C t m.a (k - m.a)) := by
  unfold spt
  simp only [hi]
  rw [getD_at hl, if_pos ⟨trivial, Nat.succ_pos _, ha⟩, Nat.add_sub_cancel, getD_at hm]
end Lv
theorem two_ints (a b : Int) : (#[Value.int .i64 a, .int .i64 b].all fun x => x.oneCell') = true := by simp [Value.oneCell']
/-- a map's cells, and what is read of it. -/
theorem Mpp.open {w : World} {M n : Nat} {C : List Ct} {t : Nat} {L : List Ln} (h : Mpp w M n C t L) {n1 nl s : Nat} (h1 : n1 = n + 1) (hl : nl = L.length) (hs : s = It.sum C) : ∃ aB aR cB cR b0 o0, aB = some ⟨b0, o0, none⟩ ∧ w.heap[M]? = some (.cells #[.slice aB n1 cB, .slice aR nl cR] 75 (0, 0)) ∧ w.cell? ⟨b0, o0 + n, none⟩ = some (.int .i64 (s : Int)) ∧ (∀ k, k ≤ n → w.cell? ⟨b0, o0 + k, none⟩ = some (.int .i64 ((It.sum (C.take k) : Nat) : Int))) ∧ (∀ W, Only (fun _ => False) w W → ∀ q, Calls Try.prog 22 #[.slice aB n1 cB, .int .i64 ((q : Nat) : Int), .func (.func 23) #[] #[]] W fun e w' => e = .returned (.int .i64 ((Lv.clu C q n : Nat) : Int)) ∧ Only (fun _ => False) W w') ∧ (∀ W, Only (fun _ => False) w W → ∀ k, k ≤ n → Calls Try.prog 24 #[.slice aR nl cR, .int .i64 ((k : Nat) : Int), .func (.func 25) #[] #[]] W fun e w' => e = .returned (.int .i64 ((Lv.rwF L k : Nat) : Int)) ∧ Only (fun _ => False) W w') ∧
    ∀ i l, L[i]? = some l → ∃ b1 o1 al c, aR = some ⟨b1, o1, none⟩ ∧ b1 < w.heap.size ∧ w.cell? ⟨b1, o1 + i * 2, none⟩ = some (.int .i64 (l.a : Int)) ∧ w.cell? ⟨b1, o1 + i * 2 + 1, none⟩ = some (.slice al (l.b - l.a + 1) c) ∧ (∀ W, Only (fun _ => False) w W → ∀ k, l.a ≤ k → k ≤ l.b → Calls Try.prog 26 #[.agg #[.int .i64 (l.a : Int), .slice al (l.b - l.a + 1) c], .int .i64 (k : Int)] W fun e w' => e = .returned (.int .i64 ((Sp.col C t l.a (k - l.a) : Nat) : Int)) ∧ Only (fun _ => False) W w') ∧ (∀ W, Only (fun _ => False) w W → ∀ q, Calls Try.prog 22 #[.slice al (l.b - l.a + 1) c, .int .i64 ((q : Nat) : Int), .func (.func 23) #[] #[]] W fun e w' => e = .returned (.int .i64 ((Lv.bi C t l.a q (l.b - l.a + 1) : Nat) : Int)) ∧ Only (fun _ => False) W w') := by
  obtain ⟨R, aB, aR, cB, cR, hM⟩ := h.ex
  have hn := h.hn
  have hfew := h.few
  have hb : (Lv.bys C).length = n1 := by rw [Lv.bys_len, h1, hn]
  obtain ⟨b0, o0, e0, hb0, hc⟩ := hM.vB.cells (by rw [natI_len, hb]; omega)
  refine ⟨aB, aR, cB, cR, b0, o0, e0, ?_, ?_, fun k hk => hc k _ (natI_get (Lv.bys_at (by omega))), ?_, ?_, ?_⟩
  · rw [h1, hl, hn]
    exact hM.blk
  · refine hc n _ (natI_get ?_)
    rw [hn, hs]
    exact Lv.bys_last C
  · intro W ho q
    refine (searchN_any (Lv.bys C) n1 aB cB q W hb.symm (hM.vB.keep ho) (Lv.bys_up h.ctg) (by omega) (by omega) (by rw [Lv.bys_zero]; exact Nat.zero_le _)).mono ?_
    rintro e w' ⟨r, he, hr, ho'⟩
    refine ⟨?_, ho'⟩
    rw [hn, Lv.clu_sr h.ctg hr]
    exact he
  · intro W ho k hk
    have hlen := rlen h.rws
    refine (searchR_any R (L.map (·.a)) nl aR cR k W (by rw [List.length_map]; exact hl) hM.starts (hM.vR.keep ho) (Lv.rows_up h.rws) (by omega) (by omega) (by rw [Lv.rows_zero h.rws]; exact Nat.zero_le _)).mono ?_
    rintro e w' ⟨r, he, hr, ho'⟩
    refine ⟨?_, ho'⟩
    rw [Lv.row_sr h.rws hk hr]
    exact he
  · intro i l hi
    have hlt := (List.getElem?_eq_some_iff.1 hi).1
    obtain ⟨r, hr⟩ : ∃ r, R[i]? = some r := ⟨_, List.getElem?_eq_getElem (by rw [hM.len]; exact hlt)⟩
    obtain ⟨b1, o1, e1, hb1, c0, c1⟩ := hM.vR.row hr
    obtain ⟨q0, q1, q2⟩ := hM.row i l r hi hr
    obtain ⟨g1, g2, -⟩ := h.rws.at hi
    rw [q0] at c0
    rw [q1] at c1
    refine ⟨b1, o1, r.al, r.c, e1, hb1, c0, c1, ?_, ?_⟩
    · intro W ho k k1 k2
      exact column_any (Sp.cols C t l.a (l.b - l.a)) l.a k _ r.al r.c _ W (by rw [Lv.cols_len]) (q2.keep ho) k1 (by omega) (by omega) (Lv.cols_at C t l.a (by omega))
    · intro W ho q
      refine (searchN_any (Sp.cols C t l.a (l.b - l.a)) _ r.al r.c q W (by rw [Lv.cols_len]) (q2.keep ho) (Lv.cols_up C h.t0 _ _) (by omega) (by omega) (by rw [Lv.cols_zero]; exact Nat.zero_le _)).mono ?_
      rintro e w' ⟨r2, he, hr2, ho'⟩
      refine ⟨?_, ho'⟩
      rw [Lv.bi_sr C h.t0 hr2]
      exact he
end Go.Proofs.Yteejgjapghccnaa
