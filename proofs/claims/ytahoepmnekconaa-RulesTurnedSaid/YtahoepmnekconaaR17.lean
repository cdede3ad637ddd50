/-
  Parse of the document's own parser: its walk.
-/
import Derived.Test.YtahoepmnekconaaR16
namespace Go.Proofs.Ytahoepmnekconaa
open Go.RowKit Go.Maps
set_option linter.unusedVariables false
set_option linter.unusedSimpArgs false
set_option maxRecDepth 100000 in
set_option maxHeartbeats 8000000 in
theorem rparse_any (S : ByteArray) (ts : List Rl.Tk) (n : Nat) (w : World) (hs : Rl.Strm S.data.toList 0 ts) (hS : S.size ≤ 4096) (hn : ts.length < n) :
    Calls Try.prog 15 #[.string S] w (rparseP w (Rl.lines n ts Rl.st0)) := by
  have hSi : ¬ (4096 : Int) < (S.size : Int) := by omega
  have hSd : decide ((4096 : Int) < (S.size : Int)) = false := decide_eq_false hSi
  have htl : ts.length ≤ 4097 := by have := strm_len hs (Nat.zero_le _); rw [← Lib.size_eq] at this; omega
  obtain ⟨F, hF⟩ : ∃ F, F = Rl.lines n ts Rl.st0 := ⟨_, rfl⟩
  have HF : Hid (F = Rl.lines n ts Rl.st0) := hF
  rw [← hF]
  have Hs : Hid (Rl.Strm S.data.toList 0 ts) := hs
  clear hF hs
  go_enter Try.func15, Try.ntmps15
  go_wp2_with fail
  have hz0 : ((w.alloc (.cells #[.slice none 0 0, .int .u32 0, .int .u32 0, .slice none 0 0, .slice none 0 0] 37)).alloc (.cells (rqC S 0 x0 0 0) 71)).heap[w.heap.size]? = some (.cells #[.slice none 0 0, .int .u32 0, .int .u32 0, .slice none 0 0, .slice none 0 0] 37 (0, 0)) := heap_alloc2_old w _ _
  have HZ0 : Hid (((w.alloc (.cells #[.slice none 0 0, .int .u32 0, .int .u32 0, .slice none 0 0, .slice none 0 0] 37)).alloc (.cells (rqC S 0 x0 0 0) 71)).heap[w.heap.size]? = some (.cells #[.slice none 0 0, .int .u32 0, .int .u32 0, .slice none 0 0, .slice none 0 0] 37 (0, 0))) := hz0
  have hR0 : Rpr ((w.alloc (.cells #[.slice none 0 0, .int .u32 0, .int .u32 0, .slice none 0 0, .slice none 0 0] 37)).alloc (.cells (rqC S 0 x0 0 0) 71)) (w.heap.size + 1) S ((0 : Nat) : Int) x0 0 0 := heap_alloc2_new w _ _
  have HR0 : Hid (Rpr ((w.alloc (.cells #[.slice none 0 0, .int .u32 0, .int .u32 0, .slice none 0 0, .slice none 0 0] 37)).alloc (.cells (rqC S 0 x0 0 0) 71)) (w.heap.size + 1) S ((0 : Nat) : Int) x0 0 0) := hR0
  have hsz0 : ((w.alloc (.cells #[.slice none 0 0, .int .u32 0, .int .u32 0, .slice none 0 0, .slice none 0 0] 37)).alloc (.cells (rqC S 0 x0 0 0) 71)).heap.size = w.heap.size + 2 := by simp
  have HSZ : Hid (((w.alloc (.cells #[.slice none 0 0, .int .u32 0, .int .u32 0, .slice none 0 0, .slice none 0 0] 37)).alloc (.cells (rqC S 0 x0 0 0) 71)).heap.size = w.heap.size + 2) := hsz0
  have hO0 : Only (fun _ => False) w ((w.alloc (.cells #[.slice none 0 0, .int .u32 0, .int .u32 0, .slice none 0 0, .slice none 0 0] 37)).alloc (.cells (rqC S 0 x0 0 0) 71)) := ((Only.refl (fun _ => False) w).alloc _).alloc _
  have HO0 : Hid (Only (fun _ => False) w ((w.alloc (.cells #[.slice none 0 0, .int .u32 0, .int .u32 0, .slice none 0 0, .slice none 0 0] 37)).alloc (.cells (rqC S 0 x0 0 0) 71))) := hO0
  have Hfin : Hid (∀ W, Up (w.heap.size + 1) ((w.alloc (.cells #[.slice none 0 0, .int .u32 0, .int .u32 0, .slice none 0 0, .slice none 0 0] 37)).alloc (.cells (rqC S 0 x0 0 0) 71)) W → Only (fun b => b = w.heap.size) w W) := fun W hU => ⟨hU.os.trans hO0.os, hU.tape.trans hO0.tape, hU.output.trans hO0.output, Nat.le_trans hO0.size hU.size, fun g hg hn => (hU.block g (by rw [hsz0]; omega) (by omega)).trans (hO0.block g hg (fun e => e))⟩
  have HZk : Hid (∀ W, Up (w.heap.size + 1) ((w.alloc (.cells #[.slice none 0 0, .int .u32 0, .int .u32 0, .slice none 0 0, .slice none 0 0] 37)).alloc (.cells (rqC S 0 x0 0 0) 71)) W → W.heap[w.heap.size]? = some (.cells #[.slice none 0 0, .int .u32 0, .int .u32 0, .slice none 0 0, .slice none 0 0] 37 (0, 0))) := fun W hU => (hU.block w.heap.size (by rw [hsz0]; omega) (by omega)).trans hz0
  clear hz0 hR0 hO0 hsz0
  obtain ⟨W0, hW0⟩ : ∃ W0, W0 = ((w.alloc (.cells #[.slice none 0 0, .int .u32 0, .int .u32 0, .slice none 0 0, .slice none 0 0] 37)).alloc (.cells (rqC S 0 x0 0 0) 71)) := ⟨_, rfl⟩
  rw [← hW0] at HZ0 HR0 HSZ HO0 Hfin HZk
  go_loopg [] (ts.length + 1) (fun g wr => (∃ (tsr : List Rl.Tk) (sr : Rl.St) (xr : Rq) (m : Nat) (W : World), W = wr ∧ g = tsr.length + 1 ∧ Qn W (w.heap.size + 1) S xr tsr ∧ Sr W (w.heap.size + 1) xr sr ∧ Up (w.heap.size + 1) W0 W ∧ sr.env.length + tsr.length ≤ 4999 ∧ tsr.length < m ∧ Hid (F = Rl.lines m tsr sr)) ∨ (∃ (f : Rl.Ft) (W : World), W = wr ∧ g = 0 ∧ Qb W (w.heap.size + 1) S f ∧ Up (w.heap.size + 1) W0 W ∧ Hid (F = .error f)))
  case atStart => exact Or.inl ⟨ts, Rl.st0, x0, n, _, rfl, rfl, ⟨0, (by rw [hW0] at HR0; exact HR0.out), Hs.out, Nat.zero_le _⟩, Sr.first _ _, (by rw [hW0]; exact Only.refl _ _), (by show 0 + ts.length ≤ 4999; omega), hn, HF.out⟩
  case round =>
    clear hW0
    rcases hrel with ⟨tsr, sr, xr, m, W, hW, rfl, hIr, hSr, hOr, henr, hmr, hFr⟩ | ⟨f, W, hW, rfl, hBr, hOr, hFr⟩
    · subst hW
      cases tsr with
      | nil => obtain ⟨i, _, h2, _⟩ := hIr; exact h2.elim
      | cons t tsr =>
        obtain ⟨m, rfl⟩ : ∃ k, m = k + 1 := ⟨m - 1, by omega⟩
        have HIr : Hid (Qn W (w.heap.size + 1) S xr (t :: tsr)) := hIr
        have HSr : Hid (Sr W (w.heap.size + 1) xr sr) := hSr
        have HOr : Hid (Up (w.heap.size + 1) W0 W) := hOr
        have hFr' := hFr.out
        rw [lines_consF] at hFr'
        simp only [List.length_cons] at henr hmr
        clear hIr hSr hOr hFr
        by_cases hb : t.bad = true
        · rw [if_pos hb] at hFr'
          have HE : Hid (F = .error (20, t.at')) := hFr'
          have HB : Hid (t.bad = true) := hb
          clear hb hFr'
          go_wp2_with (go_at_call 23; refine (here_bd (w.heap.size + 1) S xr t tsr _ HIr.out hS HSr.out.vc HB.out).mono ?_; rintro e w1 ⟨rfl, hR1, ho1⟩; have d11 : w1.cell? ⟨w.heap.size + 1, 11, none⟩ = some (.int .i64 20) := hR1.c11; have d12 := hR1.c12; have HU1 : Hid (Up (w.heap.size + 1) W0 w1) := HOr.out.trans ho1.up; have HZ1 : Hid (w1.heap[w.heap.size]? = some (.cells #[.slice none 0 0, .int .u32 0, .int .u32 0, .slice none 0 0, .slice none 0 0] 37 (0, 0))) := HZk.out w1 HU1.out; clear hR1 ho1; have z0 : w1.cell? ⟨w.heap.size, 0, none⟩ = some (.slice none 0 0) := (cell_of_row _ _ _ _ _ _ HZ1.out).trans rfl; have zf0 : w1.frozen? ⟨w.heap.size, 0, none⟩ = false := (by simp [World.frozen?, HZ1.out]); have z1 : w1.cell? ⟨w.heap.size, 1, none⟩ = some (.int .u32 0) := (cell_of_row _ _ _ _ _ _ HZ1.out).trans rfl; have zf1 : w1.frozen? ⟨w.heap.size, 1, none⟩ = false := (by simp [World.frozen?, HZ1.out]); have z2 : w1.cell? ⟨w.heap.size, 2, none⟩ = some (.int .u32 0) := (cell_of_row _ _ _ _ _ _ HZ1.out).trans rfl; have zf2 : w1.frozen? ⟨w.heap.size, 2, none⟩ = false := (by simp [World.frozen?, HZ1.out]); have z3 : w1.cell? ⟨w.heap.size, 3, none⟩ = some (.slice none 0 0) := (cell_of_row _ _ _ _ _ _ HZ1.out).trans rfl; have zf3 : w1.frozen? ⟨w.heap.size, 3, none⟩ = false := (by simp [World.frozen?, HZ1.out]); have z4 : w1.cell? ⟨w.heap.size, 4, none⟩ = some (.slice none 0 0) := (cell_of_row _ _ _ _ _ _ HZ1.out).trans rfl; have zf4 : w1.frozen? ⟨w.heap.size, 4, none⟩ = false := (by simp [World.frozen?, HZ1.out]))
          go_region
          all_goals
            go_wp2_with fail
            have hz := set5_at HZ1.out (.slice none 0 0) (.int .u32 0) (.int .u32 0) (.slice none 0 0) (.slice none 0 0)
            refine bodyPost_ret (v := .tuple #[noRules, .int .i64 20, .int .i64 (t.at' : Int)]) (results_row2 (fn := Try.f15) (p := 2) (u := 3) (v := 4) (ty := 37) rfl _ _ w.heap.size 37 _ (0, 0) _ rfl hz Try.underlying37 rfl info37) rfl ?_
            rw [HE.out]
            exact ⟨⟨rfl, (by decide : (20 : Nat) ≠ 0)⟩, (((Hfin.out w1 HU1.out).trans (set5_only _ _ _ _ _ _ _)).newAt.drew)⟩
        · rw [if_neg hb] at hFr'
          have HB : Hid (¬ t.bad = true) := hb
          by_cases he : t.text = []
          · rw [if_pos he] at hFr'
            have HE : Hid (F = .ok sr) := hFr'
            have HHd : Hid (hd t = 0) := by show hd t = 0; unfold hd; rw [he]
            obtain ⟨aC, cC, hvC⟩ := own_form HSr.out.p.cls
            obtain ⟨aT, cT, hvT⟩ := own_form HSr.out.p.trt
            obtain ⟨ys, hoL, _⟩ := HSr.out.p.lst
            obtain ⟨aL, cL, hvL⟩ := own_form hoL
            have HvC : Hid (xr.vC = .slice aC sr.cls.length cC) := hvC
            have HvT : Hid (xr.vT = .slice aT sr.treat.length cT) := hvT
            have HvL : Hid (xr.vL = .slice aL sr.list.length cL) := hvL
            clear hb hFr' he hvC hvT hvL hoL
            go_wp2_with (go_at_call 23; refine (here_ok (w.heap.size + 1) S xr t tsr _ HIr.out hS HB.out).mono ?_; rintro e w1 ⟨rfl, hR1, hs1, he1, ho1⟩; rw [HHd.out]; have d11 := hR1.c11; have d2 := hR1.c2; rw [HvC.out] at d2; have d3 := hR1.c3; have d4 := hR1.c4; have d5 := hR1.c5; rw [HvT.out] at d5; have d6 := hR1.c6; rw [HvL.out] at d6; have HU1 : Hid (Up (w.heap.size + 1) W0 w1) := HOr.out.trans ho1.up; have HZ1 : Hid (w1.heap[w.heap.size]? = some (.cells #[.slice none 0 0, .int .u32 0, .int .u32 0, .slice none 0 0, .slice none 0 0] 37 (0, 0))) := HZk.out w1 HU1.out; have HS1 : Hid (Sr w1 (w.heap.size + 1) xr sr) := HSr.out.only ho1; clear hR1 ho1 hs1; have z0 : w1.cell? ⟨w.heap.size, 0, none⟩ = some (.slice none 0 0) := (cell_of_row _ _ _ _ _ _ HZ1.out).trans rfl; have zf0 : w1.frozen? ⟨w.heap.size, 0, none⟩ = false := (by simp [World.frozen?, HZ1.out]); have z1 : w1.cell? ⟨w.heap.size, 1, none⟩ = some (.int .u32 0) := (cell_of_row _ _ _ _ _ _ HZ1.out).trans rfl; have zf1 : w1.frozen? ⟨w.heap.size, 1, none⟩ = false := (by simp [World.frozen?, HZ1.out]); have z2 : w1.cell? ⟨w.heap.size, 2, none⟩ = some (.int .u32 0) := (cell_of_row _ _ _ _ _ _ HZ1.out).trans rfl; have zf2 : w1.frozen? ⟨w.heap.size, 2, none⟩ = false := (by simp [World.frozen?, HZ1.out]); have z3 : w1.cell? ⟨w.heap.size, 3, none⟩ = some (.slice none 0 0) := (cell_of_row _ _ _ _ _ _ HZ1.out).trans rfl; have zf3 : w1.frozen? ⟨w.heap.size, 3, none⟩ = false := (by simp [World.frozen?, HZ1.out]); have z4 : w1.cell? ⟨w.heap.size, 4, none⟩ = some (.slice none 0 0) := (cell_of_row _ _ _ _ _ _ HZ1.out).trans rfl; have zf4 : w1.frozen? ⟨w.heap.size, 4, none⟩ = false := (by simp [World.frozen?, HZ1.out]))
            have hz := set5_at HZ1.out (.slice aC sr.cls.length cC) (.int .u32 xr.j) (.int .u32 xr.a) (.slice aT sr.treat.length cT) (.slice aL sr.list.length cL)
            have hso := set5_only w1 w.heap.size (.slice aC sr.cls.length cC) (.int .u32 xr.j) (.int .u32 xr.a) (.slice aT sr.treat.length cT) (.slice aL sr.list.length cL)
            refine bodyPost_ret (v := .tuple #[.agg #[.slice aC sr.cls.length cC, .int .u32 xr.j, .int .u32 xr.a, .slice aT sr.treat.length cT, .slice aL sr.list.length cL], .int .i64 0, .int .i64 0]) (results_row2 (fn := Try.f15) (p := 2) (u := 3) (v := 4) (ty := 37) rfl _ _ w.heap.size 37 _ (0, 0) _ rfl hz Try.underlying37 rfl info37) rfl ?_
            rw [HE.out]
            exact ⟨⟨_, w.heap.size + 1 + 1, rfl, by omega, (HS1.out.rv HvC.out HvT.out HvL.out).only hso (fun g hg => by omega)⟩, ((Hfin.out w1 HU1.out).trans hso).newAt⟩
          · rw [if_neg he] at hFr'
            have q : (hd t != 0) = true := by
              obtain ⟨it, htk⟩ := strm_tk HIr.out
              simpa using hd_ne htk he
            cases hln : lineF t tsr sr with
            | error f =>
              rw [hln] at hFr'
              have HE : Hid (F = .error f) := hFr'
              have T1 : Hid (lineF t tsr sr = .error f) := hln
              clear hb he hFr' hln
              go_wp2_with (first | (go_at_call 23; refine (here_ok (w.heap.size + 1) S xr t tsr _ HIr.out hS HB.out).mono ?_; rintro e w1 ⟨rfl, hR1, hs1, he1, ho1⟩; have d11 := hR1.c11; have HI1 : Hid (Qn w1 (w.heap.size + 1) S xr (t :: tsr)) := ⟨_, hR1, hs1, by omega⟩; have HO1 : Hid (Only (· = (w.heap.size + 1)) W w1) := ho1; clear hR1 ho1 hs1) | (go_at_call 24; have hc := rline_any (w.heap.size + 1) S xr sr t tsr _ HI1.out hS (HSr.out.only HO1.out) HB.out (by omega); rw [T1.out] at hc; refine hc.mono ?_; clear hc; rintro e w2 ⟨rfl, hb2, ho2⟩))
              go_roundg 0
              case measure => omega
              case rel => exact Or.inr ⟨f, _, rfl, rfl, hb2, HOr.out.trans (HO1.out.up.trans ho2), HE.out⟩
            | ok r =>
              obtain ⟨ts2, s1⟩ := r
              rw [hln] at hFr'
              have HE : Hid (F = Rl.lines m ts2 s1) := hFr'
              have T1 : Hid (lineF t tsr sr = .ok (ts2, s1)) := hln
              have hll : ts2.length < tsr.length ∧ s1.env.length + ts2.length ≤ sr.env.length + tsr.length := by
                unfold lineF at hln
                cases hl : Rl.line t tsr sr with
                | error f => rw [hl] at hln; cases hln
                | ok r =>
                  obtain ⟨ts1, s1'⟩ := r
                  rw [hl] at hln
                  simp only at hln
                  cases hw : Rl.want 59 ts1 with
                  | error f => rw [hw] at hln; cases hln
                  | ok ts2' =>
                    rw [hw] at hln
                    cases hln
                    have h1 := line_len hl HSr.out.p.p200
                    have h2 := Rl.want_len hw
                    omega
              clear hb he hFr' hln
              go_wp2_with (first | (go_at_call 23; refine (here_ok (w.heap.size + 1) S xr t tsr _ HIr.out hS HB.out).mono ?_; rintro e w1 ⟨rfl, hR1, hs1, he1, ho1⟩; have d11 := hR1.c11; have HI1 : Hid (Qn w1 (w.heap.size + 1) S xr (t :: tsr)) := ⟨_, hR1, hs1, by omega⟩; have HO1 : Hid (Only (· = (w.heap.size + 1)) W w1) := ho1; clear hR1 ho1 hs1) | (go_at_call 24; have hc := rline_any (w.heap.size + 1) S xr sr t tsr _ HI1.out hS (HSr.out.only HO1.out) HB.out (by omega); rw [T1.out] at hc; refine hc.mono ?_; clear hc; rintro e w2 ⟨rfl, x2, hi2, hs2, ho2⟩))
              go_roundg (ts2.length + 1)
              case measure => simp only [List.length_cons]; omega
              case rel => exact Or.inl ⟨ts2, s1, x2, m, _, rfl, rfl, hi2, hs2, HOr.out.trans (HO1.out.up.trans ho2), by omega, by omega, HE.out⟩
    · subst hW
      have HBr : Hid (Qb W (w.heap.size + 1) S f) := hBr
      have HOr : Hid (Up (w.heap.size + 1) W0 W) := hOr
      clear hOr hBr
      go_wp2_with (go_at_call 23; refine (here_bad (w.heap.size + 1) S f _ HBr.out).mono ?_; rintro e w1 ⟨rfl, ho1⟩; have hq1 := HBr.out.only ho1 (fun h => h); obtain ⟨i1, x1, hR1, hc1, _⟩ := hq1; have d11 := hR1.c11; have d12 := hR1.c12; have q : ((f.1 : Int) != 0) = true := (by simpa using hc1); have HC1 : Hid (f.1 ≠ 0) := hc1; have HU1 : Hid (Up (w.heap.size + 1) W0 w1) := HOr.out.trans ho1.up0; have HZ1 : Hid (w1.heap[w.heap.size]? = some (.cells #[.slice none 0 0, .int .u32 0, .int .u32 0, .slice none 0 0, .slice none 0 0] 37 (0, 0))) := HZk.out w1 HU1.out; clear hR1 ho1 hc1; have z0 : w1.cell? ⟨w.heap.size, 0, none⟩ = some (.slice none 0 0) := (cell_of_row _ _ _ _ _ _ HZ1.out).trans rfl; have zf0 : w1.frozen? ⟨w.heap.size, 0, none⟩ = false := (by simp [World.frozen?, HZ1.out]); have z1 : w1.cell? ⟨w.heap.size, 1, none⟩ = some (.int .u32 0) := (cell_of_row _ _ _ _ _ _ HZ1.out).trans rfl; have zf1 : w1.frozen? ⟨w.heap.size, 1, none⟩ = false := (by simp [World.frozen?, HZ1.out]); have z2 : w1.cell? ⟨w.heap.size, 2, none⟩ = some (.int .u32 0) := (cell_of_row _ _ _ _ _ _ HZ1.out).trans rfl; have zf2 : w1.frozen? ⟨w.heap.size, 2, none⟩ = false := (by simp [World.frozen?, HZ1.out]); have z3 : w1.cell? ⟨w.heap.size, 3, none⟩ = some (.slice none 0 0) := (cell_of_row _ _ _ _ _ _ HZ1.out).trans rfl; have zf3 : w1.frozen? ⟨w.heap.size, 3, none⟩ = false := (by simp [World.frozen?, HZ1.out]); have z4 : w1.cell? ⟨w.heap.size, 4, none⟩ = some (.slice none 0 0) := (cell_of_row _ _ _ _ _ _ HZ1.out).trans rfl; have zf4 : w1.frozen? ⟨w.heap.size, 4, none⟩ = false := (by simp [World.frozen?, HZ1.out]))
      go_region
      have HE : Hid (F = .error f) := hFr
      all_goals
        go_wp2_with fail
        have hz := set5_at HZ1.out (.slice none 0 0) (.int .u32 0) (.int .u32 0) (.slice none 0 0) (.slice none 0 0)
        refine bodyPost_ret (v := .tuple #[noRules, .int .i64 (f.1 : Int), .int .i64 (f.2 : Int)]) (results_row2 (fn := Try.f15) (p := 2) (u := 3) (v := 4) (ty := 37) rfl _ _ w.heap.size 37 _ (0, 0) _ rfl hz Try.underlying37 rfl info37) rfl ?_
        rw [HE.out]
        exact ⟨⟨rfl, HC1.out⟩, (((Hfin.out w1 HU1.out).trans (set5_only _ _ _ _ _ _ _)).newAt.drew)⟩
end Go.Proofs.Ytahoepmnekconaa
