/-
  either of the rules' reader; and so all expressions.
-/
import Derived.Test.YtfbcijnacbfjpaaRow
namespace Go.Proofs.Ytfbcijnacbfjpaa
open Go.RowKit Go.Maps
set_option linter.unusedVariables false
set_option linter.unusedSimpArgs false

theorem either_succ (E : Rl.Env) (nc n d : Nat) (ts : List Rl.Tk) (p : Nat) : Rl.either E nc (n + 1) d ts p = match Rl.row E nc n d ts p [] with
    | .error f => .error f
    | .ok (e, ts1, p1) => Rl.alts E nc n d ts1 p1 [e] := by simp only [Rl.either]; rfl
theorem alts_succ (E : Rl.Env) (nc n d : Nat) (ts : List Rl.Tk) (p : Nat) (l : List Rl.Ex) : Rl.alts E nc (n + 1) d ts p l = match Rl.took 124 ts with
    | .error f => .error f
    | .ok (false, ts1) => .ok (Rl.mkAlt l, ts1, p)
    | .ok (true, ts1) => match Rl.row E nc n d ts1 p [] with
      | .error f => .error f
      | .ok (e, ts2, p2) => Rl.alts E nc n d ts2 p2 (l ++ [e]) := by simp only [Rl.alts]; rfl
theorem took_false {c : UInt8} {ts ts1 : List Rl.Tk} (h : Rl.took c ts = .ok (false, ts1)) : ts1 = ts := by
  cases ts with
  | nil => cases h
  | cons t ts =>
    rw [took_cons] at h
    split at h
    · cases h
    · split at h
      · cases h
      · cases h; rfl
/-- a list of one, just built. -/
theorem Es.first {w : World} {base : Nat} {e : Rl.Ex} {o s k : Value} (hT : Tr w (fun b => base ≤ b) e (.agg #[o, s, k])) (hb : base ≤ w.heap.size) : Es (w.alloc (.cells #[o, s, k] 49)) base (.slice (some ⟨w.heap.size, 0, none⟩) 1 1) [e] := by
  refine ⟨[o, s, k], ⟨rfl, Or.inr ⟨w.heap.size, 1, #[o, s, k], rfl, hb, heap_alloc_new _ _, Nat.le_refl _, by unfold maxLen; omega, rfl, rfl⟩⟩, ?_⟩
  unfold Trs
  refine ⟨⟨o, s, k, rfl, rfl, rfl, hT.keep (fun b hb hl => ⟨⟨hb, fun e => ?_⟩, Below.heap_alloc _ _ _ hl⟩)⟩, by unfold Trs; trivial⟩
  simp [Value.ownBlock] at e
  omega

set_option maxRecDepth 100000 in
set_option maxHeartbeats 8000000 in
theorem either_step (E : Rl.Env) (nc rb : Nat) (S : ByteArray) (n : Nat) (hS : S.size ≤ 4096) (hT : ∀ m, m ≤ n → RowOk E nc rb S m) : EitherOk E nc rb S (n + 1) := by
  intro d p x ts w hI hM hC hn
  obtain ⟨i0, hi, hz0, hz1, hz2⟩ := info_parts info50
  have hlt := hI.lt
  have htl : ts.length ≤ 5000 := by have := hI.len; omega
  have HC : Hid (Cx nc rb x p d) := hC
  have HI : Hid (In w rb S x ts) := hI
  have HM : Hid (Mp w x.mb E) := hM
  have HT : Hid (∀ m, m ≤ n → RowOk E nc rb S m) := hT
  have Z0 : Hid (Xb (w.alloc (.cells #[.int .u8 0, .int .u32 0, .slice none 0 0] 49)) w.heap.size (.int .u8 0) (.int .u32 0) (.slice none 0 0)) := Xb.new w _ _ _
  have hp200 := hC.p200
  rw [either_succ]
  clear hI hM hC hT
  cases hrow : Rl.row E nc n d ts p [] with
  | error f =>
    have T1 : Hid (Rl.row E nc n d ts p [] = .error f) := hrow
    clear hrow
    simp only
    go_enter Try.func88, Try.ntmps88
    go_wp2_with (go_at_call 90; have hc := HT.out n (Nat.le_refl _) d p x ts (w.alloc (.cells #[.int .u8 0, .int .u32 0, .slice none 0 0] 49)) (HI.out.alloc _) (HM.out.alloc _) HC.out (by omega); rw [T1.out] at hc; refine hc.mono ?_; clear hc; rintro e w1 ⟨rfl, ho1⟩)
    exact ⟨rfl, rfl, ((Only.refl (· = rb) w).alloc _).trans ho1⟩
  | ok r =>
    obtain ⟨e1, ts1, p1⟩ := r
    have T1 : Hid (Rl.row E nc n d ts p [] = .ok (e1, ts1, p1)) := hrow
    have hln1 := (Rl.expr_len E nc n).2.2.1 _ _ _ _ _ _ _ hrow hp200
    simp only
    obtain ⟨F, hF⟩ : ∃ F, F = Rl.alts E nc n d ts1 p1 [e1] := ⟨_, rfl⟩
    have HF : Hid (F = Rl.alts E nc n d ts1 p1 [e1]) := hF
    rw [← hF]
    clear hrow hF
    go_enter Try.func88, Try.ntmps88
    go_wp2_with (go_at_call 90; have hc := HT.out n (Nat.le_refl _) d p x ts (w.alloc (.cells #[.int .u8 0, .int .u32 0, .slice none 0 0] 49)) (HI.out.alloc _) (HM.out.alloc _) HC.out (by omega); rw [T1.out] at hc; refine hc.mono ?_; clear hc; rintro e w1 ⟨v1, rfl, hT1, hI1, ho1⟩; obtain ⟨o, s, a, k, c, rfl⟩ := hT1.form; have HI1 : Hid (In w1 rb S (x.withPl p1) ts1) := hI1; have HT1 : Hid (Tr w1 (fun b => w.heap.size + 1 ≤ b) e1 (.agg #[.int .u8 o, .int .u32 s, .slice a k c])) := (by have := hT1; simp only [World.alloc, Array.size_push] at this; exact this); clear hI1 hT1; have HO1 : Hid (Only (· = rb) w w1) := ((Only.refl (· = rb) w).alloc _).trans ho1; have Z1 : Hid (Xb w1 w.heap.size (.int .u8 0) (.int .u32 0) (.slice none 0 0)) := Z0.out.only ho1 (by omega); have hl1 := Z1.out.lt)
    go_loopg [3] ts1.length (fun g v wr => ∃ (tsr : List Rl.Tk) (m pr : Nat) (l : List Rl.Ex), g = tsr.length ∧ In wr rb S (x.withPl pr) tsr ∧ Only (· = rb) w wr ∧ Xb wr w.heap.size (.int .u8 0) (.int .u32 0) (.slice none 0 0) ∧ Es wr (w.heap.size + 1) v l ∧ l ≠ [] ∧ pr ≤ 200 ∧ 4 * tsr.length + 2 ≤ m ∧ m ≤ n ∧ l.length + tsr.length ≤ ts.length + 1 ∧ Hid (F = Rl.alts E nc m d tsr pr l))
    case atStart => exact ⟨ts1, n, p1, [e1], rfl, HI1.out.alloc _, HO1.out.alloc _, Z1.out.alloc _, Es.first HT1.out (by omega), by simp, hln1.2, by omega, Nat.le_refl _, by simp; omega, HF.out⟩
    case round =>
      obtain ⟨tsr, m, pr, l, rfl, hIr, hOr, hZr, hEr, hlne, hpr, hm1, hm2, hll, hFr⟩ := hrel
      obtain ⟨m, rfl⟩ : ∃ k, m = k + 1 := ⟨m - 1, by omega⟩
      have HIr : Hid (In wr rb S (x.withPl pr) tsr) := hIr
      have HOr : Hid (Only (· = rb) w wr) := hOr
      have HMr : Hid (Mp wr x.mb E) := HM.out.only hOr HC.out.mb
      have HCr : Hid (Cx nc rb (x.withPl pr) pr d) := HC.out.withPl hpr
      have HZr : Hid (Xb wr w.heap.size (.int .u8 0) (.int .u32 0) (.slice none 0 0)) := hZr
      have HEr := hEr
      have hFr' := hFr.out
      have hlz := hZr.lt
      have Hlne : Hid (l ≠ []) := hlne
      rw [alts_succ] at hFr'
      clear hIr hOr hFr hZr hEr hlne
      cases htk : Rl.took 124 tsr with
      | error f =>
        rw [htk] at hFr'
        have HE : Hid (F = .error f) := hFr'
        have T2 : Hid (Rl.took 124 tsr = .error f) := htk
        clear htk hFr' HEr
        go_wp2_with (go_at_call 70; have hc := took_any 124 rb S (x.withPl pr) tsr _ HIr.out hS; rw [T2.out] at hc; refine hc.mono ?_; clear hc; rintro e w2 ⟨rfl, ho2⟩)
        refine ⟨rfl, ?_⟩
        rw [HE.out]
        exact ⟨rfl, HOr.out.trans ho2⟩
      | ok r =>
        obtain ⟨b, ts2⟩ := r
        rw [htk] at hFr'
        have T2 : Hid (Rl.took 124 tsr = .ok (b, ts2)) := htk
        have hln2 := Rl.took_len htk
        clear htk
        cases b with
        | true =>
          simp only at hFr'
          have hln2' := hln2.2 rfl
          cases hrw : Rl.row E nc m d ts2 pr [] with
          | error f =>
            rw [hrw] at hFr'
            have HE : Hid (F = .error f) := hFr'
            have T3 : Hid (Rl.row E nc m d ts2 pr [] = .error f) := hrw
            clear hrw hFr' HEr
            go_wp2_with (first | (go_at_call 70; have hc := took_any 124 rb S (x.withPl pr) tsr _ HIr.out hS; rw [T2.out] at hc; refine hc.mono ?_; clear hc; rintro e w2 ⟨rfl, hI2, ho2⟩; have HI2 : Hid (In w2 rb S (x.withPl pr) ts2) := hI2; clear hI2; have HO2 : Hid (Only (· = rb) wr w2) := ho2; clear ho2) | (go_at_call 90; have hc := HT.out m (by omega) d pr (x.withPl pr) ts2 _ HI2.out (HMr.out.only HO2.out HC.out.mb) HCr.out (by omega); rw [T3.out] at hc; refine hc.mono ?_; clear hc; rintro e w3 ⟨rfl, ho3⟩))
            refine ⟨rfl, ?_⟩
            rw [HE.out]
            exact ⟨rfl, HOr.out.trans (HO2.out.trans ho3)⟩
          | ok r =>
            obtain ⟨e2, ts3, p3⟩ := r
            rw [hrw] at hFr'
            have HE : Hid (F = Rl.alts E nc m d ts3 p3 (l ++ [e2])) := hFr'
            have T3 : Hid (Rl.row E nc m d ts2 pr [] = .ok (e2, ts3, p3)) := hrw
            have hln3 := (Rl.expr_len E nc m).2.2.1 _ _ _ _ _ _ _ hrw hpr
            obtain ⟨xs, hown, hkids⟩ := HEr
            have HOwn : Hid (wr.ownsRow (w.heap.size + 1) 49 3 u3 l.length xs) := hown
            have HKid : Hid (Trs wr (Kb (w.heap.size + 1) u3) l (fun j => xs[j]?)) := hkids
            clear hrw hFr' hown hkids
            go_wp2_with (first | (go_at_call 70; have hc := took_any 124 rb S (x.withPl pr) tsr _ HIr.out hS; rw [T2.out] at hc; refine hc.mono ?_; clear hc; rintro e w2 ⟨rfl, hI2, ho2⟩; have HI2 : Hid (In w2 rb S (x.withPl pr) ts2) := hI2; clear hI2; have HO2 : Hid (Only (· = rb) wr w2) := ho2; clear ho2; have hl2 := HO2.out.size) | (go_at_call 90; have hc := HT.out m (by omega) d pr (x.withPl pr) ts2 _ HI2.out (HMr.out.only HO2.out HC.out.mb) HCr.out (by omega); rw [T3.out] at hc; refine hc.mono ?_; clear hc; rintro e w4 ⟨v4, rfl, hT4, hI4, ho4⟩; obtain ⟨o', s', a', k', c', rfl⟩ := hT4.form; have HI4 : Hid (In w4 rb S (x.withPl p3) ts3) := hI4; have HT4 : Hid (Tr w4 (fun b => w2.heap.size ≤ b) e2 (.agg #[.int .u8 o', .int .u32 s', .slice a' k' c'])) := hT4; clear hI4 hT4; have HO4 : Hid (Only (· = rb) wr w4) := HO2.out.trans ho4; have hl4 := HO4.out.size; have HOwn4 : Hid (w4.ownsRow (w.heap.size + 1) 49 3 u3 l.length xs) := own_only HOwn.out HO4.out (fun g hg => by omega); have HKid4 : Hid (Trs w4 (Kb (w.heap.size + 1) u3) l (fun j => xs[j]?)) := HKid.out.keep (fun b hb hl => ⟨hb, HO4.out.block b hl (by have := hb.1; omega)⟩)) | (at_builtin; refine wpList_append_own_at _ rfl _ _ 27 rfl (w.heap.size + 1) 49 i0 (.agg #[.int .u8 0, .int .u32 0, .slice none 0 0]) 3 32 Try.underlying27 hi hz0 hz1 hz2 rfl (by decide) _ _ _ rfl (HOwn4.out.alloc _) ⟨w4.heap.size, 0, none⟩ 1 1 [.int .u8 o', .int .u32 s', .slice a' k' c'] rfl rfl (ex_news _ _ _ _) (ex_cells _ _ _ _ _) (by unfold maxLen; omega) (by omega) (by simp; omega) ?_; intro v5 w5 hown5 hg5 _ hat5))
            go_roundg ts3.length
            case measure => omega
            case rel =>
              have hO5 : Only (· = rb) w w5 := by
                refine ⟨hg5.os.trans (HOr.out.trans HO4.out).os, hg5.tape.trans (HOr.out.trans HO4.out).tape, hg5.output.trans (HOr.out.trans HO4.out).output, Nat.le_trans (Nat.le_trans (HOr.out.trans HO4.out).size (by simp)) hg5.size, fun g hgl hgn => ?_⟩
                have hlw := (HOr.out.trans HO4.out).size
                rw [hg5.block g (by simp; omega) (fun e => by have := (HOwn4.out.lt g e.symm).1; omega), Below.heap_alloc _ _ _ (by omega)]
                exact (HOr.out.trans HO4.out).block g hgl hgn
              have hk5 : ∀ g, g < w4.heap.size → g < w.heap.size + 1 → w5.heap[g]? = w4.heap[g]? := fun g h1 h2 => by
                rw [hg5.block g (by simp; omega) (fun e => by have := (HOwn4.out.lt g e.symm).1; omega), Below.heap_alloc _ _ _ (by omega)]
              obtain ⟨i4, hR4, hs4, hi4⟩ := HI4.out
              refine ⟨ts3, m, p3, l ++ [e2], rfl, ⟨i4, (hk5 rb hR4.lt (by omega)).trans hR4, hs4, hi4⟩, hO5, (hk5 w.heap.size (by omega) (by omega)).trans (HZr.out.only HO4.out (by omega)), ?_, by simp, hln3.2, by omega, by omega, by simp; omega, HE.out⟩
              refine Es.snoc HOwn4.out HKid4.out HT4.out (fun b hb => ⟨by omega, fun e => ?_⟩) hown5 hg5 hat5
              have := (HOwn.out.lt b e).2
              omega
        | false =>
          simp only at hFr'
          have HE : Hid (F = .ok (Rl.mkAlt l, ts2, pr)) := hFr'
          clear hFr'
          have HEs : Hid (Es wr (w.heap.size + 1) u3 l) := HEr
          obtain ⟨xs, hown, hkids⟩ := HEr
          match l, HEs, HE, hown, hkids, Hlne with
          | [], HEs, HE, hown, hkids, Hlne => exact absurd rfl Hlne.out
          | [e0], HEs, HE, hown, hkids, Hlne =>
            obtain ⟨o', s', k', rfl, hT2⟩ := hkids.one hown.1
            obtain ⟨g, cap, rfl, hgb, hgl, hcap, hcells⟩ := row_form hown (by simp)
            have HT2 : Hid (Tr wr (Kb (w.heap.size + 1) (.slice (some ⟨g, 0, none⟩) 1 cap)) e0 (.agg #[o', s', k'])) := hT2
            have K0 : Hid (wr.cell? ⟨g, 0, none⟩ = some o') := hcells 0 (by simp)
            have K1 : Hid (wr.cell? ⟨g, 1, none⟩ = some s') := hcells 1 (by simp)
            have K2 : Hid (wr.cell? ⟨g, 2, none⟩ = some k') := hcells 2 (by simp)
            obtain ⟨op, st, a', n', c', hform⟩ := hT2.form
            simp only [Value.agg.injEq, Array.mk.injEq, List.cons.injEq, and_true] at hform
            obtain ⟨rfl, rfl, rfl⟩ := hform
            clear hown hkids hcells hT2
            go_wp2_with (go_at_call 70; have hc := took_any 124 rb S (x.withPl pr) tsr _ HIr.out hS; rw [T2.out] at hc; refine hc.mono ?_; clear hc; rintro e w2 ⟨rfl, hI2, ho2⟩; have HI2 : Hid (In w2 rb S (x.withPl pr) ts2) := hI2; clear hI2; have HO2 : Hid (Only (· = rb) wr w2) := ho2; clear ho2; have Z2 : Hid (Xb w2 w.heap.size (.int .u8 0) (.int .u32 0) (.slice none 0 0)) := HZr.out.only HO2.out (by omega); have z0 := Z2.out.c0; have z1 := Z2.out.c1; have z2 := Z2.out.c2; have zf0 := Z2.out.fz 0; have zf1 := Z2.out.fz 1; have zf2 := Z2.out.fz 2; have j0 := (World.cell?_of_block (a := ⟨g, 0, none⟩) (HO2.out.block g hgl (by omega))).trans K0.out; have j1 := (World.cell?_of_block (a := ⟨g, 1, none⟩) (HO2.out.block g hgl (by omega))).trans K1.out; have j2 := (World.cell?_of_block (a := ⟨g, 2, none⟩) (HO2.out.block g hgl (by omega))).trans K2.out)
            refine bodyPost_ret (v := .agg #[.int .u8 op, .int .u32 st, .slice a' n' c']) (results_x rfl _ rfl (Z2.out.set3 _ _ _)) rfl ?_
            rw [HE.out]
            refine ⟨_, rfl, ?_, HI2.out.set3 (z := w.heap.size) (by omega) _ _ _, (HOr.out.trans HO2.out).set3 (z := w.heap.size) (Nat.le_refl _) _ _ _⟩
            refine HT2.out.keep fun b hb hl => ⟨by have := hb.1; omega, ?_⟩
            exact (set3_other w2 (z := w.heap.size) _ _ _ (by have := hb.1; omega)).trans (HO2.out.block b hl (by have := hb.1; omega))
          | e0 :: e2 :: l2, HEs, HE, hown, hkids, Hlne =>
            obtain ⟨a', cap, rfl⟩ := own_form hown
            have q1 : (((e0 :: e2 :: l2).length : Int) == 1) = false := by simp; omega
            have Hown : Hid (wr.ownsRow (w.heap.size + 1) 49 3 (.slice a' (e0 :: e2 :: l2).length cap) (e0 :: e2 :: l2).length xs) := hown
            have Hkids : Hid (Trs wr (Kb (w.heap.size + 1) (.slice a' (e0 :: e2 :: l2).length cap)) (e0 :: e2 :: l2) (fun j => xs[j]?)) := hkids
            clear hown hkids
            generalize hL : e0 :: e2 :: l2 = L at *
            have HL : Hid (e0 :: e2 :: l2 = L) := hL
            clear hL
            go_wp2_with (go_at_call 70; have hc := took_any 124 rb S (x.withPl pr) tsr _ HIr.out hS; rw [T2.out] at hc; refine hc.mono ?_; clear hc; rintro e w2 ⟨rfl, hI2, ho2⟩; have HI2 : Hid (In w2 rb S (x.withPl pr) ts2) := hI2; clear hI2; have HO2 : Hid (Only (· = rb) wr w2) := ho2; clear ho2; have Z2 : Hid (Xb w2 w.heap.size (.int .u8 0) (.int .u32 0) (.slice none 0 0)) := HZr.out.only HO2.out (by omega); have z0 := Z2.out.c0; have z1 := Z2.out.c1; have z2 := Z2.out.c2; have zf0 := Z2.out.fz 0; have zf1 := Z2.out.fz 1; have zf2 := Z2.out.fz 2)
            refine bodyPost_ret (v := .agg #[.int .u8 3, .int .u32 0, .slice a' L.length cap]) (results_x rfl _ rfl (Z2.out.set3 _ _ _)) rfl ?_
            have hmk : Rl.mkAlt L = .mk 3 0 L := by rw [← HL.out]; rfl
            rw [HE.out, hmk]
            refine ⟨_, rfl, ?_, HI2.out.set3 (z := w.heap.size) (by omega) _ _ _, (HOr.out.trans HO2.out).set3 (z := w.heap.size) (Nat.le_refl _) _ _ _⟩
            have hT := Tr.row (F' := fun b => w.heap.size + 1 ≤ b) 3 Hown.out Hkids.out (fun g hg => (Hown.out.lt g hg).1) (fun b hb => hb.1) (by rw [← HL.out]; simp)
            refine hT.keep fun b hb hl => ⟨by omega, ?_⟩
            exact (set3_other w2 (z := w.heap.size) _ _ _ (by omega)).trans (HO2.out.block b hl (by omega))

theorem exprs_all (E : Rl.Env) (nc rb : Nat) (S : ByteArray) (hS : S.size ≤ 4096) : ∀ n, (∀ m, m ≤ n → EitherOk E nc rb S m) ∧ (∀ m, m ≤ n → ThingOk E nc rb S m) ∧ (∀ m, m ≤ n → RowOk E nc rb S m)
  | 0 => by
    refine ⟨fun m hm => ?_, fun m hm => ?_, fun m hm => ?_⟩
    · intro d p x ts w _ _ _ h; omega
    · intro d p x t ts w _ _ _ _ _ h; omega
    · intro d p x ts w _ _ _ h; omega
  | n + 1 => by
    obtain ⟨h1, h2, h3⟩ := exprs_all E nc rb S hS n
    have e1 : EitherOk E nc rb S (n + 1) := either_step E nc rb S n hS h3
    have e2 : ThingOk E nc rb S (n + 1) := thing_step E nc rb S n hS (h1 n (Nat.le_refl _))
    have e3 : RowOk E nc rb S (n + 1) := row_step E nc rb S (n + 1) hS (fun m hm => h2 m (by omega))
    refine ⟨fun m hm => ?_, fun m hm => ?_, fun m hm => ?_⟩
    · by_cases e : m = n + 1
      · rw [e]; exact e1
      · exact h1 m (by omega)
    · by_cases e : m = n + 1
      · rw [e]; exact e2
      · exact h2 m (by omega)
    · by_cases e : m = n + 1
      · rw [e]; exact e3
      · exact h3 m (by omega)
theorem either_any (E : Rl.Env) (nc rb : Nat) (S : ByteArray) (hS : S.size ≤ 4096) (n : Nat) : EitherOk E nc rb S n := (exprs_all E nc rb S hS n).1 n (Nat.le_refl _)
end Go.Proofs.Ytfbcijnacbfjpaa
