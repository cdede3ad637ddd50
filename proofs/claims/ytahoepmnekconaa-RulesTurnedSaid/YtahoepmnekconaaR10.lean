/-
  either of the document's own parser; and so all its expressions.
-/
import Derived.Test.YtahoepmnekconaaR9
namespace Go.Proofs.Ytahoepmnekconaa
open Go.RowKit Go.Maps
set_option linter.unusedVariables false
set_option linter.unusedSimpArgs false
theorem own_first {w : World} {base : Nat} {o s k : Value} (hb : base ≤ w.heap.size) : (w.alloc (.cells #[o, s, k] 50)).ownsRow base 50 3 (.slice (some ⟨w.heap.size, 0, none⟩) 1 1) 1 [o, s, k] :=
  ⟨rfl, Or.inr ⟨w.heap.size, 1, #[o, s, k], rfl, hb, heap_alloc_new _ _, Nat.le_refl _, by unfold maxLen; omega, rfl, rfl⟩⟩
theorem alloc_size (w : World) (o : Obj) : (w.alloc o).heap.size = w.heap.size + 1 := by simp
set_option maxRecDepth 100000 in
set_option maxHeartbeats 16000000 in
theorem reither_step (E : Rl.Env) (nc rb : Nat) (S : ByteArray) (n : Nat) (hS : S.size ≤ 4096) (hT : ∀ m, m ≤ n → RRowOk E nc rb S m) : REitherOk E nc rb S (n + 1) := by
  intro d p x ts w hI hM hC hn
  obtain ⟨i0, hi, hz0, hz1, hz2⟩ := info_parts info50
  have hlt := hI.lt
  have htl : ts.length ≤ 5000 := by have := hI.len; omega
  have HC : Hid (Cr nc x p d) := hC
  have HI : Hid (Qn w rb S x ts) := hI
  have HD : Hid (Dec w rb x E) := hM
  have HT : Hid (∀ m, m ≤ n → RRowOk E nc rb S m) := hT
  have Z0 : Hid (Xb (w.alloc (.cells #[.int .u8 0, .int .u32 0, .slice none 0 0] 50)) w.heap.size (.int .u8 0) (.int .u32 0) (.slice none 0 0)) := Xb.new w _ _ _
  have hp200 := hC.p200
  rw [either_succ]
  clear hI hM hC hT
  cases hrow : Rl.row E nc n d ts p [] with
  | error f =>
    have T1 : Hid (Rl.row E nc n d ts p [] = .error f) := hrow
    clear hrow
    simp only
    obtain ⟨F, hF⟩ : ∃ F : Rl.R (Rl.Ex × List Rl.Tk × Nat), F = .error f := ⟨_, rfl⟩
    have HF : Hid (F = .error f) := hF
    rw [← hF]
    clear hF
    go_enter Try.func55, Try.ntmps55
    go_wp2_with (go_at_call 64; have hc := HT.out n (Nat.le_refl _) d p x ts (w.alloc (.cells #[.int .u8 0, .int .u32 0, .slice none 0 0] 50)) (HI.out.alloc _) (HD.out.only ((Only.refl (· = rb) w).alloc _)) HC.out (by omega) ; rw [T1.out] at hc; refine hc.mono ?_; clear hc; rintro e w1 ⟨⟨o, s, a, k, c, rfl⟩, hb1, ho1⟩; have HBx1 : Hid (Qb w1 rb S f) := hb1; clear hb1; have HO1 : Hid (Only (· = rb) w w1) := ((Only.refl (· = rb) w).alloc _).trans ho1; have Z1 : Hid (Xb w1 w.heap.size (.int .u8 0) (.int .u32 0) (.slice none 0 0)) := Z0.out.only ho1 (by omega); have hl1 := Z1.out.lt)
    go_loopg [4] 0 (fun g v wr => ∃ (k : Nat) (xs : List Value) (W : World), W = wr ∧ Qb W rb S f ∧ Only (· = rb) w W ∧ Xb W w.heap.size (.int .u8 0) (.int .u32 0) (.slice none 0 0) ∧ W.ownsRow (w.heap.size + 1) 50 3 v k xs ∧ Frm k xs ∧ 0 < k ∧ k ≤ 5001)
    case atStart =>
      have hown := own_first (w := w1.alloc (.cells #[.int .u8 o, .int .u32 s, .slice a k c] 50)) (base := w.heap.size + 1) (o := .int .u8 o) (s := .int .u32 s) (k := .slice a k c) (by rw [alloc_size]; omega)
      rw [alloc_size] at hown
      exact ⟨1, _, _, rfl, (HBx1.out.alloc _).alloc _, (HO1.out.alloc _).alloc _, (Z1.out.alloc _).alloc _, hown, fun _ => ⟨_, _, _, _, _, rfl⟩, by omega, by omega⟩
    case round =>
      obtain ⟨k, xs, W, hW, hBr, hOr, hZr, hown, hfm, hk0, hk5⟩ := hrel
      have hFr := HF
      subst hW
      have HBr : Hid (Qb W rb S f) := hBr
      have HOr : Hid (Only (· = rb) w W) := hOr
      have HZr : Hid (Xb W w.heap.size (.int .u8 0) (.int .u32 0) (.slice none 0 0)) := hZr
      have HOwn : Hid (W.ownsRow (w.heap.size + 1) 50 3 u4 k xs) := hown
      have HFm : Hid (Frm k xs) := hfm
      have HE : Hid (F = .error f) := hFr.out
      have hlz := hZr.lt
      have hlr := hBr.lt
      clear hOr hZr hown hfm hFr hBr
      rcases Nat.lt_or_ge 1 k with hk | hk
      · obtain ⟨a', cap, rfl⟩ := own_form HOwn.out
        have q1 : ((k : Int) == 1) = false := by simp; omega
        go_wp2_with (go_at_call 34; refine (sign_bad _ rb S f _ HBr.out).mono ?_; rintro e w2 ⟨rfl, hb2, ho2⟩; have HBx2 : Hid (Qb w2 rb S f) := hb2; clear hb2; have HOy2 : Hid (Only (· = rb) W w2) := ho2.mono (fun _ h => h.elim); clear ho2; have HOx2 : Hid (Only (· = rb) w w2) := HOr.out.trans HOy2.out; have Z2 : Hid (Xb w2 w.heap.size (.int .u8 0) (.int .u32 0) (.slice none 0 0)) := HZr.out.only HOy2.out (by omega); have z0 := Z2.out.c0; have z1 := Z2.out.c1; have z2 := Z2.out.c2; have zf0 := Z2.out.fz 0; have zf1 := Z2.out.fz 1; have zf2 := Z2.out.fz 2)
        refine bodyPost_ret (v := .agg #[.int .u8 3, .int .u32 0, .slice a' k cap]) (results_x rfl _ rfl (Z2.out.set3 _ _ _)) rfl ?_
        rw [HE.out]
        exact ⟨⟨_, _, _, _, _, rfl⟩, HBx2.out.set3 (z := w.heap.size) (by omega) _ _ _, HOx2.out.set3 (z := w.heap.size) (Nat.le_refl _) _ _ _⟩
      · obtain rfl : k = 1 := by omega
        obtain ⟨o, s, a, q, c, rfl⟩ := HFm.out rfl
        obtain ⟨g, cap, rfl, hgb, hgl, hcap, hcells⟩ := row_form HOwn.out (by omega)
        have K0 : Hid (W.cell? ⟨g, 0, none⟩ = some (.int .u8 o)) := hcells 0 (by simp)
        have K1 : Hid (W.cell? ⟨g, 1, none⟩ = some (.int .u32 s)) := hcells 1 (by simp)
        have K2 : Hid (W.cell? ⟨g, 2, none⟩ = some (.slice a q c)) := hcells 2 (by simp)
        clear hcells
        go_wp2_with (go_at_call 34; refine (sign_bad _ rb S f _ HBr.out).mono ?_; rintro e w2 ⟨rfl, hb2, ho2⟩; have HBx2 : Hid (Qb w2 rb S f) := hb2; clear hb2; have HOy2 : Hid (Only (· = rb) W w2) := ho2.mono (fun _ h => h.elim); clear ho2; have HOx2 : Hid (Only (· = rb) w w2) := HOr.out.trans HOy2.out; have Z2 : Hid (Xb w2 w.heap.size (.int .u8 0) (.int .u32 0) (.slice none 0 0)) := HZr.out.only HOy2.out (by omega); have z0 := Z2.out.c0; have z1 := Z2.out.c1; have z2 := Z2.out.c2; have zf0 := Z2.out.fz 0; have zf1 := Z2.out.fz 1; have zf2 := Z2.out.fz 2; have j0 := (World.cell?_of_block (a := ⟨g, 0, none⟩) (HOy2.out.block g hgl (by omega))).trans K0.out; have j1 := (World.cell?_of_block (a := ⟨g, 1, none⟩) (HOy2.out.block g hgl (by omega))).trans K1.out; have j2 := (World.cell?_of_block (a := ⟨g, 2, none⟩) (HOy2.out.block g hgl (by omega))).trans K2.out)
        refine bodyPost_ret (v := .agg #[.int .u8 o, .int .u32 s, .slice a q c]) (results_x rfl _ rfl (Z2.out.set3 _ _ _)) rfl ?_
        rw [HE.out]
        exact ⟨⟨_, _, _, _, _, rfl⟩, HBx2.out.set3 (z := w.heap.size) (by omega) _ _ _, HOx2.out.set3 (z := w.heap.size) (Nat.le_refl _) _ _ _⟩
  | ok r =>
    obtain ⟨e1, ts1, p1⟩ := r
    have T1 : Hid (Rl.row E nc n d ts p [] = .ok (e1, ts1, p1)) := hrow
    have hln1 := (Rl.expr_len E nc n).2.2.1 _ _ _ _ _ _ _ hrow hp200
    simp only
    obtain ⟨F, hF⟩ : ∃ F, F = Rl.alts E nc n d ts1 p1 [e1] := ⟨_, rfl⟩
    have HF : Hid (F = Rl.alts E nc n d ts1 p1 [e1]) := hF
    rw [← hF]
    clear hrow hF
    go_enter Try.func55, Try.ntmps55
    go_wp2_with (go_at_call 64; have hc := HT.out n (Nat.le_refl _) d p x ts (w.alloc (.cells #[.int .u8 0, .int .u32 0, .slice none 0 0] 50)) (HI.out.alloc _) (HD.out.only ((Only.refl (· = rb) w).alloc _)) HC.out (by omega) ; rw [T1.out] at hc; refine hc.mono ?_; clear hc; rintro e w1 ⟨v1, rfl, hT1, hI1, ho1⟩; obtain ⟨o, s, a, k, c, rfl⟩ := hT1.form; have HI1 : Hid (Qn w1 rb S (x.withPl p1) ts1) := hI1; clear hI1; have HT1 : Hid (Tr w1 (fun b => w.heap.size + 1 ≤ b) e1 (.agg #[.int .u8 o, .int .u32 s, .slice a k c])) := (by have := hT1; (try rw [alloc_size] at this); exact this); clear hT1; have HO1 : Hid (Only (· = rb) w w1) := ((Only.refl (· = rb) w).alloc _).trans ho1; have Z1 : Hid (Xb w1 w.heap.size (.int .u8 0) (.int .u32 0) (.slice none 0 0)) := Z0.out.only ho1 (by omega); have hl1 := Z1.out.lt)
    go_loopg [4] (ts1.length + 1) (fun g v wr => (∃ (tsr : List Rl.Tk) (m pr : Nat) (l : List Rl.Ex) (W : World), W = wr ∧ g = tsr.length + 1 ∧ Qn W rb S (x.withPl pr) tsr ∧ Only (· = rb) w W ∧ Xb W w.heap.size (.int .u8 0) (.int .u32 0) (.slice none 0 0) ∧ Es W (w.heap.size + 1) v l ∧ l ≠ [] ∧ pr ≤ 200 ∧ 4 * tsr.length + 2 ≤ m ∧ m ≤ n ∧ l.length + tsr.length ≤ ts.length + 1 ∧ Hid (F = Rl.alts E nc m d tsr pr l)) ∨ (∃ (f : Rl.Ft) (k : Nat) (xs : List Value) (W : World), W = wr ∧ g = 0 ∧ Qb W rb S f ∧ Only (· = rb) w W ∧ Xb W w.heap.size (.int .u8 0) (.int .u32 0) (.slice none 0 0) ∧ W.ownsRow (w.heap.size + 1) 50 3 v k xs ∧ Frm k xs ∧ 0 < k ∧ k ≤ 5001 ∧ Hid (F = .error f)))
    case atStart =>
      have hes := Es.first (w := w1.alloc (.cells #[.int .u8 o, .int .u32 s, .slice a k c] 50)) (base := w.heap.size + 1) (HT1.out.keep (fun b hb hl => ⟨hb, Below.heap_alloc _ _ _ hl⟩)) (by rw [alloc_size]; omega)
      rw [alloc_size] at hes
      exact Or.inl ⟨ts1, n, p1, [e1], _, rfl, rfl, (HI1.out.alloc _).alloc _, (HO1.out.alloc _).alloc _, (Z1.out.alloc _).alloc _, hes, by simp, hln1.2, by omega, Nat.le_refl _, by simp; omega, HF.out⟩
    case round =>
      rcases hrel with ⟨tsr, m, pr, l, W, hW, rfl, hIr, hOr, hZr, hEr, hlne, hpr, hm1, hm2, hll, hFr⟩ | ⟨f, k, xs, W, hW, rfl, hBr, hOr, hZr, hown, hfm, hk0, hk5, hFr⟩
      · subst hW
        obtain ⟨m, rfl⟩ : ∃ k, m = k + 1 := ⟨m - 1, by omega⟩
        have HIr : Hid (Qn W rb S (x.withPl pr) tsr) := hIr
        have HOr : Hid (Only (· = rb) w W) := hOr
        have HDr : Hid (Dec W rb (x.withPl pr) E) := (HD.out.only hOr).withPl _
        have HCr : Hid (Cr nc (x.withPl pr) pr d) := HC.out.withPl hpr
        have HZr : Hid (Xb W w.heap.size (.int .u8 0) (.int .u32 0) (.slice none 0 0)) := hZr
        have HEr := hEr
        have Hlne : Hid (l ≠ []) := hlne
        have hlp : 0 < l.length := List.length_pos_iff.2 hlne
        have hFr' := hFr.out
        have hlz := hZr.lt
        have hlr := hIr.lt
        rw [alts_succ] at hFr'
        clear hIr hOr hFr hZr hEr hlne
        obtain ⟨xs, hown, hkids⟩ := HEr
        have HOwn : Hid (W.ownsRow (w.heap.size + 1) 50 3 u4 l.length xs) := hown
        have HKid : Hid (Trs W (Kb (w.heap.size + 1) u4) l (fun j => xs[j]?)) := hkids
        clear hown hkids
        cases htk : Rl.took 124 tsr with
        | error f =>
          rw [htk] at hFr'
          have HE : Hid (F = .error f) := hFr'
          have T2 : Hid (Rl.took 124 tsr = .error f) := htk
          have HFm : Hid (Frm l.length xs) := Es.frm HOwn.out HKid.out
          obtain ⟨k, hkl⟩ : ∃ k, k = l.length := ⟨_, rfl⟩
          rw [← hkl] at HOwn HFm hlp
          clear htk hFr' HKid hkl
          rcases Nat.lt_or_ge 1 k with hk | hk
          · obtain ⟨a', cap, rfl⟩ := own_form HOwn.out
            have q1 : ((k : Int) == 1) = false := by simp; omega
            go_wp2_with (go_at_call 34; have hc := sign_any 124 rb S (x.withPl pr) tsr _ HIr.out hS (HC.out.vc.withPl _) (by decide) (by decide); rw [T2.out] at hc; refine hc.mono ?_; clear hc; rintro e w2 ⟨rfl, hb2, ho2⟩; have HBx2 : Hid (Qb w2 rb S f) := hb2; clear hb2; have HOy2 : Hid (Only (· = rb) W w2) := ho2; clear ho2; have HOx2 : Hid (Only (· = rb) w w2) := HOr.out.trans HOy2.out; have Z2 : Hid (Xb w2 w.heap.size (.int .u8 0) (.int .u32 0) (.slice none 0 0)) := HZr.out.only HOy2.out (by omega); have z0 := Z2.out.c0; have z1 := Z2.out.c1; have z2 := Z2.out.c2; have zf0 := Z2.out.fz 0; have zf1 := Z2.out.fz 1; have zf2 := Z2.out.fz 2)
            refine bodyPost_ret (v := .agg #[.int .u8 3, .int .u32 0, .slice a' k cap]) (results_x rfl _ rfl (Z2.out.set3 _ _ _)) rfl ?_
            rw [HE.out]
            exact ⟨⟨_, _, _, _, _, rfl⟩, HBx2.out.set3 (z := w.heap.size) (by omega) _ _ _, HOx2.out.set3 (z := w.heap.size) (Nat.le_refl _) _ _ _⟩
          · obtain rfl : k = 1 := by omega
            obtain ⟨o, s, a, q, c, rfl⟩ := HFm.out rfl
            obtain ⟨g, cap, rfl, hgb, hgl, hcap, hcells⟩ := row_form HOwn.out (by omega)
            have K0 : Hid (W.cell? ⟨g, 0, none⟩ = some (.int .u8 o)) := hcells 0 (by simp)
            have K1 : Hid (W.cell? ⟨g, 1, none⟩ = some (.int .u32 s)) := hcells 1 (by simp)
            have K2 : Hid (W.cell? ⟨g, 2, none⟩ = some (.slice a q c)) := hcells 2 (by simp)
            clear hcells
            go_wp2_with (go_at_call 34; have hc := sign_any 124 rb S (x.withPl pr) tsr _ HIr.out hS (HC.out.vc.withPl _) (by decide) (by decide); rw [T2.out] at hc; refine hc.mono ?_; clear hc; rintro e w2 ⟨rfl, hb2, ho2⟩; have HBx2 : Hid (Qb w2 rb S f) := hb2; clear hb2; have HOy2 : Hid (Only (· = rb) W w2) := ho2; clear ho2; have HOx2 : Hid (Only (· = rb) w w2) := HOr.out.trans HOy2.out; have Z2 : Hid (Xb w2 w.heap.size (.int .u8 0) (.int .u32 0) (.slice none 0 0)) := HZr.out.only HOy2.out (by omega); have z0 := Z2.out.c0; have z1 := Z2.out.c1; have z2 := Z2.out.c2; have zf0 := Z2.out.fz 0; have zf1 := Z2.out.fz 1; have zf2 := Z2.out.fz 2; have j0 := (World.cell?_of_block (a := ⟨g, 0, none⟩) (HOy2.out.block g hgl (by omega))).trans K0.out; have j1 := (World.cell?_of_block (a := ⟨g, 1, none⟩) (HOy2.out.block g hgl (by omega))).trans K1.out; have j2 := (World.cell?_of_block (a := ⟨g, 2, none⟩) (HOy2.out.block g hgl (by omega))).trans K2.out)
            refine bodyPost_ret (v := .agg #[.int .u8 o, .int .u32 s, .slice a q c]) (results_x rfl _ rfl (Z2.out.set3 _ _ _)) rfl ?_
            rw [HE.out]
            exact ⟨⟨_, _, _, _, _, rfl⟩, HBx2.out.set3 (z := w.heap.size) (by omega) _ _ _, HOx2.out.set3 (z := w.heap.size) (Nat.le_refl _) _ _ _⟩
        | ok r =>
          obtain ⟨b, ts2⟩ := r
          rw [htk] at hFr'
          have T2 : Hid (Rl.took 124 tsr = .ok (b, ts2)) := htk
          have hln2 := Rl.took_len htk
          clear htk
          cases b with
          | true =>
            simp only at hFr'
            have hln2' := hln2.2 rfl
            cases hrw : Rl.row E nc m d ts2 pr [] with
            | error f =>
              rw [hrw] at hFr'
              have HE : Hid (F = .error f) := hFr'
              have T3 : Hid (Rl.row E nc m d ts2 pr [] = .error f) := hrw
              clear hrw hFr' HKid
              go_wp2_with (first | (go_at_call 34; have hc := sign_any 124 rb S (x.withPl pr) tsr _ HIr.out hS (HC.out.vc.withPl _) (by decide) (by decide); rw [T2.out] at hc; refine hc.mono ?_; clear hc; rintro e w2 ⟨rfl, hi2, ho2⟩; have HI2 : Hid (Qn w2 rb S (x.withPl pr) ts2) := hi2; clear hi2; have HO2 : Hid (Only (· = rb) W w2) := ho2; clear ho2; have hl2 := HO2.out.size) | (go_at_call 64; have hc := HT.out m (by omega) d pr (x.withPl pr) ts2 w2 HI2.out (HDr.out.only HO2.out) HCr.out (by omega) ; rw [T3.out] at hc; refine hc.mono ?_; clear hc; rintro e w4 ⟨⟨o, s, a, k, c, rfl⟩, hb4, ho4⟩; have HBx4 : Hid (Qb w4 rb S f) := hb4; clear hb4; have HO4 : Hid (Only (· = rb) W w4) := HO2.out.trans ho4; have hl24 := ho4.size; clear ho4; have hl4 := HO4.out.size) | (at_builtin; have HOwn8 : Hid ((w4.alloc (.cells #[.int .u8 o, .int .u32 s, .slice a k c] 50)).ownsRow (w.heap.size + 1) 50 3 u4 l.length xs) := own_only HOwn.out (HO4.out.alloc _) (fun g hg => by omega); refine wpList_append_own_at _ rfl _ _ 48 rfl (w.heap.size + 1) 50 i0 (.agg #[.int .u8 0, .int .u32 0, .slice none 0 0]) 3 32 Try.underlying48 hi hz0 hz1 hz2 rfl (by decide) _ _ _ rfl (HOwn8.out.alloc _) ⟨w4.heap.size + 1, 0, none⟩ 1 1 [.int .u8 o, .int .u32 s, .slice a k c] rfl rfl (ex_newsG (w4.alloc (.cells #[.int .u8 o, .int .u32 s, .slice a k c] 50)) _ (by simp) _ _ _) (ex_cells _ _ _ _ _) (by unfold maxLen; omega) (by omega) (by simp; omega) ?_; intro v9 w9 hown9 hg9 _ hat9))
              go_roundg 0
              case measure => omega
              case rel =>
                have hW : (w4.alloc (.cells #[.int .u8 o, .int .u32 s, .slice a k c] 50)).ownsRow (w.heap.size + 1) 50 3 u4 l.length xs := own_only HOwn.out (HO4.out.alloc _) (fun g hg => by omega)
                have hkp := app_keep hW hg9
                have hs8 := alloc_size w4 (.cells #[.int .u8 o, .int .u32 s, .slice a k c] 50)
                exact Or.inr ⟨f, l.length + 1, _, _, rfl, rfl, (HBx4.out.alloc _).at (hkp rb (HBx4.out.alloc _).lt (by omega)), app_only (HOr.out.trans (HO4.out.alloc _)) hW (by omega) hg9, (hkp w.heap.size (by omega) (by omega)).trans (HZr.out.only (HO4.out.alloc _) (by omega)), hown9, Frm.snoc hW, by omega, by omega, HE.out⟩
            | ok r =>
              obtain ⟨e2, ts3, p3⟩ := r
              rw [hrw] at hFr'
              have HE : Hid (F = Rl.alts E nc m d ts3 p3 (l ++ [e2])) := hFr'
              have T3 : Hid (Rl.row E nc m d ts2 pr [] = .ok (e2, ts3, p3)) := hrw
              have hln3 := (Rl.expr_len E nc m).2.2.1 _ _ _ _ _ _ _ hrw hpr
              clear hrw hFr'
              go_wp2_with (first | (go_at_call 34; have hc := sign_any 124 rb S (x.withPl pr) tsr _ HIr.out hS (HC.out.vc.withPl _) (by decide) (by decide); rw [T2.out] at hc; refine hc.mono ?_; clear hc; rintro e w2 ⟨rfl, hi2, ho2⟩; have HI2 : Hid (Qn w2 rb S (x.withPl pr) ts2) := hi2; clear hi2; have HO2 : Hid (Only (· = rb) W w2) := ho2; clear ho2; have hl2 := HO2.out.size) | (go_at_call 64; have hc := HT.out m (by omega) d pr (x.withPl pr) ts2 w2 HI2.out (HDr.out.only HO2.out) HCr.out (by omega) ; rw [T3.out] at hc; refine hc.mono ?_; clear hc; rintro e w4 ⟨v4, rfl, hT4, hI4, ho4⟩; obtain ⟨o, s, a, k, c, rfl⟩ := hT4.form; have HI4 : Hid (Qn w4 rb S (x.withPl p3) ts3) := hI4; clear hI4; have HT4 : Hid (Tr w4 (fun b => w2.heap.size ≤ b) e2 (.agg #[.int .u8 o, .int .u32 s, .slice a k c])) := (by have := hT4; (try rw [alloc_size] at this); exact this); clear hT4; have HO4 : Hid (Only (· = rb) W w4) := HO2.out.trans ho4; have hl24 := ho4.size; clear ho4; have hl4 := HO4.out.size) | (at_builtin; have HOwn8 : Hid ((w4.alloc (.cells #[.int .u8 o, .int .u32 s, .slice a k c] 50)).ownsRow (w.heap.size + 1) 50 3 u4 l.length xs) := own_only HOwn.out (HO4.out.alloc _) (fun g hg => by omega); refine wpList_append_own_at _ rfl _ _ 48 rfl (w.heap.size + 1) 50 i0 (.agg #[.int .u8 0, .int .u32 0, .slice none 0 0]) 3 32 Try.underlying48 hi hz0 hz1 hz2 rfl (by decide) _ _ _ rfl (HOwn8.out.alloc _) ⟨w4.heap.size + 1, 0, none⟩ 1 1 [.int .u8 o, .int .u32 s, .slice a k c] rfl rfl (ex_newsG (w4.alloc (.cells #[.int .u8 o, .int .u32 s, .slice a k c] 50)) _ (by simp) _ _ _) (ex_cells _ _ _ _ _) (by unfold maxLen; omega) (by omega) (by simp; omega) ?_; intro v9 w9 hown9 hg9 _ hat9))
              go_roundg (ts3.length + 1)
              case measure => omega
              case rel =>
                have hW : (w4.alloc (.cells #[.int .u8 o, .int .u32 s, .slice a k c] 50)).ownsRow (w.heap.size + 1) 50 3 u4 l.length xs := own_only HOwn.out (HO4.out.alloc _) (fun g hg => by omega)
                have hkp := app_keep hW hg9
                have hs8 := alloc_size w4 (.cells #[.int .u8 o, .int .u32 s, .slice a k c] 50)
                refine Or.inl ⟨ts3, m, p3, l ++ [e2], _, rfl, rfl, (HI4.out.alloc _).at (hkp rb (HI4.out.alloc _).lt (by omega)), app_only (HOr.out.trans (HO4.out.alloc _)) hW (by omega) hg9, (hkp w.heap.size (by omega) (by omega)).trans (HZr.out.only (HO4.out.alloc _) (by omega)), ?_, by simp, hln3.2, by omega, by omega, by simp; omega, HE.out⟩
                refine Es.snoc hW (HKid.out.keep (fun b hb hl => ⟨hb, (HO4.out.alloc _).block b hl (by have := hb.1; omega)⟩)) (HT4.out.keep (fun b hb hl => ⟨hb, Below.heap_alloc _ _ _ hl⟩)) (fun b hb => ⟨by omega, fun e => ?_⟩) hown9 hg9 hat9
                have := (HOwn.out.lt b e).2
                omega
          | false =>
            simp only at hFr'
            have HE : Hid (F = .ok (Rl.mkAlt l, ts2, pr)) := hFr'
            clear hFr'
            match l, HE, HOwn, HKid, Hlne with
            | [], HE, HOwn, HKid, Hlne => exact absurd rfl Hlne.out
            | [e0], HE, HOwn, HKid, Hlne =>
              obtain ⟨o', s', k', rfl, hT2⟩ := HKid.out.one HOwn.out.1
              obtain ⟨g, cap, rfl, hgb, hgl, hcap, hcells⟩ := row_form HOwn.out (by simp)
              have HT2 : Hid (Tr W (Kb (w.heap.size + 1) (.slice (some ⟨g, 0, none⟩) 1 cap)) e0 (.agg #[o', s', k'])) := hT2
              have K0 : Hid (W.cell? ⟨g, 0, none⟩ = some o') := hcells 0 (by simp)
              have K1 : Hid (W.cell? ⟨g, 1, none⟩ = some s') := hcells 1 (by simp)
              have K2 : Hid (W.cell? ⟨g, 2, none⟩ = some k') := hcells 2 (by simp)
              obtain ⟨op, st, a', n', c', hform⟩ := hT2.form
              simp only [Value.agg.injEq, Array.mk.injEq, List.cons.injEq, and_true] at hform
              obtain ⟨rfl, rfl, rfl⟩ := hform
              clear HOwn HKid hcells hT2
              go_wp2_with (go_at_call 34; have hc := sign_any 124 rb S (x.withPl pr) tsr _ HIr.out hS (HC.out.vc.withPl _) (by decide) (by decide); rw [T2.out] at hc; refine hc.mono ?_; clear hc; rintro e w2 ⟨rfl, hi2, ho2⟩; have HI2 : Hid (Qn w2 rb S (x.withPl pr) ts2) := hi2; clear hi2; have HO2 : Hid (Only (· = rb) W w2) := ho2; clear ho2; have hl2 := HO2.out.size; have Z2 : Hid (Xb w2 w.heap.size (.int .u8 0) (.int .u32 0) (.slice none 0 0)) := HZr.out.only HO2.out (by omega); have z0 := Z2.out.c0; have z1 := Z2.out.c1; have z2 := Z2.out.c2; have zf0 := Z2.out.fz 0; have zf1 := Z2.out.fz 1; have zf2 := Z2.out.fz 2; have j0 := (World.cell?_of_block (a := ⟨g, 0, none⟩) (HO2.out.block g hgl (by omega))).trans K0.out; have j1 := (World.cell?_of_block (a := ⟨g, 1, none⟩) (HO2.out.block g hgl (by omega))).trans K1.out; have j2 := (World.cell?_of_block (a := ⟨g, 2, none⟩) (HO2.out.block g hgl (by omega))).trans K2.out)
              refine bodyPost_ret (v := .agg #[.int .u8 op, .int .u32 st, .slice a' n' c']) (results_x rfl _ rfl (Z2.out.set3 _ _ _)) rfl ?_
              rw [HE.out]
              refine ⟨_, rfl, ?_, HI2.out.set3 (z := w.heap.size) (by omega) _ _ _, (HOr.out.trans HO2.out).set3 (z := w.heap.size) (Nat.le_refl _) _ _ _⟩
              refine HT2.out.keep fun b hb hl => ⟨by have := hb.1; omega, ?_⟩
              exact (set3_other w2 (z := w.heap.size) _ _ _ (by have := hb.1; omega)).trans (HO2.out.block b hl (by have := hb.1; omega))
            | e0 :: e2 :: l2, HE, HOwn, HKid, Hlne =>
              obtain ⟨a', cap, rfl⟩ := own_form HOwn.out
              have q1 : (((e0 :: e2 :: l2).length : Int) == 1) = false := by simp; omega
              generalize hL : e0 :: e2 :: l2 = L at *
              have HL : Hid (e0 :: e2 :: l2 = L) := hL
              clear hL
              go_wp2_with (go_at_call 34; have hc := sign_any 124 rb S (x.withPl pr) tsr _ HIr.out hS (HC.out.vc.withPl _) (by decide) (by decide); rw [T2.out] at hc; refine hc.mono ?_; clear hc; rintro e w2 ⟨rfl, hi2, ho2⟩; have HI2 : Hid (Qn w2 rb S (x.withPl pr) ts2) := hi2; clear hi2; have HO2 : Hid (Only (· = rb) W w2) := ho2; clear ho2; have hl2 := HO2.out.size; have Z2 : Hid (Xb w2 w.heap.size (.int .u8 0) (.int .u32 0) (.slice none 0 0)) := HZr.out.only HO2.out (by omega); have z0 := Z2.out.c0; have z1 := Z2.out.c1; have z2 := Z2.out.c2; have zf0 := Z2.out.fz 0; have zf1 := Z2.out.fz 1; have zf2 := Z2.out.fz 2)
              refine bodyPost_ret (v := .agg #[.int .u8 3, .int .u32 0, .slice a' L.length cap]) (results_x rfl _ rfl (Z2.out.set3 _ _ _)) rfl ?_
              have hmk : Rl.mkAlt L = .mk 3 0 L := by rw [← HL.out]; rfl
              rw [HE.out, hmk]
              refine ⟨_, rfl, ?_, HI2.out.set3 (z := w.heap.size) (by omega) _ _ _, (HOr.out.trans HO2.out).set3 (z := w.heap.size) (Nat.le_refl _) _ _ _⟩
              have hT := Tr.row (F' := fun b => w.heap.size + 1 ≤ b) 3 HOwn.out HKid.out (fun g hg => (HOwn.out.lt g hg).1) (fun b hb => hb.1) (by rw [← HL.out]; simp)
              refine hT.keep fun b hb hl => ⟨by omega, ?_⟩
              exact (set3_other w2 (z := w.heap.size) _ _ _ (by omega)).trans (HO2.out.block b hl (by omega))
      · subst hW
        have HBr : Hid (Qb W rb S f) := hBr
        have HOr : Hid (Only (· = rb) w W) := hOr
        have HZr : Hid (Xb W w.heap.size (.int .u8 0) (.int .u32 0) (.slice none 0 0)) := hZr
        have HOwn : Hid (W.ownsRow (w.heap.size + 1) 50 3 u4 k xs) := hown
        have HFm : Hid (Frm k xs) := hfm
        have HE : Hid (F = .error f) := hFr.out
        have hlz := hZr.lt
        have hlr := hBr.lt
        clear hOr hZr hown hfm hFr hBr
        rcases Nat.lt_or_ge 1 k with hk | hk
        · obtain ⟨a', cap, rfl⟩ := own_form HOwn.out
          have q1 : ((k : Int) == 1) = false := by simp; omega
          go_wp2_with (go_at_call 34; refine (sign_bad _ rb S f _ HBr.out).mono ?_; rintro e w2 ⟨rfl, hb2, ho2⟩; have HBx2 : Hid (Qb w2 rb S f) := hb2; clear hb2; have HOy2 : Hid (Only (· = rb) W w2) := ho2.mono (fun _ h => h.elim); clear ho2; have HOx2 : Hid (Only (· = rb) w w2) := HOr.out.trans HOy2.out; have Z2 : Hid (Xb w2 w.heap.size (.int .u8 0) (.int .u32 0) (.slice none 0 0)) := HZr.out.only HOy2.out (by omega); have z0 := Z2.out.c0; have z1 := Z2.out.c1; have z2 := Z2.out.c2; have zf0 := Z2.out.fz 0; have zf1 := Z2.out.fz 1; have zf2 := Z2.out.fz 2)
          refine bodyPost_ret (v := .agg #[.int .u8 3, .int .u32 0, .slice a' k cap]) (results_x rfl _ rfl (Z2.out.set3 _ _ _)) rfl ?_
          rw [HE.out]
          exact ⟨⟨_, _, _, _, _, rfl⟩, HBx2.out.set3 (z := w.heap.size) (by omega) _ _ _, HOx2.out.set3 (z := w.heap.size) (Nat.le_refl _) _ _ _⟩
        · obtain rfl : k = 1 := by omega
          obtain ⟨o, s, a, q, c, rfl⟩ := HFm.out rfl
          obtain ⟨g, cap, rfl, hgb, hgl, hcap, hcells⟩ := row_form HOwn.out (by omega)
          have K0 : Hid (W.cell? ⟨g, 0, none⟩ = some (.int .u8 o)) := hcells 0 (by simp)
          have K1 : Hid (W.cell? ⟨g, 1, none⟩ = some (.int .u32 s)) := hcells 1 (by simp)
          have K2 : Hid (W.cell? ⟨g, 2, none⟩ = some (.slice a q c)) := hcells 2 (by simp)
          clear hcells
          go_wp2_with (go_at_call 34; refine (sign_bad _ rb S f _ HBr.out).mono ?_; rintro e w2 ⟨rfl, hb2, ho2⟩; have HBx2 : Hid (Qb w2 rb S f) := hb2; clear hb2; have HOy2 : Hid (Only (· = rb) W w2) := ho2.mono (fun _ h => h.elim); clear ho2; have HOx2 : Hid (Only (· = rb) w w2) := HOr.out.trans HOy2.out; have Z2 : Hid (Xb w2 w.heap.size (.int .u8 0) (.int .u32 0) (.slice none 0 0)) := HZr.out.only HOy2.out (by omega); have z0 := Z2.out.c0; have z1 := Z2.out.c1; have z2 := Z2.out.c2; have zf0 := Z2.out.fz 0; have zf1 := Z2.out.fz 1; have zf2 := Z2.out.fz 2; have j0 := (World.cell?_of_block (a := ⟨g, 0, none⟩) (HOy2.out.block g hgl (by omega))).trans K0.out; have j1 := (World.cell?_of_block (a := ⟨g, 1, none⟩) (HOy2.out.block g hgl (by omega))).trans K1.out; have j2 := (World.cell?_of_block (a := ⟨g, 2, none⟩) (HOy2.out.block g hgl (by omega))).trans K2.out)
          refine bodyPost_ret (v := .agg #[.int .u8 o, .int .u32 s, .slice a q c]) (results_x rfl _ rfl (Z2.out.set3 _ _ _)) rfl ?_
          rw [HE.out]
          exact ⟨⟨_, _, _, _, _, rfl⟩, HBx2.out.set3 (z := w.heap.size) (by omega) _ _ _, HOx2.out.set3 (z := w.heap.size) (Nat.le_refl _) _ _ _⟩

theorem rexprs_all (E : Rl.Env) (nc rb : Nat) (S : ByteArray) (hS : S.size ≤ 4096) : ∀ n, (∀ m, m ≤ n → REitherOk E nc rb S m) ∧ (∀ m, m ≤ n → RThingOk E nc rb S m) ∧ (∀ m, m ≤ n → RRowOk E nc rb S m)
  | 0 => by
    refine ⟨fun m hm => ?_, fun m hm => ?_, fun m hm => ?_⟩
    · intro d p x ts w _ _ _ h; omega
    · intro d p x t ts w _ _ _ _ _ _ _ h; omega
    · intro d p x ts w _ _ _ h; omega
  | n + 1 => by
    obtain ⟨h1, h2, h3⟩ := rexprs_all E nc rb S hS n
    have e1 : REitherOk E nc rb S (n + 1) := reither_step E nc rb S n hS h3
    have e2 : RThingOk E nc rb S (n + 1) := rthing_step E nc rb S n hS (h1 n (Nat.le_refl _))
    have e3 : RRowOk E nc rb S (n + 1) := rrow_step E nc rb S (n + 1) hS (fun m hm => h2 m (by omega))
    refine ⟨fun m hm => ?_, fun m hm => ?_, fun m hm => ?_⟩
    · by_cases e : m = n + 1
      · rw [e]; exact e1
      · exact h1 m (by omega)
    · by_cases e : m = n + 1
      · rw [e]; exact e2
      · exact h2 m (by omega)
    · by_cases e : m = n + 1
      · rw [e]; exact e3
      · exact h3 m (by omega)
theorem reither_any (E : Rl.Env) (nc rb : Nat) (S : ByteArray) (hS : S.size ≤ 4096) (n : Nat) : REitherOk E nc rb S n := (rexprs_all E nc rb S hS n).1 n (Nat.le_refl _)
end Go.Proofs.Ytahoepmnekconaa
