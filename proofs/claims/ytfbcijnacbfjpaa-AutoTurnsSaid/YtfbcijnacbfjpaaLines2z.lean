/-
  set, treat of the rules' reader.
-/
import Derived.Test.YtfbcijnacbfjpaaLines1z
namespace Go.Proofs.Ytfbcijnacbfjpaa
open Go.RowKit Go.Maps
set_option linter.unusedVariables false
set_option linter.unusedSimpArgs false

theorem own_onlyT {w w' : World} {base e size n : Nat} {v : Value} {xs : List Value} {P : Nat → Prop} (h : w.ownsRow base e size v n xs) (ho : Only P w w') (hP : ∀ g, P g → ∀ cur z, w.heap[g]? ≠ some (.cells cur e z)) : w'.ownsRow base e size v n xs := by
  obtain ⟨hl, h | ⟨g, cap, cur, hv, hb, hh, h1⟩⟩ := h
  · exact ⟨hl, Or.inl h⟩
  · exact ⟨hl, Or.inr ⟨g, cap, cur, hv, hb, (ho.block g (Array.getElem?_eq_some_iff.1 hh).1 (fun hp => hP g hp _ _ hh)).trans hh, h1⟩⟩
theorem Rls.onlyT {w w' : World} {B : Nat} {v : Value} {l : List Rl.Rule} {P : Nat → Prop} (h : Rls w B v l) (ho : Only P w w') (h52 : ∀ g, P g → ∀ cur z, w.heap[g]? ≠ some (.cells cur 69 z)) (h50 : ∀ g, P g → ∀ cur z, w.heap[g]? ≠ some (.cells cur 49 z)) : Rls w' B v l := by
  obtain ⟨xs, h1, h2⟩ := h
  exact ⟨xs, own_onlyT h1 ho h52, h2.keepT (fun b hb hl hc => ⟨hb, ho.block b hl (fun hp => by obtain ⟨cs, z, hc⟩ := hc; exact h50 b hp _ _ hc)⟩)⟩
/-- a cell of a row written. -/
theorem own_set {w : World} {base e n g cap k : Nat} {xs : List Value} (h : w.ownsRow base e 1 (.slice (some ⟨g, 0, none⟩) n cap) n xs) (hk : k < n) (u : Value) : (w.setCell ⟨g, k, none⟩ u).ownsRow base e 1 (.slice (some ⟨g, 0, none⟩) n cap) n (xs.set k u) := by
  obtain ⟨hl, ⟨hv, _⟩ | ⟨g', cap', cur, hv, hb, hh, h1, h2, h3, h4⟩⟩ := h
  · cases hv
  · injection hv with e1 _ e2
    injection e1 with e1
    injection e1 with e1
    subst e1 e2
    refine ⟨by rw [List.length_set]; exact hl, Or.inr ⟨g, cap, _, rfl, hb, heap_setCell_at hh u, h1, h2, by simpa using h3, ?_⟩⟩
    rw [← h4]
    apply List.ext_getElem?
    intro j
    rw [List.getElem?_take, List.getElem?_set]
    simp only [Array.toList_setIfInBounds, List.getElem?_set, List.getElem?_take, Array.length_toList, List.length_take]
    by_cases e : k = j
    · subst e
      have : k < cur.size := by omega
      simp [hk, this]
      omega
    · simp [e]
theorem own_tag {w : World} {base e size n : Nat} {v : Value} {xs : List Value} (h : w.ownsRow base e size v n xs) (hn : 0 < n) : ∃ g cap cur, v = .slice (some ⟨g, 0, none⟩) n cap ∧ base ≤ g ∧ w.heap[g]? = some (.cells cur e (0, 0)) := by
  obtain ⟨hl, ⟨hv, h0⟩ | ⟨g', cap', cur, hv, hb, hh, h1, h2, h3, h4⟩⟩ := h
  · omega
  · exact ⟨g', cap', cur, hv, hb, hh⟩
theorem ints_set (l : List Int) (k : Nat) (m : Int) : ints (l.set k m) = (ints l).set k (.int .i64 m) := by unfold ints; rw [List.map_set]

theorem own_cell {w : World} {base e n g cap k : Nat} {xs : List Value} (h : w.ownsRow base e 1 (.slice (some ⟨g, 0, none⟩) n cap) n xs) (hk : k < n) : ∃ old, w.cell? ⟨g, k, none⟩ = some old ∧ w.frozen? ⟨g, k, none⟩ = false := by
  obtain ⟨hl, ⟨hv, _⟩ | ⟨g', cap', cur, hv, hb, hh, h1, h2, h3, h4⟩⟩ := h
  · cases hv
  · injection hv with e1 _ e2
    injection e1 with e1
    injection e1 with e1
    subst e1 e2
    have hc : k < cur.size := by omega
    exact ⟨cur[k], (cell_of_row _ _ _ _ _ _ hh).trans (Array.getElem?_eq_getElem hc), by simp [World.frozen?, hh]⟩
set_option maxRecDepth 100000 in
set_option maxHeartbeats 4000000 in
theorem treat_any (rb : Nat) (S : ByteArray) (x : Rd) (s : Rl.St) (p : Value) (ts : List Rl.Tk) (w : World) (h : In w rb S x ts) (hS : S.size ≤ 4096) (hT : Stt w rb x s) (tx : Rl.Str) (ti : Int) (hp : p = .agg #[.string (bs tx), .int .i64 ti]) :
    Calls Try.prog 63 #[.pointer (some ⟨rb, 0, none⟩), p] w (lineP rb S x.mb w (Rl.treat' ts s)) := by
  subst hp
  have hlt := h.lt
  have HI : Hid (In w rb S x ts) := h
  have HS : Hid (Stt w rb x s) := hT
  have hmb : x.mb ≠ rb := by have := hT.mb; omega
  obtain ⟨F, hF⟩ : ∃ F, F = Rl.treat' ts s := ⟨_, rfl⟩
  have HF : Hid (F = Rl.treat' ts s) := hF
  rw [← hF]
  clear hT hF h
  cases hn1 : Rl.placeOf s.cls ts with
  | error f =>
    have T1 : Hid (Rl.placeOf s.cls ts = .error f) := hn1
    have HE : Hid (F = .error f) := (by rw [HF.out]; unfold Rl.treat'; simp only [hn1] : F = .error f)
    clear hn1
    go_enter Try.func63, Try.ntmps63
    go_wp2_with (go_at_call 79; have hc := place_any s.cls rb S x ts _ (HI.out.alloc (.cells #[.string (bs tx), .int .i64 ti] 124)) hS (HS.out.cls.alloc _) HS.out.c24; rw [T1.out] at hc; refine hc.mono ?_; clear hc; rintro e w1 ⟨rfl, ho1⟩)
    refine ⟨rfl, ?_⟩
    rw [HE.out]
    exact ⟨rfl, (((Only.refl (· = rb) w).alloc _).trans ho1).fr HI.out.cl _⟩
  | ok r =>
    obtain ⟨k, ts1⟩ := r
    have T1 : Hid (Rl.placeOf s.cls ts = .ok (k, ts1)) := hn1
    have hkl := place_lt hn1
    clear hn1
    cases hw : Rl.want 61 ts1 with
    | error f =>
      have T2 : Hid (Rl.want 61 ts1 = .error f) := hw
      have HE : Hid (F = .error f) := (by rw [HF.out]; unfold Rl.treat'; simp only [T1.out, hw] : F = .error f)
      clear hw
      go_enter Try.func63, Try.ntmps63
      go_wp2_with (first | (go_at_call 79; have hc := place_any s.cls rb S x ts _ (HI.out.alloc (.cells #[.string (bs tx), .int .i64 ti] 124)) hS (HS.out.cls.alloc _) HS.out.c24; rw [T1.out] at hc; refine hc.mono ?_; clear hc; rintro e w1 ⟨rfl, hI1, ho1⟩; have HI1 : Hid (In w1 rb S x ts1) := hI1; clear hI1) | (go_at_call 54; have hc := want_any 61 rb S x ts1 _ HI1.out hS; rw [T2.out] at hc; refine hc.mono ?_; clear hc; rintro e w2 ⟨rfl, ho2⟩))
      refine ⟨rfl, ?_⟩
      rw [HE.out]
      exact ⟨rfl, ((((Only.refl (· = rb) w).alloc _).trans ho1).trans ho2).fr HI.out.cl _⟩
    | ok ts2 =>
      have T2 : Hid (Rl.want 61 ts1 = .ok ts2) := hw
      clear hw
      obtain ⟨vT, hvT⟩ : ∃ vT, vT = x.vT := ⟨_, rfl⟩
      have HV : Hid (vT = x.vT) := hvT
      cases hn2 : Rl.placeOf s.cls ts2 with
      | error f =>
        have T3 : Hid (Rl.placeOf s.cls ts2 = .error f) := hn2
        have HE : Hid (F = .error f) := (by rw [HF.out]; unfold Rl.treat'; simp only [T1.out, T2.out, hn2] : F = .error f)
        clear hn2 hvT
        go_enter Try.func63, Try.ntmps63
        go_wp2_with (first | (go_at_call 79; have hc := place_any s.cls rb S x ts _ (HI.out.alloc (.cells #[.string (bs tx), .int .i64 ti] 124)) hS (HS.out.cls.alloc _) HS.out.c24; rw [T1.out] at hc; refine hc.mono ?_; clear hc; rintro e w1 ⟨rfl, hI1, ho1⟩; have HI1 : Hid (In w1 rb S x ts1) := hI1; clear hI1) | (go_at_call 54; have hc := want_any 61 rb S x ts1 _ HI1.out hS; rw [T2.out] at hc; refine hc.mono ?_; clear hc; rintro e w2 ⟨rfl, hI2, ho2⟩; have HI2 : Hid (In w2 rb S x ts2) := hI2; obtain ⟨i2, hR2, _, _⟩ := hI2; have d5 : w2.cell? ⟨rb, 5, none⟩ = some vT := (by rw [HV.out]; exact hR2.c5); clear hR2; have HO2 : Hid (Only (· = rb) w w2) := (((Only.refl (· = rb) w).alloc _).trans ho1).trans ho2; have HS2 : Hid (Stt w2 rb x s) := HS.out.only HO2.out))
        have d5' : w2.drew.cell? ⟨rb, 5, none⟩ = some vT := d5
        refine wp_region_held_drew (S := fun w' => w'.cell? ⟨rb, 5, none⟩ = some vT) (by kernel_rfl) d5' (fun hHeld => ?_)
        refine wpAnyH_take (i := 0) (v := Value.pointer (some ⟨rb, 0, none⟩)) rfl (by kernel_rfl) (by kernel_rfl) (by kernel_rfl) (fun _ _ _ h => h) (Or.inl ⟨by rfl, fun w hSw => by first | (go_simp; done) | go_simp⟩) (by assumption) ?_
        simp only [Act.put, List.setIfInBounds_toArray, List.set_cons_zero, List.set_cons_succ]
        refine wpAnyH_take (i := 1) (v := Value.pointer (some ⟨rb, 0, none⟩)) rfl (by kernel_rfl) (by kernel_rfl) (by kernel_rfl) (fun _ _ _ h => h) (Or.inl ⟨by rfl, fun w hSw => by first | (go_simp; done) | go_simp⟩) (by assumption) ?_
        simp only [Act.put, List.setIfInBounds_toArray, List.set_cons_zero, List.set_cons_succ]
        refine wpAnyH_take (i := 2) (v := Value.pointer (some ⟨rb, 2, none⟩)) rfl (by kernel_rfl) (by kernel_rfl) (by kernel_rfl) (fun _ _ _ h => h) (Or.inl ⟨by rfl, fun w hSw => by first | (go_simp; done) | go_simp⟩) (by assumption) ?_
        simp only [Act.put, List.setIfInBounds_toArray, List.set_cons_zero, List.set_cons_succ]
        refine wpAnyH_take (i := 3) (v := Value.pointer (some ⟨rb, 5, none⟩)) rfl (by kernel_rfl) (by kernel_rfl) (by kernel_rfl) (fun _ _ _ h => h) (Or.inl ⟨by rfl, fun w hSw => by first | (go_simp; done) | go_simp⟩) (by assumption) ?_
        simp only [Act.put, List.setIfInBounds_toArray, List.set_cons_zero, List.set_cons_succ]
        refine wpAnyH_take (i := 4) (v := vT) rfl (by kernel_rfl) (by kernel_rfl) (by kernel_rfl) (fun _ _ _ h => h) (Or.inl ⟨by rfl, fun w hSw => by first | (go_simp; done) | go_simp⟩) (by assumption) ?_
        simp only [Act.put, List.setIfInBounds_toArray, List.set_cons_zero, List.set_cons_succ]
        refine wpAnyH_take (i := 5) (v := Value.int .i64 (k : Int)) rfl (by kernel_rfl) (by kernel_rfl) (by kernel_rfl) (fun _ _ _ h => h) (Or.inl ⟨by rfl, fun w hSw => by first | (go_simp; done) | go_simp⟩) (by assumption) ?_
        simp only [Act.put, List.setIfInBounds_toArray, List.set_cons_zero, List.set_cons_succ]
        refine wpAnyH_take (i := 6) (v := Value.pointer (some ⟨rb, 0, none⟩)) rfl (by kernel_rfl) (by kernel_rfl) (by kernel_rfl) (fun _ _ _ h => h) (Or.inl ⟨by rfl, fun w hSw => by first | (go_simp; done) | go_simp⟩) (by assumption) ?_
        simp only [Act.put, List.setIfInBounds_toArray, List.set_cons_zero, List.set_cons_succ]
        refine wpAnyH_ready (rs := [7]) (by kernel_rfl) (by simp) ?_
        refine AllReadyH.cons rfl (fun K hK => ?_) AllReadyH.nil
        rw [if_pos (by rfl)]
        go_simp
        have hc := place_any s.cls rb S x ts2 _ HI2.out.drew hS (own_drewN HS2.out.cls 1) HS2.out.c24
        rw [T3.out] at hc
        refine hc.mono ?_
        clear hc
        rintro e w3 ⟨rfl, ho3⟩
        refine ⟨rfl, ?_⟩
        rw [HE.out]
        exact ⟨rfl, (HO2.out.drew.trans ho3).fr HI.out.cl _⟩
      | ok r =>
        obtain ⟨m, ts3⟩ := r
        have T3 : Hid (Rl.placeOf s.cls ts2 = .ok (m, ts3)) := hn2
        have HE : Hid (F = .ok (ts3, { s with treat := s.treat.set k (m : Int) })) := (by rw [HF.out]; unfold Rl.treat'; simp only [T1.out, T2.out, hn2] : F = .ok (ts3, { s with treat := s.treat.set k (m : Int) }))
        obtain ⟨g, cap, cur, hvg, hgb, _⟩ := own_tag HS.out.trt (by omega)
        have HVg : Hid (x.vT = .slice (some ⟨g, 0, none⟩) s.cls.length cap) := hvg
        have hkI : (k : Int) < (s.cls.length : Int) := by omega
        clear hn2 hvT hvg
        go_enter Try.func63, Try.ntmps63
        go_wp2_with (first | (go_at_call 79; have hc := place_any s.cls rb S x ts _ (HI.out.alloc (.cells #[.string (bs tx), .int .i64 ti] 124)) hS (HS.out.cls.alloc _) HS.out.c24; rw [T1.out] at hc; refine hc.mono ?_; clear hc; rintro e w1 ⟨rfl, hI1, ho1⟩; have HI1 : Hid (In w1 rb S x ts1) := hI1; clear hI1) | (go_at_call 54; have hc := want_any 61 rb S x ts1 _ HI1.out hS; rw [T2.out] at hc; refine hc.mono ?_; clear hc; rintro e w2 ⟨rfl, hI2, ho2⟩; have HI2 : Hid (In w2 rb S x ts2) := hI2; obtain ⟨i2, hR2, _, _⟩ := hI2; have d5 : w2.cell? ⟨rb, 5, none⟩ = some (.slice (some ⟨g, 0, none⟩) s.cls.length cap) := (by rw [← HVg.out]; exact hR2.c5); clear hR2; have HO2 : Hid (Only (· = rb) w w2) := (((Only.refl (· = rb) w).alloc _).trans ho1).trans ho2; have HS2 : Hid (Stt w2 rb x s) := HS.out.only HO2.out))
        go_region_with (first | (go_at_call 79; have hc := place_any s.cls rb S x ts2 _ HI2.out.drew hS (own_drewN HS2.out.cls 1) HS2.out.c24; rw [T3.out] at hc; refine hc.mono ?_; clear hc; rintro e w3 ⟨rfl, hI3, ho3⟩; have HI3 : Hid (In w3 rb S x ts3) := hI3; obtain ⟨i3, hR3, _, _⟩ := hI3; have e5 : w3.cell? ⟨rb, 5, none⟩ = some (.slice (some ⟨g, 0, none⟩) s.cls.length cap) := (by rw [← HVg.out]; exact hR3.c5); clear hR3; have HO3 : Hid (Only (· = rb) w w3) := HO2.out.drew.trans ho3; have HS3 : Hid (Stt w3 rb x s) := HS.out.only HO3.out; clear ho3; have hown := HS3.out.trt; rw [HVg.out] at hown; have Hown : Hid (w3.ownsRow (rb + 1) 3 1 (.slice (some ⟨g, 0, none⟩) s.cls.length cap) s.cls.length (ints s.treat)) := hown; clear hown; have hcell : ∃ old, w3.cell? ⟨g, k, none⟩ = some old ∧ w3.frozen? ⟨g, k, none⟩ = false := own_cell Hown.out hkl; obtain ⟨old, k1, k2⟩ := hcell))
        all_goals
          go_wp2_with fail
          go_end0
          rw [HE.out]
          obtain ⟨g', cap', cur', hv', _, hh'⟩ := own_tag Hown.out (by omega)
          have eg : g = g' := by injection hv' with e1; injection e1 with e1; injection e1
          subst eg
          have hoS : Only (· = g) w3 (w3.setCell ⟨g, k, none⟩ (.int .i64 (m : Int))) := (Only.refl (· = g) w3).setCell (p := ⟨g, k, none⟩) rfl _
          have htag : ∀ e', e' ≠ 3 → ∀ q, q = g → ∀ cur z, w3.heap[q]? ≠ some (.cells cur e' z) := fun e' he q hq cur z hh => by subst hq; rw [hh'] at hh; injection hh with hh; injection hh with _ h2; exact he h2.symm
          have hS3 := HS3.out
          refine ⟨rfl, x, rfl, HI3.out.setOther (by show g ≠ rb; omega) _, ?_, (HO3.out.fr HI.out.cl _).trans (hoS.frAt (by omega) ⟨_, _, _, hh'⟩ _)⟩
          exact ⟨own_onlyT hS3.cls hoS (htag 9 (by decide)), by rw [HVg.out, ints_set]; exact own_set Hown.out hkl _, hS3.lst.onlyT hoS (htag 69 (by decide)) (htag 49 (by decide)), hS3.mp.only hoS (by have := hS3.mb; omega), hS3.jn, hS3.af, hS3.pl, hS3.op, hS3.mb, hS3.c24, hS3.l24, hS3.p200⟩

theorem fresh_none {E : Rl.Env} {ts ts1 : List Rl.Tk} {t : Rl.Tk} (h : Rl.fresh E ts = .ok (t, ts1)) : Rl.name ts = .ok (t, ts1) ∧ Rl.find E t.text = none := by
  unfold Rl.fresh at h
  split at h
  · cases h
  · rename_i hn
    split at h
    · cases h
    · rename_i hf
      cases h
      refine ⟨hn, ?_⟩
      cases hx : Rl.find E t.text with
      | none => rfl
      | some b => rw [hx] at hf; exact absurd rfl hf
set_option maxRecDepth 100000 in
set_option maxHeartbeats 4000000 in
theorem set_any (rb : Nat) (S : ByteArray) (x : Rd) (s : Rl.St) (p : Value) (ts : List Rl.Tk) (w : World) (h : In w rb S x ts) (hS : S.size ≤ 4096) (hT : Stt w rb x s) (tx : Rl.Str) (ti : Int) (hp : p = .agg #[.string (bs tx), .int .i64 ti]) (hen : s.env.length ≤ 5000) :
    Calls Try.prog 61 #[.pointer (some ⟨rb, 0, none⟩), p] w (lineP rb S x.mb w (Rl.set' ts s)) := by
  subst hp
  have hlt := h.lt
  have HI : Hid (In w rb S x ts) := h
  have HS : Hid (Stt w rb x s) := hT
  have hmb : x.mb ≠ rb := by have := hT.mb; omega
  have hmbl := hT.mb
  obtain ⟨F, hF⟩ : ∃ F, F = Rl.set' ts s := ⟨_, rfl⟩
  have HF : Hid (F = Rl.set' ts s) := hF
  rw [← hF]
  clear hT hF
  cases hn1 : Rl.fresh s.env ts with
  | error f =>
    have T1 : Hid (Rl.fresh s.env ts = .error f) := hn1
    have HE : Hid (F = .error f) := (by rw [HF.out]; unfold Rl.set'; simp only [hn1] : F = .error f)
    clear hn1 h
    go_enter Try.func61, Try.ntmps61
    go_wp2_with (go_at_call 76; have hc := fresh_any s.env rb S x ts _ (HI.out.alloc (.cells #[.string (bs tx), .int .i64 ti] 124)) hS (HS.out.mp.alloc _) hmb; rw [T1.out] at hc; refine hc.mono ?_; clear hc; rintro e w1 ⟨rfl, ho1⟩)
    refine ⟨rfl, ?_⟩
    rw [HE.out]
    exact ⟨rfl, (((Only.refl (· = rb) w).alloc _).trans ho1).fr HI.out.cl _⟩
  | ok r =>
    obtain ⟨t, ts1⟩ := r
    have T1 : Hid (Rl.fresh s.env ts = .ok (t, ts1)) := hn1
    obtain ⟨hnm, hfn⟩ := fresh_none hn1
    have HFn : Hid (Rl.find s.env t.text = none) := hfn
    have htl : t.text.length ≤ 4096 := by
      obtain ⟨i, _, hs, hi⟩ := h
      have := (name_len hs hnm).2
      rw [← Lib.size_eq] at this
      omega
    clear hn1 hnm hfn h
    cases hw : Rl.want 61 ts1 with
    | error f =>
      have T2 : Hid (Rl.want 61 ts1 = .error f) := hw
      have HE : Hid (F = .error f) := (by rw [HF.out]; unfold Rl.set'; simp only [T1.out, hw] : F = .error f)
      clear hw
      go_enter Try.func61, Try.ntmps61
      go_wp2_with (first | (go_at_call 76; have hc := fresh_any s.env rb S x ts _ (HI.out.alloc (.cells #[.string (bs tx), .int .i64 ti] 124)) hS (HS.out.mp.alloc _) hmb; rw [T1.out] at hc; refine hc.mono ?_; clear hc; rintro e w1 ⟨rfl, hI1, ho1⟩; have HI1 : Hid (In w1 rb S x ts1) := hI1; clear hI1) | (go_at_call 54; have hc := want_any 61 rb S x ts1 _ (HI1.out.alloc (.cells #[.string (bs t.text), .int .i64 (t.at' : Int)] 124)) hS; rw [T2.out] at hc; refine hc.mono ?_; clear hc; rintro e w2 ⟨rfl, ho2⟩))
      refine ⟨rfl, ?_⟩
      rw [HE.out]
      exact ⟨rfl, (((((Only.refl (· = rb) w).alloc _).trans ho1).alloc _).trans ho2).fr HI.out.cl _⟩
    | ok ts2 =>
      have T2 : Hid (Rl.want 61 ts1 = .ok ts2) := hw
      clear hw
      cases hn2 : Rl.names s.env ts2 0 with
      | error f =>
        have T3 : Hid (Rl.names s.env ts2 0 = .error f) := hn2
        have HE : Hid (F = .error f) := (by rw [HF.out]; unfold Rl.set'; simp only [T1.out, T2.out, hn2] : F = .error f)
        clear hn2
        go_enter Try.func61, Try.ntmps61
        go_wp2_with (first | (go_at_call 76; have hc := fresh_any s.env rb S x ts _ (HI.out.alloc (.cells #[.string (bs tx), .int .i64 ti] 124)) hS (HS.out.mp.alloc _) hmb; rw [T1.out] at hc; refine hc.mono ?_; clear hc; rintro e w1 ⟨rfl, hI1, ho1⟩; have HI1 : Hid (In w1 rb S x ts1) := hI1; clear hI1) | (go_at_call 54; have hc := want_any 61 rb S x ts1 _ (HI1.out.alloc (.cells #[.string (bs t.text), .int .i64 (t.at' : Int)] 124)) hS; rw [T2.out] at hc; refine hc.mono ?_; clear hc; rintro e w2 ⟨rfl, hI2, ho2⟩; have HI2 : Hid (In w2 rb S x ts2) := hI2; obtain ⟨i2, hR2, _, _⟩ := hI2; have d7 := hR2.c7; clear hR2; have HO2 : Hid (Only (· = rb) w w2) := ((((Only.refl (· = rb) w).alloc _).trans ho1).alloc _).trans ho2; have HS2 : Hid (Stt w2 rb x s) := HS.out.only HO2.out; have hl1 := HI1.out.lt; have P2 : Hid (Pb w2 w1.heap.size t.text t.at') := (Pb.new w1 _ _).only ho2 (by omega); have p0 := P2.out.c0))
        have d7' : w2.drew.cell? ⟨rb, 7, none⟩ = some (.map (some x.mb)) ∧ w2.drew.cell? ⟨w1.heap.size, 0, none⟩ = some (.string (bs t.text)) := ⟨d7, p0⟩
        refine wp_region_held_drew (S := fun w' => w'.cell? ⟨rb, 7, none⟩ = some (.map (some x.mb)) ∧ w'.cell? ⟨w1.heap.size, 0, none⟩ = some (.string (bs t.text))) (by kernel_rfl) d7' (fun hHeld => ?_)
        refine wpAnyH_take (i := 0) (v := Value.pointer (some ⟨rb, 0, none⟩)) rfl (by kernel_rfl) (by kernel_rfl) (by kernel_rfl) (fun _ _ _ h => h) (Or.inl ⟨by rfl, fun w hSw => by first | (go_simp; done) | go_simp⟩) (by assumption) ?_
        simp only [Act.put, List.setIfInBounds_toArray, List.set_cons_zero, List.set_cons_succ]
        refine wpAnyH_take (i := 1) (v := Value.pointer (some ⟨rb, 0, none⟩)) rfl (by kernel_rfl) (by kernel_rfl) (by kernel_rfl) (fun _ _ _ h => h) (Or.inl ⟨by rfl, fun w hSw => by first | (go_simp; done) | go_simp⟩) (by assumption) ?_
        simp only [Act.put, List.setIfInBounds_toArray, List.set_cons_zero, List.set_cons_succ]
        refine wpAnyH_take (i := 2) (v := Value.pointer (some ⟨rb, 7, none⟩)) rfl (by kernel_rfl) (by kernel_rfl) (by kernel_rfl) (fun _ _ _ h => h) (Or.inl ⟨by rfl, fun w hSw => by first | (go_simp; done) | go_simp⟩) (by assumption) ?_
        simp only [Act.put, List.setIfInBounds_toArray, List.set_cons_zero, List.set_cons_succ]
        refine wpAnyH_take (i := 3) (v := Value.map (some x.mb)) rfl (by kernel_rfl) (by kernel_rfl) (by kernel_rfl) (fun _ _ _ h => h) (Or.inl ⟨by rfl, fun w hSw => by first | (go_simp; done) | go_simp⟩) (by assumption) ?_
        simp only [Act.put, List.setIfInBounds_toArray, List.set_cons_zero, List.set_cons_succ]
        refine wpAnyH_take (i := 4) (v := Value.pointer (some ⟨w1.heap.size, 0, none⟩)) rfl (by kernel_rfl) (by kernel_rfl) (by kernel_rfl) (fun _ _ _ h => h) (Or.inl ⟨by rfl, fun w hSw => by first | (go_simp; done) | go_simp⟩) (by assumption) ?_
        simp only [Act.put, List.setIfInBounds_toArray, List.set_cons_zero, List.set_cons_succ]
        refine wpAnyH_take (i := 5) (v := Value.string (bs t.text)) rfl (by kernel_rfl) (by kernel_rfl) (by kernel_rfl) (fun _ _ _ h => h) (Or.inl ⟨by rfl, fun w hSw => by first | (go_simp; done) | go_simp⟩) (by assumption) ?_
        simp only [Act.put, List.setIfInBounds_toArray, List.set_cons_zero, List.set_cons_succ]
        refine wpAnyH_take (i := 6) (v := Value.pointer (some ⟨rb, 0, none⟩)) rfl (by kernel_rfl) (by kernel_rfl) (by kernel_rfl) (fun _ _ _ h => h) (Or.inl ⟨by rfl, fun w hSw => by first | (go_simp; done) | go_simp⟩) (by assumption) ?_
        simp only [Act.put, List.setIfInBounds_toArray, List.set_cons_zero, List.set_cons_succ]
        refine wpAnyH_ready (rs := [7]) (by kernel_rfl) (by simp) ?_
        refine AllReadyH.cons rfl (fun K hK => ?_) AllReadyH.nil
        rw [if_pos (by rfl)]
        go_simp
        have hc := names_any s.env rb S x ts2 _ HI2.out.drew hS (HS2.out.mp.drewN 1) hmb
        rw [T3.out] at hc
        refine hc.mono ?_
        clear hc
        rintro e w3 ⟨rfl, ho3⟩
        refine ⟨rfl, ?_⟩
        rw [HE.out]
        exact ⟨rfl, (HO2.out.drew.trans ho3).fr HI.out.cl _⟩
      | ok r =>
        obtain ⟨b, ts3⟩ := r
        have T3 : Hid (Rl.names s.env ts2 0 = .ok (b, ts3)) := hn2
        have HE : Hid (F = .ok (ts3, { s with env := s.env ++ [(t.text, b)] })) := (by rw [HF.out]; unfold Rl.set'; simp only [T1.out, T2.out, hn2] : F = .ok (ts3, { s with env := s.env ++ [(t.text, b)] }))
        have hrng := names_range hn2 (by omega)
        clear hn2
        go_enter Try.func61, Try.ntmps61
        go_wp2_with (first | (go_at_call 76; have hc := fresh_any s.env rb S x ts _ (HI.out.alloc (.cells #[.string (bs tx), .int .i64 ti] 124)) hS (HS.out.mp.alloc _) hmb; rw [T1.out] at hc; refine hc.mono ?_; clear hc; rintro e w1 ⟨rfl, hI1, ho1⟩; have HI1 : Hid (In w1 rb S x ts1) := hI1; clear hI1) | (go_at_call 54; have hc := want_any 61 rb S x ts1 _ (HI1.out.alloc (.cells #[.string (bs t.text), .int .i64 (t.at' : Int)] 124)) hS; rw [T2.out] at hc; refine hc.mono ?_; clear hc; rintro e w2 ⟨rfl, hI2, ho2⟩; have HI2 : Hid (In w2 rb S x ts2) := hI2; obtain ⟨i2, hR2, _, _⟩ := hI2; have d7 := hR2.c7; clear hR2; have HO2 : Hid (Only (· = rb) w w2) := ((((Only.refl (· = rb) w).alloc _).trans ho1).alloc _).trans ho2; have HS2 : Hid (Stt w2 rb x s) := HS.out.only HO2.out; have hl1 := HI1.out.lt; have P2 : Hid (Pb w2 w1.heap.size t.text t.at') := (Pb.new w1 _ _).only ho2 (by omega); have p0 := P2.out.c0))
        have d7' : w2.drew.cell? ⟨rb, 7, none⟩ = some (.map (some x.mb)) ∧ w2.drew.cell? ⟨w1.heap.size, 0, none⟩ = some (.string (bs t.text)) := ⟨d7, p0⟩
        refine wp_region_held_drew (S := fun w' => w'.cell? ⟨rb, 7, none⟩ = some (.map (some x.mb)) ∧ w'.cell? ⟨w1.heap.size, 0, none⟩ = some (.string (bs t.text))) (by kernel_rfl) d7' (fun hHeld => ?_)
        refine wpAnyH_take (i := 0) (v := Value.pointer (some ⟨rb, 0, none⟩)) rfl (by kernel_rfl) (by kernel_rfl) (by kernel_rfl) (fun _ _ _ h => h) (Or.inl ⟨by rfl, fun w hSw => by first | (go_simp; done) | go_simp⟩) (by assumption) ?_
        simp only [Act.put, List.setIfInBounds_toArray, List.set_cons_zero, List.set_cons_succ]
        refine wpAnyH_take (i := 1) (v := Value.pointer (some ⟨rb, 0, none⟩)) rfl (by kernel_rfl) (by kernel_rfl) (by kernel_rfl) (fun _ _ _ h => h) (Or.inl ⟨by rfl, fun w hSw => by first | (go_simp; done) | go_simp⟩) (by assumption) ?_
        simp only [Act.put, List.setIfInBounds_toArray, List.set_cons_zero, List.set_cons_succ]
        refine wpAnyH_take (i := 2) (v := Value.pointer (some ⟨rb, 7, none⟩)) rfl (by kernel_rfl) (by kernel_rfl) (by kernel_rfl) (fun _ _ _ h => h) (Or.inl ⟨by rfl, fun w hSw => by first | (go_simp; done) | go_simp⟩) (by assumption) ?_
        simp only [Act.put, List.setIfInBounds_toArray, List.set_cons_zero, List.set_cons_succ]
        refine wpAnyH_take (i := 3) (v := Value.map (some x.mb)) rfl (by kernel_rfl) (by kernel_rfl) (by kernel_rfl) (fun _ _ _ h => h) (Or.inl ⟨by rfl, fun w hSw => by first | (go_simp; done) | go_simp⟩) (by assumption) ?_
        simp only [Act.put, List.setIfInBounds_toArray, List.set_cons_zero, List.set_cons_succ]
        refine wpAnyH_take (i := 4) (v := Value.pointer (some ⟨w1.heap.size, 0, none⟩)) rfl (by kernel_rfl) (by kernel_rfl) (by kernel_rfl) (fun _ _ _ h => h) (Or.inl ⟨by rfl, fun w hSw => by first | (go_simp; done) | go_simp⟩) (by assumption) ?_
        simp only [Act.put, List.setIfInBounds_toArray, List.set_cons_zero, List.set_cons_succ]
        refine wpAnyH_take (i := 5) (v := Value.string (bs t.text)) rfl (by kernel_rfl) (by kernel_rfl) (by kernel_rfl) (fun _ _ _ h => h) (Or.inl ⟨by rfl, fun w hSw => by first | (go_simp; done) | go_simp⟩) (by assumption) ?_
        simp only [Act.put, List.setIfInBounds_toArray, List.set_cons_zero, List.set_cons_succ]
        refine wpAnyH_take (i := 6) (v := Value.pointer (some ⟨rb, 0, none⟩)) rfl (by kernel_rfl) (by kernel_rfl) (by kernel_rfl) (fun _ _ _ h => h) (Or.inl ⟨by rfl, fun w hSw => by first | (go_simp; done) | go_simp⟩) (by assumption) ?_
        simp only [Act.put, List.setIfInBounds_toArray, List.set_cons_zero, List.set_cons_succ]
        refine wpAnyH_ready (rs := [7]) (by kernel_rfl) (by simp) ?_
        refine AllReadyH.cons rfl (fun K hK => ?_) AllReadyH.nil
        rw [if_pos (by rfl)]
        go_simp
        have hc := names_any s.env rb S x ts2 _ HI2.out.drew hS (HS2.out.mp.drewN 1) hmb
        rw [T3.out] at hc
        refine hc.mono ?_
        clear hc
        rintro e w3 ⟨rfl, hI3, ho3⟩
        have HO3 : Only (· = rb) w w3 := HO2.out.drew.trans ho3
        have hS3 : Stt w3 rb x s := HS.out.only HO3
        have hPb3 : Pb w3 w1.heap.size t.text t.at' := P2.out.only (P := (· = rb)) ((Only.refl (· = rb) w2).drew.trans ho3) (by omega)
        have hd3 : w3.cell? ⟨rb, 7, none⟩ = some (.map (some x.mb)) ∧ w3.cell? ⟨w1.heap.size, 0, none⟩ = some (.string (bs t.text)) := by
          obtain ⟨i3, hR3, _, _⟩ := hI3
          exact ⟨hR3.c7, hPb3.c0⟩
        refine hK.out _ _ hd3 (fun hHeld2 => ?_)
        clear hK
        try simp only [Act.put, List.setIfInBounds_toArray, List.set_cons_zero, List.set_cons_succ]
        refine wpAnyH_ready (rs := [8]) (by kernel_rfl) (by simp) ?_
        refine AllReadyH.cons rfl (fun K hK => ?_) AllReadyH.nil
        obtain ⟨D, hown, hism, hD⟩ := hS3.mp
        refine step_of_wp rfl (wp_put w3 _ _ _ 99 rfl 9 47 law9 Try.underlying99 _ x.mb s.env.length D rfl hown (by unfold maxLen; omega) _ _ _ rfl rfl (key9 t.text htl) _ [] (plainElem_int Try.underlying47 (wf_u32 hrng)) ?_)
        intro w4 hown4 hg4
        have hO34 : Only (· = x.mb) w3 w4 := ⟨hg4.os, hg4.tape, hg4.output, hg4.size, fun g hg hn => hg4.block g hg (fun e => hn (by injection e))⟩
        have hd4 : w4.cell? ⟨rb, 7, none⟩ = some (.map (some x.mb)) ∧ w4.cell? ⟨w1.heap.size, 0, none⟩ = some (.string (bs t.text)) := by
          obtain ⟨i3, hR3, _, _⟩ := hI3
          exact ⟨(hR3.only hO34 (by omega)).c7, (hPb3.only hO34 (by omega)).c0⟩
        refine hK.out _ _ hd4 (fun hHeld3 => ?_)
        clear hK
        refine wpAnyH_done (by kernel_rfl) ?_ _
        clear hHeld hHeld2 hHeld3
        go_wp2_with fail
        go_end0
        rw [HE.out]
        refine ⟨rfl, x, rfl, hI3.only hO34 (by omega), ?_, (HO3.fr HI.out.cl _).trans hO34.frMb⟩
        exact ⟨own_only hS3.cls hO34 (fun g hg => by omega), own_only hS3.trt hO34 (fun g hg => by omega), hS3.lst.only hO34 (fun g hg => by omega), Mp.put (w := w3) hism hD hown4 HFn.out, hS3.jn, hS3.af, hS3.pl, hS3.op, hS3.mb, hS3.c24, hS3.l24, hS3.p200⟩
end Go.Proofs.Ytfbcijnacbfjpaa
namespace Go.Proofs.Ytfbcijnacbfjpaa
open Go.RowKit Go.Maps
set_option linter.unusedVariables false
set_option linter.unusedSimpArgs false

theorem info52 : (Try.prog.info? 69).map (fun i => (i.zero, i.size, i.bytes)) = some (some (.agg #[.int .u8 0, .int .u8 0, .int .u32 0, .slice none 0 0, .int .u8 0, .int .u32 0, .slice none 0 0]), 7, 72) := by kernel_rfl
theorem Rdr.set6 {w : World} {rb : Nat} {S : ByteArray} {i : Int} {x : Rd} (h : Rdr w rb S i x) (v : Value) : Rdr (w.setCell ⟨rb, 6, none⟩ v) rb S i { x with vL := v } := heap_setCell_at h _
theorem rule_news (wr : World) (d o s : Int) (k : Value) (o' s' : Int) (k' : Value) : ∀ j u, [Value.int .u8 d, Value.int .u8 o, Value.int .u32 s, k, Value.int .u8 o', Value.int .u32 s', k'][j]? = some u → (wr.alloc (.cells #[.int .u8 d, .int .u8 o, .int .u32 s, k, .int .u8 o', .int .u32 s', k'] 69)).cell? ((⟨wr.heap.size, 0, none⟩ : Addr).add j) = some u := by
  intro j u hj
  rw [Addr.add_mid, Nat.zero_add, cell_of_row _ _ _ _ _ _ (heap_alloc_new _ _)]
  simpa using hj
theorem rule_cells (d o s : Int) (a : Option Addr) (n c : Nat) (o' s' : Int) (a' : Option Addr) (n' c' : Nat) : ∀ u ∈ [Value.int .u8 d, Value.int .u8 o, Value.int .u32 s, Value.slice a n c, Value.int .u8 o', Value.int .u32 s', Value.slice a' n' c'], u.oneCell' = true := by
  intro u hu
  simp at hu
  rcases hu with rfl | rfl | rfl | rfl | rfl | rfl | rfl <;> rfl
/-- one rule more. -/
theorem Stt.rule {wa wb w' : World} {rb : Nat} {x : Rd} {s : Rl.St} {does o st o' st' : Int} {k k' v' : Value} {l r : Rl.Ex} {xs : List Value} (h : Stt wa rb x s) (hwb : Only (fun _ => False) wa wb) (hl : Tr wa (fun b => rb + 1 ≤ b) l (.agg #[.int .u8 o, .int .u32 st, k])) (hr : Tr wa (fun b => rb + 1 ≤ b) r (.agg #[.int .u8 o', .int .u32 st', k']))
    (hx : wa.ownsRow (rb + 1) 69 7 x.vL s.list.length xs) (hxr : Rcs wa (fun b => rb + 1 ≤ b) s.list (fun j => xs[j]?)) (hown : w'.ownsRow (rb + 1) 69 7 v' (s.list.length + 1) (xs ++ [.int .u8 does, .int .u8 o, .int .u32 st, k, .int .u8 o', .int .u32 st', k'])) (hg : wb.grownBy w' x.vL.ownBlock) (hn : s.list.length < 24) (hcl : Cl wa rb) :
    Stt (w'.setCell ⟨rb, 6, none⟩ v') rb { x with vL := v' } { s with list := s.list ++ [⟨does, l, r⟩] } ∧ Fr rb x.mb wa (w'.setCell ⟨rb, 6, none⟩ v') ∧ (rb < wa.heap.size → w'.heap[rb]? = wa.heap[rb]?) := by
  have hO : Only (fun g => x.vL.ownBlock = some g) wa w' := (hwb.mono (fun _ h => h.elim)).grown hg (fun k hk => hk)
  have hOl : ∀ g, x.vL.ownBlock = some g → rb + 1 ≤ g := fun g hg => (hx.lt g hg).1
  have htag : ∀ e', e' ≠ 69 → ∀ q, x.vL.ownBlock = some q → ∀ cur z, wa.heap[q]? ≠ some (.cells cur e' z) := fun e' he q hq cur z hh => by
    obtain ⟨_, ⟨hv, _⟩ | ⟨g', cap', cur', hv, hb, hh', _⟩⟩ := hx
    · rw [hv] at hq; cases hq
    · rw [hv] at hq
      injection hq with hq
      simp only at hq
      subst hq
      rw [hh'] at hh
      injection hh with hh
      injection hh with _ h2
      exact he h2.symm
  have hset : Only (· = rb) w' (w'.setCell ⟨rb, 6, none⟩ v') := (Only.refl (· = rb) w').setCell (p := ⟨rb, 6, none⟩) rfl _
  have hmb := h.mb
  refine ⟨⟨own_only (own_onlyT h.cls hO (htag 9 (by decide))) hset (fun g hg => by omega), own_only (own_onlyT h.trt hO (htag 3 (by decide))) hset (fun g hg => by omega), ?_, (h.mp.only hO (fun e => by have := hOl _ e; omega)).only hset (by omega), h.jn, h.af, h.pl, h.op, h.mb, h.c24, by simp; omega, h.p200⟩, ?_, fun hrb => hO.block rb hrb (fun e => by have := hOl _ e; omega)⟩
  · refine Rls.only ⟨xs ++ [.int .u8 does, .int .u8 o, .int .u32 st, k, .int .u8 o', .int .u32 st', k'], by rw [List.length_append]; exact hown, ?_⟩ hset (fun g hg => by omega)
    have hk : ∀ b, rb + 1 ≤ b → b < wa.heap.size → (∃ cs z, wa.heap[b]? = some (.cells cs 49 z)) → rb + 1 ≤ b ∧ w'.heap[b]? = wa.heap[b]? := fun b hb hbl hc => ⟨hb, hO.block b hbl (fun e => by obtain ⟨cs, z, hc⟩ := hc; exact htag 49 (by decide) b e _ _ hc)⟩
    exact Rcs.snoc (r := ⟨does, l, r⟩) (hl.keepT hk) (hr.keepT hk) s.list xs (by rw [hx.1]; omega) (hxr.keepT hk)
  · refine (hO.frOwn hx _).trans (hset.fr ?_ _)
    obtain ⟨cs, t, z, hcc⟩ := hcl
    exact ⟨cs, t, z, (hO.block rb (Array.getElem?_eq_some_iff.1 hcc).1 (fun e => by have := hOl _ e; omega)).trans hcc⟩

set_option maxRecDepth 100000 in
set_option maxHeartbeats 8000000 in
theorem rule_any (does : Int) (rb : Nat) (S : ByteArray) (x : Rd) (s : Rl.St) (ts : List Rl.Tk) (w : World) (h : In w rb S x ts) (hS : S.size ≤ 4096) (hT : Stt w rb x s) (tx : Rl.Str) (ti : Nat) :
    Calls Try.prog 80 #[.pointer (some ⟨rb, 0, none⟩), .agg #[.string (bs tx), .int .i64 (ti : Int)], .int .u8 does] w (lineP rb S x.mb w (Rl.rule' does ti ts s)) := by
  obtain ⟨i0, hi, hz0, hz1, hz2⟩ := info_parts info52
  have hlt := h.lt
  have HI : Hid (In w rb S x ts) := h
  have HS : Hid (Stt w rb x s) := hT
  have hmb : x.mb ≠ rb := by have := hT.mb; omega
  obtain ⟨F, hF⟩ : ∃ F, F = Rl.rule' does ti ts s := ⟨_, rfl⟩
  have HF : Hid (F = Rl.rule' does ti ts s) := hF
  rw [← hF]
  obtain ⟨xs, hown, hrcs⟩ := hT.lst
  obtain ⟨aL, capL, hvL⟩ := own_form hown
  have HvL : Hid (x.vL = .slice aL s.list.length capL) := hvL
  have hl24 := hT.l24
  obtain ⟨i, hR, _, _⟩ := h
  have c6 : w.cell? ⟨rb, 6, none⟩ = some (.slice aL s.list.length capL) := by rw [← hvL]; exact hR.c6
  clear hF hT hown hrcs hvL hR
  by_cases h24 : s.list.length = 24
  · have HE : Hid (F = .error (24, ti)) := (by rw [HF.out]; unfold Rl.rule'; rw [if_pos h24] : F = .error (24, ti))
    have q : ((s.list.length : Int) == 24) = true := by simp; omega
    clear h24
    go_enter Try.func80, Try.ntmps80
    go_wp2_with (go_at_call 52; refine (throw_any 24 ti _).mono ?_; rintro e w3 ⟨rfl, rfl⟩)
    refine ⟨rfl, ?_⟩
    rw [HE.out]
    exact ⟨rfl, ((Only.refl (· = rb) w).alloc _).fr HI.out.cl _⟩
  · have q : ((s.list.length : Int) == 24) = false := by simp; omega
    have hEi : ∀ (y : Rd) (p : Nat) (us : List Rl.Tk) (W : World), In W rb S y us → Mp W y.mb s.env → Cx s.cls.length rb y p 0 → Calls Try.prog 88 #[.pointer (some ⟨rb, 0, none⟩)] W (exprP rb S y W (Rl.either s.env s.cls.length (Rl.fuel us) 0 us p)) := fun y p us W h1 h2 h3 => either_any s.env s.cls.length rb S hS (Rl.fuel us) 0 p y us W h1 h2 h3 (by unfold Rl.fuel; omega)
    have HEi : Hid (∀ (y : Rd) (p : Nat) (us : List Rl.Tk) (W : World), In W rb S y us → Mp W y.mb s.env → Cx s.cls.length rb y p 0 → Calls Try.prog 88 #[.pointer (some ⟨rb, 0, none⟩)] W (exprP rb S y W (Rl.either s.env s.cls.length (Rl.fuel us) 0 us p))) := hEi
    have hn24 : s.list.length < 24 := by omega
    clear hEi
    cases he1 : Rl.either s.env s.cls.length (Rl.fuel ts) 0 ts s.places with
    | error f =>
      have T1 : Hid (Rl.either s.env s.cls.length (Rl.fuel ts) 0 ts s.places = .error f) := he1
      have HE : Hid (F = .error f) := (by rw [HF.out]; unfold Rl.rule'; rw [if_neg h24]; simp only [he1] : F = .error f)
      clear he1 h24
      go_enter Try.func80, Try.ntmps80
      go_wp2_with (go_at_call 88; have hc := HEi.out x s.places ts (w.alloc (.cells #[.string (bs tx), .int .i64 (ti : Int)] 124)) (HI.out.alloc _) (HS.out.mp.alloc _) HS.out.cx; rw [T1.out] at hc; refine hc.mono ?_; clear hc; rintro e w1 ⟨rfl, ho1⟩)
      refine ⟨rfl, ?_⟩
      rw [HE.out]
      exact ⟨rfl, (((Only.refl (· = rb) w).alloc _).trans ho1).fr HI.out.cl _⟩
    | ok r =>
      obtain ⟨ea, ts1, p1⟩ := r
      have T1 : Hid (Rl.either s.env s.cls.length (Rl.fuel ts) 0 ts s.places = .ok (ea, ts1, p1)) := he1
      have hp1 := ((Rl.expr_len s.env s.cls.length _).1 _ _ _ _ _ _ he1 HS.out.p200).2
      clear he1
      cases hw : Rl.want 47 ts1 with
      | error f =>
        have T2 : Hid (Rl.want 47 ts1 = .error f) := hw
        have HE : Hid (F = .error f) := (by rw [HF.out]; unfold Rl.rule'; rw [if_neg h24]; simp only [T1.out, hw] : F = .error f)
        clear hw h24
        go_enter Try.func80, Try.ntmps80
        go_wp2_with (first | (go_at_call 88; have hc := HEi.out x s.places ts (w.alloc (.cells #[.string (bs tx), .int .i64 (ti : Int)] 124)) (HI.out.alloc _) (HS.out.mp.alloc _) HS.out.cx; rw [T1.out] at hc; refine hc.mono ?_; clear hc; rintro e w1 ⟨v1, rfl, hT1, hI1, ho1⟩; obtain ⟨o, st, a, k, c, rfl⟩ := hT1.form; have HI1 : Hid (In w1 rb S (x.withPl p1) ts1) := hI1; clear hI1 hT1) | (go_at_call 54; have hc := want_any 47 rb S (x.withPl p1) ts1 _ (HI1.out.alloc (.cells #[.int .u8 o, .int .u32 st, .slice a k c] 49)) hS; rw [T2.out] at hc; refine hc.mono ?_; clear hc; rintro e w2 ⟨rfl, ho2⟩))
        refine ⟨rfl, ?_⟩
        rw [HE.out]
        exact ⟨rfl, (((((Only.refl (· = rb) w).alloc _).trans ho1).alloc _).trans ho2).fr HI.out.cl _⟩
      | ok ts2 =>
        have T2 : Hid (Rl.want 47 ts1 = .ok ts2) := hw
        clear hw
        cases he2 : Rl.either s.env s.cls.length (Rl.fuel ts2) 0 ts2 p1 with
        | error f =>
          have T3 : Hid (Rl.either s.env s.cls.length (Rl.fuel ts2) 0 ts2 p1 = .error f) := he2
          have HE : Hid (F = .error f) := (by rw [HF.out]; unfold Rl.rule'; rw [if_neg h24]; simp only [T1.out, T2.out, he2] : F = .error f)
          clear he2 h24
          go_enter Try.func80, Try.ntmps80
          go_wp2_with (first | (go_at_call 54; have hc := want_any 47 rb S (x.withPl p1) ts1 _ (HI1.out.alloc (.cells #[.int .u8 o, .int .u32 st, .slice a k c] 49)) hS; rw [T2.out] at hc; refine hc.mono ?_; clear hc; rintro e w2 ⟨rfl, hI2, ho2⟩; have HI2 : Hid (In w2 rb S (x.withPl p1) ts2) := hI2; clear hI2; have HO2 : Hid (Only (· = rb) w w2) := (HO1.out.alloc _).trans ho2) | (go_at_call 88; have hc := HEi.out (x.withPl p1) p1 ts2 _ HI2.out ((HS.out.only HO2.out).mp) ((HS.out.only HO2.out).cx.withPl hp1); rw [T3.out] at hc; refine hc.mono ?_; clear hc; rintro e w3 ⟨rfl, ho3⟩) | (go_at_call 88; have hc := HEi.out x s.places ts (w.alloc (.cells #[.string (bs tx), .int .i64 (ti : Int)] 124)) (HI.out.alloc _) (HS.out.mp.alloc _) HS.out.cx; rw [T1.out] at hc; refine hc.mono ?_; clear hc; rintro e w1 ⟨v1, rfl, hT1, hI1, ho1⟩; obtain ⟨o, st, a, k, c, rfl⟩ := hT1.form; have HI1 : Hid (In w1 rb S (x.withPl p1) ts1) := hI1; clear hI1 hT1; have HO1 : Hid (Only (· = rb) w w1) := ((Only.refl (· = rb) w).alloc _).trans ho1))
          refine ⟨rfl, ?_⟩
          rw [HE.out]
          exact ⟨rfl, (HO2.out.trans ho3).fr HI.out.cl _⟩
        | ok r =>
          obtain ⟨eb, ts3, p3⟩ := r
          have T3 : Hid (Rl.either s.env s.cls.length (Rl.fuel ts2) 0 ts2 p1 = .ok (eb, ts3, p3)) := he2
          have hp3 := ((Rl.expr_len s.env s.cls.length _).1 _ _ _ _ _ _ he2 hp1).2
          have HE : Hid (F = .ok (ts3, { s with places := p3, list := s.list ++ [⟨does, ea, eb⟩] })) := (by rw [HF.out]; unfold Rl.rule'; rw [if_neg h24]; simp only [T1.out, T2.out, he2] : F = .ok (ts3, { s with places := p3, list := s.list ++ [⟨does, ea, eb⟩] }))
          clear he2 h24
          go_enter Try.func80, Try.ntmps80
          go_wp2_with (first | (go_at_call 54; have hc := want_any 47 rb S (x.withPl p1) ts1 _ (HI1.out.alloc (.cells #[.int .u8 o, .int .u32 st, .slice a k c] 49)) hS; rw [T2.out] at hc; refine hc.mono ?_; clear hc; rintro e w2 ⟨rfl, hI2, ho2⟩; have HI2 : Hid (In w2 rb S (x.withPl p1) ts2) := hI2; clear hI2; have HO2 : Hid (Only (· = rb) w w2) := (HO1.out.alloc _).trans ho2; have X2 : Hid (Xb w2 w1.heap.size (.int .u8 o) (.int .u32 st) (.slice a k c)) := (Xb.new w1 _ _ _).only ho2 (by omega); have TL2 : Hid (Tr w2 (fun b => rb + 1 ≤ b) ea (.agg #[.int .u8 o, .int .u32 st, .slice a k c])) := TL1.out.later (((Only.refl (· = rb) w1).alloc _).trans ho2) (fun b hb => by omega) (fun b hb => hb); have hl2 := HO2.out.size) | (go_at_call 88; have hc := HEi.out (x.withPl p1) p1 ts2 _ HI2.out ((HS.out.only HO2.out).mp) ((HS.out.only HO2.out).cx.withPl hp1); rw [T3.out] at hc; refine hc.mono ?_; clear hc; rintro e w3 ⟨v3, rfl, hT3, hI3, ho3⟩; obtain ⟨o', st', a', k', c', rfl⟩ := hT3.form; have HI3 : Hid (In w3 rb S ((x.withPl p1).withPl p3) ts3) := hI3; have TR3 : Hid (Tr w3 (fun b => rb + 1 ≤ b) eb (.agg #[.int .u8 o', .int .u32 st', .slice a' k' c'])) := hT3.keep (fun b hb _ => ⟨by omega, rfl⟩); clear hI3 hT3; have HO3 : Hid (Only (· = rb) w w3) := HO2.out.trans ho3; have X3 : Hid (Xb w3 w1.heap.size (.int .u8 o) (.int .u32 st) (.slice a k c)) := X2.out.only ho3 (by omega); have TL3 : Hid (Tr w3 (fun b => rb + 1 ≤ b) ea (.agg #[.int .u8 o, .int .u32 st, .slice a k c])) := TL2.out.later ho3 (fun b hb => by omega) (fun b hb => hb); have hl3 := X3.out.lt) | (go_at_call 88; have hc := HEi.out x s.places ts (w.alloc (.cells #[.string (bs tx), .int .i64 (ti : Int)] 124)) (HI.out.alloc _) (HS.out.mp.alloc _) HS.out.cx; rw [T1.out] at hc; refine hc.mono ?_; clear hc; rintro e w1 ⟨v1, rfl, hT1, hI1, ho1⟩; obtain ⟨o, st, a, k, c, rfl⟩ := hT1.form; have HI1 : Hid (In w1 rb S (x.withPl p1) ts1) := hI1; have TL1 : Hid (Tr w1 (fun b => rb + 1 ≤ b) ea (.agg #[.int .u8 o, .int .u32 st, .slice a k c])) := hT1.keep (fun b hb _ => ⟨by simp at hb; omega, rfl⟩); clear hI1 hT1; have HO1 : Hid (Only (· = rb) w w1) := ((Only.refl (· = rb) w).alloc _).trans ho1; have hl1 := HO1.out.size))
          obtain ⟨i6, hR6, hs6⟩ := (HI3.out.alloc (.cells #[.int .u8 o', .int .u32 st', .slice a' k' c'] 49)).drew
          have HR0 : Hid (Rdr (w3.alloc (.cells #[.int .u8 o', .int .u32 st', .slice a' k' c'] 49)).drew rb S (i6 : Int) (x.withPl p3)) := hR6
          have Hs6 : Hid (Rl.Strm S.data.toList i6 ts3 ∧ i6 ≤ S.size) := hs6
          have c6' : (w3.alloc (.cells #[.int .u8 o', .int .u32 st', .slice a' k' c'] 49)).drew.cell? ⟨rb, 6, none⟩ = some (.slice aL s.list.length capL) := by rw [← HvL.out]; exact hR6.c6
          have c6'' : ((w3.alloc (.cells #[.int .u8 o', .int .u32 st', .slice a' k' c'] 49)).drew.alloc (.cells #[.int .u8 does, .int .u8 o, .int .u32 st, .slice a k c, .int .u8 o', .int .u32 st', .slice a' k' c'] 69)).cell? ⟨rb, 6, none⟩ = some (.slice aL s.list.length capL) := by rw [← HvL.out]; exact (hR6.alloc _).c6
          have c6''' : ((w3.alloc (.cells #[.int .u8 o', .int .u32 st', .slice a' k' c'] 49)).alloc (.cells #[.int .u8 does, .int .u8 o, .int .u32 st, .slice a k c, .int .u8 o', .int .u32 st', .slice a' k' c'] 69)).cell? ⟨rb, 6, none⟩ = some (.slice aL s.list.length capL) := c6''
          have HS0 : Hid (Stt (w3.alloc (.cells #[.int .u8 o', .int .u32 st', .slice a' k' c'] 49)).drew rb (x.withPl p3) { s with places := p3 }) := (HS.out.only ((HO3.out.alloc (.cells #[.int .u8 o', .int .u32 st', .slice a' k' c'] 49)).drew)).withPl hp3
          have XL0 : Hid (Xb (w3.alloc (.cells #[.int .u8 o', .int .u32 st', .slice a' k' c'] 49)).drew w1.heap.size (.int .u8 o) (.int .u32 st) (.slice a k c)) := X3.out.alloc _
          have XR0 : Hid (Xb (w3.alloc (.cells #[.int .u8 o', .int .u32 st', .slice a' k' c'] 49)).drew w3.heap.size (.int .u8 o') (.int .u32 st') (.slice a' k' c')) := Xb.new w3 _ _ _
          have TL0 : Hid (Tr (w3.alloc (.cells #[.int .u8 o', .int .u32 st', .slice a' k' c'] 49)).drew (fun b => rb + 1 ≤ b) ea (.agg #[.int .u8 o, .int .u32 st, .slice a k c])) := TL3.out.later (((Only.refl (· = rb) w3).alloc _).drew) (fun b hb => by omega) (fun b hb => hb)
          have TR0 : Hid (Tr (w3.alloc (.cells #[.int .u8 o', .int .u32 st', .slice a' k' c'] 49)).drew (fun b => rb + 1 ≤ b) eb (.agg #[.int .u8 o', .int .u32 st', .slice a' k' c'])) := TR3.out.later (((Only.refl (· = rb) w3).alloc _).drew) (fun b hb => by omega) (fun b hb => hb)
          obtain ⟨xs, hown0, hrcs0⟩ := HS0.out.lst
          have Hown0 : Hid ((w3.alloc (.cells #[.int .u8 o', .int .u32 st', .slice a' k' c'] 49)).drew.ownsRow (rb + 1) 69 7 (.slice aL s.list.length capL) s.list.length xs) := by rw [← HvL.out]; exact hown0
          have Hrcs0 : Hid (Rcs (w3.alloc (.cells #[.int .u8 o', .int .u32 st', .slice a' k' c'] 49)).drew (fun b => rb + 1 ≤ b) s.list (fun j => xs[j]?)) := hrcs0
          have Hnews : Hid (∀ j u, [Value.int .u8 does, Value.int .u8 o, Value.int .u32 st, Value.slice a k c, Value.int .u8 o', Value.int .u32 st', Value.slice a' k' c'][j]? = some u → ((w3.alloc (.cells #[.int .u8 o', .int .u32 st', .slice a' k' c'] 49)).drew.alloc (.cells #[.int .u8 does, .int .u8 o, .int .u32 st, .slice a k c, .int .u8 o', .int .u32 st', .slice a' k' c'] 69)).cell? ((⟨w3.heap.size + 1, 0, none⟩ : Addr).add j) = some u) := (by
            have h := rule_news (w3.alloc (.cells #[.int .u8 o', .int .u32 st', .slice a' k' c'] 49)).drew does o st (.slice a k c) o' st' (.slice a' k' c')
            rw [show (w3.alloc (.cells #[.int .u8 o', .int .u32 st', .slice a' k' c'] 49)).drew.heap.size = w3.heap.size + 1 from Array.size_push _] at h
            exact h : ∀ j u, [Value.int .u8 does, Value.int .u8 o, Value.int .u32 st, Value.slice a k c, Value.int .u8 o', Value.int .u32 st', Value.slice a' k' c'][j]? = some u → ((w3.alloc (.cells #[.int .u8 o', .int .u32 st', .slice a' k' c'] 49)).drew.alloc (.cells #[.int .u8 does, .int .u8 o, .int .u32 st, .slice a k c, .int .u8 o', .int .u32 st', .slice a' k' c'] 69)).cell? ((⟨w3.heap.size + 1, 0, none⟩ : Addr).add j) = some u)
          have HSa : Hid (Xb ((w3.alloc (.cells #[.int .u8 o', .int .u32 st', .slice a' k' c'] 49)).drew.alloc (.cells #[.int .u8 does, .int .u8 o, .int .u32 st, .slice a k c, .int .u8 o', .int .u32 st', .slice a' k' c'] 69)) w1.heap.size (.int .u8 o) (.int .u32 st) (.slice a k c) ∧ Xb ((w3.alloc (.cells #[.int .u8 o', .int .u32 st', .slice a' k' c'] 49)).drew.alloc (.cells #[.int .u8 does, .int .u8 o, .int .u32 st, .slice a k c, .int .u8 o', .int .u32 st', .slice a' k' c'] 69)) w3.heap.size (.int .u8 o') (.int .u32 st') (.slice a' k' c')) := ⟨XL0.out.alloc _, XR0.out.alloc _⟩
          clear hR6 hs6 hown0 hrcs0
          refine wp_region_held_drew (S := fun w' => Xb w' w1.heap.size (.int .u8 o) (.int .u32 st) (.slice a k c) ∧ Xb w' w3.heap.size (.int .u8 o') (.int .u32 st') (.slice a' k' c')) (by kernel_rfl) ⟨XL0.out, XR0.out⟩ (fun hHeld => ?_)
          refine wpAnyH_take (i := 0) (v := Value.pointer (some ⟨rb, 0, none⟩)) rfl (by kernel_rfl) (by kernel_rfl) (by kernel_rfl) (fun _ _ _ h => h) (Or.inl ⟨by rfl, fun w hSw => by first | (go_simp; done) | go_simp⟩) (by assumption) ?_
          simp only [Act.put, List.setIfInBounds_toArray, List.set_cons_zero, List.set_cons_succ]
          refine wpAnyH_take (i := 1) (v := Value.pointer (some ⟨rb, 0, none⟩)) rfl (by kernel_rfl) (by kernel_rfl) (by kernel_rfl) (fun _ _ _ h => h) (Or.inl ⟨by rfl, fun w hSw => by first | (go_simp; done) | go_simp⟩) (by assumption) ?_
          simp only [Act.put, List.setIfInBounds_toArray, List.set_cons_zero, List.set_cons_succ]
          refine wpAnyH_take (i := 2) (v := Value.pointer (some ⟨rb, 0, none⟩)) rfl (by kernel_rfl) (by kernel_rfl) (by kernel_rfl) (fun _ _ _ h => h) (Or.inl ⟨by rfl, fun w hSw => by first | (go_simp; done) | go_simp⟩) (by assumption) ?_
          simp only [Act.put, List.setIfInBounds_toArray, List.set_cons_zero, List.set_cons_succ]
          refine wpAnyH_take (i := 3) (v := Value.pointer (some ⟨rb, 2, none⟩)) rfl (by kernel_rfl) (by kernel_rfl) (by kernel_rfl) (fun _ _ _ h => h) (Or.inl ⟨by rfl, fun w hSw => by first | (go_simp; done) | go_simp⟩) (by assumption) ?_
          simp only [Act.put, List.setIfInBounds_toArray, List.set_cons_zero, List.set_cons_succ]
          refine wpAnyH_take (i := 4) (v := Value.pointer (some ⟨rb, 6, none⟩)) rfl (by kernel_rfl) (by kernel_rfl) (by kernel_rfl) (fun _ _ _ h => h) (Or.inl ⟨by rfl, fun w hSw => by first | (go_simp; done) | go_simp⟩) (by assumption) ?_
          simp only [Act.put, List.setIfInBounds_toArray, List.set_cons_zero, List.set_cons_succ]
          refine wpAnyH_take (i := 6) (v := Value.int .u8 does) rfl (by kernel_rfl) (by kernel_rfl) (by kernel_rfl) (fun _ _ _ h => h) (Or.inl ⟨by rfl, fun w hSw => by first | (go_simp; done) | go_simp⟩) (by assumption) ?_
          simp only [Act.put, List.setIfInBounds_toArray, List.set_cons_zero, List.set_cons_succ]
          refine wpAnyH_take (i := 7) (v := Value.agg #[.int .u8 o, .int .u32 st, .slice a k c]) rfl (by kernel_rfl) (by kernel_rfl) (by kernel_rfl) (fun _ _ _ h => h) (Or.inl ⟨by rfl, fun w hSw => by obtain ⟨h1, h2⟩ := hSw; have q0 := h1.c0; have q1 := h1.c1; have q2 := h1.c2; have q3 := h2.c0; have q4 := h2.c1; have q5 := h2.c2; clear h1 h2; go_simp⟩) (by assumption) ?_
          simp only [Act.put, List.setIfInBounds_toArray, List.set_cons_zero, List.set_cons_succ]
          refine wpAnyH_take (i := 8) (v := Value.agg #[.int .u8 o', .int .u32 st', .slice a' k' c']) rfl (by kernel_rfl) (by kernel_rfl) (by kernel_rfl) (fun _ _ _ h => h) (Or.inl ⟨by rfl, fun w hSw => by obtain ⟨h1, h2⟩ := hSw; have q0 := h1.c0; have q1 := h1.c1; have q2 := h1.c2; have q3 := h2.c0; have q4 := h2.c1; have q5 := h2.c2; clear h1 h2; go_simp⟩) (by assumption) ?_
          simp only [Act.put, List.setIfInBounds_toArray, List.set_cons_zero, List.set_cons_succ]
          refine wpAnyH_take (i := 9) (v := Value.agg #[.int .u8 does, .int .u8 o, .int .u32 st, .slice a k c, .int .u8 o', .int .u32 st', .slice a' k' c']) rfl (by kernel_rfl) (by kernel_rfl) (by kernel_rfl) (fun _ _ _ h => h) (Or.inl ⟨by rfl, fun w hSw => by first | (go_simp; done) | go_simp⟩) (by assumption) ?_
          simp only [Act.put, List.setIfInBounds_toArray, List.set_cons_zero, List.set_cons_succ]
          refine wpAnyH_ready (rs := [5, 10]) (by kernel_rfl) (by simp) ?_
          refine AllReadyH.cons rfl (fun K hK => ?_) (AllReadyH.cons rfl (fun K hK => ?_) AllReadyH.nil)
          · rw [if_pos (by rfl)]
            go_simp
            refine hK.out _ _ ⟨XL0.out, XR0.out⟩ (fun hHeld2 => ?_)
            clear hK
            refine wpAnyH_ready (rs := [10]) (by kernel_rfl) (by simp) ?_
            refine AllReadyH.cons rfl (fun K hK => ?_) AllReadyH.nil
            rw [if_pos (by rfl)]
            go_simp
            refine hK.out _ _ HSa.out (fun hHeld3 => ?_)
            clear hK
            refine wpAnyH_ready (rs := [11]) (by kernel_rfl) (by simp) ?_
            refine AllReadyH.cons rfl (fun K hK => ?_) AllReadyH.nil
            refine step_of_wp rfl (wp_append_at _ _ _ 59 rfl (rb + 1) 69 i0 (.agg #[.int .u8 0, .int .u8 0, .int .u32 0, .slice none 0 0, .int .u8 0, .int .u32 0, .slice none 0 0]) 7 72 Try.underlying59 hi hz0 hz1 hz2 rfl (by decide) (.slice aL s.list.length capL) s.list.length xs rfl (Hown0.out.alloc _) ⟨w3.heap.size + 1, 0, none⟩ 1 1 [.int .u8 does, .int .u8 o, .int .u32 st, .slice a k c, .int .u8 o', .int .u32 st', .slice a' k' c'] rfl rfl Hnews.out (rule_cells _ _ _ _ _ _ _ _ _ _ _) (by unfold maxLen; omega) (by omega) (by simp; omega) ?_)
            intro v5 w5 hown5 hg5
            obtain ⟨gv, capv, rfl, hgb5, hgl5, hgc5, _⟩ := row_form hown5 (by omega)
            have hg5' : ((w3.alloc (.cells #[.int .u8 o', .int .u32 st', .slice a' k' c'] 49)).drew.alloc (.cells #[.int .u8 does, .int .u8 o, .int .u32 st, .slice a k c, .int .u8 o', .int .u32 st', .slice a' k' c'] 69)).grownBy w5 (x.withPl p3).vL.ownBlock := by rw [show (x.withPl p3).vL = x.vL from rfl, HvL.out]; exact hg5
            obtain ⟨hSt5, hLo5, hrb5⟩ := Stt.rule (does := does) HS0.out ((Only.refl (fun _ => False) _).alloc (.cells #[.int .u8 does, .int .u8 o, .int .u32 st, .slice a k c, .int .u8 o', .int .u32 st', .slice a' k' c'] 69)) TL0.out TR0.out (by rw [show (x.withPl p3).vL = x.vL from rfl, HvL.out]; exact Hown0.out) Hrcs0.out hown5 hg5' hn24 HR0.out.cl
            have hR5 : Rdr w5 rb S (i6 : Int) (x.withPl p3) := (hrb5 HR0.out.lt).trans HR0.out
            have e6 : w5.cell? ⟨rb, 6, none⟩ = some (.slice aL s.list.length capL) := by rw [← HvL.out]; exact hR5.c6
            have g6 := hR5.fz 6
            have hXL5 : ∀ g o1 s1 k1, Xb (w3.alloc (.cells #[.int .u8 o', .int .u32 st', .slice a' k' c'] 49)).drew g o1 s1 k1 → Xb w5 g o1 s1 k1 := fun g o1 s1 k1 hX => by
              have hl := hX.lt
              refine (hg5.block g (by simp only [World.alloc, Array.size_push, World.drew] at hl ⊢; omega) (fun e => ?_)).trans ((Below.heap_alloc _ _ _ hl).trans hX)
              obtain ⟨_, ⟨hv, _⟩ | ⟨g', cap', cur', hv, hb, hh', _⟩⟩ := Hown0.out
              · rw [hv] at e; cases e
              · rw [hv] at e
                injection e with e
                simp only at e
                subst e
                rw [show (w3.alloc (.cells #[.int .u8 o', .int .u32 st', .slice a' k' c'] 49)).drew.heap[g]? = _ from hX] at hh'
                injection hh' with hh'
                injection hh' with _ h2
                exact absurd h2 (by decide)
            refine hK.out _ _ ⟨hXL5 _ _ _ _ XL0.out, hXL5 _ _ _ _ XR0.out⟩ (fun hHeldA => ?_)
            clear hK
            try simp only [Act.put, List.setIfInBounds_toArray, List.set_cons_zero, List.set_cons_succ]
            refine wpAnyH_take (i := 12) (v := Value.pointer (some ⟨rb, 0, none⟩)) rfl (by kernel_rfl) (by kernel_rfl) (by kernel_rfl) (fun _ _ _ h => h) (Or.inl ⟨by rfl, fun w hSw => by first | (go_simp; done) | go_simp⟩) (by assumption) ?_
            simp only [Act.put, List.setIfInBounds_toArray, List.set_cons_zero, List.set_cons_succ]
            refine wpAnyH_take (i := 13) (v := Value.pointer (some ⟨rb, 2, none⟩)) rfl (by kernel_rfl) (by kernel_rfl) (by kernel_rfl) (fun _ _ _ h => h) (Or.inl ⟨by rfl, fun w hSw => by first | (go_simp; done) | go_simp⟩) (by assumption) ?_
            simp only [Act.put, List.setIfInBounds_toArray, List.set_cons_zero, List.set_cons_succ]
            refine wpAnyH_take (i := 14) (v := Value.pointer (some ⟨rb, 6, none⟩)) rfl (by kernel_rfl) (by kernel_rfl) (by kernel_rfl) (fun _ _ _ h => h) (Or.inl ⟨by rfl, fun w hSw => by first | (go_simp; done) | go_simp⟩) (by assumption) ?_
            simp only [Act.put, List.setIfInBounds_toArray, List.set_cons_zero, List.set_cons_succ]
            refine wpAnyH_ready (rs := [15]) (by kernel_rfl) (by simp) ?_
            refine AllReadyH.cons rfl (fun K hK => ?_) AllReadyH.nil
            rw [if_pos (by rfl)]
            go_simp
            refine hK.out _ _ ⟨(hXL5 _ _ _ _ XL0.out).only (P := (· = rb)) ((Only.refl (· = rb) w5).setCell (p := ⟨rb, 6, none⟩) rfl _) (by omega), (hXL5 _ _ _ _ XR0.out).only (P := (· = rb)) ((Only.refl (· = rb) w5).setCell (p := ⟨rb, 6, none⟩) rfl _) (by omega)⟩ (fun hHeldB => ?_)
            clear hK
            refine wpAnyH_done (by kernel_rfl) ?_ _
            clear hHeldA hHeldB
            go_wp2_with fail
            go_end0
            rw [HE.out]
            exact ⟨rfl, { x.withPl p3 with vL := .slice (some ⟨gv, 0, none⟩) (s.list.length + 1) capv }, rfl, ⟨i6, hR5.set6 _, Hs6.out⟩, hSt5, (((HO3.out.alloc _).drew).fr HI.out.cl _).trans hLo5⟩
          · rw [if_pos (by rfl)]
            go_simp
            refine hK.out _ _ HSa.out (fun hHeld2 => ?_)
            clear hK
            refine wpAnyH_ready (rs := [5]) (by kernel_rfl) (by simp) ?_
            refine AllReadyH.cons rfl (fun K hK => ?_) AllReadyH.nil
            rw [if_pos (by rfl)]
            go_simp
            refine hK.out _ _ HSa.out (fun hHeld3 => ?_)
            clear hK
            refine wpAnyH_ready (rs := [11]) (by kernel_rfl) (by simp) ?_
            refine AllReadyH.cons rfl (fun K hK => ?_) AllReadyH.nil
            refine step_of_wp rfl (wp_append_at _ _ _ 59 rfl (rb + 1) 69 i0 (.agg #[.int .u8 0, .int .u8 0, .int .u32 0, .slice none 0 0, .int .u8 0, .int .u32 0, .slice none 0 0]) 7 72 Try.underlying59 hi hz0 hz1 hz2 rfl (by decide) (.slice aL s.list.length capL) s.list.length xs rfl (Hown0.out.alloc _) ⟨w3.heap.size + 1, 0, none⟩ 1 1 [.int .u8 does, .int .u8 o, .int .u32 st, .slice a k c, .int .u8 o', .int .u32 st', .slice a' k' c'] rfl rfl Hnews.out (rule_cells _ _ _ _ _ _ _ _ _ _ _) (by unfold maxLen; omega) (by omega) (by simp; omega) ?_)
            intro v5 w5 hown5 hg5
            obtain ⟨gv, capv, rfl, hgb5, hgl5, hgc5, _⟩ := row_form hown5 (by omega)
            have hg5' : ((w3.alloc (.cells #[.int .u8 o', .int .u32 st', .slice a' k' c'] 49)).drew.alloc (.cells #[.int .u8 does, .int .u8 o, .int .u32 st, .slice a k c, .int .u8 o', .int .u32 st', .slice a' k' c'] 69)).grownBy w5 (x.withPl p3).vL.ownBlock := by rw [show (x.withPl p3).vL = x.vL from rfl, HvL.out]; exact hg5
            obtain ⟨hSt5, hLo5, hrb5⟩ := Stt.rule (does := does) HS0.out ((Only.refl (fun _ => False) _).alloc (.cells #[.int .u8 does, .int .u8 o, .int .u32 st, .slice a k c, .int .u8 o', .int .u32 st', .slice a' k' c'] 69)) TL0.out TR0.out (by rw [show (x.withPl p3).vL = x.vL from rfl, HvL.out]; exact Hown0.out) Hrcs0.out hown5 hg5' hn24 HR0.out.cl
            have hR5 : Rdr w5 rb S (i6 : Int) (x.withPl p3) := (hrb5 HR0.out.lt).trans HR0.out
            have e6 : w5.cell? ⟨rb, 6, none⟩ = some (.slice aL s.list.length capL) := by rw [← HvL.out]; exact hR5.c6
            have g6 := hR5.fz 6
            have hXL5 : ∀ g o1 s1 k1, Xb (w3.alloc (.cells #[.int .u8 o', .int .u32 st', .slice a' k' c'] 49)).drew g o1 s1 k1 → Xb w5 g o1 s1 k1 := fun g o1 s1 k1 hX => by
              have hl := hX.lt
              refine (hg5.block g (by simp only [World.alloc, Array.size_push, World.drew] at hl ⊢; omega) (fun e => ?_)).trans ((Below.heap_alloc _ _ _ hl).trans hX)
              obtain ⟨_, ⟨hv, _⟩ | ⟨g', cap', cur', hv, hb, hh', _⟩⟩ := Hown0.out
              · rw [hv] at e; cases e
              · rw [hv] at e
                injection e with e
                simp only at e
                subst e
                rw [show (w3.alloc (.cells #[.int .u8 o', .int .u32 st', .slice a' k' c'] 49)).drew.heap[g]? = _ from hX] at hh'
                injection hh' with hh'
                injection hh' with _ h2
                exact absurd h2 (by decide)
            refine hK.out _ _ ⟨hXL5 _ _ _ _ XL0.out, hXL5 _ _ _ _ XR0.out⟩ (fun hHeldA => ?_)
            clear hK
            try simp only [Act.put, List.setIfInBounds_toArray, List.set_cons_zero, List.set_cons_succ]
            refine wpAnyH_take (i := 12) (v := Value.pointer (some ⟨rb, 0, none⟩)) rfl (by kernel_rfl) (by kernel_rfl) (by kernel_rfl) (fun _ _ _ h => h) (Or.inl ⟨by rfl, fun w hSw => by first | (go_simp; done) | go_simp⟩) (by assumption) ?_
            simp only [Act.put, List.setIfInBounds_toArray, List.set_cons_zero, List.set_cons_succ]
            refine wpAnyH_take (i := 13) (v := Value.pointer (some ⟨rb, 2, none⟩)) rfl (by kernel_rfl) (by kernel_rfl) (by kernel_rfl) (fun _ _ _ h => h) (Or.inl ⟨by rfl, fun w hSw => by first | (go_simp; done) | go_simp⟩) (by assumption) ?_
            simp only [Act.put, List.setIfInBounds_toArray, List.set_cons_zero, List.set_cons_succ]
            refine wpAnyH_take (i := 14) (v := Value.pointer (some ⟨rb, 6, none⟩)) rfl (by kernel_rfl) (by kernel_rfl) (by kernel_rfl) (fun _ _ _ h => h) (Or.inl ⟨by rfl, fun w hSw => by first | (go_simp; done) | go_simp⟩) (by assumption) ?_
            simp only [Act.put, List.setIfInBounds_toArray, List.set_cons_zero, List.set_cons_succ]
            refine wpAnyH_ready (rs := [15]) (by kernel_rfl) (by simp) ?_
            refine AllReadyH.cons rfl (fun K hK => ?_) AllReadyH.nil
            rw [if_pos (by rfl)]
            go_simp
            refine hK.out _ _ ⟨(hXL5 _ _ _ _ XL0.out).only (P := (· = rb)) ((Only.refl (· = rb) w5).setCell (p := ⟨rb, 6, none⟩) rfl _) (by omega), (hXL5 _ _ _ _ XR0.out).only (P := (· = rb)) ((Only.refl (· = rb) w5).setCell (p := ⟨rb, 6, none⟩) rfl _) (by omega)⟩ (fun hHeldB => ?_)
            clear hK
            refine wpAnyH_done (by kernel_rfl) ?_ _
            clear hHeldA hHeldB
            go_wp2_with fail
            go_end0
            rw [HE.out]
            exact ⟨rfl, { x.withPl p3 with vL := .slice (some ⟨gv, 0, none⟩) (s.list.length + 1) capv }, rfl, ⟨i6, hR5.set6 _, Hs6.out⟩, hSt5, (((HO3.out.alloc _).drew).fr HI.out.cl _).trans hLo5⟩
end Go.Proofs.Ytfbcijnacbfjpaa
namespace Go.Proofs.Ytfbcijnacbfjpaa
open Go.RowKit Go.Maps
set_option linter.unusedVariables false
set_option linter.unusedSimpArgs false

theorem info9 : (Try.prog.info? 9).map (fun i => (i.zero, i.size, i.bytes)) = some (some (.string ⟨#[]⟩), 1, 16) := by kernel_rfl
theorem info3 : (Try.prog.info? 3).map (fun i => (i.zero, i.size, i.bytes)) = some (some (.int .i64 0), 1, 8) := by kernel_rfl
theorem Rdr.set2 {w : World} {rb : Nat} {S : ByteArray} {i : Int} {x : Rd} (h : Rdr w rb S i x) (v : Value) : Rdr (w.setCell ⟨rb, 2, none⟩ v) rb S i { x with vC := v } := heap_setCell_at h _
theorem Rdr.set5 {w : World} {rb : Nat} {S : ByteArray} {i : Int} {x : Rd} (h : Rdr w rb S i x) (v : Value) : Rdr (w.setCell ⟨rb, 5, none⟩ v) rb S i { x with vT := v } := heap_setCell_at h _
/-- what a reader has said, its classes and what each is taken as told apart. -/
structure Prt (w : World) (rb : Nat) (x : Rd) (s : Rl.St) (C : List Rl.Str) (T : List Int) : Prop where
  cls : w.ownsRow (rb + 1) 9 1 x.vC C.length (strs C)
  trt : w.ownsRow (rb + 1) 3 1 x.vT T.length (ints T)
  lst : Rls w (rb + 1) x.vL s.list
  mp : Mp w x.mb s.env
  jn : x.j = s.join
  af : x.a = s.after
  pl : x.pl = (s.places : Int)
  op : x.op = 0
  mb : x.mb < rb
  l24 : s.list.length ≤ 24
  p200 : s.places ≤ 200
theorem Stt.tlen {w : World} {rb : Nat} {x : Rd} {s : Rl.St} (h : Stt w rb x s) : s.treat.length = s.cls.length := by
  have := h.trt.1
  unfold ints at this
  rw [List.length_map] at this
  omega
theorem Stt.prt {w : World} {rb : Nat} {x : Rd} {s : Rl.St} (h : Stt w rb x s) : Prt w rb x s s.cls s.treat := ⟨h.cls, by rw [h.tlen]; exact h.trt, h.lst, h.mp, h.jn, h.af, h.pl, h.op, h.mb, h.l24, h.p200⟩
theorem own_notag {w : World} {base e size n : Nat} {v : Value} {xs : List Value} (hx : w.ownsRow base e size v n xs) : ∀ e', e' ≠ e → ∀ q, v.ownBlock = some q → ∀ cur z, w.heap[q]? ≠ some (.cells cur e' z) := fun e' he q hq cur z hh => by
  obtain ⟨_, ⟨hv, _⟩ | ⟨g', cap', cur', hv, hb, hh', _⟩⟩ := hx
  · rw [hv] at hq; cases hq
  · rw [hv] at hq
    injection hq with hq
    simp only at hq
    subst hq
    rw [hh'] at hh
    injection hh with hh
    injection hh with _ h2
    exact he h2.symm
theorem Prt.addC {wa wb w' : World} {rb : Nat} {x : Rd} {s : Rl.St} {C : List Rl.Str} {T : List Int} {c : Rl.Str} {v' : Value} (h : Prt wa rb x s C T) (hwb : Only (fun _ => False) wa wb) (hown : w'.ownsRow (rb + 1) 9 1 v' (C.length + 1) (strs C ++ [.string (bs c)])) (hg : wb.grownBy w' x.vC.ownBlock) (hcl : Cl wa rb) :
    Prt (w'.setCell ⟨rb, 2, none⟩ v') rb { x with vC := v' } s (C ++ [c]) T ∧ Fr rb x.mb wa (w'.setCell ⟨rb, 2, none⟩ v') ∧ (rb < wa.heap.size → w'.heap[rb]? = wa.heap[rb]?) ∧ Only (fun g => x.vC.ownBlock = some g) wa w' := by
  have hO : Only (fun g => x.vC.ownBlock = some g) wa w' := (hwb.mono (fun _ h => h.elim)).grown hg (fun k hk => hk)
  have hOl : ∀ g, x.vC.ownBlock = some g → rb + 1 ≤ g := fun g hg => (h.cls.lt g hg).1
  have htag := own_notag h.cls
  have hset : Only (· = rb) w' (w'.setCell ⟨rb, 2, none⟩ v') := (Only.refl (· = rb) w').setCell (p := ⟨rb, 2, none⟩) rfl _
  have hmb := h.mb
  refine ⟨⟨own_only (by rw [List.length_append]; unfold strs at hown ⊢; rw [List.map_append]; exact hown) hset (fun g hg => by omega), own_only (own_onlyT h.trt hO (htag 3 (by decide))) hset (fun g hg => by omega), (h.lst.onlyT hO (htag 69 (by decide)) (htag 49 (by decide))).only hset (fun g hg => by omega), (h.mp.only hO (fun e => by have := hOl _ e; omega)).only hset (by omega), h.jn, h.af, h.pl, h.op, h.mb, h.l24, h.p200⟩, ?_, fun hrb => hO.block rb hrb (fun e => by have := hOl _ e; omega), hO⟩
  obtain ⟨cs, t, z, hcc⟩ := hcl
  exact (hO.frOwn h.cls _).trans (hset.fr ⟨cs, t, z, (hO.block rb (Array.getElem?_eq_some_iff.1 hcc).1 (fun e => by have := hOl _ e; omega)).trans hcc⟩ _)
theorem Prt.addT {wa wb w' : World} {rb : Nat} {x : Rd} {s : Rl.St} {C : List Rl.Str} {T : List Int} {c : Int} {v' : Value} (h : Prt wa rb x s C T) (hwb : Only (fun _ => False) wa wb) (hown : w'.ownsRow (rb + 1) 3 1 v' (T.length + 1) (ints T ++ [.int .i64 c])) (hg : wb.grownBy w' x.vT.ownBlock) (hcl : Cl wa rb) :
    Prt (w'.setCell ⟨rb, 5, none⟩ v') rb { x with vT := v' } s C (T ++ [c]) ∧ Fr rb x.mb wa (w'.setCell ⟨rb, 5, none⟩ v') ∧ (rb < wa.heap.size → w'.heap[rb]? = wa.heap[rb]?) ∧ Only (fun g => x.vT.ownBlock = some g) wa w' := by
  have hO : Only (fun g => x.vT.ownBlock = some g) wa w' := (hwb.mono (fun _ h => h.elim)).grown hg (fun k hk => hk)
  have hOl : ∀ g, x.vT.ownBlock = some g → rb + 1 ≤ g := fun g hg => (h.trt.lt g hg).1
  have htag := own_notag h.trt
  have hset : Only (· = rb) w' (w'.setCell ⟨rb, 5, none⟩ v') := (Only.refl (· = rb) w').setCell (p := ⟨rb, 5, none⟩) rfl _
  have hmb := h.mb
  refine ⟨⟨own_only (own_onlyT h.cls hO (htag 9 (by decide))) hset (fun g hg => by omega), own_only (by rw [List.length_append]; unfold ints at hown ⊢; rw [List.map_append]; exact hown) hset (fun g hg => by omega), (h.lst.onlyT hO (htag 69 (by decide)) (htag 49 (by decide))).only hset (fun g hg => by omega), (h.mp.only hO (fun e => by have := hOl _ e; omega)).only hset (by omega), h.jn, h.af, h.pl, h.op, h.mb, h.l24, h.p200⟩, ?_, fun hrb => hO.block rb hrb (fun e => by have := hOl _ e; omega), hO⟩
  obtain ⟨cs, t, z, hcc⟩ := hcl
  exact (hO.frOwn h.trt _).trans (hset.fr ⟨cs, t, z, (hO.block rb (Array.getElem?_eq_some_iff.1 hcc).1 (fun e => by have := hOl _ e; omega)).trans hcc⟩ _)
theorem Prt.addN {wa w' : World} {rb : Nat} {x : Rd} {s : Rl.St} {c : Rl.Str} (h : Prt wa rb x s (s.cls ++ [c]) (s.treat ++ [(s.cls.length : Int)])) (hO : Only (· = x.mb) wa w') (hm : Mp w' x.mb (s.env ++ [(c, 2 ^ s.cls.length)])) (hc : s.cls.length < 24) (ht : s.treat.length = s.cls.length) : Stt w' rb x (Rl.addClass s c) := by
  have hmb := h.mb
  have h1 := own_only h.cls hO (fun g hg => by omega)
  have h2 := own_only h.trt hO (fun g hg => by omega)
  refine ⟨h1, ?_, h.lst.only hO (fun g hg => by omega), hm, h.jn, h.af, h.pl, h.op, h.mb, by unfold Rl.addClass; simp; omega, h.l24, h.p200⟩
  unfold Rl.addClass
  simp only [List.length_append, List.length_cons, List.length_nil] at h2 ⊢
  rw [ht] at h2
  exact h2
theorem one_news9 (wr : World) (u : Value) (t : TypeId) : ∀ j x, [u][j]? = some x → (wr.alloc (.cells #[u] t)).cell? ((⟨wr.heap.size, 0, none⟩ : Addr).add j) = some x := by
  intro j x hj
  rw [Addr.add_mid, Nat.zero_add, cell_of_row _ _ _ _ _ _ (heap_alloc_new _ _)]
  simpa using hj
theorem keep_any (rb : Nat) (S : ByteArray) (x : Rd) (s : Rl.St) (ts : List Rl.Tk) (w : World) (h : In w rb S x ts) (hS : S.size ≤ 4096) (hT : Stt w rb x s) (tx : Rl.Str) (ti : Nat) :
    Calls Try.prog 64 #[.pointer (some ⟨rb, 0, none⟩), .agg #[.string (bs tx), .int .i64 (ti : Int)]] w (lineP rb S x.mb w (Rl.rule' 0 ti ts s)) := by
  have hO : Only (· = rb) w (w.alloc (.cells #[.string (bs tx), .int .i64 (ti : Int)] 124)) := (Only.refl (· = rb) w).alloc _
  have hc := rule_any 0 rb S x s ts _ (h.alloc (.cells #[.string (bs tx), .int .i64 (ti : Int)] 124)) hS (hT.only hO) tx ti
  have HC : Hid (Calls Try.prog 80 #[.pointer (some ⟨rb, 0, none⟩), .agg #[.string (bs tx), .int .i64 (ti : Int)], .int .u8 0] (w.alloc (.cells #[.string (bs tx), .int .i64 (ti : Int)] 124)) (lineP rb S x.mb (w.alloc (.cells #[.string (bs tx), .int .i64 (ti : Int)] 124)) (Rl.rule' 0 ti ts s))) := hc
  have hcl := h.cl
  clear hc h hT
  obtain ⟨F, hF⟩ : ∃ F, F = Rl.rule' 0 ti ts s := ⟨_, rfl⟩
  rw [← hF] at HC ⊢
  clear hF
  cases F with
  | error f =>
    go_enter Try.func64, Try.ntmps64
    go_wp2_with (go_at_call 80; refine HC.out.mono ?_; rintro e w1 ⟨rfl, ho1⟩)
    exact ⟨rfl, rfl, (hO.fr hcl _).trans ho1⟩
  | ok r =>
    obtain ⟨ts', s'⟩ := r
    go_enter Try.func64, Try.ntmps64
    go_wp2_with (go_at_call 80; refine HC.out.mono ?_; rintro e w1 ⟨rfl, x', hx', hI', hS', ho1⟩; have HP : Hid (∃ x', x'.mb = x.mb ∧ In w1 rb S x' ts' ∧ Stt w1 rb x' s') := ⟨x', hx', hI', hS'⟩; clear hx' hI' hS')
    go_end0
    obtain ⟨x', h1, h2, h3⟩ := HP.out
    exact ⟨rfl, x', h1, h2, h3, (hO.fr hcl _).trans ho1⟩
theorem may_any (rb : Nat) (S : ByteArray) (x : Rd) (s : Rl.St) (ts : List Rl.Tk) (w : World) (h : In w rb S x ts) (hS : S.size ≤ 4096) (hT : Stt w rb x s) (tx : Rl.Str) (ti : Nat) :
    Calls Try.prog 65 #[.pointer (some ⟨rb, 0, none⟩), .agg #[.string (bs tx), .int .i64 (ti : Int)]] w (lineP rb S x.mb w (Rl.rule' 1 ti ts s)) := by
  have hO : Only (· = rb) w (w.alloc (.cells #[.string (bs tx), .int .i64 (ti : Int)] 124)) := (Only.refl (· = rb) w).alloc _
  have hc := rule_any 1 rb S x s ts _ (h.alloc (.cells #[.string (bs tx), .int .i64 (ti : Int)] 124)) hS (hT.only hO) tx ti
  have HC : Hid (Calls Try.prog 80 #[.pointer (some ⟨rb, 0, none⟩), .agg #[.string (bs tx), .int .i64 (ti : Int)], .int .u8 1] (w.alloc (.cells #[.string (bs tx), .int .i64 (ti : Int)] 124)) (lineP rb S x.mb (w.alloc (.cells #[.string (bs tx), .int .i64 (ti : Int)] 124)) (Rl.rule' 1 ti ts s))) := hc
  have hcl := h.cl
  clear hc h hT
  obtain ⟨F, hF⟩ : ∃ F, F = Rl.rule' 1 ti ts s := ⟨_, rfl⟩
  rw [← hF] at HC ⊢
  clear hF
  cases F with
  | error f =>
    go_enter Try.func65, Try.ntmps65
    go_wp2_with (go_at_call 80; refine HC.out.mono ?_; rintro e w1 ⟨rfl, ho1⟩)
    exact ⟨rfl, rfl, (hO.fr hcl _).trans ho1⟩
  | ok r =>
    obtain ⟨ts', s'⟩ := r
    go_enter Try.func65, Try.ntmps65
    go_wp2_with (go_at_call 80; refine HC.out.mono ?_; rintro e w1 ⟨rfl, x', hx', hI', hS', ho1⟩; have HP : Hid (∃ x', x'.mb = x.mb ∧ In w1 rb S x' ts' ∧ Stt w1 rb x' s') := ⟨x', hx', hI', hS'⟩; clear hx' hI' hS')
    go_end0
    obtain ⟨x', h1, h2, h3⟩ := HP.out
    exact ⟨rfl, x', h1, h2, h3, (hO.fr hcl _).trans ho1⟩
theorem must_any (rb : Nat) (S : ByteArray) (x : Rd) (s : Rl.St) (ts : List Rl.Tk) (w : World) (h : In w rb S x ts) (hS : S.size ≤ 4096) (hT : Stt w rb x s) (tx : Rl.Str) (ti : Nat) :
    Calls Try.prog 66 #[.pointer (some ⟨rb, 0, none⟩), .agg #[.string (bs tx), .int .i64 (ti : Int)]] w (lineP rb S x.mb w (Rl.rule' 2 ti ts s)) := by
  have hO : Only (· = rb) w (w.alloc (.cells #[.string (bs tx), .int .i64 (ti : Int)] 124)) := (Only.refl (· = rb) w).alloc _
  have hc := rule_any 2 rb S x s ts _ (h.alloc (.cells #[.string (bs tx), .int .i64 (ti : Int)] 124)) hS (hT.only hO) tx ti
  have HC : Hid (Calls Try.prog 80 #[.pointer (some ⟨rb, 0, none⟩), .agg #[.string (bs tx), .int .i64 (ti : Int)], .int .u8 2] (w.alloc (.cells #[.string (bs tx), .int .i64 (ti : Int)] 124)) (lineP rb S x.mb (w.alloc (.cells #[.string (bs tx), .int .i64 (ti : Int)] 124)) (Rl.rule' 2 ti ts s))) := hc
  have hcl := h.cl
  clear hc h hT
  obtain ⟨F, hF⟩ : ∃ F, F = Rl.rule' 2 ti ts s := ⟨_, rfl⟩
  rw [← hF] at HC ⊢
  clear hF
  cases F with
  | error f =>
    go_enter Try.func66, Try.ntmps66
    go_wp2_with (go_at_call 80; refine HC.out.mono ?_; rintro e w1 ⟨rfl, ho1⟩)
    exact ⟨rfl, rfl, (hO.fr hcl _).trans ho1⟩
  | ok r =>
    obtain ⟨ts', s'⟩ := r
    go_enter Try.func66, Try.ntmps66
    go_wp2_with (go_at_call 80; refine HC.out.mono ?_; rintro e w1 ⟨rfl, x', hx', hI', hS', ho1⟩; have HP : Hid (∃ x', x'.mb = x.mb ∧ In w1 rb S x' ts' ∧ Stt w1 rb x' s') := ⟨x', hx', hI', hS'⟩; clear hx' hI' hS')
    go_end0
    obtain ⟨x', h1, h2, h3⟩ := HP.out
    exact ⟨rfl, x', h1, h2, h3, (hO.fr hcl _).trans ho1⟩
end Go.Proofs.Ytfbcijnacbfjpaa
namespace Go.Proofs.Ytfbcijnacbfjpaa
open Go.RowKit Go.Maps
set_option linter.unusedVariables false
set_option linter.unusedSimpArgs false
theorem wrap_pow (n : Nat) (hn : n ≤ 24) : IntKind.u32.wrap (1 * 2 ^ n) = 2 ^ n := by
  rw [IntKind.wrap_u32, Int.one_mul]
  exact (pow24 ⟨n, by omega⟩).2.1
set_option maxRecDepth 100000 in
theorem shl_op {a : Act} {o : Oper} {t : Operand} {n : Nat} (ho : o.op = .binOp .shl 47 (.const (.int .u32 1)) t 3) (ht : a.eval t = .int .i64 (n : Int)) (hn : n ≤ 24) (w : World) : (execOp a.eval o).run Try.prog w = .ok (.value (.int .u32 (2 ^ n))) w := by
  have hc : a.eval (.const (.int .u32 1)) = .int .u32 1 := rfl
  unfold execOp
  rw [ho]
  simp only [ht, hc]
  simp [go_sem]
  have := wrap_pow n hn
  rw [Int.one_mul] at this
  exact this
theorem wp_put0 {P : Program} (w : World) {o : Oper} {a : Act} {K : Act → World → Prop} {Q : Exit → Act → World → Prop} (hd : o.dst = none) (m x v : Operand) (t : TypeId) (hop : o.op = Op.mapUpdate t m x v)
    (k e : TypeId) (L : Keyed P k) (ht : P.underlying t = some (.map k e)) (R : Value → Option (DataW Unit × List MemPlace)) (b n : Nat) (D : DataW Unit)
    (hm : a.eval m = .map (some b)) (hown : w.ownsMap P k R b n D) (hn : n < maxLen) (key val : Value) (kl : Lit) (hx : a.eval x = key) (hv : a.eval v = val) (hkey : keyOf P k key = some kl)
    (d : DataW Unit) (ps : List MemPlace) (hval : R val = some (d, ps))
    (h : ∀ w', w'.ownsMap P k R b (n + 1) (D.put kl d) → w.grownBy w' (some b) → K a w') : o.wp P a w K Q :=
  wp_put w m x v t hop k e L ht R b n D hm hown hn key val kl hx hv hkey d ps hval (fun w' h1 h2 => by rw [hd]; exact h w' h1 h2)
theorem ready_put {P : Program} {md : Region.Mode} {ops : Array Oper} {Q : Exit → Act → World → Prop} {S : World → Prop} {fuel : Nat} {listed : Array Bool} {a : Act} {w : World} {i : Nat} {o : Oper} (ho : ops[i]? = some o) (hgd : o.guard = none) (hd : o.dst = none) (m x v : Operand) (t : TypeId) (hop : o.op = Op.mapUpdate t m x v)
    (k e : TypeId) (L : Keyed P k) (ht : P.underlying t = some (.map k e)) (R : Value → Option (DataW Unit × List MemPlace)) (b n : Nat) (D : DataW Unit)
    (hm : a.eval m = .map (some b)) (hown : w.ownsMap P k R b n D) (hn : n < maxLen) (key val : Value) (kl : Lit) (hx : a.eval x = key) (hv : a.eval v = val) (hkey : keyOf P k key = some kl)
    (d : DataW Unit) (ps : List MemPlace) (hval : R val = some (d, ps))
    (h : ∀ w', w'.ownsMap P k R b (n + 1) (D.put kl d) → w.grownBy w' (some b) → S w' ∧ wpAnyH P md ops Q S fuel (listed.setIfInBounds i true) a w') : AllReadyH P md ops Q S fuel listed a w [i] :=
  AllReadyH.cons ho (fun K hK => step_of_wp hgd (wp_put0 w hd m x v t hop k e L ht R b n D hm hown hn key val kl hx hv hkey d ps hval (fun w' h1 h2 => hK.out a w' (h w' h1 h2).1 (fun _ => (h w' h1 h2).2)))) AllReadyH.nil
theorem pow_range (n : Nat) (hn : n ≤ 24) : 0 ≤ (2 : Int) ^ n ∧ (2 : Int) ^ n < 4294967296 := by
  have h := pow24 ⟨n, by omega⟩
  have h1 : 1 ≤ (2 : Int) ^ n := h.2.2.1
  have h2 : (2 : Int) ^ n ≤ 16777216 := h.2.2.2
  generalize (2 : Int) ^ n = b at h1 h2 ⊢
  omega
end Go.Proofs.Ytfbcijnacbfjpaa
