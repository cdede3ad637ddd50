/-
  often of the rules' reader: what may stand behind a thing.
-/
import Derived.Test.YtfbcijnacbfjpaaTree
namespace Go.Proofs.Ytfbcijnacbfjpaa
open Go.RowKit Go.Maps
set_option linter.unusedVariables false
set_option linter.unusedSimpArgs false

theorem often_cons (e : Rl.Ex) (t : Rl.Tk) (ts : List Rl.Tk) : Rl.often e (t :: ts) = if t.bad = true then .error (20, t.at') else if t.text = [42] then .ok (.mk 4 0 [e], ts) else if t.text = [43] then .ok (.mk 5 0 [e], ts) else if t.text = [63] then .ok (.mk 6 0 [e], ts) else .ok (e, t :: ts) := rfl
/-- one kid in a new block. -/
theorem Tr.one {w : World} {F F' : Nat → Prop} {ex : Rl.Ex} {o s k : Value} {g : Nat} (op : Int) (h : Tr w F ex (.agg #[o, s, k])) (hg : w.heap[g]? = some (.cells #[o, s, k] 49 (0, 0))) (hF : ∀ b, F b → F' b) (hF' : F' g) :
    Tr w F' (.mk op 0 [ex]) (.agg #[.int .u8 op, .int .u32 0, .slice (some ⟨g, 0, none⟩) 1 1]) := by
  unfold Tr
  refine ⟨some ⟨g, 0, none⟩, 1, rfl, Nat.le_refl _, fun _ => ⟨g, _, _, rfl, hF', hg, ?_⟩⟩
  unfold Trs
  exact ⟨⟨o, s, k, rfl, rfl, rfl, h.keep (fun b hb _ => ⟨hF b hb, rfl⟩)⟩, by unfold Trs; trivial⟩

/-- three cells of a block written. -/
def set3 (w : World) (z : Nat) (a b c : Value) : World := ((w.setCell ⟨z, 0, none⟩ a).setCell ⟨z, 1, none⟩ b).setCell ⟨z, 2, none⟩ c
theorem set3_size (w : World) (z : Nat) (a b c : Value) : (set3 w z a b c).heap.size = w.heap.size := by simp [set3, World.setCell]
theorem set3_other (w : World) {z g : Nat} (a b c : Value) (h : g ≠ z) : (set3 w z a b c).heap[g]? = w.heap[g]? :=
  (Below.heap_setCell _ _ _ _ (fun e => h e)).trans ((Below.heap_setCell _ _ _ _ (fun e => h e)).trans (Below.heap_setCell _ _ _ _ (fun e => h e)))
theorem Xb.set3 {w : World} {z : Nat} {o s k : Value} (h : Xb w z o s k) (a b c : Value) : Xb (set3 w z a b c) z a b c := heap_setCell_at (heap_setCell_at (heap_setCell_at h a) b) c
theorem results_x {fn : Func} {p : Tmp} (h : fn.results = #[.cell p 49]) (tmps : Array Value) {w : World} {g : Nat} {o s k : Value} (hp : tmps.getD p undef = .pointer (some ⟨g, 0, none⟩)) (hg : Xb w g o s k) : (results fn tmps).run Try.prog w = .ok (.agg #[o, s, k]) w := by
  obtain ⟨i, hi, _, hz, _⟩ := info_parts info50
  exact results_cell_row h tmps w g 49 _ (0, 0) _ hp hg Try.underlying49 rfl (by rw [hi]; simp [hz])
theorem In.set3 {w : World} {rb : Nat} {S : ByteArray} {x : Rd} {ts : List Rl.Tk} (h : In w rb S x ts) {z : Nat} (hz : z ≠ rb) (a b c : Value) : In (set3 w z a b c) rb S x ts := ((h.setOther hz a).setOther hz b).setOther hz c
theorem Only.set3 {P : Nat → Prop} {w0 w : World} (h : Only P w0 w) {z : Nat} (hz : w0.heap.size ≤ z) (a b c : Value) : Only P w0 (set3 w z a b c) := ((h.setNew (p := ⟨z, 0, none⟩) hz a).setNew (p := ⟨z, 1, none⟩) hz b).setNew (p := ⟨z, 2, none⟩) hz c
theorem Tr.later {w w' : World} {F F' : Nat → Prop} {rb : Nat} {ex : Rl.Ex} {v : Value} (h : Tr w F ex v) (ho : Only (· = rb) w w') (hF : ∀ b, F b → b ≠ rb) (hF' : ∀ b, F b → F' b) : Tr w' F' ex v :=
  h.keep fun b hb hl => ⟨hF' b hb, ho.block b hl (hF b hb)⟩

set_option maxRecDepth 100000 in
set_option maxHeartbeats 4000000 in
theorem often_any (rb : Nat) (S : ByteArray) (x : Rd) (F : Nat → Prop) (ex : Rl.Ex) (v : Value) (ts : List Rl.Tk) (w : World) (h : In w rb S x ts) (hS : S.size ≤ 4096) (hT : Tr w F ex v) (hF : ∀ b, F b → b ≠ rb) :
    Calls Try.prog 92 #[.pointer (some ⟨rb, 0, none⟩), v] w (oftP rb S x F w (Rl.often ex ts)) := by
  obtain ⟨o, s, a, n, c, rfl⟩ := hT.form
  cases ts with
  | nil => obtain ⟨i, _, h2, _⟩ := h; exact h2.elim
  | cons t ts =>
    have hlt := h.lt
    have HT : Hid (Tr w F ex (.agg #[.int .u8 o, .int .u32 s, .slice a n c])) := hT
    have HF : Hid (∀ b, F b → b ≠ rb) := hF
    have HI : Hid (In ((w.alloc (.cells #[.int .u8 o, .int .u32 s, .slice a n c] 49)).alloc (.cells #[.int .u8 0, .int .u32 0, .slice none 0 0] 49)) rb S x (t :: ts)) := (h.alloc _).alloc _
    have HO0 : Hid (Only (· = rb) w ((w.alloc (.cells #[.int .u8 o, .int .u32 s, .slice a n c] 49)).alloc (.cells #[.int .u8 0, .int .u32 0, .slice none 0 0] 49))) := ((Only.refl (· = rb) w).alloc _).alloc _
    have X0 : Hid (Xb ((w.alloc (.cells #[.int .u8 o, .int .u32 s, .slice a n c] 49)).alloc (.cells #[.int .u8 0, .int .u32 0, .slice none 0 0] 49)) w.heap.size (.int .u8 o) (.int .u32 s) (.slice a n c)) := (Xb.new w _ _ _).alloc _
    have Z0 : Hid (Xb ((w.alloc (.cells #[.int .u8 o, .int .u32 s, .slice a n c] 49)).alloc (.cells #[.int .u8 0, .int .u32 0, .slice none 0 0] 49)) (w.heap.size + 1) (.int .u8 0) (.int .u32 0) (.slice none 0 0)) := heap_alloc2_new _ _ _
    rw [often_cons]
    clear h hT hF
    by_cases hb : t.bad = true
    · rw [if_pos hb]
      have T1 : Hid (Rl.took 42 (t :: ts) = .error (20, t.at')) := by show Rl.took 42 (t :: ts) = .error (20, t.at'); rw [took_cons, if_pos hb]
      clear hb
      go_enter Try.func92, Try.ntmps92
      go_wp2_with (go_at_call 70; have hc := took_any 42 rb S x (t :: ts) _ HI.out hS; rw [T1.out] at hc; refine hc.mono ?_; clear hc; rintro e w2 ⟨rfl, ho2⟩)
      exact ⟨rfl, rfl, HO0.out.trans ho2⟩
    · rw [if_neg hb]
      by_cases h42 : t.text = [42]
      · rw [if_pos h42]
        have T1 : Hid (Rl.took 42 (t :: ts) = .ok (true, ts)) := by show Rl.took 42 (t :: ts) = .ok (true, ts); rw [took_cons, if_neg hb, if_pos h42]
        clear hb h42
        go_enter Try.func92, Try.ntmps92
        go_wp2_with (go_at_call_of 70 (Value.string ⟨#[42]⟩); have hc := took_any 42 rb S x (t :: ts) _ HI.out hS; rw [T1.out] at hc; refine hc.mono ?_; clear hc; rintro e w2 ⟨rfl, hI2, ho2⟩; have HI2 : Hid (In w2 rb S x (ts)) := hI2; clear hI2; have X2 : Hid (Xb w2 w.heap.size (.int .u8 o) (.int .u32 s) (.slice a n c)) := X0.out.only ho2 (by omega); have Z2 : Hid (Xb w2 (w.heap.size + 1) (.int .u8 0) (.int .u32 0) (.slice none 0 0)) := Z0.out.only ho2 (by omega); have HO2 : Hid (Only (· = rb) w w2) := HO0.out.trans ho2; clear ho2; have x0 := X2.out.c0; have x1 := X2.out.c1; have x2 := X2.out.c2; have z0 := Z2.out.c0; have z1 := Z2.out.c1; have z2 := Z2.out.c2; have zf0 := Z2.out.fz 0; have zf1 := Z2.out.fz 1; have zf2 := Z2.out.fz 2; have hl2 := Z2.out.lt)
        refine bodyPost_ret (v := .agg #[.int .u8 4, .int .u32 0, .slice (some ⟨w2.heap.size, 0, none⟩) 1 1]) (results_x rfl _ rfl ((Z2.out.set3 _ _ _).alloc _)) rfl ?_
        refine ⟨_, rfl, ?_, (HI2.out.set3 (z := w.heap.size + 1) (by omega) _ _ _).alloc _, (HO2.out.set3 (z := w.heap.size + 1) (by omega) _ _ _).alloc _⟩
        have hg := heap_alloc_new (set3 w2 (w.heap.size + 1) (.int .u8 4) (.int .u32 0) (.slice (some ⟨w2.heap.size, 0, none⟩) 1 1)) (.cells #[.int .u8 o, .int .u32 s, .slice a n c] 49)
        rw [set3_size] at hg
        exact Tr.one 4 (HT.out.later ((HO2.out.set3 (z := w.heap.size + 1) (by omega) _ _ _).alloc _) HF.out (fun b hb => hb)) hg (fun b hb => Or.inl hb) (Or.inr (by omega))
      · rw [if_neg h42]
        have T1 : Hid (Rl.took 42 (t :: ts) = .ok (false, t :: ts)) := by show Rl.took 42 (t :: ts) = .ok (false, t :: ts); rw [took_cons, if_neg hb, if_neg h42]
        by_cases h43 : t.text = [43]
        · rw [if_pos h43]
          have T2 : Hid (Rl.took 43 (t :: ts) = .ok (true, ts)) := by show Rl.took 43 (t :: ts) = .ok (true, ts); rw [took_cons, if_neg hb, if_pos h43]
          clear hb h42 h43
          go_enter Try.func92, Try.ntmps92
          go_wp2_with (first | (go_at_call_of 70 (Value.string ⟨#[42]⟩); have hc := took_any 42 rb S x (t :: ts) _ HI.out hS; rw [T1.out] at hc; refine hc.mono ?_; clear hc; rintro e w2 ⟨rfl, hI2, ho2⟩; have HI2 : Hid (In w2 rb S x (t :: ts)) := hI2; clear hI2; have X2 : Hid (Xb w2 w.heap.size (.int .u8 o) (.int .u32 s) (.slice a n c)) := X0.out.only ho2 (by omega); have Z2 : Hid (Xb w2 (w.heap.size + 1) (.int .u8 0) (.int .u32 0) (.slice none 0 0)) := Z0.out.only ho2 (by omega); have HO2 : Hid (Only (· = rb) w w2) := HO0.out.trans ho2; clear ho2) | (go_at_call_of 70 (Value.string ⟨#[43]⟩); have hc := took_any 43 rb S x (t :: ts) _ HI2.out hS; rw [T2.out] at hc; refine hc.mono ?_; clear hc; rintro e w3 ⟨rfl, hI3, ho3⟩; have HI3 : Hid (In w3 rb S x (ts)) := hI3; clear hI3; have X3 : Hid (Xb w3 w.heap.size (.int .u8 o) (.int .u32 s) (.slice a n c)) := X2.out.only ho3 (by omega); have Z3 : Hid (Xb w3 (w.heap.size + 1) (.int .u8 0) (.int .u32 0) (.slice none 0 0)) := Z2.out.only ho3 (by omega); have HO3 : Hid (Only (· = rb) w w3) := HO2.out.trans ho3; clear ho3; have x0 := X3.out.c0; have x1 := X3.out.c1; have x2 := X3.out.c2; have z0 := Z3.out.c0; have z1 := Z3.out.c1; have z2 := Z3.out.c2; have zf0 := Z3.out.fz 0; have zf1 := Z3.out.fz 1; have zf2 := Z3.out.fz 2; have hl3 := Z3.out.lt))
          refine bodyPost_ret (v := .agg #[.int .u8 5, .int .u32 0, .slice (some ⟨w3.heap.size, 0, none⟩) 1 1]) (results_x rfl _ rfl ((Z3.out.set3 _ _ _).alloc _)) rfl ?_
          refine ⟨_, rfl, ?_, (HI3.out.set3 (z := w.heap.size + 1) (by omega) _ _ _).alloc _, (HO3.out.set3 (z := w.heap.size + 1) (by omega) _ _ _).alloc _⟩
          have hg := heap_alloc_new (set3 w3 (w.heap.size + 1) (.int .u8 5) (.int .u32 0) (.slice (some ⟨w3.heap.size, 0, none⟩) 1 1)) (.cells #[.int .u8 o, .int .u32 s, .slice a n c] 49)
          rw [set3_size] at hg
          exact Tr.one 5 (HT.out.later ((HO3.out.set3 (z := w.heap.size + 1) (by omega) _ _ _).alloc _) HF.out (fun b hb => hb)) hg (fun b hb => Or.inl hb) (Or.inr (by omega))
        · rw [if_neg h43]
          have T2 : Hid (Rl.took 43 (t :: ts) = .ok (false, t :: ts)) := by show Rl.took 43 (t :: ts) = .ok (false, t :: ts); rw [took_cons, if_neg hb, if_neg h43]
          by_cases h63 : t.text = [63]
          · rw [if_pos h63]
            have T3 : Hid (Rl.took 63 (t :: ts) = .ok (true, ts)) := by show Rl.took 63 (t :: ts) = .ok (true, ts); rw [took_cons, if_neg hb, if_pos h63]
            clear hb h42 h43 h63
            go_enter Try.func92, Try.ntmps92
            go_wp2_with (first | (go_at_call_of 70 (Value.string ⟨#[42]⟩); have hc := took_any 42 rb S x (t :: ts) _ HI.out hS; rw [T1.out] at hc; refine hc.mono ?_; clear hc; rintro e w2 ⟨rfl, hI2, ho2⟩; have HI2 : Hid (In w2 rb S x (t :: ts)) := hI2; clear hI2; have X2 : Hid (Xb w2 w.heap.size (.int .u8 o) (.int .u32 s) (.slice a n c)) := X0.out.only ho2 (by omega); have Z2 : Hid (Xb w2 (w.heap.size + 1) (.int .u8 0) (.int .u32 0) (.slice none 0 0)) := Z0.out.only ho2 (by omega); have HO2 : Hid (Only (· = rb) w w2) := HO0.out.trans ho2; clear ho2) | (go_at_call_of 70 (Value.string ⟨#[43]⟩); have hc := took_any 43 rb S x (t :: ts) _ HI2.out hS; rw [T2.out] at hc; refine hc.mono ?_; clear hc; rintro e w3 ⟨rfl, hI3, ho3⟩; have HI3 : Hid (In w3 rb S x (t :: ts)) := hI3; clear hI3; have X3 : Hid (Xb w3 w.heap.size (.int .u8 o) (.int .u32 s) (.slice a n c)) := X2.out.only ho3 (by omega); have Z3 : Hid (Xb w3 (w.heap.size + 1) (.int .u8 0) (.int .u32 0) (.slice none 0 0)) := Z2.out.only ho3 (by omega); have HO3 : Hid (Only (· = rb) w w3) := HO2.out.trans ho3; clear ho3) | (go_at_call_of 70 (Value.string ⟨#[63]⟩); have hc := took_any 63 rb S x (t :: ts) _ HI3.out hS; rw [T3.out] at hc; refine hc.mono ?_; clear hc; rintro e w4 ⟨rfl, hI4, ho4⟩; have HI4 : Hid (In w4 rb S x (ts)) := hI4; clear hI4; have X4 : Hid (Xb w4 w.heap.size (.int .u8 o) (.int .u32 s) (.slice a n c)) := X3.out.only ho4 (by omega); have Z4 : Hid (Xb w4 (w.heap.size + 1) (.int .u8 0) (.int .u32 0) (.slice none 0 0)) := Z3.out.only ho4 (by omega); have HO4 : Hid (Only (· = rb) w w4) := HO3.out.trans ho4; clear ho4; have x0 := X4.out.c0; have x1 := X4.out.c1; have x2 := X4.out.c2; have z0 := Z4.out.c0; have z1 := Z4.out.c1; have z2 := Z4.out.c2; have zf0 := Z4.out.fz 0; have zf1 := Z4.out.fz 1; have zf2 := Z4.out.fz 2; have hl4 := Z4.out.lt))
            refine bodyPost_ret (v := .agg #[.int .u8 6, .int .u32 0, .slice (some ⟨w4.heap.size, 0, none⟩) 1 1]) (results_x rfl _ rfl ((Z4.out.set3 _ _ _).alloc _)) rfl ?_
            refine ⟨_, rfl, ?_, (HI4.out.set3 (z := w.heap.size + 1) (by omega) _ _ _).alloc _, (HO4.out.set3 (z := w.heap.size + 1) (by omega) _ _ _).alloc _⟩
            have hg := heap_alloc_new (set3 w4 (w.heap.size + 1) (.int .u8 6) (.int .u32 0) (.slice (some ⟨w4.heap.size, 0, none⟩) 1 1)) (.cells #[.int .u8 o, .int .u32 s, .slice a n c] 49)
            rw [set3_size] at hg
            exact Tr.one 6 (HT.out.later ((HO4.out.set3 (z := w.heap.size + 1) (by omega) _ _ _).alloc _) HF.out (fun b hb => hb)) hg (fun b hb => Or.inl hb) (Or.inr (by omega))
          · rw [if_neg h63]
            have T3 : Hid (Rl.took 63 (t :: ts) = .ok (false, t :: ts)) := by show Rl.took 63 (t :: ts) = .ok (false, t :: ts); rw [took_cons, if_neg hb, if_neg h63]
            clear hb h42 h43 h63
            go_enter Try.func92, Try.ntmps92
            go_wp2_with (first | (go_at_call_of 70 (Value.string ⟨#[42]⟩); have hc := took_any 42 rb S x (t :: ts) _ HI.out hS; rw [T1.out] at hc; refine hc.mono ?_; clear hc; rintro e w2 ⟨rfl, hI2, ho2⟩; have HI2 : Hid (In w2 rb S x (t :: ts)) := hI2; clear hI2; have X2 : Hid (Xb w2 w.heap.size (.int .u8 o) (.int .u32 s) (.slice a n c)) := X0.out.only ho2 (by omega); have Z2 : Hid (Xb w2 (w.heap.size + 1) (.int .u8 0) (.int .u32 0) (.slice none 0 0)) := Z0.out.only ho2 (by omega); have HO2 : Hid (Only (· = rb) w w2) := HO0.out.trans ho2; clear ho2) | (go_at_call_of 70 (Value.string ⟨#[43]⟩); have hc := took_any 43 rb S x (t :: ts) _ HI2.out hS; rw [T2.out] at hc; refine hc.mono ?_; clear hc; rintro e w3 ⟨rfl, hI3, ho3⟩; have HI3 : Hid (In w3 rb S x (t :: ts)) := hI3; clear hI3; have X3 : Hid (Xb w3 w.heap.size (.int .u8 o) (.int .u32 s) (.slice a n c)) := X2.out.only ho3 (by omega); have Z3 : Hid (Xb w3 (w.heap.size + 1) (.int .u8 0) (.int .u32 0) (.slice none 0 0)) := Z2.out.only ho3 (by omega); have HO3 : Hid (Only (· = rb) w w3) := HO2.out.trans ho3; clear ho3) | (go_at_call_of 70 (Value.string ⟨#[63]⟩); have hc := took_any 63 rb S x (t :: ts) _ HI3.out hS; rw [T3.out] at hc; refine hc.mono ?_; clear hc; rintro e w4 ⟨rfl, hI4, ho4⟩; have HI4 : Hid (In w4 rb S x (t :: ts)) := hI4; clear hI4; have X4 : Hid (Xb w4 w.heap.size (.int .u8 o) (.int .u32 s) (.slice a n c)) := X3.out.only ho4 (by omega); have Z4 : Hid (Xb w4 (w.heap.size + 1) (.int .u8 0) (.int .u32 0) (.slice none 0 0)) := Z3.out.only ho4 (by omega); have HO4 : Hid (Only (· = rb) w w4) := HO3.out.trans ho4; clear ho4; have x0 := X4.out.c0; have x1 := X4.out.c1; have x2 := X4.out.c2; have z0 := Z4.out.c0; have z1 := Z4.out.c1; have z2 := Z4.out.c2; have zf0 := Z4.out.fz 0; have zf1 := Z4.out.fz 1; have zf2 := Z4.out.fz 2; have hl4 := Z4.out.lt))
            refine bodyPost_ret (v := .agg #[.int .u8 o, .int .u32 s, .slice a n c]) (results_x rfl _ rfl ((Z4.out.set3 _ _ _))) rfl ?_
            exact ⟨_, rfl, HT.out.later (HO4.out.set3 (z := w.heap.size + 1) (by omega) _ _ _) HF.out (fun b hb => Or.inl hb), HI4.out.set3 (z := w.heap.size + 1) (by omega) _ _ _, HO4.out.set3 (z := w.heap.size + 1) (by omega) _ _ _⟩
end Go.Proofs.Ytfbcijnacbfjpaa
