/-
  class of the document's own parser; row and either behind a fault.
-/
import Derived.Test.YtahoepmnekconaaR11
namespace Go.Proofs.Ytahoepmnekconaa
open Go.RowKit Go.Maps
set_option linter.unusedVariables false
set_option linter.unusedSimpArgs false
set_option maxRecDepth 100000 in
set_option maxHeartbeats 4000000 in
theorem rrow_bad (rb : Nat) (S : ByteArray) (f : Rl.Ft) (w : World) (h : Qb w rb S f) :
    Calls Try.prog 64 #[.pointer (some ⟨rb, 0, none⟩)] w fun e w' => e = .returned (.agg #[.int .u8 0, .int .u32 0, .slice none 0 0]) ∧ Qb w' rb S f ∧ Only (fun _ => False) w w' := by
  have HB : Hid (Qb w rb S f) := h
  have hlt := h.lt
  have Z0 : Hid (Xb (w.alloc (.cells #[.int .u8 0, .int .u32 0, .slice none 0 0] 50)) w.heap.size (.int .u8 0) (.int .u32 0) (.slice none 0 0)) := Xb.new w _ _ _
  clear h
  go_enter Try.func64, Try.ntmps64
  go_wp2_with fail
  go_loopg [3] 0 (fun g v wr => v = .slice none 0 0 ∧ wr = w.alloc (.cells #[.int .u8 0, .int .u32 0, .slice none 0 0] 50))
  case atStart => exact ⟨rfl, rfl⟩
  case round =>
    obtain ⟨rfl, rfl⟩ := hrel
    go_wp2_with (go_at_call 23; refine (here_bad rb S f _ (HB.out.alloc _)).mono ?_; rintro e w1 ⟨rfl, ho1⟩; have hb1 := (HB.out.alloc (.cells #[.int .u8 0, .int .u32 0, .slice none 0 0] 50)).only ho1 (fun h => h); have HB1 : Hid (Qb w1 rb S f) := hb1; obtain ⟨i1, x1, hR1, hc1, _⟩ := hb1; have d11 := hR1.c11; have q : ((f.1 : Int) != 0) = true := (by simpa using hc1); clear hR1 hc1; have Z1 : Hid (Xb w1 w.heap.size (.int .u8 0) (.int .u32 0) (.slice none 0 0)) := Z0.out.only ho1 (fun h => h); have z0 := Z1.out.c0; have z1 := Z1.out.c1; have z2 := Z1.out.c2; have zf0 := Z1.out.fz 0; have zf1 := Z1.out.fz 1; have zf2 := Z1.out.fz 2)
    refine bodyPost_ret (v := .agg #[.int .u8 0, .int .u32 0, .slice none 0 0]) (results_x rfl _ rfl (Z1.out.set3 _ _ _)) rfl ?_
    exact ⟨rfl, HB1.out.set3 (z := w.heap.size) (by omega) _ _ _, (((Only.refl (fun _ => False) w).alloc _).trans ho1).set3 (z := w.heap.size) (Nat.le_refl _) _ _ _⟩
set_option maxRecDepth 100000 in
set_option maxHeartbeats 4000000 in
theorem reither_bad (rb : Nat) (S : ByteArray) (f : Rl.Ft) (w : World) (h : Qb w rb S f) :
    Calls Try.prog 55 #[.pointer (some ⟨rb, 0, none⟩)] w fun e w' => e = .returned (.agg #[.int .u8 0, .int .u32 0, .slice none 0 0]) ∧ Qb w' rb S f ∧ Only (fun _ => False) w w' := by
  have HB : Hid (Qb w rb S f) := h
  have hlt := h.lt
  have Z0 : Hid (Xb (w.alloc (.cells #[.int .u8 0, .int .u32 0, .slice none 0 0] 50)) w.heap.size (.int .u8 0) (.int .u32 0) (.slice none 0 0)) := Xb.new w _ _ _
  clear h
  go_enter Try.func55, Try.ntmps55
  go_wp2_with (go_at_call 64; refine (rrow_bad rb S f _ (HB.out.alloc _)).mono ?_; rintro e w1 ⟨rfl, hb1, ho1⟩; have HB1 : Hid (Qb w1 rb S f) := hb1; clear hb1; have Z1 : Hid (Xb w1 w.heap.size (.int .u8 0) (.int .u32 0) (.slice none 0 0)) := Z0.out.only ho1 (fun h => h); have hl1 := Z1.out.lt)
  go_loopg [4] 0 (fun g v wr => v = .slice (some ⟨w1.heap.size + 1, 0, none⟩) 1 1 ∧ wr = (w1.alloc (.cells #[.int .u8 0, .int .u32 0, .slice none 0 0] 50)).alloc (.cells #[.int .u8 0, .int .u32 0, .slice none 0 0] 50))
  case atStart => exact ⟨rfl, rfl⟩
  case round =>
    obtain ⟨rfl, rfl⟩ := hrel
    have B0 : Hid (Xb ((w1.alloc (.cells #[.int .u8 0, .int .u32 0, .slice none 0 0] 50)).alloc (.cells #[.int .u8 0, .int .u32 0, .slice none 0 0] 50)) (w1.heap.size + 1) (.int .u8 0) (.int .u32 0) (.slice none 0 0)) := heap_alloc2_new _ _ _
    go_wp2_with (go_at_call 34; refine (sign_bad _ rb S f _ ((HB1.out.alloc _).alloc _)).mono ?_; rintro e w2 ⟨rfl, hb2, ho2⟩; have Z2 : Hid (Xb w2 w.heap.size (.int .u8 0) (.int .u32 0) (.slice none 0 0)) := ((Z1.out.alloc _).alloc _).only ho2 (fun h => h); have z0 := Z2.out.c0; have z1 := Z2.out.c1; have z2 := Z2.out.c2; have zf0 := Z2.out.fz 0; have zf1 := Z2.out.fz 1; have zf2 := Z2.out.fz 2; have B2 : Hid (Xb w2 (w1.heap.size + 1) (.int .u8 0) (.int .u32 0) (.slice none 0 0)) := B0.out.only ho2 (fun h => h); have b0 := B2.out.c0; have b1 := B2.out.c1; have b2 := B2.out.c2)
    refine bodyPost_ret (v := .agg #[.int .u8 0, .int .u32 0, .slice none 0 0]) (results_x rfl _ rfl (Z2.out.set3 _ _ _)) rfl ?_
    exact ⟨rfl, hb2.set3 (z := w.heap.size) (by omega) _ _ _, ((((((Only.refl (fun _ => False) w).alloc _).trans ho1).alloc _).alloc _).trans ho2).set3 (z := w.heap.size) (Nat.le_refl _) _ _ _⟩
/-- how class ends. -/
def rplaceP (rb : Nat) (S : ByteArray) (x : Rq) (w : World) (F : Rl.R (Nat × List Rl.Tk)) (e : Ending) (w' : World) : Prop :=
  match F with
  | .error f => e = .returned (.int .i64 0) ∧ Qb w' rb S f ∧ Only (· = rb) w w'
  | .ok (k, ts) => e = .returned (.int .i64 (k : Int)) ∧ Qn w' rb S x ts ∧ Only (· = rb) w w'
set_option maxRecDepth 100000 in
set_option maxHeartbeats 4000000 in
theorem rclass_bad (rb : Nat) (S : ByteArray) (f : Rl.Ft) (w : World) (h : Qb w rb S f) :
    Calls Try.prog 39 #[.pointer (some ⟨rb, 0, none⟩)] w fun e w' => e = .returned (.int .i64 0) ∧ Qb w' rb S f ∧ Only (fun _ => False) w w' := by
  have HB : Hid (Qb w rb S f) := h
  clear h
  go_enter Try.func39, Try.ntmps39
  go_wp2_with (go_at_call 33; refine (word_bad rb S f _ HB.out).mono ?_; rintro e w1 ⟨a1, rfl, hb1, ho1⟩; have HB1 : Hid (Qb w1 rb S f) := hb1; obtain ⟨i1, x1, hR1, hc1, va, vn, vcap, hvc, hvn⟩ := hb1; have d11 := hR1.c11; have d2 := hR1.c2; rw [hvc] at d2; have q : ((f.1 : Int) == 0) = false := (by simpa using hc1); have HR1 : Hid (Rpr w1 rb S i1 x1 f.1 f.2) := hR1; have HC1 : Hid (f.1 ≠ 0) := hc1; clear hR1 hc1 hvc)
  go_loopg [5] 0 (fun g v wr => v = .int .i64 0 ∧ w1 = wr)
  case atStart => exact ⟨rfl, rfl⟩
  case round =>
    obtain ⟨rfl, rfl⟩ := hrel
    by_cases hn : 0 < vn
    · have t1 : (0 : Int) < (vn : Int) := by omega
      go_wp2_with (go_at_call 32; refine (bad_later rb S i1 x1 f.1 f.2 _ _ _ HR1.out (by have := HC1.out; omega)).mono ?_; rintro e w2 ⟨rfl, rfl⟩)
      go_ret
      exact ⟨rfl, HB1.out, ho1⟩
    · obtain rfl : vn = 0 := by omega
      go_wp2_with (go_at_call 32; refine (bad_later rb S i1 x1 f.1 f.2 _ _ _ HR1.out (by have := HC1.out; omega)).mono ?_; rintro e w2 ⟨rfl, rfl⟩)
      go_ret
      exact ⟨rfl, HB1.out, ho1⟩
set_option maxRecDepth 100000 in
set_option maxHeartbeats 4000000 in
theorem rclass_any (C : List Rl.Str) (rb : Nat) (S : ByteArray) (x : Rq) (ts : List Rl.Tk) (w : World) (h : Qn w rb S x ts) (hS : S.size ≤ 4096) (hC : w.ownsRow (rb + 1) 9 1 x.vC C.length (strs C)) (h24 : C.length ≤ 24) :
    Calls Try.prog 39 #[.pointer (some ⟨rb, 0, none⟩)] w (rplaceP rb S x w (Rl.placeOf C ts)) := by
  obtain ⟨a, cap, hvC⟩ := own_form hC
  have hv : Vc x := ⟨a, C.length, cap, hvC, h24⟩
  have hn := word_any rb S x ts w h hS hv
  have HV : Hid (Vc x) := hv
  have HvC : Hid (x.vC = .slice a C.length cap) := hvC
  have HC : Hid (w.ownsRow (rb + 1) 9 1 (.slice a C.length cap) C.length (strs C)) := by rw [hvC] at hC; exact hC
  clear hC hv hvC h
  obtain ⟨n, hnl⟩ : ∃ n, n = C.length := ⟨_, rfl⟩
  have Hn : Hid (n = C.length) := hnl
  cases hnm : Rl.name ts with
  | error f =>
    have hF : Rl.placeOf C ts = .error f := by unfold Rl.placeOf; rw [hnm]
    rw [hF]
    rw [hnm] at hn
    have HN : Hid (Calls Try.prog 33 #[.pointer (some ⟨rb, 0, none⟩)] w (wordP rb S x w (.error f))) := hn
    clear hF hnm hn HvC
    go_enter Try.func39, Try.ntmps39
    go_wp2_with (go_at_call 33; refine HN.out.mono ?_; rintro e w1 ⟨⟨a1, rfl⟩, hb1, ho1⟩; have HB1 : Hid (Qb w1 rb S f) := hb1; obtain ⟨i1, x1, hR1, hc1, va, vn, vcap, hvc, hvn⟩ := hb1; have d11 := hR1.c11; have d2 := hR1.c2; rw [hvc] at d2; have q : ((f.1 : Int) == 0) = false := (by simpa using hc1); have HR1 : Hid (Rpr w1 rb S i1 x1 f.1 f.2) := hR1; have HC1 : Hid (f.1 ≠ 0) := hc1; clear hR1 hc1 hvc)
    go_loopg [5] 0 (fun g v wr => v = .int .i64 0 ∧ w1 = wr)
    case atStart => exact ⟨rfl, rfl⟩
    case round =>
      obtain ⟨rfl, rfl⟩ := hrel
      by_cases hn : 0 < vn
      · have t1 : (0 : Int) < (vn : Int) := by omega
        go_wp2_with (go_at_call 32; refine (bad_later rb S i1 x1 f.1 f.2 _ _ _ HR1.out (by have := HC1.out; omega)).mono ?_; rintro e w2 ⟨rfl, rfl⟩)
        go_ret
        exact ⟨rfl, HB1.out, ho1⟩
      · obtain rfl : vn = 0 := by omega
        go_wp2_with (go_at_call 32; refine (bad_later rb S i1 x1 f.1 f.2 _ _ _ HR1.out (by have := HC1.out; omega)).mono ?_; rintro e w2 ⟨rfl, rfl⟩)
        go_ret
        exact ⟨rfl, HB1.out, ho1⟩
  | ok r =>
    obtain ⟨t, ts1⟩ := r
    rw [hnm] at hn
    have HN : Hid (Calls Try.prog 33 #[.pointer (some ⟨rb, 0, none⟩)] w (wordP rb S x w (.ok (t, ts1)))) := hn
    have hF : Rl.placeOf C ts = match Rl.place C t.text with | none => .error (22, t.at') | some k => .ok (k, ts1) := by unfold Rl.placeOf; rw [hnm]; first | rfl | done
    obtain ⟨F, hFF⟩ : ∃ F, F = Rl.placeOf C ts := ⟨_, rfl⟩
    have HF : Hid (F = match Rl.place C t.text with | none => .error (22, t.at') | some k => .ok (k, ts1)) := hFF.trans hF
    rw [← hFF]
    have htt := bs_toList t.text
    clear hnm hn hF hFF
    rw [← hnl] at HvC HC h24
    clear hnl
    go_enter Try.func39, Try.ntmps39
    go_wp2_with (go_at_call 33; refine HN.out.mono ?_; rintro e w1 ⟨rfl, hi1, ho1⟩; have HI1 : Hid (Qn w1 rb S x ts1) := hi1; obtain ⟨i1, hR1, _, _⟩ := hi1; have d11 := hR1.c11; have d2 := hR1.c2; rw [HvC.out] at d2; have HR1 : Hid (Rpr w1 rb S i1 x 0 0) := hR1; clear hR1; have HO1 : Hid (Only (· = rb) w w1) := ho1; clear ho1; have HC1 : Hid (w1.ownsRow (rb + 1) 9 1 (.slice a n cap) n (strs C)) := own_only HC.out HO1.out (fun g hg => by omega))
    go_loopg [5] n (fun g v wr => ∃ k : Nat, g = n - k ∧ k ≤ n ∧ v = .int .i64 (k : Int) ∧ w1 = wr ∧ Hid (∀ j, j < k → C[j]? ≠ some t.text))
    case atStart => exact ⟨0, rfl, Nat.zero_le _, rfl, rfl, (fun j hj => absurd hj (Nat.not_lt_zero _) : ∀ j, j < 0 → C[j]? ≠ some t.text)⟩
    case round =>
      obtain ⟨k, rfl, hk, rfl, rfl, hB⟩ := hrel
      by_cases hlt : k < n
      · have t1 : (k : Int) < (n : Int) := by omega
        have t2 : decide ((k : Int) < (n : Int)) = true := decide_eq_true t1
        obtain ⟨c, hc⟩ : ∃ c, C[k]? = some c := ⟨C[k]'(by rw [← Hn.out]; omega), List.getElem?_eq_getElem _⟩
        have Hc : Hid (C[k]? = some c) := hc
        obtain ⟨g, cap', hv', hgb, hgl, hcap, hcells⟩ := row_form HC1.out (by omega)
        have e0 : a = some ⟨g, 0, none⟩ := by injection hv'
        have d0 : w1.cell? ⟨g, k, none⟩ = some (.string (bs c)) := by
          rw [hcells k (by omega)]
          unfold strs
          rw [List.getElem?_map, hc]; rfl
        have htc := bs_toList c
        subst e0
        clear hc hv' hcells
        by_cases he : c = t.text
        · have q : (c == t.text) = true := by simp [he]
          have He : Hid (c = t.text) := he
          clear he
          go_wp2_with fail
          go_ret
          have hp : Rl.place C t.text = some k := by
            have := place_at (by rw [Hc.out, He.out]) hB.out
            unfold idxI at this
            cases hpl : Rl.place C t.text with
            | none => rw [hpl] at this; simp only at this; omega
            | some m => rw [hpl] at this; simp only at this; congr 1; omega
          rw [HF.out, hp]
          exact ⟨rfl, HI1.out, HO1.out⟩
        · have q : (c == t.text) = false := by simpa using he
          have He : Hid (¬ c = t.text) := he
          clear he
          go_wp2_with fail
          go_roundg (n - (k + 1))
          case measure => omega
          case rel =>
            refine ⟨k + 1, rfl, by omega, by go_num, rfl, (?_ : ∀ j, j < k + 1 → C[j]? ≠ some t.text)⟩
            intro j hj e
            by_cases ej : j = k
            · subst ej
              rw [Hc.out] at e
              injection e with e
              exact He.out e
            · exact hB.out j (by omega) e
      · have t1 : ¬ (k : Int) < (n : Int) := by omega
        have t2 : decide ((k : Int) < (n : Int)) = false := decide_eq_false t1
        have hkn : k = n := by omega
        go_wp2_with (go_at_call 32; refine (bad_first rb S _ x 22 t.at' _ HR1.out).mono ?_; rintro e w2 ⟨rfl, hR2, ho2⟩)
        go_ret
        have hnm : t.text ∉ C := fun hm => by
          obtain ⟨j, hj, e⟩ := List.mem_iff_getElem.1 hm
          exact hB.out j (by rw [hkn, Hn.out]; exact hj) (by rw [List.getElem?_eq_getElem hj, e])
        have hp : Rl.place C t.text = none := by unfold Rl.place; rw [if_neg hnm]
        rw [HF.out, hp]
        exact ⟨rfl, (show Rpr w2 rb S (i1 : Int) x ((22 : Nat) : Int) (t.at' : Int) from hR2).qb (by decide) HV.out, HO1.out.trans ho2⟩
end Go.Proofs.Ytahoepmnekconaa
