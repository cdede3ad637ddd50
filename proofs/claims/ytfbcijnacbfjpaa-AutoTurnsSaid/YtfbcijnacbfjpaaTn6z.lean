/-
  auto.Turn: an expression the other way round.
-/
import Derived.Test.YtfbcijnacbfjpaaTn3z
import Derived.Test.YtfbcijnacbfjpaaAm0z
import Derived.Deep.RegionHeld3
namespace Go.Proofs.Ytfbcijnacbfjpaa
open Go.RowKit Go.Maps
set_option linter.unusedVariables false
set_option linter.unusedSimpArgs false
open Rl (Ex Small)
theorem own_le {w : World} {base e size n c : Nat} {a : Option Addr} {xs : List Value} (h : w.ownsRow base e size (.slice a n c) n xs) : n ≤ c := by
  obtain ⟨_, ⟨e, h0⟩ | ⟨g', cap', cur, e, hb, hh, hc, hm, _⟩⟩ := h
  · injection e with _ e1 e2
    omega
  · injection e with _ _ e
    omega
theorem infoL : (Try.prog.info? 27).map (fun i => (i.zero, i.size, i.bytes)) = some (some (.slice none 0 0), 1, 24) := by kernel_rfl
theorem set3_only {w W : World} {z : Nat} (h : Only (fun _ => False) w W) (hz : w.heap.size ≤ z) (a b c : Value) : Only (fun _ => False) w (set3 W z a b c) := ((h.setNew (p := ⟨z, 0, none⟩) hz a).setNew (p := ⟨z, 1, none⟩) hz b).setNew (p := ⟨z, 2, none⟩) hz c
theorem set3_rest {W : World} {z x : Nat} (h : x ≠ z) (a b c : Value) : (set3 W z a b c).heap[x]? = W.heap[x]? := (Below.heap_setCell _ _ _ _ h).trans ((Below.heap_setCell _ _ _ _ h).trans (Below.heap_setCell _ _ _ _ h))
mutual
theorem Te.here {W W' : World} {F F' : Nat → Prop} (hF : ∀ b, F b → ∀ o v, W.cell? ⟨b, o, none⟩ = some v → F' b ∧ W'.cell? ⟨b, o, none⟩ = some v) : ∀ (e : Ex) (v : Value), Te W F e v → Te W' F' e v
  | .mk op set kids, v, h => by
    unfold Te at h ⊢
    obtain ⟨a, cap, h1, h2, h3, h4, h5, h6⟩ := h
    refine ⟨a, cap, h1, h2, h3, h4, h5, fun hn => ?_⟩
    obtain ⟨b, off, g1, g2, g3⟩ := h6 hn
    refine ⟨b, off, g1, ?_, Tes.here hF kids b off g2 g3⟩
    cases kids with
    | nil => exact absurd rfl hn
    | cons e es =>
      unfold Tes at g3
      obtain ⟨⟨o, s, k, q0, _⟩, _⟩ := g3
      exact (hF b g2 off o q0).1
theorem Tes.here {W W' : World} {F F' : Nat → Prop} (hF : ∀ b, F b → ∀ o v, W.cell? ⟨b, o, none⟩ = some v → F' b ∧ W'.cell? ⟨b, o, none⟩ = some v) : ∀ (es : List Ex) (b off : Nat), F b → Tes W F es b off → Tes W' F' es b off
  | [], _, _, _, _ => by unfold Tes; trivial
  | e :: es, b, off, hb, h => by
    unfold Tes at h ⊢
    obtain ⟨⟨o, s, k, h0, h1, h2, h3⟩, h4⟩ := h
    exact ⟨⟨o, s, k, (hF b hb _ _ h0).2, (hF b hb _ _ h1).2, (hF b hb _ _ h2).2, Te.here hF e _ h3⟩, Tes.here hF es b (off + 3) hb h4⟩
end
set_option maxRecDepth 100000 in
set_option maxHeartbeats 8000000 in
theorem turn_any (e : Ex) (op set : Int) (a : Option Addr) (m c : Nat) (w : World) (hT : Te w (fun b => b < w.heap.size) e (.agg #[.int .u8 op, .int .u32 set, .slice a m c])) (hS : Small e) (hD : Au.dp e ≤ 100) :
    Calls Try.prog 17 #[.agg #[.int .u8 op, .int .u32 set, .slice a m c]] w fun e' w' => ∃ v, e' = .returned v ∧ Te w' (fun b => b < w'.heap.size) (Au.turn e) v ∧ Only (fun _ => False) w w' := by
  obtain ⟨w1, hw1⟩ : ∃ w1, w1 = (w.alloc (.cells #[.int .u8 op, .int .u32 set, .slice a m c] 49)).alloc (.cells #[.int .u8 0, .int .u32 0, .slice none 0 0] 49) := ⟨_, rfl⟩
  have HW1 : Hid (w1 = (w.alloc (.cells #[.int .u8 op, .int .u32 set, .slice a m c] 49)).alloc (.cells #[.int .u8 0, .int .u32 0, .slice none 0 0] 49)) := hw1
  have HS1 : Hid (w1.heap.size = w.heap.size + 1 + 1) := by show _ = _; rw [hw1]; simp
  have HO1 : Hid (Only (fun _ => False) w w1) := by show Only _ _ _; rw [hw1]; exact ((Only.refl _ _).alloc _).alloc _
  have HX1 : Hid (Xb w1 (w.heap.size + 1) (.int .u8 0) (.int .u32 0) (.slice none 0 0)) := by show Xb _ _ _ _ _; rw [hw1]; exact heap_alloc2_new _ _ _
  have HTE : Hid (Te w1 (fun b => b < w1.heap.size) e (.agg #[.int .u8 op, .int .u32 set, .slice a m c])) := Te.keep (Kp.only HO1.out (fun _ _ h => h)) (fun b h => by have := HS1.out; omega) _ _ hT
  have HSM : Hid (Small e) := hS
  have HDP : Hid (Au.dp e ≤ 100) := hD
  obtain ⟨G, hG⟩ : ∃ G : World → Prop, G = fun W' => Tes W' (newB w1.heap.size) [Au.turn e] (w.heap.size + 1 + 1) 0 := ⟨_, rfl⟩
  have HG : Hid (G = fun W' => Tes W' (newB w1.heap.size) [Au.turn e] (w.heap.size + 1 + 1) 0) := hG
  obtain ⟨iL, hiL, hz0, hz1, hz2⟩ := info_parts infoL
  clear hT hS hD hw1 hG
  go_enter Try.func17, Try.ntmps17
  go_wp2_with fail
  go_loopg [4] (tsz e) (fun gh v4 wr => ∃ (rows : List Lst) (g cap : Nat) (W : World), W = wr ∧ gh = wts rows ∧ v4 = .slice (some ⟨g, 0, none⟩) rows.length cap ∧ (∃ K, Tinv w1 W G K rows) ∧ W.ownsRow (w.heap.size + 1 + 1) 27 1 (.slice (some ⟨g, 0, none⟩) rows.length cap) rows.length (rows.map lstV) ∧ Shp rows)
  case atStart =>
    refine ⟨[(w.heap.size + 1 + 1, 0, [e])], w.heap.size + 1 + 1 + 1, 1, _, rfl, by simp [wts, tszs], rfl, ⟨fun _ _ => False, ?_⟩, ?_, ?_⟩
    · rw [HG.out, ← HW1.out]
      have hb : ((w1.alloc (.cells #[.int .u8 op, .int .u32 set, .slice a m c] 49)).alloc (.cells #[.slice (some ⟨w.heap.size + 1 + 1, 0, none⟩) 1 1] 27)).heap[w.heap.size + 1 + 1]? = some (.cells #[.int .u8 op, .int .u32 set, .slice a m c] 49 (0, 0)) := by rw [← HS1.out]; exact (Below.heap_alloc _ _ _ (by simp)).trans (heap_alloc_new _ _)
      have ho : Only (fun _ => False) w1 ((w1.alloc (.cells #[.int .u8 op, .int .u32 set, .slice a m c] 49)).alloc (.cells #[.slice (some ⟨w.heap.size + 1 + 1, 0, none⟩) 1 1] 27)) := ((Only.refl _ _).alloc _).alloc _
      refine Tinv.start ho (by have := HS1.out; omega) ⟨_, hb⟩ ?_
      unfold Tes
      exact ⟨⟨_, _, _, cell_blk hb, cell_blk hb, cell_blk hb, Te.keep (Kp.only ho (fun _ _ h => h)) (fun _ h => h) _ _ HTE.out⟩, by unfold Tes; trivial⟩
    · exact ⟨rfl, Or.inr ⟨w.heap.size + 1 + 1 + 1, 1, #[.slice (some ⟨w.heap.size + 1 + 1, 0, none⟩) 1 1], rfl, Nat.le_succ _, by rw [← HW1.out, ← HS1.out]; exact heap_alloc2_new _ _ _, Nat.le_refl _, by unfold maxLen; omega, rfl, rfl⟩⟩
    · intro q r hq
      have hl := (List.getElem?_eq_some_iff.1 hq).1
      simp at hl
      subst hl
      simp at hq
      subst hq
      refine ⟨rfl, by simp, fun x hx => ?_, by simp, ?_⟩
      · simp at hx
        rw [hx]
        exact HSM.out
      · have := HDP.out
        simp [Au.dps]
        omega
  case round =>
    obtain ⟨rows, g, cap, W, hW, rfl, rfl, ⟨K, hti⟩, hown, hshp⟩ := hrel
    subst hW
    by_cases hr : rows = []
    · subst hr
      have hg := hti.goal
      rw [HG.out] at hg
      have HOW : Hid (Only (fun _ => False) w1 W) := hti.on
      unfold Tes at hg
      obtain ⟨⟨o', s', k', c0, c1, c2, hTe⟩, _⟩ := hg
      have HTR : Hid (Te W (newB w1.heap.size) (Au.turn e) (.agg #[o', s', k'])) := hTe
      obtain ⟨top, ts, ta, tm, tc, hv⟩ : ∃ top ts ta tm tc, Value.agg #[o', s', k'] = .agg #[.int .u8 top, .int .u32 ts, .slice ta tm tc] := by
        cases h : Au.turn e with
        | mk o s kids =>
          rw [h] at hTe
          obtain ⟨a, cap, hv, _⟩ := hTe.kids
          exact ⟨o, s, a, _, cap, hv⟩
      simp only [Value.agg.injEq, Array.mk.injEq, List.cons.injEq, and_true] at hv
      obtain ⟨rfl, rfl, rfl⟩ := hv
      have HX : Hid (Xb W (w.heap.size + 1) (.int .u8 0) (.int .u32 0) (.slice none 0 0)) := (HOW.out.block _ (by have := HS1.out; omega) (fun h => h)).trans HX1.out
      have x0 := HX.out.c0
      have x1 := HX.out.c1
      have x2 := HX.out.c2
      have f0 := HX.out.fz 0
      have f1 := HX.out.fz 1
      have f2 := HX.out.fz 2
      have l1 : w.heap.size + 1 < W.heap.size := (Array.getElem?_eq_some_iff.1 HX.out).1
      have l2 : w.heap.size + 1 + 1 < W.heap.size := World.block_lt_of_cell? W _ c0
      clear hti hown hshp hTe
      go_wp2_with fail
      refine bodyPost_ret (v := .agg #[.int .u8 top, .int .u32 ts, .slice ta tm tc]) (results_x rfl _ rfl (HX.out.set3 _ _ _)) rfl ?_
      refine ⟨_, rfl, Te.here (fun b hb o v hv => ⟨?_, ?_⟩) _ _ HTR.out, set3_only (HO1.out.trans HOW.out) (Nat.le_succ _) _ _ _⟩
      · show b < (set3 W (w.heap.size + 1) (.int .u8 top) (.int .u32 ts) (.slice ta tm tc)).heap.size
        rw [set3_size]
        exact World.block_lt_of_cell? W _ hv
      · have hne : b ≠ w.heap.size + 1 := by have hb : w1.heap.size ≤ b := hb; have := HS1.out; omega
        exact (World.cell?_of_block (a := ⟨b, o, none⟩) (set3_rest hne _ _ _)).trans hv
    · obtain ⟨init, r, rfl⟩ : ∃ init r, rows = init ++ [r] := ⟨rows.dropLast, rows.getLast hr, (List.dropLast_concat_getLast hr).symm⟩
      obtain ⟨b, off, es⟩ := r
      obtain ⟨q1, q2, q3, q4, q5⟩ := hshp.last
      simp only at q1 q2 q3 q4 q5
      subst q1
      obtain ⟨n1, hn1⟩ : ∃ n1, n1 = init.length := ⟨_, rfl⟩
      have HN1 : Hid (n1 = init.length) := hn1
      have hln : (init ++ [(b, 0, es)]).length = n1 + 1 := by rw [hn1]; simp
      rw [hln] at hown ⊢
      obtain ⟨mm, hmm⟩ : ∃ mm, mm = es.length := ⟨_, rfl⟩
      have HMM : Hid (mm = es.length) := hmm
      have hmm1 : 1 ≤ mm := by rw [hmm]; exact List.length_pos_iff.2 q2
      have hm5 : mm ≤ 5000 := by omega
      have hn5 : n1 ≤ 500000 := by omega
      have cl : W.cell? ⟨g, n1, none⟩ = some (.slice (some ⟨b, 0, none⟩) mm mm) := by
        obtain ⟨g', cap', hv, _, _, hc⟩ := own_cells hown (by omega)
        injection hv with hv
        injection hv with hv
        injection hv with hv
        subst hv
        refine hc n1 _ ?_
        rw [List.map_append, hn1, List.getElem?_append_right (by simp)]
        simp [lstV, hmm]
      have hcap : n1 + 1 ≤ cap := own_le hown
      have hgb : w.heap.size + 1 + 1 ≤ g ∧ g < W.heap.size := by
        obtain ⟨g', cap', hv, h1, h2, _⟩ := own_addr hown (by intro e; cases e)
        injection hv with hv
        injection hv with hv
        injection hv with hv
        subst hv
        exact ⟨h1, h2⟩
      have hgl := hgb.2
      have HQ3 : Hid (∀ e ∈ es, Small e) := q3
      have HQ5 : Hid (n1 + 5000 * Au.dps es ≤ 500000) := (by show _ ≤ _; rw [hn1]; exact q5)
      have HB1 : Hid (w1.heap.size ≤ b) := (hti.ro (b, 0, es) (by simp)).1
      obtain ⟨wt0, hwt0⟩ : ∃ wt0, wt0 = wts (init ++ [(b, 0, es)]) := ⟨_, rfl⟩
      have HWT : Hid (wt0 = wts (init ++ [(b, 0, es)])) := hwt0
      have HIN : Hid (Inn w1 W G (w.heap.size + 1 + 1) g cap b n1 0 wt0 es init) := by
        have nd := hti.nd
        rw [List.map_append, List.nodup_append] at nd
        refine ⟨⟨K, hti.perm (fun r => by simp [or_comm]) ?_⟩, ?_, hshp.init, by omega, ?_⟩
        · simp only [List.map_cons]
          rw [List.nodup_cons]
          refine ⟨fun hm => ?_, nd.1⟩
          exact nd.2.2 b hm b (by simp) rfl
        · rw [← hn1]
          rw [List.map_append] at hown
          exact ownsRow_pop (by simp [hn1]) hown
        · rw [hwt0, wts_app]
          simp [wts]
      clear hti hown hshp hln q2 q3 q5 hn1 hmm hwt0 hgb q4
      have g1 : (n1 : Int) ≤ (cap : Int) := by omega
      go_wp2_with fail
      go_loopg [4, 27] mm (fun gh v4 v27 wr => ∃ (i : Nat) (rows : List Lst) (g cap : Nat) (W : World), W = wr ∧ gh = mm - i ∧ i ≤ mm ∧ v4 = .slice (some ⟨g, 0, none⟩) rows.length cap ∧ v27 = .int .i64 (i : Int) ∧ Inn w1 W G (w.heap.size + 1 + 1) g cap b n1 i wt0 es rows)
      case atStart => exact ⟨0, init, g, cap, W, rfl, rfl, Nat.zero_le _, by rw [HN1.out], rfl, HIN.out⟩
      case round =>
        obtain ⟨i, rows, g, cap, W, hW, rfl, hi, rfl, rfl, hin⟩ := hrel
        subst hW
        have HI : Hid (Inn w1 W G (w.heap.size + 1 + 1) g cap b n1 i wt0 es rows) := hin
        by_cases hlt : i < mm
        · have t1 : (i : Int) < (mm : Int) := by omega
          have hil : i < es.length := by have := HMM.out; omega
          obtain ⟨e1, he1⟩ : ∃ e1, es[i]? = some e1 := ⟨_, List.getElem?_eq_getElem hil⟩
          have HE1 : Hid (es[i]? = some e1) := he1
          have hsm := HQ3.out e1 (List.mem_of_getElem? he1)
          have hd : es.drop i = e1 :: es.drop (i + 1) := by rw [List.drop_eq_getElem_cons hil, (List.getElem?_eq_some_iff.1 he1).2]
          obtain ⟨K, ti⟩ := hin.ti
          obtain ⟨_, ⟨cs, hb⟩, hts⟩ := ti.ro (b, i * 3, es.drop i) (by simp)
          simp only at hb hts
          rw [hd] at hts
          unfold Tes at hts
          obtain ⟨⟨o', s', k', p0, p1, p2, hTe⟩, _⟩ := hts
          obtain ⟨op1, set1, kids⟩ := e1
          have HSM1 : Hid (Small (.mk op1 set1 kids)) := hsm
          obtain ⟨a1, cap1, hv, _⟩ := hTe.kids
          simp only [Value.agg.injEq, Array.mk.injEq, List.cons.injEq, and_true] at hv
          obtain ⟨rfl, rfl, rfl⟩ := hv
          have HK : Hid (Calls Try.prog 34 #[.agg #[.int .u8 op1, .int .u32 set1, .slice a1 kids.length cap1]] W (tkP W (fun b => b < w1.heap.size) op1 kids)) := tkids_any _ op1 set1 kids _ W hTe (by have := hsm.kids.1; omega)
          have hbl : b < W.heap.size := (Array.getElem?_eq_some_iff.1 hb).1
          have HBB : Hid (W.heap[b]? = some (.cells cs 49 (0, 0))) := hb
          have HP2 : Hid (W.cell? ⟨b, i * 3 + 2, none⟩ = some (.slice a1 kids.length cap1)) := p2
          have hgg : w.heap.size + 1 + 1 ≤ g := by
            obtain ⟨g', cap', hv, h1, _⟩ := own_addr hin.ow (by intro e; cases e)
            injection hv with hv
            injection hv with hv
            injection hv with hv
            omega
          have hrl : rows.length ≤ 600000 := by have := hin.ln; omega
          have HWS : Hid (w1.heap.size ≤ W.heap.size) := ti.on.size
          clear hTe hb ti hin he1 hsm hd
          by_cases hk : kids = []
          · subst hk
            go_wp2_with (go_at_call 34; refine Calls.mono HK.out ?_; rintro e w5 ⟨a', rfl, ho5, hd5⟩; obtain rfl : a' = none := (by rcases hd5 with ⟨_, h⟩ | ⟨h, _⟩; exact h; exact absurd rfl h); have d2 : w5.cell? ⟨b, i * 3 + 2, none⟩ = some (.slice a1 0 cap1) := (World.cell?_of_block (a := ⟨b, i * 3 + 2, none⟩) (ho5.block b hbl (fun h => h))).trans HP2.out; have fz2 := fz_blk ((ho5.block b hbl (fun h => h)).trans HBB.out) (i * 3 + 2); have hb5 : b < w5.heap.size := Nat.lt_of_lt_of_le hbl ho5.size; have HO5 : Hid (Only (fun _ => False) W w5) := ho5; clear ho5 hd5)
            go_roundg (mm - (i + 1))
            case measure => omega
            case rel => exact ⟨i + 1, rows, g, cap, _, rfl, rfl, by omega, rfl, by go_num, HI.out.nokids HE1.out HO5.out HB1.out⟩
          · have HKN : Hid (kids ≠ []) := hk
            obtain ⟨kn, hkn⟩ : ∃ kn, kn = kids.length := ⟨_, rfl⟩
            have HKL : Hid (kn = kids.length) := hkn
            have hk1 : 0 < (kn : Int) := by rw [hkn]; have := List.length_pos_iff.2 hk; omega
            rw [← hkn] at HK HP2
            rw [← hkn] at p2
            clear hk hkn
            go_wp2_with (first
              | (go_at_call 34; refine Calls.mono HK.out ?_; rintro e w5 ⟨a', rfl, ho5, hd5⟩; obtain ⟨b', rfl, hb', htg, hts⟩ : ∃ b', a' = some ⟨b', 0, none⟩ ∧ W.heap.size ≤ b' ∧ Tg w5 b' ∧ Tes w5 (fun b => b < w1.heap.size) (kd op1 kids) b' 0 := (by rcases hd5 with ⟨h, _⟩ | ⟨_, h⟩; exact absurd h HKN.out; exact h); rw [← HKL.out]; have d2 : w5.cell? ⟨b, i * 3 + 2, none⟩ = some (.slice a1 kn cap1) := (World.cell?_of_block (a := ⟨b, i * 3 + 2, none⟩) (ho5.block b hbl (fun h => h))).trans HP2.out; have fz2 := fz_blk ((ho5.block b hbl (fun h => h)).trans HBB.out) (i * 3 + 2); have hb5 : b < w5.heap.size := Nat.lt_of_lt_of_le hbl ho5.size; have HO5 : Hid (Only (fun _ => False) W w5) := ho5; have HTG : Hid (Tg w5 b') := htg; have HTS : Hid (Tes w5 (fun b => b < w1.heap.size) (kd op1 kids) b' 0) := hts; have hw5 : w.heap.size + 1 + 1 ≤ w5.heap.size := (by have h1 := ho5.size; have h2 := HWS.out; have h3 := HS1.out; omega); clear ho5 hd5 htg hts)
              | (at_builtin; refine wpList_append_own_at _ rfl _ _ 96 rfl (w.heap.size + 1 + 1) 27 iL (.slice none 0 0) 1 24 Try.underlying96 hiL hz0 hz1 hz2 rfl (by decide) _ _ _ rfl ((HI.out.stored HO5.out (.slice (some ⟨b', 0, none⟩) kn kn)).alloc (.cells #[.slice (some ⟨b', 0, none⟩) kn kn] 27)) ⟨w5.heap.size, 0, none⟩ 1 1 [.slice (some ⟨b', 0, none⟩) kn kn] rfl rfl (by have := news1 (w5.setCell ⟨b, i * 3 + 2, none⟩ (.slice (some ⟨b', 0, none⟩) kn kn)) (.slice (some ⟨b', 0, none⟩) kn kn) 27; simpa using this) (fun u hu => by simp at hu; subst hu; rfl) (by unfold maxLen; omega) (by omega) (by simp; omega) ?_; intro v6 w6 hown6 hg6 _ _; obtain ⟨g6, cap6, rfl, hgb6, hgl6, hgc6, _⟩ := row_form hown6 (by omega)))
            go_roundg (mm - (i + 1))
            case measure => omega
            case rel =>
              rw [HKL.out] at hown6 hg6
              exact ⟨i + 1, rows ++ [(b', 0, kd op1 kids)], g6, cap6, w6, rfl, rfl, by omega, by rw [List.length_append]; rfl, by go_num, HI.out.kids HE1.out HKN.out HO5.out HB1.out (by have := HS1.out; omega) hgg HSM1.out HQ5.out (by have := HMM.out; omega) hb' HTG.out HTS.out hown6 hg6⟩
        · have t2 : decide ((i : Int) < (mm : Int)) = false := decide_eq_false (by omega)
          obtain rfl : mm = i := by omega
          have hdn : es.drop mm = [] := List.drop_eq_nil_of_le (by have := HMM.out; omega)
          obtain ⟨⟨K, ti⟩, ow, sh, ln, wt⟩ := HI.out
          rw [hdn] at ti wt
          have HT9 : Hid (∃ K, Tinv w1 W G K rows) := ⟨K, ti.done⟩
          have HOWN : Hid (W.ownsRow (w.heap.size + 1 + 1) 27 1 (.slice (some ⟨g, 0, none⟩) rows.length cap) rows.length (rows.map lstV)) := ow
          have HSH : Hid (Shp rows) := sh
          have HWW : Hid (wts rows + mm ≤ wt0) := (by show _ ≤ _; simp only [tszs] at wt; omega)
          clear ti ow sh ln wt hdn hin
          go_wp2_with fail
          go_roundg (wts rows)
          case measure => have h1 := HWW.out; have h2 := HWT.out; omega
          case rel => exact ⟨rows, g, cap, W, rfl, rfl, rfl, HT9.out, HOWN.out, HSH.out⟩
end Go.Proofs.Ytfbcijnacbfjpaa
namespace Go.Proofs.Ytfbcijnacbfjpaa
open Go.RowKit Go.Maps
set_option linter.unusedVariables false
set_option linter.unusedSimpArgs false
open Rl (Ex Small)
/-- below a number all is as it was. -/
def Lwr (s : Nat) (W W' : World) : Prop := ∀ x, x < s → W'.heap[x]? = W.heap[x]?
theorem Lwr.refl (s : Nat) (W : World) : Lwr s W W := fun _ _ => rfl
theorem Lwr.of {s : Nat} {W W' : World} (h : Only (fun _ => False) W W') (hs : s ≤ W.heap.size) : Lwr s W W' := fun x hx => h.block x (by omega) (fun h => h)
theorem Lwr.trans {s : Nat} {W W' W2 : World} (h : Lwr s W W') (k : Lwr s W' W2) : Lwr s W W2 := fun x hx => (k x hx).trans (h x hx)
theorem Lwr.drew {s : Nat} {W W' : World} (h : Lwr s W W') : Lwr s W W'.drew := h
theorem Lwr.alloc {s : Nat} {W W' : World} (h : Lwr s W W') (hs : s ≤ W'.heap.size) (o : Obj) : Lwr s W (W'.alloc o) := fun x hx => (Below.heap_alloc _ _ _ (by omega)).trans (h x hx)
theorem Lwr.grown {s : Nat} {W w5 w6 : World} {b : Option Nat} (h : Lwr s W w5) (hg : w5.grownBy w6 b) (hs : s ≤ w5.heap.size) (hb : ∀ g, b = some g → s ≤ g) : Lwr s W w6 := fun x hx => by
  have o1 : Only (fun q => b = some q) w5 w6 := (Only.refl _ _).grown hg (fun k h => h)
  exact (o1.block x (by omega) (fun e => by have := hb x e; omega)).trans (h x hx)
theorem Lwr.cell {s : Nat} {W W' : World} (h : Lwr s W W') {b o : Nat} {v : Value} (hb : b < s) (hv : W.cell? ⟨b, o, none⟩ = some v) : W'.cell? ⟨b, o, none⟩ = some v := (World.cell?_of_block (a := ⟨b, o, none⟩) (h b hb)).trans hv
theorem step_app3 {ops : Array Oper} {o : Oper} {a : Act} {w : World} {K : Act → World → Prop} {Q : Exit → Act → World → Prop} {E : Prop} (hgd : o.guard = none) (s x : Operand)
    (ho : o.op = .call { callee := .builtin .append, args := #[s, x], argTypes := #[27, 27] })
    (base : Nat) (v : Value) (n : Nat) (xs : List Value) (hs : a.eval s = v) (hown : w.ownsRow base 49 3 v n xs)
    (ad : Addr) (ys : List Value) (hx : a.eval x = .slice (some ad) 1 1) (hl : ys.length = 3) (hnews : ∀ j u, ys[j]? = some u → w.cell? (ad.add j) = some u) (h1 : ∀ u ∈ ys, u.oneCell' = true) (hsz : n ≤ 1000000) (hbase : base ≤ w.heap.size)
    (h : ∀ g cap w', w'.ownsRow base 49 3 (.slice (some ⟨g, 0, none⟩) (n + 1) cap) (n + 1) (xs ++ ys) → w.grownBy w' v.ownBlock → (v.ownBlock = some g ∨ g = w.heap.size) → base ≤ g → g < w'.heap.size → K (a.put o.dst (.slice (some ⟨g, 0, none⟩) (n + 1) cap)) w') :
    if Region.wanted o (yielded ops a.tmps) = true then Oper.wp Try.prog o a w K Q else E := by
  have hw : Region.wanted o (yielded ops a.tmps) = true := by simp [Region.wanted, hgd]
  rw [if_pos hw]
  obtain ⟨i4, g4, g40, g41, g42⟩ := info_parts infoX
  obtain ⟨v', w', hr, h2, h3, h4, h5⟩ := run_append_own_at (P := Try.prog) w base 27 o.type 49 i4 (.agg #[.int .u8 0, .int .u32 0, .slice none 0 0]) 3 32 Try.underlying27 g4 g40 g41 g42 rfl (by decide) v n xs hown ad 1 1 ys (by omega) hnews h1 (by unfold maxLen; omega) (by omega) hbase
  obtain ⟨g, cap, rfl, hg1, hg2, hg3⟩ := own_addr h2 (fun e => by have := (h4.1 e).2; omega)
  unfold Oper.wp execOp
  simp only [ho, resolve, invoke, builtin, Sem.run_bind, Sem.run_pure, Result.andThen_ok, List.map_toArray, List.map_cons, List.map_nil, hs, hx, hr]
  refine h g cap w' h2 h3 ?_ hg1 hg2
  rcases h5 with h5 | h5
  · left
    rw [← h5]
    rfl
  · right
    simpa [Value.ownBlock] using h5
/-- new blocks, but for the row's own. -/
def FF (base : Nat) (W : World) (v : Value) : Nat → Prop := fun b => base ≤ b ∧ b < W.heap.size ∧ v.ownBlock ≠ some b
theorem Txs.keep {w W : World} {F F' : Nat → Prop} {es : List Ex} {xs : List Value} (h : Txs w F es xs) (hk : Kp w W F) (hF : ∀ b, F b → F' b) : Txs W F' es xs := fun i e hi => by
  obtain ⟨o, s, k, h1, h2, h3, h4⟩ := h i e hi
  exact ⟨o, s, k, h1, h2, h3, Te.keep hk hF e _ h4⟩
theorem news3 (w : World) (x y z : Value) (t : TypeId) : ∀ j u, [x, y, z][j]? = some u → (w.alloc (.cells #[x, y, z] t)).cell? ((⟨w.heap.size, 0, none⟩ : Addr).add j) = some u := World.news_of_block (heap_alloc_new w _)
/-- what holds ahead of each kid. -/
structure Rt1 (w W : World) (op set : Int) (a : Option Addr) (n c i : Nat) (aK : Option Addr) (cK : Nat) (ts : List Ex) (xs : List Value) : Prop where
  on : Only (fun _ => False) w W
  x0 : Xb W w.heap.size (.int .u8 op) (.int .u32 set) (.slice a n c)
  x1 : Xb W (w.heap.size + 1) (.int .u8 0) (.int .u32 0) (.slice none 0 0)
  x2 : Xb W (w.heap.size + 1 + 1) (.int .u8 op) (.int .u32 set) (.slice aK i cK)
  ow : W.ownsRow (w.heap.size + 1 + 1 + 1) 49 3 (.slice aK i cK) i xs
  tx : Txs W (FF (w.heap.size + 1 + 1 + 1) W (.slice aK i cK)) (ts.take i) xs
/-- one kid more. -/
theorem Rt1.more {w W w5 w6 : World} {op set : Int} {a : Option Addr} {n c i : Nat} {aK : Option Addr} {cK g6 cap6 : Nat} {ts : List Ex} {xs : List Value} {o s k : Value} {e : Ex} (h : Rt1 w W op set a n c i aK cK ts xs) (he : ts[i]? = some e) (ho : Only (fun _ => False) W w5)
    (hT : Te w5 (fun b => W.heap.size ≤ b ∧ b < w5.heap.size) e (.agg #[o, s, k])) (hown : w6.ownsRow (w.heap.size + 1 + 1 + 1) 49 3 (.slice (some ⟨g6, 0, none⟩) (i + 1) cap6) (i + 1) (xs ++ [o, s, k])) (hg : (w5.alloc (.cells #[o, s, k] 49)).grownBy w6 (Value.slice aK i cK).ownBlock)
    (hor : (Value.slice aK i cK).ownBlock = some g6 ∨ g6 = (w5.alloc (.cells #[o, s, k] 49)).heap.size) (hgb : w.heap.size + 1 + 1 + 1 ≤ g6) :
    Rt1 w (w6.setCell ⟨w.heap.size + 1 + 1, 2, none⟩ (.slice (some ⟨g6, 0, none⟩) (i + 1) cap6)) op set a n c (i + 1) (some ⟨g6, 0, none⟩) cap6 ts (xs ++ [o, s, k]) := by
  obtain ⟨on, x0, x1, x2, ow, tx⟩ := h
  have hs := (Array.getElem?_eq_some_iff.1 x2).1
  have hsz5 := ho.size
  have hb : ∀ g, (Value.slice aK i cK).ownBlock = some g → w.heap.size + 1 + 1 + 1 ≤ g ∧ g < W.heap.size := fun g hg => ow.lt g hg
  have o1 : Only (fun q => (Value.slice aK i cK).ownBlock = some q) (w5.alloc (.cells #[o, s, k] 49)) w6 := (Only.refl _ _).grown hg (fun k h => h)
  have hsz6 := o1.size
  have hsa : (w5.alloc (.cells #[o, s, k] 49)).heap.size = w5.heap.size + 1 := by simp
  have lw : Lwr (w.heap.size + 1 + 1 + 1) W w6 := ((Lwr.of ho (by omega)).alloc (by omega) _).grown hg (by omega) (fun g h => (hb g h).1)
  have on6 : Only (fun _ => False) w w6 := by
    have o2 : Only (fun q => (Value.slice aK i cK).ownBlock = some q) w w6 := (((on.trans ho).alloc _).mono (fun _ h => h.elim)).trans o1
    exact ⟨o2.os, o2.tape, o2.output, o2.size, fun b hb' _ => o2.block b hb' (fun e => by have := (hb b e).1; omega)⟩
  have sc : ∀ x, x ≠ w.heap.size + 1 + 1 → (w6.setCell ⟨w.heap.size + 1 + 1, 2, none⟩ (.slice (some ⟨g6, 0, none⟩) (i + 1) cap6)).heap[x]? = w6.heap[x]? := fun x hx => Below.heap_setCell _ _ _ _ hx
  have kp : ∀ (F : Nat → Prop) (W0 : World), (∀ b, F b → w.heap.size + 1 + 1 + 1 ≤ b ∧ b < W0.heap.size ∧ (Value.slice aK i cK).ownBlock ≠ some b) → Only (fun _ => False) W0 (w5.alloc (.cells #[o, s, k] 49)) → Kp W0 (w6.setCell ⟨w.heap.size + 1 + 1, 2, none⟩ (.slice (some ⟨g6, 0, none⟩) (i + 1) cap6)) F := fun F W0 hF hW b hb' o v hv => by
    obtain ⟨f1, f2, f3⟩ := hF b hb'
    have e1 := hW.block b f2 (fun h => h)
    have e2 := o1.block b (Nat.lt_of_lt_of_le f2 hW.size) f3
    exact (World.cell?_of_block (a := ⟨b, o, none⟩) ((sc b (by omega)).trans (e2.trans e1))).trans hv
  refine ⟨on6.setNew (by show w.heap.size ≤ w.heap.size + 1 + 1; omega) _, ?_, ?_, ?_, ?_, ?_⟩
  · exact (sc _ (by omega)).trans ((lw _ (by omega)).trans x0)
  · exact (sc _ (by omega)).trans ((lw _ (by omega)).trans x1)
  · have := (lw (w.heap.size + 1 + 1) (by omega)).trans x2
    exact heap_setCell_at this _
  · refine own_only hown (P := (· = w.heap.size + 1 + 1)) ((Only.refl (· = w.heap.size + 1 + 1) w6).setCell (p := ⟨w.heap.size + 1 + 1, 2, none⟩) rfl _) (fun g hg' e => ?_)
    have e : g = w.heap.size + 1 + 1 := e
    omega
  · have hil := (List.getElem?_eq_some_iff.1 he).1
    rw [List.take_succ_eq_append_getElem hil, (List.getElem?_eq_some_iff.1 he).2]
    have hxl : xs.length = (ts.take i).length * 3 := by rw [ow.1, List.length_take]; congr 1; omega
    have hs6 : (w6.setCell ⟨w.heap.size + 1 + 1, 2, none⟩ (.slice (some ⟨g6, 0, none⟩) (i + 1) cap6)).heap.size = w6.heap.size := by simp [World.setCell]
    refine Txs.snoc (tx.keep (kp _ W (fun b h => h) (ho.alloc _)) (fun b h => ?_)) hxl (Te.keep (kp _ w5 (fun b h => ?_) ((Only.refl _ _).alloc _)) (fun b h => ?_) e _ hT)
    · obtain ⟨f1, f2, f3⟩ := h
      refine ⟨f1, by rw [hs6]; omega, fun e => ?_⟩
      simp [Value.ownBlock] at e
      rcases hor with h | h
      · rw [e] at h
        exact f3 h
      · omega
    · refine ⟨by omega, h.2, fun e => ?_⟩
      have := (hb b e).2
      omega
    · refine ⟨by omega, by rw [hs6]; omega, fun e => ?_⟩
      simp [Value.ownBlock] at e
      rcases hor with h' | h'
      · have := (hb g6 h').2
        omega
      · omega
end Go.Proofs.Ytfbcijnacbfjpaa
