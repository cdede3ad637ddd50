/-
  LeastCopies: its walk.
-/
import Derived.Test.YtelifjeppegcmaaLm0
namespace Go.Proofs.Ytelifjeppegcmaa.leastCopies
open Go.RowKit Go.Maps
set_option linter.unusedVariables false
set_option linter.unusedSimpArgs false
/-- ways of a copy of state s. -/
def WayIn (n : Nat) (rows : List (List Nat)) (s : Nat) (F : List Nat) : Prop := ∀ c y : Nat, F[c]? = some y → y < 2 * n ∧ y % n = Hm.dR rows s c
theorem WayIn.snoc {n s : Nat} {rows : List (List Nat)} {F : List Nat} {y : Nat} (h : WayIn n rows s F) (h1 : y < 2 * n) (h2 : y % n = Hm.dR rows s F.length) : WayIn n rows s (F ++ [y]) := fun c z hz => by
  rcases Hm.snoc_at hz with h3 | ⟨rfl, rfl⟩
  · exact h c z h3
  · exact ⟨h1, h2⟩
def CopyIn (n k : Nat) (rows : List (List Nat)) (outs : List Nat) (rB : List (List Nat)) (oB : List Nat) : Prop := (∀ (i : Nat) (row : List Nat), rB[i]? = some row → row.length = k ∧ WayIn n rows (i % n) row) ∧ (∀ i o : Nat, oB[i]? = some o → o = Hm.oR outs (i % n))
theorem CopyIn.snoc {n k i s : Nat} {rows : List (List Nat)} {outs : List Nat} {rB : List (List Nat)} {oB : List Nat} {F : List Nat} (h : CopyIn n k rows outs rB oB) (hr : rB.length = i) (ho : oB.length = i) (hs : s = i % n) (hF : F.length = k) (hW : WayIn n rows s F) : CopyIn n k rows outs (rB ++ [F]) (oB ++ [Hm.oR outs s]) := by
  subst hs
  refine ⟨fun j row hj => ?_, fun j o hj => ?_⟩
  · by_cases hjl : j < rB.length
    · rw [List.getElem?_append_left hjl] at hj
      exact h.1 j row hj
    · rw [List.getElem?_append_right (by omega)] at hj
      have h1 := (List.getElem?_eq_some_iff.1 hj).1
      simp at h1
      have e : j = i := by omega
      subst e
      rw [hr, Nat.sub_self] at hj
      injection hj with hj
      subst hj
      exact ⟨hF, hW⟩
  · rcases Hm.snoc_at hj with h1 | ⟨h1, rfl⟩
    · exact h.2 j o h1
    · rw [h1, ho]
theorem CopyIn.ok {n k : Nat} {rows : List (List Nat)} {outs : List Nat} {rB : List (List Nat)} {oB : List Nat} (h : CopyIn n k rows outs rB oB) (h0 : 0 < n) (hr : rB.length = 2 * n) (ho : oB.length = 2 * n) : Hm.Ok rB oB k := ⟨by omega, by omega, fun i row hi => (h.1 i row hi).1, fun i row hi x hx => by
  obtain ⟨c, hc⟩ := List.getElem?_of_mem hx
  have := ((h.1 i row hi).2 c x hc).1
  omega⟩
theorem CopyIn.eqx {n k : Nat} {rows : List (List Nat)} {outs : List Nat} {rB : List (List Nat)} {oB : List Nat} (h : CopyIn n k rows outs rB oB) (h0 : 0 < n) (hr : rB.length = 2 * n) (ho : oB.length = 2 * n) : Hm.Eqx k (Hm.dR rB) (Hm.oR oB) (Hm.dR rows) (Hm.oR outs) 0 0 := by
  have hok := h.ok h0 hr ho
  have := Hm.eqx_map (n := 2 * n) (k := k) (d := Hm.dR rB) (d' := Hm.dR rows) (o := Hm.oR oB) (o' := Hm.oR outs) (p := fun s => s % n) (fun s c hs hc => by
    have := hok.dlt s c (by omega) hc
    omega) (fun s c hs hc => by
    obtain ⟨row, x, e1, e2, e3, e4⟩ := hok.d (s := s) (c := c) (by omega) hc
    show Hm.dR rB s c % n = Hm.dR rows (s % n) c
    rw [e3]
    exact ((h.1 s row e1).2 c x e2).2) (fun s hs => by
    exact h.2 s _ (hok.o (by omega))) 0 (by omega)
  rwa [Nat.zero_mod] at this
set_option maxRecDepth 100000 in
set_option maxHeartbeats 8000000 in
theorem walk0 (aU : Option Addr) (nU cU : Nat) (U : List Nat) (aC : Option Addr) (nC cC : Nat) (C : List Int) (x : Nat) (aP : Option Addr) (nP cP : Nat) (P : List Int) (w : World) (hU : Uw w aU nU U) (hC : Iw w aC nC C) (hnU : nU ≤ maxLen) (hnC : nC ≤ maxLen) (hx : x < 256) (hP : Iw w aP nP P) (hnP : nP ≤ maxLen) :
    Calls Try.prog 7 #[.slice aU nU cU, .slice aC nC cC, .int .u8 (x : Int), .slice aP nP cP] w fun e w' => e = .returned (.bool true) ∧ Only (fun _ => False) w w' := by
  have HMD : Hid (∀ W, Only (fun _ => False) w W → Calls Try.prog 9 #[.slice aU nU cU, .slice aC nC cC, .int .u8 (x : Int)] W (mdP (min nU 30) (x % 4) W)) := fun W ho => made_any aU nU cU U aC nC cC C x W (Uw.keep hU ho) (hC.keep ho) hnU hnC hx
  have HP : Hid (Iw w aP nP P) := hP
  unfold maxLen at hnP
  obtain ⟨n, hn⟩ : ∃ n, n = min nU 30 := ⟨_, rfl⟩
  obtain ⟨k, hk⟩ : ∃ k, k = x % 4 := ⟨_, rfl⟩
  have hn30 : n ≤ 30 := by omega
  have hk3 : k ≤ 3 := by omega
  rw [← hn, ← hk] at HMD
  clear hn hk hU hC hnU hnC hx hP
  by_cases h0 : n = 0
  · subst h0
    go_enter Try.func7, Try.ntmps7
    go_wp2_with (first | (go_at_call 8; refine (awake_any _).mono ?_; rintro e w1 ⟨rfl, ho1⟩; have HO1 : Hid (Only (fun _ => False) w w1) := ho1; clear ho1) | (go_at_call 9; refine Calls.mono (HMD.out w1 HO1.out) ?_; rintro e w2 ⟨v, rows, outs, rfl, hRa, h1, h2, hRI, ho2⟩; obtain ⟨aX, kX, aO, kO, rfl⟩ := hRa.form; rw [h1, h2]; have HO2 : Hid (Only (fun _ => False) w w2) := HO1.out.trans ho2; clear hRa h1 h2 hRI ho2))
    go_ret
    exact ⟨rfl, HO2.out.alloc _⟩
  · have e0 : ((n : Int) == 0) = false := by rw [beq_eq_false_iff_ne]; omega
    have e00 : ¬ (n : Int) = 0 := by omega
    go_enter Try.func7, Try.ntmps7
    go_wp2_with (first | (go_at_call 8; refine (awake_any _).mono ?_; rintro e w1 ⟨rfl, ho1⟩; have HO1 : Hid (Only (fun _ => False) w w1) := ho1; clear ho1) | (go_at_call 9; refine Calls.mono (HMD.out w1 HO1.out) ?_; rintro e w2 ⟨v, rows, outs, rfl, hRa, h1, h2, hRI, ho2⟩; have hok : Hm.Ok rows outs k := mk_ok (by omega) h1 h2 hRI; obtain ⟨bn, cN, bo, co, rfl, hnx, hou⟩ := hRa.nxt hok; rw [h1] at hRa hnx hou ⊢; have H2 : Hid (Only (fun _ => False) w w2 ∧ Ra w2 w1.heap.size (.agg #[.slice (some ⟨bn, 0, none⟩) n cN, .slice (some ⟨bo, 0, none⟩) n co]) rows outs ∧ Hm.Ok rows outs k ∧ rows.length = n ∧ outs.length = n ∧ Nxt w2 n k bn 0 (Hm.dR rows) ∧ (∀ s, s < n → w2.cell? ⟨bo, 0 + s, none⟩ = some (.int .u32 (Hm.oR outs s : Int)))) := ⟨HO1.out.trans ho2, hRa, hok, h1, h2, hnx, hou⟩; clear hRa h1 h2 hRI ho2 hok hnx hou) | fail)
    obtain ⟨W0, hW0⟩ : ∃ Z, Z = (w2.alloc (.cells #[.slice (some ⟨bn, 0, none⟩) n cN, .slice (some ⟨bo, 0, none⟩) n co] 27)).alloc (.cells #[.slice none 0 0, .slice none 0 0] 27) := ⟨_, rfl⟩
    rw [← hW0]
    obtain ⟨lB, hlB⟩ : ∃ l, l = w2.heap.size + 1 := ⟨_, rfl⟩
    rw [← hlB]
    have HW0 : Hid (W0.heap[w2.heap.size]? = some (.cells #[.slice (some ⟨bn, 0, none⟩) n cN, .slice (some ⟨bo, 0, none⟩) n co] 27 (0, 0)) ∧ W0.heap[lB]? = some (.cells #[.slice none 0 0, .slice none 0 0] 27 (0, 0)) ∧ Only (fun _ => False) w2 W0 ∧ W0.heap.size = lB + 1 ∧ lB = w2.heap.size + 1) := by
      have := two_at w2 (.cells #[.slice (some ⟨bn, 0, none⟩) n cN, .slice (some ⟨bo, 0, none⟩) n co] 27) (.cells #[.slice none 0 0, .slice none 0 0] 27)
      rw [← hW0, ← hlB] at this
      exact ⟨this.1, this.2.1, this.2.2.1, by rw [this.2.2.2, hlB], hlB⟩
    have lAB : w2.heap.size < lB := by omega
    clear hW0 hlB
    have HLO : Hid (∀ V, Only (fun b => lB ≤ b) W0 V → Only (fun _ => False) w2 V ∧ V.heap[w2.heap.size]? = some (.cells #[.slice (some ⟨bn, 0, none⟩) n cN, .slice (some ⟨bo, 0, none⟩) n co] 27 (0, 0)) ∧ lB + 1 ≤ V.heap.size) := fun V ho => ⟨low_only HW0.out.2.2.1 ho (by omega), (ho.block _ (by have := HW0.out.2.2.2.1; omega) (by omega)).trans HW0.out.1, by have h1 := ho.size; have h2 := HW0.out.2.2.2.1; omega⟩
    obtain ⟨i3, g3, g30, g31, g32⟩ := info_parts info3b
    obtain ⟨N2, hN2⟩ : ∃ N2, N2 = 2 * n := ⟨_, rfl⟩
    have eN2 : (2 : Int) * (n : Int) = (N2 : Int) := by omega
    have HN2 : Hid (N2 = 2 * n) := hN2
    have hN60 : N2 ≤ 60 := by omega
    rw [eN2]
    clear hN2 eN2
    go_loopg [34] N2 (fun gh v wr => ∃ (i : Nat) (rB : List (List Nat)) (oB : List Nat) (vs : List Value) (vN vO : Value) (W : World), W = wr ∧ gh = N2 - i ∧ i ≤ N2 ∧ v = .int .i64 (i : Int) ∧ Gm W (lB + 1) lB vN vO rB oB vs ∧ rB.length = i ∧ oB.length = i ∧ CopyIn n k rows outs rB oB ∧ Only (fun b => lB ≤ b) W0 W)
    case atStart => exact ⟨0, [], [], [], .slice none 0 0, .slice none 0 0, _, rfl, rfl, Nat.zero_le _, rfl, ⟨HW0.out.2.1, rfl, ⟨rfl, Or.inl ⟨rfl, rfl⟩⟩, (fun i r L h => by cases h), ⟨rfl, Or.inl ⟨rfl, rfl⟩⟩⟩, rfl, rfl, ⟨(fun i row h => by cases h), (fun i o h => by cases h)⟩, Only.refl _ _⟩
    case round =>
      obtain ⟨i, rB, oB, vs, vN, vO, W, hW, rfl, hi, rfl, hG, hri, hro, hCI, hoW⟩ := hrel
      subst hW
      have HG : Hid (Gm W (lB + 1) lB vN vO rB oB vs ∧ rB.length = i ∧ oB.length = i ∧ CopyIn n k rows outs rB oB ∧ Only (fun b => lB ≤ b) W0 W) := ⟨hG, hri, hro, hCI, hoW⟩
      have HWL : Hid _ := HLO.out W hoW
      clear hG hri hro hCI hoW
      by_cases hlt : i < N2
      · have t1 : (i : Int) < (N2 : Int) := by omega
        obtain ⟨s, hs⟩ : ∃ s, s = i % n := ⟨_, rfl⟩
        have hsn : s < n := by rw [hs]; exact Nat.mod_lt _ (by omega)
        have es : ((i : Int)).tmod (n : Int) = (s : Int) := by rw [Int.tmod_eq_emod_of_nonneg (by omega), hs, Int.natCast_emod]
        have HS : Hid (s = i % n) := hs
        have t2 : (s : Int) < (n : Int) := by omega
        clear hs
        obtain ⟨a1, k1, q1, HQ1⟩ := H2.out.2.2.2.2.2.1 s hsn
        have HQ : Hid (∀ c, c < k → ∃ b o, a1 = some ⟨b, o, none⟩ ∧ w2.cell? ⟨b, o + c, none⟩ = some (.int .i64 (Hm.dR rows s c : Int)) ∧ Hm.dR rows s c < n) := HQ1
        rw [Nat.zero_add] at q1
        have v1 := keepC HWL.out.1 q1
        have v2 : W.cell? ⟨w2.heap.size, 0, none⟩ = some (.slice (some ⟨bn, 0, none⟩) n cN) := cell_blk HWL.out.2.1
        have l1 := World.block_lt_of_cell? W _ v1
        have l2 : w2.heap.size < W.heap.size := World.block_lt_of_cell? W _ v2
        clear q1 HQ1
        go_wp2_with fail
        go_quiet (fail)
        revert nq
        intro na
        go_wp2_with fail
        have HI0 : Hid (Gm (W.drewN na) (lB + 1) lB vN vO rB oB vs ∧ Only (fun b => lB ≤ b) W0 (W.drewN na)) := ⟨HG.out.1.idle ((Only.refl _ _).drewN _), HG.out.2.2.2.2.drewN _⟩
        clear v1 v2 l1 l2
        go_loopg [13, 45] k (fun gh v13 v45 wr => ∃ (c : Nat) (aW : Option Addr) (kW : Nat) (F : List Nat) (V : World), V = wr ∧ gh = k - c ∧ c ≤ k ∧ v13 = .slice aW c kW ∧ v45 = .int .i64 (c : Int) ∧ Gm V (lB + 1) lB vN vO rB oB vs ∧ Wg V (lB + 1) vs (.slice aW c kW) F ∧ F.length = c ∧ WayIn n rows s F ∧ Only (fun b => lB ≤ b) W0 V)
        case atStart => exact ⟨0, none, 0, [], _, rfl, rfl, Nat.zero_le _, rfl, rfl, HI0.out.1, Wg.start _ _ _, rfl, (fun c y h => by cases h), HI0.out.2⟩
        case round =>
          obtain ⟨c, aW, kW, F, V, hV, rfl, hck, rfl, rfl, hG, hWg, hFl, hFn, hoV⟩ := hrel
          subst hV
          have HV : Hid (Gm V (lB + 1) lB vN vO rB oB vs ∧ Wg V (lB + 1) vs (.slice aW c kW) F ∧ F.length = c ∧ WayIn n rows s F ∧ Only (fun b => lB ≤ b) W0 V) := ⟨hG, hWg, hFl, hFn, hoV⟩
          have HVL : Hid _ := HLO.out V hoV
          have lV : lB + 1 ≤ V.heap.size := HVL.out.2.2
          clear hG hWg hFl hFn hoV
          by_cases hlk : c < k
          · have t3 : (c : Int) < (k : Int) := by omega
            obtain ⟨b2, o2, e2, v0, v9⟩ := HQ.out c hlk
            obtain ⟨tt, htt⟩ : ∃ tt, tt = Hm.dR rows s c := ⟨_, rfl⟩
            have HTT : Hid (tt = Hm.dR rows s c) := htt
            rw [← htt] at v0 v9
            have v4 := keepC HVL.out.1 v0
            have l4 := World.block_lt_of_cell? V _ v4
            clear v0 htt
            subst e2
            have HAPP : Hid (∀ r : Nat, (V.alloc (.cells #[.int .i64 (r : Int)] 3)).ownsRow (lB + 1) 3 1 (.slice aW c kW) c (natI F)) := fun r => by
              have := HV.out.2.1.own
              rw [HV.out.2.2.1] at this
              exact this.alloc _
            by_cases hP0 : 0 < nP
            · have c0 : (0 : Int) < (nP : Int) := by omega
              have c1 : ((nP : Int) == 0) = false := by rw [beq_eq_false_iff_ne]; omega
              have c2 : ¬ (nP : Int) = 0 := by omega
              obtain ⟨q, hq⟩ : ∃ q, q = (i + c) % nP := ⟨_, rfl⟩
              have hqn : q < nP := by rw [hq]; exact Nat.mod_lt _ hP0
              have m3 : ((i : Int) + (c : Int)).tmod (nP : Int) = (q : Int) := by
                rw [Int.tmod_eq_emod_of_nonneg (by omega), hq, Int.natCast_emod, Int.natCast_add]
              have m4 : (q : Int) < (nP : Int) := by omega
              obtain ⟨bP, oP, y, eP, hy⟩ := HP.out.cell hqn
              subst eP
              have v5 := keepC (H2.out.1.trans HVL.out.1) hy
              have l5 := World.block_lt_of_cell? V _ v5
              clear hq hy
              obtain ⟨z2, hz2⟩ : ∃ z, y.tmod 2 = z := ⟨_, rfl⟩
              by_cases hz : z2 = 0
              · have tz : (z2 != 0) = false := by simp [hz]
                clear hz
                have HVA : Hid ((V.alloc (.cells #[.int .i64 (tt : Int)] 3)).heap[V.heap.size]? = some (.cells #[.int .i64 (tt : Int)] 3 (0, 0)) ∧ (V.alloc (.cells #[.int .i64 (tt : Int)] 3)).heap.size = V.heap.size + 1) := ⟨heap_alloc_new V _, by simp⟩
                go_wp2_with (at_builtin; (refine wpList_append_lies _ rfl _ _ 23 rfl (lB + 1) 3 i3 (.int .i64 0) 1 8 Try.underlying23 g3 g30 g31 g32 rfl (by decide) (.slice aW c kW) c (natI F) rfl (HAPP.out (tt)) ⟨V.heap.size, 0, none⟩ 1 1 [.int .i64 (tt : Int)] rfl rfl (World.news_of_block (cs := #[.int .i64 (tt : Int)]) HVA.out.1) (fun u hu => by simp at hu; rcases hu with rfl; rfl) (by decide) (by unfold maxLen; omega) (by omega) (by rw [HVA.out.2]; omega) (V.heap.size + 1) HVA.out.2 ?_; intro g5 cap5 w5 hown5 hgrow5 hat5 hlt5; have hoo : Only (fun b => (Value.slice aW c kW).ownBlock = some b) V w5 := (((Only.refl (fun b => (Value.slice aW c kW).ownBlock = some b) V).alloc _)).grown hgrow5 (fun k hk => hk); have H5 : Hid ((Gm w5 (lB + 1) lB vN vO rB oB vs ∧ Wg w5 (lB + 1) vs (.slice (some ⟨g5, 0, none⟩) (c + 1) cap5) (F ++ [tt])) ∧ Only (fun b => lB ≤ b) W0 w5) := (by have hF := HV.out.2.2.1; have k1 := HV.out.2.1.add (g := g5) (cap := cap5) (j := tt) HV.out.1 hoo (by rw [hF]; exact hown5) hat5 (Nat.le_succ _); rw [hF] at k1; exact ⟨k1, HV.out.2.2.2.2.trans (hoo.mono (fun b hb => by have := (own_own HV.out.2.1.own hb).1; omega))⟩); clear hown5 hgrow5 hat5 hoo))
                go_roundg (k - (c + 1))
                case measure => omega
                case rel => exact ⟨c + 1, _, _, F ++ [tt], _, rfl, rfl, by omega, rfl, by go_num, H5.out.1.1, H5.out.1.2, by simp [HV.out.2.2.1], HV.out.2.2.2.1.snoc (by omega) (by rw [HV.out.2.2.1, ← HTT.out]; exact Nat.mod_eq_of_lt v9), H5.out.2⟩
              · have tz : (z2 != 0) = true := by simp [hz]
                clear hz
                have HVA : Hid ((V.alloc (.cells #[.int .i64 ((tt : Int) + (n : Int))] 3)).heap[V.heap.size]? = some (.cells #[.int .i64 ((tt : Int) + (n : Int))] 3 (0, 0)) ∧ (V.alloc (.cells #[.int .i64 ((tt : Int) + (n : Int))] 3)).heap.size = V.heap.size + 1) := ⟨heap_alloc_new V _, by simp⟩
                go_wp2_with (at_builtin; (refine wpList_append_lies _ rfl _ _ 23 rfl (lB + 1) 3 i3 (.int .i64 0) 1 8 Try.underlying23 g3 g30 g31 g32 rfl (by decide) (.slice aW c kW) c (natI F) rfl (HAPP.out (tt + n)) ⟨V.heap.size, 0, none⟩ 1 1 [.int .i64 ((tt : Int) + (n : Int))] rfl rfl (World.news_of_block (cs := #[.int .i64 ((tt : Int) + (n : Int))]) HVA.out.1) (fun u hu => by simp at hu; rcases hu with rfl; rfl) (by decide) (by unfold maxLen; omega) (by omega) (by rw [HVA.out.2]; omega) (V.heap.size + 1) HVA.out.2 ?_; intro g5 cap5 w5 hown5 hgrow5 hat5 hlt5; have hoo : Only (fun b => (Value.slice aW c kW).ownBlock = some b) V w5 := (((Only.refl (fun b => (Value.slice aW c kW).ownBlock = some b) V).alloc _)).grown hgrow5 (fun k hk => hk); have H5 : Hid ((Gm w5 (lB + 1) lB vN vO rB oB vs ∧ Wg w5 (lB + 1) vs (.slice (some ⟨g5, 0, none⟩) (c + 1) cap5) (F ++ [tt + n])) ∧ Only (fun b => lB ≤ b) W0 w5) := (by have hF := HV.out.2.2.1; have k1 := HV.out.2.1.add (g := g5) (cap := cap5) (j := tt + n) HV.out.1 hoo (by rw [hF]; exact hown5) hat5 (Nat.le_succ _); rw [hF] at k1; exact ⟨k1, HV.out.2.2.2.2.trans (hoo.mono (fun b hb => by have := (own_own HV.out.2.1.own hb).1; omega))⟩); clear hown5 hgrow5 hat5 hoo))
                go_roundg (k - (c + 1))
                case measure => omega
                case rel => exact ⟨c + 1, _, _, F ++ [tt + n], _, rfl, rfl, by omega, rfl, by go_num, H5.out.1.1, H5.out.1.2, by simp [HV.out.2.2.1], HV.out.2.2.2.1.snoc (by omega) (by rw [HV.out.2.2.1, ← HTT.out]; rw [Nat.add_mod_right]; exact Nat.mod_eq_of_lt v9), H5.out.2⟩
            · have hz : nP = 0 := by omega
              subst hz
              have HVA : Hid ((V.alloc (.cells #[.int .i64 (tt : Int)] 3)).heap[V.heap.size]? = some (.cells #[.int .i64 (tt : Int)] 3 (0, 0)) ∧ (V.alloc (.cells #[.int .i64 (tt : Int)] 3)).heap.size = V.heap.size + 1) := ⟨heap_alloc_new V _, by simp⟩
              go_wp2_with (at_builtin; (refine wpList_append_lies _ rfl _ _ 23 rfl (lB + 1) 3 i3 (.int .i64 0) 1 8 Try.underlying23 g3 g30 g31 g32 rfl (by decide) (.slice aW c kW) c (natI F) rfl (HAPP.out (tt)) ⟨V.heap.size, 0, none⟩ 1 1 [.int .i64 (tt : Int)] rfl rfl (World.news_of_block (cs := #[.int .i64 (tt : Int)]) HVA.out.1) (fun u hu => by simp at hu; rcases hu with rfl; rfl) (by decide) (by unfold maxLen; omega) (by omega) (by rw [HVA.out.2]; omega) (V.heap.size + 1) HVA.out.2 ?_; intro g5 cap5 w5 hown5 hgrow5 hat5 hlt5; have hoo : Only (fun b => (Value.slice aW c kW).ownBlock = some b) V w5 := (((Only.refl (fun b => (Value.slice aW c kW).ownBlock = some b) V).alloc _)).grown hgrow5 (fun k hk => hk); have H5 : Hid ((Gm w5 (lB + 1) lB vN vO rB oB vs ∧ Wg w5 (lB + 1) vs (.slice (some ⟨g5, 0, none⟩) (c + 1) cap5) (F ++ [tt])) ∧ Only (fun b => lB ≤ b) W0 w5) := (by have hF := HV.out.2.2.1; have k1 := HV.out.2.1.add (g := g5) (cap := cap5) (j := tt) HV.out.1 hoo (by rw [hF]; exact hown5) hat5 (Nat.le_succ _); rw [hF] at k1; exact ⟨k1, HV.out.2.2.2.2.trans (hoo.mono (fun b hb => by have := (own_own HV.out.2.1.own hb).1; omega))⟩); clear hown5 hgrow5 hat5 hoo))
              go_roundg (k - (c + 1))
              case measure => omega
              case rel => exact ⟨c + 1, _, _, F ++ [tt], _, rfl, rfl, by omega, rfl, by go_num, H5.out.1.1, H5.out.1.2, by simp [HV.out.2.2.1], HV.out.2.2.2.1.snoc (by omega) (by rw [HV.out.2.2.1, ← HTT.out]; exact Nat.mod_eq_of_lt v9), H5.out.2⟩
          · have t3 : decide ((c : Int) < (k : Int)) = false := decide_eq_false (by omega)
            have hck2 : c = k := by omega
            obtain ⟨aN, kN, eN⟩ := own_form HV.out.1.nx
            obtain ⟨aO, kO, eO⟩ := own_form HV.out.1.out
            have hri := HG.out.2.1
            have hro := HG.out.2.2.1
            rw [hri] at eN
            rw [hro] at eO
            subst eN
            subst eO
            have HFF : Hid (rB.length = i ∧ oB.length = i ∧ c = k) := ⟨hri, hro, hck2⟩
            clear hri hro hck2
            obtain ⟨uo, huo⟩ : ∃ u, u = Hm.oR outs s := ⟨_, rfl⟩
            have HUO : Hid (uo = Hm.oR outs s) := huo
            have HUU : Hid (w2.cell? ⟨bo, s, none⟩ = some (.int .u32 (uo : Int))) := by have := H2.out.2.2.2.2.2.2 s hsn; rw [Nat.zero_add, ← huo] at this; exact this
            clear huo
            have HOLD : Hid (Gm V (lB + 1) lB (.slice aN i kN) (.slice aO i kO) rB oB vs) := HV.out.1
            have HA : Hid (V.ownsRow (lB + 1) 23 1 (.slice aN i kN) i vs) := by
              have := HV.out.1.nx
              rw [HFF.out.1] at this
              exact this
            have HB : Hid (V.ownsRow (lB + 1) 38 1 (.slice aO i kO) i (oB.map u32V)) := by
              have := HV.out.1.out
              rw [HFF.out.2.1] at this
              exact this
            have HbA : Hid (∀ q, (Value.slice aN i kN).ownBlock = some q → lB + 1 ≤ q) := fun q hq => (own_own HV.out.1.nx hq).1
            have HbB : Hid (∀ q, (Value.slice aO i kO).ownBlock = some q → lB + 1 ≤ q) := fun q hq => (own_own HV.out.1.out hq).1
            have HHS : Hid (∀ (X : World) (c : Nat) (v : Value), (X.cell? ⟨w2.heap.size, 1, none⟩ = some (.slice (some ⟨bo, 0, none⟩) n co) ∧ X.cell? ⟨bo, s, none⟩ = some (.int .u32 (uo : Int))) → ((X.setCell ⟨lB, c, none⟩ v).cell? ⟨w2.heap.size, 1, none⟩ = some (.slice (some ⟨bo, 0, none⟩) n co) ∧ (X.setCell ⟨lB, c, none⟩ v).cell? ⟨bo, s, none⟩ = some (.int .u32 (uo : Int)))) := fun X c v h => by
              have hbU : bo < w2.heap.size := World.block_lt_of_cell? w2 _ HUU.out
              exact ⟨(World.cell?_of_block (a := ⟨w2.heap.size, 1, none⟩) (Below.heap_setCell _ _ _ _ (fun e => by have : w2.heap.size = lB := e; omega))).trans h.1, (World.cell?_of_block (a := ⟨bo, s, none⟩) (Below.heap_setCell _ _ _ _ (fun e => by have : bo = lB := e; omega))).trans h.2⟩
            have HCL : Hid (∀ X, Only (fun b => (Value.slice aN i kN).ownBlock = some b ∨ (Value.slice aO i kO).ownBlock = some b) V X → X.heap[lB]? = some (.cells #[.slice aN i kN, .slice aO i kO] 27 (0, 0)) ∧ (X.cell? ⟨w2.heap.size, 1, none⟩ = some (.slice (some ⟨bo, 0, none⟩) n co) ∧ X.cell? ⟨bo, s, none⟩ = some (.int .u32 (uo : Int))) ∧ lB < X.heap.size) := fun X ho => by
              have hbU : bo < w2.heap.size := World.block_lt_of_cell? w2 _ HUU.out
              have l2 := (Array.getElem?_eq_some_iff.1 HV.out.1.lst).1
              have e1 := ho.block lB l2 (fun h => h.elim (fun h => by have := HbA.out _ h; omega) (fun h => by have := HbB.out _ h; omega))
              have e2 := ho.block bo (by omega) (fun h => h.elim (fun h => by have := HbA.out _ h; omega) (fun h => by have := HbB.out _ h; omega))
              have e3 := ho.block w2.heap.size (by omega) (fun h => h.elim (fun h => by have := HbA.out _ h; omega) (fun h => by have := HbB.out _ h; omega))
              exact ⟨e1.trans HV.out.1.lst, ⟨cell_blk (e3.trans HVL.out.2.1), (World.cell?_of_block (a := ⟨bo, s, none⟩) e2).trans (keepC HVL.out.1 HUU.out)⟩, Nat.lt_of_lt_of_le l2 ho.size⟩
            have HFIN : Hid (∀ (Z : World) (gA cA gB cB : Nat), Rs V Z (lB + 1) (.slice aN i kN) (.slice aO i kO) (.slice (some ⟨gA, 0, none⟩) (i + 1) cA) (i + 1) (vs ++ [.slice aW c kW]) (.slice (some ⟨gB, 0, none⟩) (i + 1) cB) (i + 1) (oB.map u32V ++ [.int .u32 (uo : Int)]) → ∃ (rows' : List (List Nat)) (outs' : List Nat) (vs' : List Value) (vN' vO' : Value), Gm ((Z.setCell ⟨lB, 0, none⟩ (.slice (some ⟨gA, 0, none⟩) (i + 1) cA)).setCell ⟨lB, 1, none⟩ (.slice (some ⟨gB, 0, none⟩) (i + 1) cB)) (lB + 1) lB vN' vO' rows' outs' vs' ∧ rows'.length = i + 1 ∧ outs'.length = i + 1 ∧ CopyIn n k rows outs rows' outs' ∧ Only (fun b => lB ≤ b) W0 ((Z.setCell ⟨lB, 0, none⟩ (.slice (some ⟨gA, 0, none⟩) (i + 1) cA)).setCell ⟨lB, 1, none⟩ (.slice (some ⟨gB, 0, none⟩) (i + 1) cB))) := fun Z gA cA gB cB hR => by
              obtain ⟨hri, hro, hkc⟩ := HFF.out
              have hown := HV.out.2.1.own
              have hb := HV.out.1.both (o := uo) hown hR.o (gA := gA) (cA := cA) (gB := gB) (cB := cB) (by rw [hri]; exact hR.a) (by rw [hro]; exact hR.b)
              rw [hri, hro] at hb
              exact ⟨rB ++ [F], oB ++ [uo], vs ++ [.slice aW c kW], _, _, hb, by simp [hri], by simp [hro], by rw [HUO.out]; exact HG.out.2.2.2.1.snoc hri hro HS.out (by rw [HV.out.2.2.1]; exact hkc) HV.out.2.2.2.1, ((HV.out.2.2.2.2.trans (hR.o.mono (fun b hb => hb.elim (fun h => by have := HbA.out _ h; omega) (fun h => by have := HbB.out _ h; omega)))).setCell (p := ⟨lB, 0, none⟩) (Nat.le_refl _) _).setCell (p := ⟨lB, 1, none⟩) (Nat.le_refl _) _⟩
            go_wp2_with fail
            refine wp_region_held_drew (S := (fun X => X.cell? ⟨w2.heap.size, 1, none⟩ = some (.slice (some ⟨bo, 0, none⟩) n co) ∧ X.cell? ⟨bo, s, none⟩ = some (.int .u32 (uo : Int)))) (by kernel_rfl) ((HCL.out V (Only.refl _ _)).2.1) (fun hHeld => ?_)
            refine wpAnyH_take (i := 0) (oi := { dst := some 74, op := _, type := _, pos := _, after := _, guard := _ }) (v := .pointer (some ⟨lB, 0, none⟩)) rfl (by kernel_rfl) (by kernel_rfl) (by kernel_rfl) (fun _ _ _ h => h) (Or.inl ⟨by rfl, fun w hSw => by first | (go_simp; done) | go_simp⟩) (by assumption) ?_
            (try simp only [Act.put, List.setIfInBounds_toArray, List.set_cons_zero, List.set_cons_succ])
            refine wpAnyH_take (i := 2) (oi := { dst := some 76, op := _, type := _, pos := _, after := _, guard := _ }) (v := .slice aW c kW) rfl (by kernel_rfl) (by kernel_rfl) (by kernel_rfl) (fun _ _ _ h => h) (Or.inl ⟨by rfl, fun w hSw => by first | (go_simp; done) | go_simp⟩) (by assumption) ?_
            (try simp only [Act.put, List.setIfInBounds_toArray, List.set_cons_zero, List.set_cons_succ])
            refine wpAnyH_take (i := 5) (oi := { dst := some 79, op := _, type := _, pos := _, after := _, guard := _ }) (v := .pointer (some ⟨lB, 1, none⟩)) rfl (by kernel_rfl) (by kernel_rfl) (by kernel_rfl) (fun _ _ _ h => h) (Or.inl ⟨by rfl, fun w hSw => by first | (go_simp; done) | go_simp⟩) (by assumption) ?_
            (try simp only [Act.put, List.setIfInBounds_toArray, List.set_cons_zero, List.set_cons_succ])
            refine wpAnyH_take (i := 7) (oi := { dst := some 81, op := _, type := _, pos := _, after := _, guard := _ }) (v := .pointer (some ⟨w2.heap.size, 1, none⟩)) rfl (by kernel_rfl) (by kernel_rfl) (by kernel_rfl) (fun _ _ _ h => h) (Or.inl ⟨by rfl, fun w hSw => by first | (go_simp; done) | go_simp⟩) (by assumption) ?_
            (try simp only [Act.put, List.setIfInBounds_toArray, List.set_cons_zero, List.set_cons_succ])
            refine wpAnyH_take (i := 8) (oi := { dst := some 82, op := _, type := _, pos := _, after := _, guard := _ }) (v := .slice (some ⟨bo, 0, none⟩) n co) rfl (by kernel_rfl) (by kernel_rfl) (by kernel_rfl) (fun _ _ _ h => h) (Or.inl ⟨by rfl, fun w hSw => by obtain ⟨q0, q1⟩ := hSw; first | (go_simp; done) | go_simp⟩) (by assumption) ?_
            (try simp only [Act.put, List.setIfInBounds_toArray, List.set_cons_zero, List.set_cons_succ])
            refine wpAnyH_take (i := 9) (oi := { dst := some 83, op := _, type := _, pos := _, after := _, guard := _ }) (v := .int .i64 (i : Int)) rfl (by kernel_rfl) (by kernel_rfl) (by kernel_rfl) (fun _ _ _ h => h) (Or.inl ⟨by rfl, fun w hSw => by first | (go_simp; done) | go_simp⟩) (by assumption) ?_
            (try simp only [Act.put, List.setIfInBounds_toArray, List.set_cons_zero, List.set_cons_succ])
            refine wpAnyH_take (i := 10) (oi := { dst := some 84, op := _, type := _, pos := _, after := _, guard := _ }) (v := .int .i64 (n : Int)) rfl (by kernel_rfl) (by kernel_rfl) (by kernel_rfl) (fun _ _ _ h => h) (Or.inl ⟨by rfl, fun w hSw => by first | (go_simp; done) | go_simp⟩) (by assumption) ?_
            (try simp only [Act.put, List.setIfInBounds_toArray, List.set_cons_zero, List.set_cons_succ])
            refine wpAnyH_take (i := 11) (oi := { dst := some 85, op := _, type := _, pos := _, after := _, guard := _ }) (v := .int .i64 (s : Int)) rfl (by kernel_rfl) (by kernel_rfl) (by kernel_rfl) (fun _ _ _ h => h) (Or.inl ⟨by rfl, fun w hSw => by first | (go_simp; done) | go_simp⟩) (by assumption) ?_
            (try simp only [Act.put, List.setIfInBounds_toArray, List.set_cons_zero, List.set_cons_succ])
            refine wpAnyH_take (i := 12) (oi := { dst := some 86, op := _, type := _, pos := _, after := _, guard := _ }) (v := .pointer (some ⟨bo, s, none⟩)) rfl (by kernel_rfl) (by kernel_rfl) (by kernel_rfl) (fun _ _ _ h => h) (Or.inl ⟨by rfl, fun w hSw => by first | (go_simp; done) | go_simp⟩) (by assumption) ?_
            (try simp only [Act.put, List.setIfInBounds_toArray, List.set_cons_zero, List.set_cons_succ])
            refine wpAnyH_take (i := 13) (oi := { dst := some 87, op := _, type := _, pos := _, after := _, guard := _ }) (v := .int .u32 (uo : Int)) rfl (by kernel_rfl) (by kernel_rfl) (by kernel_rfl) (fun _ _ _ h => h) (Or.inl ⟨by rfl, fun w hSw => by obtain ⟨q0, q1⟩ := hSw; first | (go_simp; done) | go_simp⟩) (by assumption) ?_
            (try simp only [Act.put, List.setIfInBounds_toArray, List.set_cons_zero, List.set_cons_succ])
            obtain ⟨X0, hX0⟩ : ∃ X0, X0 = V.drew := ⟨_, rfl⟩
            have HX0 : Hid (Rs V X0 (lB + 1) (.slice aN i kN) (.slice aO i kO) (.slice aN i kN) i vs (.slice aO i kO) i (oB.map u32V)) := by rw [hX0]; exact ⟨(Only.refl _ _).drew, HA.out, HB.out⟩
            rw [← hX0]
            clear hX0
            refine wpAnyH_ready (rs := [1, 3, 6, 14]) (by kernel_rfl) (by simp) ?_
            refine AllReadyH.cons rfl (fun K hK => ?_) (AllReadyH.cons rfl (fun K hK => ?_) (AllReadyH.cons rfl (fun K hK => ?_) (AllReadyH.cons rfl (fun K hK => ?_) AllReadyH.nil)))
            · have y := HCL.out X0 HX0.out.o
              have y0 : X0.cell? ⟨lB, 0, none⟩ = some (.slice aN i kN) := cell_blk y.1
              have yl := y.2.2
              rw [if_pos (by rfl)]
              go_simp
              refine hK.out _ _ y.2.1 (fun hHeld => ?_)
              clear hK y y0 yl
              (try simp only [Act.put, List.setIfInBounds_toArray, List.set_cons_zero, List.set_cons_succ])
              refine wpAnyH_ready (rs := [3, 6, 14]) (by kernel_rfl) (by simp) ?_
              refine AllReadyH.cons rfl (fun K hK => ?_) (AllReadyH.cons rfl (fun K hK => ?_) (AllReadyH.cons rfl (fun K hK => ?_) AllReadyH.nil))
              · rw [if_pos (by rfl)]
                go_simp
                obtain ⟨X1, hX1⟩ : ∃ Y, Y = X0.alloc (.cells #[.slice aW c kW] 23) := ⟨_, rfl⟩
                obtain ⟨nA, hnA⟩ : ∃ n, n = X0.heap.size := ⟨_, rfl⟩
                have HNAX1 : Hid (X1.heap[nA]? = some (.cells #[.slice aW c kW] 23 (0, 0)) ∧ V.heap.size ≤ nA) := by rw [hX1, hnA]; exact ⟨heap_alloc_new _ _, HX0.out.o.size⟩
                have HX1 : Hid _ := HX0.out.alloc (.cells #[.slice aW c kW] 23)
                rw [← hX1] at HX1 ⊢
                rw [← hnA]
                clear hX1 hnA
                refine hK.out _ _ (HCL.out X1 HX1.out.o).2.1 (fun hHeld => ?_)
                clear hK
                (try simp only [Act.put, List.setIfInBounds_toArray, List.set_cons_zero, List.set_cons_succ])
                refine wpAnyH_ready (rs := [4, 6, 14]) (by kernel_rfl) (by simp) ?_
                refine AllReadyH.cons rfl (fun K hK => ?_) (AllReadyH.cons rfl (fun K hK => ?_) (AllReadyH.cons rfl (fun K hK => ?_) AllReadyH.nil))
                · have yl := (HCL.out X1 HX1.out.o).2.2
                  refine step_A (by rfl) _ _ (by rfl) (lB + 1) (.slice aN i kN) i vs (by rfl) HX1.out.a nA (.slice aW c kW) (by rfl) HNAX1.out.1 rfl (by omega) (by omega) ?_
                  intro gA cA X2 hown hgrow
                  have HX2 : Hid _ := HX1.out.appA hgrow hown
                  clear hown hgrow yl
                  refine hK.out _ _ (HCL.out X2 HX2.out.o).2.1 (fun hHeld => ?_)
                  clear hK
                  (try simp only [Act.put, List.setIfInBounds_toArray, List.set_cons_zero, List.set_cons_succ])
                  refine wpAnyH_ready (rs := [6, 14]) (by kernel_rfl) (by simp) ?_
                  refine AllReadyH.cons rfl (fun K hK => ?_) (AllReadyH.cons rfl (fun K hK => ?_) AllReadyH.nil)
                  · have y := HCL.out X2 HX2.out.o
                    have y0 : X2.cell? ⟨lB, 1, none⟩ = some (.slice aO i kO) := cell_blk y.1
                    have yl := y.2.2
                    rw [if_pos (by rfl)]
                    go_simp
                    refine hK.out _ _ y.2.1 (fun hHeld => ?_)
                    clear hK y y0 yl
                    (try simp only [Act.put, List.setIfInBounds_toArray, List.set_cons_zero, List.set_cons_succ])
                    refine wpAnyH_take (i := 16) (oi := { dst := some 90, op := _, type := _, pos := _, after := _, guard := _ }) (v := .pointer (some ⟨lB, 0, none⟩)) rfl (by kernel_rfl) (by kernel_rfl) (by kernel_rfl) (fun _ _ _ h => h) (Or.inl ⟨by rfl, fun w hSw => by first | (go_simp; done) | go_simp⟩) (by assumption) ?_
                    (try simp only [Act.put, List.setIfInBounds_toArray, List.set_cons_zero, List.set_cons_succ])
                    refine wpAnyH_ready (rs := [14]) (by kernel_rfl) (by simp) ?_
                    refine AllReadyH.cons rfl (fun K hK => ?_) AllReadyH.nil
                    rw [if_pos (by rfl)]
                    go_simp
                    obtain ⟨X3, hX3⟩ : ∃ Y, Y = X2.alloc (.cells #[.int .u32 (uo : Int)] 38) := ⟨_, rfl⟩
                    obtain ⟨nB, hnB⟩ : ∃ n, n = X2.heap.size := ⟨_, rfl⟩
                    have HNBX3 : Hid (X3.heap[nB]? = some (.cells #[.int .u32 (uo : Int)] 38 (0, 0)) ∧ V.heap.size ≤ nB) := by rw [hX3, hnB]; exact ⟨heap_alloc_new _ _, HX2.out.o.size⟩
                    have HX3 : Hid _ := HX2.out.alloc (.cells #[.int .u32 (uo : Int)] 38)
                    rw [← hX3] at HX3 ⊢
                    rw [← hnB]
                    clear hX3 hnB
                    refine hK.out _ _ (HCL.out X3 HX3.out.o).2.1 (fun hHeld => ?_)
                    clear hK
                    (try simp only [Act.put, List.setIfInBounds_toArray, List.set_cons_zero, List.set_cons_succ])
                    refine wpAnyH_ready (rs := [15]) (by kernel_rfl) (by simp) ?_
                    refine AllReadyH.cons rfl (fun K hK => ?_) AllReadyH.nil
                    have yl := (HCL.out X3 HX3.out.o).2.2
                    refine step_B (by rfl) _ _ (by rfl) (lB + 1) (.slice aO i kO) i (oB.map u32V) (by rfl) HX3.out.b nB (.int .u32 (uo : Int)) (by rfl) HNBX3.out.1 rfl (by omega) (by omega) ?_
                    intro gB cB X4 hown hgrow
                    have HX4 : Hid _ := HX3.out.appB hgrow hown
                    clear hown hgrow yl
                    refine hK.out _ _ (HCL.out X4 HX4.out.o).2.1 (fun hHeld => ?_)
                    clear hK
                    (try simp only [Act.put, List.setIfInBounds_toArray, List.set_cons_zero, List.set_cons_succ])
                    have y := HCL.out X4 HX4.out.o
                    have y0 : X4.cell? ⟨lB, 0, none⟩ = some (.slice aN i kN) := cell_blk y.1
                    have yf : ∀ q, X4.frozen? ⟨lB, q, none⟩ = false := fun q => fz_blk y.1 q
                    have yl := y.2.2
                    have z := heap_setCell_at (k := 0) y.1 (.slice (some ⟨gA, 0, none⟩) (i + 1) cA)
                    have z1 : (X4.setCell ⟨lB, 0, none⟩ (.slice (some ⟨gA, 0, none⟩) (i + 1) cA)).cell? ⟨lB, 1, none⟩ = some (.slice aO i kO) := cell_blk z
                    have zf : ∀ q, (X4.setCell ⟨lB, 0, none⟩ (.slice (some ⟨gA, 0, none⟩) (i + 1) cA)).frozen? ⟨lB, q, none⟩ = false := fun q => fz_blk z q
                    have HQ1 : Hid _ := HHS.out X4 0 (.slice (some ⟨gA, 0, none⟩) (i + 1) cA) y.2.1
                    have HQ2 : Hid _ := HHS.out _ 1 (.slice (some ⟨gB, 0, none⟩) (i + 1) cB) HQ1.out
                    clear y z
                    refine wpAnyH_ready (rs := [17]) (by kernel_rfl) (by simp) ?_
                    refine AllReadyH.cons rfl (fun K hK => ?_) AllReadyH.nil
                    rw [if_pos (by rfl)]
                    go_simp
                    refine hK.out _ _ HQ1.out (fun hHeld => ?_)
                    clear hK
                    (try simp only [Act.put, List.setIfInBounds_toArray, List.set_cons_zero, List.set_cons_succ])
                    refine wpAnyH_take (i := 18) (oi := { dst := some 91, op := _, type := _, pos := _, after := _, guard := _ }) (v := .pointer (some ⟨lB, 1, none⟩)) rfl (by kernel_rfl) (by kernel_rfl) (by kernel_rfl) (fun _ _ _ h => h) (Or.inl ⟨by rfl, fun w hSw => by first | (go_simp; done) | go_simp⟩) (by assumption) ?_
                    (try simp only [Act.put, List.setIfInBounds_toArray, List.set_cons_zero, List.set_cons_succ])
                    refine wpAnyH_ready (rs := [19]) (by kernel_rfl) (by simp) ?_
                    refine AllReadyH.cons rfl (fun K hK => ?_) AllReadyH.nil
                    rw [if_pos (by rfl)]
                    go_simp
                    refine hK.out _ _ HQ2.out (fun hHeld => ?_)
                    clear hK
                    (try simp only [Act.put, List.setIfInBounds_toArray, List.set_cons_zero, List.set_cons_succ])
                    refine wpAnyH_done (by kernel_rfl) ?_ _
                    clear hHeld y0 yf yl z1 zf HQ1 HQ2
                    go_wp2_with fail
                    go_roundg (N2 - (i + 1))
                    case measure => omega
                    case rel =>
                      obtain ⟨r1, r2, r3, r4, r5, r6, r7, r8, r9, r10⟩ := HFIN.out _ _ _ _ _ HX4.out
                      exact ⟨i + 1, r1, r2, r3, r4, r5, _, rfl, rfl, by omega, by go_num, r6, r7, r8, r9, r10⟩
                  · rw [if_pos (by rfl)]
                    go_simp
                    obtain ⟨X3, hX3⟩ : ∃ Y, Y = X2.alloc (.cells #[.int .u32 (uo : Int)] 38) := ⟨_, rfl⟩
                    obtain ⟨nB, hnB⟩ : ∃ n, n = X2.heap.size := ⟨_, rfl⟩
                    have HNBX3 : Hid (X3.heap[nB]? = some (.cells #[.int .u32 (uo : Int)] 38 (0, 0)) ∧ V.heap.size ≤ nB) := by rw [hX3, hnB]; exact ⟨heap_alloc_new _ _, HX2.out.o.size⟩
                    have HX3 : Hid _ := HX2.out.alloc (.cells #[.int .u32 (uo : Int)] 38)
                    rw [← hX3] at HX3 ⊢
                    rw [← hnB]
                    clear hX3 hnB
                    refine hK.out _ _ (HCL.out X3 HX3.out.o).2.1 (fun hHeld => ?_)
                    clear hK
                    (try simp only [Act.put, List.setIfInBounds_toArray, List.set_cons_zero, List.set_cons_succ])
                    refine wpAnyH_ready (rs := [6]) (by kernel_rfl) (by simp) ?_
                    refine AllReadyH.cons rfl (fun K hK => ?_) AllReadyH.nil
                    have y := HCL.out X3 HX3.out.o
                    have y0 : X3.cell? ⟨lB, 1, none⟩ = some (.slice aO i kO) := cell_blk y.1
                    have yl := y.2.2
                    rw [if_pos (by rfl)]
                    go_simp
                    refine hK.out _ _ y.2.1 (fun hHeld => ?_)
                    clear hK y y0 yl
                    (try simp only [Act.put, List.setIfInBounds_toArray, List.set_cons_zero, List.set_cons_succ])
                    refine wpAnyH_take (i := 16) (oi := { dst := some 90, op := _, type := _, pos := _, after := _, guard := _ }) (v := .pointer (some ⟨lB, 0, none⟩)) rfl (by kernel_rfl) (by kernel_rfl) (by kernel_rfl) (fun _ _ _ h => h) (Or.inl ⟨by rfl, fun w hSw => by first | (go_simp; done) | go_simp⟩) (by assumption) ?_
                    (try simp only [Act.put, List.setIfInBounds_toArray, List.set_cons_zero, List.set_cons_succ])
                    refine wpAnyH_ready (rs := [15]) (by kernel_rfl) (by simp) ?_
                    refine AllReadyH.cons rfl (fun K hK => ?_) AllReadyH.nil
                    have yl := (HCL.out X3 HX3.out.o).2.2
                    refine step_B (by rfl) _ _ (by rfl) (lB + 1) (.slice aO i kO) i (oB.map u32V) (by rfl) HX3.out.b nB (.int .u32 (uo : Int)) (by rfl) HNBX3.out.1 rfl (by omega) (by omega) ?_
                    intro gB cB X4 hown hgrow
                    have HX4 : Hid _ := HX3.out.appB hgrow hown
                    clear hown hgrow yl
                    refine hK.out _ _ (HCL.out X4 HX4.out.o).2.1 (fun hHeld => ?_)
                    clear hK
                    (try simp only [Act.put, List.setIfInBounds_toArray, List.set_cons_zero, List.set_cons_succ])
                    have y := HCL.out X4 HX4.out.o
                    have y0 : X4.cell? ⟨lB, 0, none⟩ = some (.slice aN i kN) := cell_blk y.1
                    have yf : ∀ q, X4.frozen? ⟨lB, q, none⟩ = false := fun q => fz_blk y.1 q
                    have yl := y.2.2
                    have z := heap_setCell_at (k := 0) y.1 (.slice (some ⟨gA, 0, none⟩) (i + 1) cA)
                    have z1 : (X4.setCell ⟨lB, 0, none⟩ (.slice (some ⟨gA, 0, none⟩) (i + 1) cA)).cell? ⟨lB, 1, none⟩ = some (.slice aO i kO) := cell_blk z
                    have zf : ∀ q, (X4.setCell ⟨lB, 0, none⟩ (.slice (some ⟨gA, 0, none⟩) (i + 1) cA)).frozen? ⟨lB, q, none⟩ = false := fun q => fz_blk z q
                    have HQ1 : Hid _ := HHS.out X4 0 (.slice (some ⟨gA, 0, none⟩) (i + 1) cA) y.2.1
                    have HQ2 : Hid _ := HHS.out _ 1 (.slice (some ⟨gB, 0, none⟩) (i + 1) cB) HQ1.out
                    clear y z
                    refine wpAnyH_ready (rs := [17]) (by kernel_rfl) (by simp) ?_
                    refine AllReadyH.cons rfl (fun K hK => ?_) AllReadyH.nil
                    rw [if_pos (by rfl)]
                    go_simp
                    refine hK.out _ _ HQ1.out (fun hHeld => ?_)
                    clear hK
                    (try simp only [Act.put, List.setIfInBounds_toArray, List.set_cons_zero, List.set_cons_succ])
                    refine wpAnyH_take (i := 18) (oi := { dst := some 91, op := _, type := _, pos := _, after := _, guard := _ }) (v := .pointer (some ⟨lB, 1, none⟩)) rfl (by kernel_rfl) (by kernel_rfl) (by kernel_rfl) (fun _ _ _ h => h) (Or.inl ⟨by rfl, fun w hSw => by first | (go_simp; done) | go_simp⟩) (by assumption) ?_
                    (try simp only [Act.put, List.setIfInBounds_toArray, List.set_cons_zero, List.set_cons_succ])
                    refine wpAnyH_ready (rs := [19]) (by kernel_rfl) (by simp) ?_
                    refine AllReadyH.cons rfl (fun K hK => ?_) AllReadyH.nil
                    rw [if_pos (by rfl)]
                    go_simp
                    refine hK.out _ _ HQ2.out (fun hHeld => ?_)
                    clear hK
                    (try simp only [Act.put, List.setIfInBounds_toArray, List.set_cons_zero, List.set_cons_succ])
                    refine wpAnyH_done (by kernel_rfl) ?_ _
                    clear hHeld y0 yf yl z1 zf HQ1 HQ2
                    go_wp2_with fail
                    go_roundg (N2 - (i + 1))
                    case measure => omega
                    case rel =>
                      obtain ⟨r1, r2, r3, r4, r5, r6, r7, r8, r9, r10⟩ := HFIN.out _ _ _ _ _ HX4.out
                      exact ⟨i + 1, r1, r2, r3, r4, r5, _, rfl, rfl, by omega, by go_num, r6, r7, r8, r9, r10⟩
                · have y := HCL.out X1 HX1.out.o
                  have y0 : X1.cell? ⟨lB, 1, none⟩ = some (.slice aO i kO) := cell_blk y.1
                  have yl := y.2.2
                  rw [if_pos (by rfl)]
                  go_simp
                  refine hK.out _ _ y.2.1 (fun hHeld => ?_)
                  clear hK y y0 yl
                  (try simp only [Act.put, List.setIfInBounds_toArray, List.set_cons_zero, List.set_cons_succ])
                  refine wpAnyH_ready (rs := [4, 14]) (by kernel_rfl) (by simp) ?_
                  refine AllReadyH.cons rfl (fun K hK => ?_) (AllReadyH.cons rfl (fun K hK => ?_) AllReadyH.nil)
                  · have yl := (HCL.out X1 HX1.out.o).2.2
                    refine step_A (by rfl) _ _ (by rfl) (lB + 1) (.slice aN i kN) i vs (by rfl) HX1.out.a nA (.slice aW c kW) (by rfl) HNAX1.out.1 rfl (by omega) (by omega) ?_
                    intro gA cA X2 hown hgrow
                    have HX2 : Hid _ := HX1.out.appA hgrow hown
                    clear hown hgrow yl
                    refine hK.out _ _ (HCL.out X2 HX2.out.o).2.1 (fun hHeld => ?_)
                    clear hK
                    (try simp only [Act.put, List.setIfInBounds_toArray, List.set_cons_zero, List.set_cons_succ])
                    refine wpAnyH_take (i := 16) (oi := { dst := some 90, op := _, type := _, pos := _, after := _, guard := _ }) (v := .pointer (some ⟨lB, 0, none⟩)) rfl (by kernel_rfl) (by kernel_rfl) (by kernel_rfl) (fun _ _ _ h => h) (Or.inl ⟨by rfl, fun w hSw => by first | (go_simp; done) | go_simp⟩) (by assumption) ?_
                    (try simp only [Act.put, List.setIfInBounds_toArray, List.set_cons_zero, List.set_cons_succ])
                    refine wpAnyH_ready (rs := [14]) (by kernel_rfl) (by simp) ?_
                    refine AllReadyH.cons rfl (fun K hK => ?_) AllReadyH.nil
                    rw [if_pos (by rfl)]
                    go_simp
                    obtain ⟨X3, hX3⟩ : ∃ Y, Y = X2.alloc (.cells #[.int .u32 (uo : Int)] 38) := ⟨_, rfl⟩
                    obtain ⟨nB, hnB⟩ : ∃ n, n = X2.heap.size := ⟨_, rfl⟩
                    have HNBX3 : Hid (X3.heap[nB]? = some (.cells #[.int .u32 (uo : Int)] 38 (0, 0)) ∧ V.heap.size ≤ nB) := by rw [hX3, hnB]; exact ⟨heap_alloc_new _ _, HX2.out.o.size⟩
                    have HX3 : Hid _ := HX2.out.alloc (.cells #[.int .u32 (uo : Int)] 38)
                    rw [← hX3] at HX3 ⊢
                    rw [← hnB]
                    clear hX3 hnB
                    refine hK.out _ _ (HCL.out X3 HX3.out.o).2.1 (fun hHeld => ?_)
                    clear hK
                    (try simp only [Act.put, List.setIfInBounds_toArray, List.set_cons_zero, List.set_cons_succ])
                    refine wpAnyH_ready (rs := [15]) (by kernel_rfl) (by simp) ?_
                    refine AllReadyH.cons rfl (fun K hK => ?_) AllReadyH.nil
                    have yl := (HCL.out X3 HX3.out.o).2.2
                    refine step_B (by rfl) _ _ (by rfl) (lB + 1) (.slice aO i kO) i (oB.map u32V) (by rfl) HX3.out.b nB (.int .u32 (uo : Int)) (by rfl) HNBX3.out.1 rfl (by omega) (by omega) ?_
                    intro gB cB X4 hown hgrow
                    have HX4 : Hid _ := HX3.out.appB hgrow hown
                    clear hown hgrow yl
                    refine hK.out _ _ (HCL.out X4 HX4.out.o).2.1 (fun hHeld => ?_)
                    clear hK
                    (try simp only [Act.put, List.setIfInBounds_toArray, List.set_cons_zero, List.set_cons_succ])
                    have y := HCL.out X4 HX4.out.o
                    have y0 : X4.cell? ⟨lB, 0, none⟩ = some (.slice aN i kN) := cell_blk y.1
                    have yf : ∀ q, X4.frozen? ⟨lB, q, none⟩ = false := fun q => fz_blk y.1 q
                    have yl := y.2.2
                    have z := heap_setCell_at (k := 0) y.1 (.slice (some ⟨gA, 0, none⟩) (i + 1) cA)
                    have z1 : (X4.setCell ⟨lB, 0, none⟩ (.slice (some ⟨gA, 0, none⟩) (i + 1) cA)).cell? ⟨lB, 1, none⟩ = some (.slice aO i kO) := cell_blk z
                    have zf : ∀ q, (X4.setCell ⟨lB, 0, none⟩ (.slice (some ⟨gA, 0, none⟩) (i + 1) cA)).frozen? ⟨lB, q, none⟩ = false := fun q => fz_blk z q
                    have HQ1 : Hid _ := HHS.out X4 0 (.slice (some ⟨gA, 0, none⟩) (i + 1) cA) y.2.1
                    have HQ2 : Hid _ := HHS.out _ 1 (.slice (some ⟨gB, 0, none⟩) (i + 1) cB) HQ1.out
                    clear y z
                    refine wpAnyH_ready (rs := [17]) (by kernel_rfl) (by simp) ?_
                    refine AllReadyH.cons rfl (fun K hK => ?_) AllReadyH.nil
                    rw [if_pos (by rfl)]
                    go_simp
                    refine hK.out _ _ HQ1.out (fun hHeld => ?_)
                    clear hK
                    (try simp only [Act.put, List.setIfInBounds_toArray, List.set_cons_zero, List.set_cons_succ])
                    refine wpAnyH_take (i := 18) (oi := { dst := some 91, op := _, type := _, pos := _, after := _, guard := _ }) (v := .pointer (some ⟨lB, 1, none⟩)) rfl (by kernel_rfl) (by kernel_rfl) (by kernel_rfl) (fun _ _ _ h => h) (Or.inl ⟨by rfl, fun w hSw => by first | (go_simp; done) | go_simp⟩) (by assumption) ?_
                    (try simp only [Act.put, List.setIfInBounds_toArray, List.set_cons_zero, List.set_cons_succ])
                    refine wpAnyH_ready (rs := [19]) (by kernel_rfl) (by simp) ?_
                    refine AllReadyH.cons rfl (fun K hK => ?_) AllReadyH.nil
                    rw [if_pos (by rfl)]
                    go_simp
                    refine hK.out _ _ HQ2.out (fun hHeld => ?_)
                    clear hK
                    (try simp only [Act.put, List.setIfInBounds_toArray, List.set_cons_zero, List.set_cons_succ])
                    refine wpAnyH_done (by kernel_rfl) ?_ _
                    clear hHeld y0 yf yl z1 zf HQ1 HQ2
                    go_wp2_with fail
                    go_roundg (N2 - (i + 1))
                    case measure => omega
                    case rel =>
                      obtain ⟨r1, r2, r3, r4, r5, r6, r7, r8, r9, r10⟩ := HFIN.out _ _ _ _ _ HX4.out
                      exact ⟨i + 1, r1, r2, r3, r4, r5, _, rfl, rfl, by omega, by go_num, r6, r7, r8, r9, r10⟩
                  · rw [if_pos (by rfl)]
                    go_simp
                    obtain ⟨X2, hX2⟩ : ∃ Y, Y = X1.alloc (.cells #[.int .u32 (uo : Int)] 38) := ⟨_, rfl⟩
                    obtain ⟨nB, hnB⟩ : ∃ n, n = X1.heap.size := ⟨_, rfl⟩
                    have HNBX2 : Hid (X2.heap[nB]? = some (.cells #[.int .u32 (uo : Int)] 38 (0, 0)) ∧ V.heap.size ≤ nB) := by rw [hX2, hnB]; exact ⟨heap_alloc_new _ _, HX1.out.o.size⟩
                    have HX2 : Hid _ := HX1.out.alloc (.cells #[.int .u32 (uo : Int)] 38)
                    have HNAX2 : Hid (X2.heap[nA]? = some (.cells #[.slice aW c kW] 23 (0, 0)) ∧ V.heap.size ≤ nA) := by rw [hX2]; exact ⟨blk_alloc _ HNAX1.out.1, HNAX1.out.2⟩
                    rw [← hX2] at HX2 ⊢
                    rw [← hnB]
                    clear hX2 hnB
                    refine hK.out _ _ (HCL.out X2 HX2.out.o).2.1 (fun hHeld => ?_)
                    clear hK
                    (try simp only [Act.put, List.setIfInBounds_toArray, List.set_cons_zero, List.set_cons_succ])
                    refine wpAnyH_ready (rs := [4]) (by kernel_rfl) (by simp) ?_
                    refine AllReadyH.cons rfl (fun K hK => ?_) AllReadyH.nil
                    have yl := (HCL.out X2 HX2.out.o).2.2
                    refine step_A (by rfl) _ _ (by rfl) (lB + 1) (.slice aN i kN) i vs (by rfl) HX2.out.a nA (.slice aW c kW) (by rfl) HNAX2.out.1 rfl (by omega) (by omega) ?_
                    intro gA cA X3 hown hgrow
                    have HNBX3 : Hid (X3.heap[nB]? = some (.cells #[.int .u32 (uo : Int)] 38 (0, 0)) ∧ V.heap.size ≤ nB) := ⟨blk_grow HNBX2.out.1 HX2.out.a hgrow (fun e => by have h1 := own_lt HOLD.out.nx e; have h2 := HNBX2.out.2; omega), HNBX2.out.2⟩
                    have HX3 : Hid _ := HX2.out.appA hgrow hown
                    clear hown hgrow yl
                    refine hK.out _ _ (HCL.out X3 HX3.out.o).2.1 (fun hHeld => ?_)
                    clear hK
                    (try simp only [Act.put, List.setIfInBounds_toArray, List.set_cons_zero, List.set_cons_succ])
                    refine wpAnyH_take (i := 16) (oi := { dst := some 90, op := _, type := _, pos := _, after := _, guard := _ }) (v := .pointer (some ⟨lB, 0, none⟩)) rfl (by kernel_rfl) (by kernel_rfl) (by kernel_rfl) (fun _ _ _ h => h) (Or.inl ⟨by rfl, fun w hSw => by first | (go_simp; done) | go_simp⟩) (by assumption) ?_
                    (try simp only [Act.put, List.setIfInBounds_toArray, List.set_cons_zero, List.set_cons_succ])
                    refine wpAnyH_ready (rs := [15]) (by kernel_rfl) (by simp) ?_
                    refine AllReadyH.cons rfl (fun K hK => ?_) AllReadyH.nil
                    have yl := (HCL.out X3 HX3.out.o).2.2
                    refine step_B (by rfl) _ _ (by rfl) (lB + 1) (.slice aO i kO) i (oB.map u32V) (by rfl) HX3.out.b nB (.int .u32 (uo : Int)) (by rfl) HNBX3.out.1 rfl (by omega) (by omega) ?_
                    intro gB cB X4 hown hgrow
                    have HX4 : Hid _ := HX3.out.appB hgrow hown
                    clear hown hgrow yl
                    refine hK.out _ _ (HCL.out X4 HX4.out.o).2.1 (fun hHeld => ?_)
                    clear hK
                    (try simp only [Act.put, List.setIfInBounds_toArray, List.set_cons_zero, List.set_cons_succ])
                    have y := HCL.out X4 HX4.out.o
                    have y0 : X4.cell? ⟨lB, 0, none⟩ = some (.slice aN i kN) := cell_blk y.1
                    have yf : ∀ q, X4.frozen? ⟨lB, q, none⟩ = false := fun q => fz_blk y.1 q
                    have yl := y.2.2
                    have z := heap_setCell_at (k := 0) y.1 (.slice (some ⟨gA, 0, none⟩) (i + 1) cA)
                    have z1 : (X4.setCell ⟨lB, 0, none⟩ (.slice (some ⟨gA, 0, none⟩) (i + 1) cA)).cell? ⟨lB, 1, none⟩ = some (.slice aO i kO) := cell_blk z
                    have zf : ∀ q, (X4.setCell ⟨lB, 0, none⟩ (.slice (some ⟨gA, 0, none⟩) (i + 1) cA)).frozen? ⟨lB, q, none⟩ = false := fun q => fz_blk z q
                    have HQ1 : Hid _ := HHS.out X4 0 (.slice (some ⟨gA, 0, none⟩) (i + 1) cA) y.2.1
                    have HQ2 : Hid _ := HHS.out _ 1 (.slice (some ⟨gB, 0, none⟩) (i + 1) cB) HQ1.out
                    clear y z
                    refine wpAnyH_ready (rs := [17]) (by kernel_rfl) (by simp) ?_
                    refine AllReadyH.cons rfl (fun K hK => ?_) AllReadyH.nil
                    rw [if_pos (by rfl)]
                    go_simp
                    refine hK.out _ _ HQ1.out (fun hHeld => ?_)
                    clear hK
                    (try simp only [Act.put, List.setIfInBounds_toArray, List.set_cons_zero, List.set_cons_succ])
                    refine wpAnyH_take (i := 18) (oi := { dst := some 91, op := _, type := _, pos := _, after := _, guard := _ }) (v := .pointer (some ⟨lB, 1, none⟩)) rfl (by kernel_rfl) (by kernel_rfl) (by kernel_rfl) (fun _ _ _ h => h) (Or.inl ⟨by rfl, fun w hSw => by first | (go_simp; done) | go_simp⟩) (by assumption) ?_
                    (try simp only [Act.put, List.setIfInBounds_toArray, List.set_cons_zero, List.set_cons_succ])
                    refine wpAnyH_ready (rs := [19]) (by kernel_rfl) (by simp) ?_
                    refine AllReadyH.cons rfl (fun K hK => ?_) AllReadyH.nil
                    rw [if_pos (by rfl)]
                    go_simp
                    refine hK.out _ _ HQ2.out (fun hHeld => ?_)
                    clear hK
                    (try simp only [Act.put, List.setIfInBounds_toArray, List.set_cons_zero, List.set_cons_succ])
                    refine wpAnyH_done (by kernel_rfl) ?_ _
                    clear hHeld y0 yf yl z1 zf HQ1 HQ2
                    go_wp2_with fail
                    go_roundg (N2 - (i + 1))
                    case measure => omega
                    case rel =>
                      obtain ⟨r1, r2, r3, r4, r5, r6, r7, r8, r9, r10⟩ := HFIN.out _ _ _ _ _ HX4.out
                      exact ⟨i + 1, r1, r2, r3, r4, r5, _, rfl, rfl, by omega, by go_num, r6, r7, r8, r9, r10⟩
                · rw [if_pos (by rfl)]
                  go_simp
                  obtain ⟨X2, hX2⟩ : ∃ Y, Y = X1.alloc (.cells #[.int .u32 (uo : Int)] 38) := ⟨_, rfl⟩
                  obtain ⟨nB, hnB⟩ : ∃ n, n = X1.heap.size := ⟨_, rfl⟩
                  have HNBX2 : Hid (X2.heap[nB]? = some (.cells #[.int .u32 (uo : Int)] 38 (0, 0)) ∧ V.heap.size ≤ nB) := by rw [hX2, hnB]; exact ⟨heap_alloc_new _ _, HX1.out.o.size⟩
                  have HX2 : Hid _ := HX1.out.alloc (.cells #[.int .u32 (uo : Int)] 38)
                  have HNAX2 : Hid (X2.heap[nA]? = some (.cells #[.slice aW c kW] 23 (0, 0)) ∧ V.heap.size ≤ nA) := by rw [hX2]; exact ⟨blk_alloc _ HNAX1.out.1, HNAX1.out.2⟩
                  rw [← hX2] at HX2 ⊢
                  rw [← hnB]
                  clear hX2 hnB
                  refine hK.out _ _ (HCL.out X2 HX2.out.o).2.1 (fun hHeld => ?_)
                  clear hK
                  (try simp only [Act.put, List.setIfInBounds_toArray, List.set_cons_zero, List.set_cons_succ])
                  refine wpAnyH_ready (rs := [4, 6]) (by kernel_rfl) (by simp) ?_
                  refine AllReadyH.cons rfl (fun K hK => ?_) (AllReadyH.cons rfl (fun K hK => ?_) AllReadyH.nil)
                  · have yl := (HCL.out X2 HX2.out.o).2.2
                    refine step_A (by rfl) _ _ (by rfl) (lB + 1) (.slice aN i kN) i vs (by rfl) HX2.out.a nA (.slice aW c kW) (by rfl) HNAX2.out.1 rfl (by omega) (by omega) ?_
                    intro gA cA X3 hown hgrow
                    have HNBX3 : Hid (X3.heap[nB]? = some (.cells #[.int .u32 (uo : Int)] 38 (0, 0)) ∧ V.heap.size ≤ nB) := ⟨blk_grow HNBX2.out.1 HX2.out.a hgrow (fun e => by have h1 := own_lt HOLD.out.nx e; have h2 := HNBX2.out.2; omega), HNBX2.out.2⟩
                    have HX3 : Hid _ := HX2.out.appA hgrow hown
                    clear hown hgrow yl
                    refine hK.out _ _ (HCL.out X3 HX3.out.o).2.1 (fun hHeld => ?_)
                    clear hK
                    (try simp only [Act.put, List.setIfInBounds_toArray, List.set_cons_zero, List.set_cons_succ])
                    refine wpAnyH_ready (rs := [6]) (by kernel_rfl) (by simp) ?_
                    refine AllReadyH.cons rfl (fun K hK => ?_) AllReadyH.nil
                    have y := HCL.out X3 HX3.out.o
                    have y0 : X3.cell? ⟨lB, 1, none⟩ = some (.slice aO i kO) := cell_blk y.1
                    have yl := y.2.2
                    rw [if_pos (by rfl)]
                    go_simp
                    refine hK.out _ _ y.2.1 (fun hHeld => ?_)
                    clear hK y y0 yl
                    (try simp only [Act.put, List.setIfInBounds_toArray, List.set_cons_zero, List.set_cons_succ])
                    refine wpAnyH_take (i := 16) (oi := { dst := some 90, op := _, type := _, pos := _, after := _, guard := _ }) (v := .pointer (some ⟨lB, 0, none⟩)) rfl (by kernel_rfl) (by kernel_rfl) (by kernel_rfl) (fun _ _ _ h => h) (Or.inl ⟨by rfl, fun w hSw => by first | (go_simp; done) | go_simp⟩) (by assumption) ?_
                    (try simp only [Act.put, List.setIfInBounds_toArray, List.set_cons_zero, List.set_cons_succ])
                    refine wpAnyH_ready (rs := [15]) (by kernel_rfl) (by simp) ?_
                    refine AllReadyH.cons rfl (fun K hK => ?_) AllReadyH.nil
                    have yl := (HCL.out X3 HX3.out.o).2.2
                    refine step_B (by rfl) _ _ (by rfl) (lB + 1) (.slice aO i kO) i (oB.map u32V) (by rfl) HX3.out.b nB (.int .u32 (uo : Int)) (by rfl) HNBX3.out.1 rfl (by omega) (by omega) ?_
                    intro gB cB X4 hown hgrow
                    have HX4 : Hid _ := HX3.out.appB hgrow hown
                    clear hown hgrow yl
                    refine hK.out _ _ (HCL.out X4 HX4.out.o).2.1 (fun hHeld => ?_)
                    clear hK
                    (try simp only [Act.put, List.setIfInBounds_toArray, List.set_cons_zero, List.set_cons_succ])
                    have y := HCL.out X4 HX4.out.o
                    have y0 : X4.cell? ⟨lB, 0, none⟩ = some (.slice aN i kN) := cell_blk y.1
                    have yf : ∀ q, X4.frozen? ⟨lB, q, none⟩ = false := fun q => fz_blk y.1 q
                    have yl := y.2.2
                    have z := heap_setCell_at (k := 0) y.1 (.slice (some ⟨gA, 0, none⟩) (i + 1) cA)
                    have z1 : (X4.setCell ⟨lB, 0, none⟩ (.slice (some ⟨gA, 0, none⟩) (i + 1) cA)).cell? ⟨lB, 1, none⟩ = some (.slice aO i kO) := cell_blk z
                    have zf : ∀ q, (X4.setCell ⟨lB, 0, none⟩ (.slice (some ⟨gA, 0, none⟩) (i + 1) cA)).frozen? ⟨lB, q, none⟩ = false := fun q => fz_blk z q
                    have HQ1 : Hid _ := HHS.out X4 0 (.slice (some ⟨gA, 0, none⟩) (i + 1) cA) y.2.1
                    have HQ2 : Hid _ := HHS.out _ 1 (.slice (some ⟨gB, 0, none⟩) (i + 1) cB) HQ1.out
                    clear y z
                    refine wpAnyH_ready (rs := [17]) (by kernel_rfl) (by simp) ?_
                    refine AllReadyH.cons rfl (fun K hK => ?_) AllReadyH.nil
                    rw [if_pos (by rfl)]
                    go_simp
                    refine hK.out _ _ HQ1.out (fun hHeld => ?_)
                    clear hK
                    (try simp only [Act.put, List.setIfInBounds_toArray, List.set_cons_zero, List.set_cons_succ])
                    refine wpAnyH_take (i := 18) (oi := { dst := some 91, op := _, type := _, pos := _, after := _, guard := _ }) (v := .pointer (some ⟨lB, 1, none⟩)) rfl (by kernel_rfl) (by kernel_rfl) (by kernel_rfl) (fun _ _ _ h => h) (Or.inl ⟨by rfl, fun w hSw => by first | (go_simp; done) | go_simp⟩) (by assumption) ?_
                    (try simp only [Act.put, List.setIfInBounds_toArray, List.set_cons_zero, List.set_cons_succ])
                    refine wpAnyH_ready (rs := [19]) (by kernel_rfl) (by simp) ?_
                    refine AllReadyH.cons rfl (fun K hK => ?_) AllReadyH.nil
                    rw [if_pos (by rfl)]
                    go_simp
                    refine hK.out _ _ HQ2.out (fun hHeld => ?_)
                    clear hK
                    (try simp only [Act.put, List.setIfInBounds_toArray, List.set_cons_zero, List.set_cons_succ])
                    refine wpAnyH_done (by kernel_rfl) ?_ _
                    clear hHeld y0 yf yl z1 zf HQ1 HQ2
                    go_wp2_with fail
                    go_roundg (N2 - (i + 1))
                    case measure => omega
                    case rel =>
                      obtain ⟨r1, r2, r3, r4, r5, r6, r7, r8, r9, r10⟩ := HFIN.out _ _ _ _ _ HX4.out
                      exact ⟨i + 1, r1, r2, r3, r4, r5, _, rfl, rfl, by omega, by go_num, r6, r7, r8, r9, r10⟩
                  · have y := HCL.out X2 HX2.out.o
                    have y0 : X2.cell? ⟨lB, 1, none⟩ = some (.slice aO i kO) := cell_blk y.1
                    have yl := y.2.2
                    rw [if_pos (by rfl)]
                    go_simp
                    refine hK.out _ _ y.2.1 (fun hHeld => ?_)
                    clear hK y y0 yl
                    (try simp only [Act.put, List.setIfInBounds_toArray, List.set_cons_zero, List.set_cons_succ])
                    refine wpAnyH_ready (rs := [4]) (by kernel_rfl) (by simp) ?_
                    refine AllReadyH.cons rfl (fun K hK => ?_) AllReadyH.nil
                    have yl := (HCL.out X2 HX2.out.o).2.2
                    refine step_A (by rfl) _ _ (by rfl) (lB + 1) (.slice aN i kN) i vs (by rfl) HX2.out.a nA (.slice aW c kW) (by rfl) HNAX2.out.1 rfl (by omega) (by omega) ?_
                    intro gA cA X3 hown hgrow
                    have HNBX3 : Hid (X3.heap[nB]? = some (.cells #[.int .u32 (uo : Int)] 38 (0, 0)) ∧ V.heap.size ≤ nB) := ⟨blk_grow HNBX2.out.1 HX2.out.a hgrow (fun e => by have h1 := own_lt HOLD.out.nx e; have h2 := HNBX2.out.2; omega), HNBX2.out.2⟩
                    have HX3 : Hid _ := HX2.out.appA hgrow hown
                    clear hown hgrow yl
                    refine hK.out _ _ (HCL.out X3 HX3.out.o).2.1 (fun hHeld => ?_)
                    clear hK
                    (try simp only [Act.put, List.setIfInBounds_toArray, List.set_cons_zero, List.set_cons_succ])
                    refine wpAnyH_take (i := 16) (oi := { dst := some 90, op := _, type := _, pos := _, after := _, guard := _ }) (v := .pointer (some ⟨lB, 0, none⟩)) rfl (by kernel_rfl) (by kernel_rfl) (by kernel_rfl) (fun _ _ _ h => h) (Or.inl ⟨by rfl, fun w hSw => by first | (go_simp; done) | go_simp⟩) (by assumption) ?_
                    (try simp only [Act.put, List.setIfInBounds_toArray, List.set_cons_zero, List.set_cons_succ])
                    refine wpAnyH_ready (rs := [15]) (by kernel_rfl) (by simp) ?_
                    refine AllReadyH.cons rfl (fun K hK => ?_) AllReadyH.nil
                    have yl := (HCL.out X3 HX3.out.o).2.2
                    refine step_B (by rfl) _ _ (by rfl) (lB + 1) (.slice aO i kO) i (oB.map u32V) (by rfl) HX3.out.b nB (.int .u32 (uo : Int)) (by rfl) HNBX3.out.1 rfl (by omega) (by omega) ?_
                    intro gB cB X4 hown hgrow
                    have HX4 : Hid _ := HX3.out.appB hgrow hown
                    clear hown hgrow yl
                    refine hK.out _ _ (HCL.out X4 HX4.out.o).2.1 (fun hHeld => ?_)
                    clear hK
                    (try simp only [Act.put, List.setIfInBounds_toArray, List.set_cons_zero, List.set_cons_succ])
                    have y := HCL.out X4 HX4.out.o
                    have y0 : X4.cell? ⟨lB, 0, none⟩ = some (.slice aN i kN) := cell_blk y.1
                    have yf : ∀ q, X4.frozen? ⟨lB, q, none⟩ = false := fun q => fz_blk y.1 q
                    have yl := y.2.2
                    have z := heap_setCell_at (k := 0) y.1 (.slice (some ⟨gA, 0, none⟩) (i + 1) cA)
                    have z1 : (X4.setCell ⟨lB, 0, none⟩ (.slice (some ⟨gA, 0, none⟩) (i + 1) cA)).cell? ⟨lB, 1, none⟩ = some (.slice aO i kO) := cell_blk z
                    have zf : ∀ q, (X4.setCell ⟨lB, 0, none⟩ (.slice (some ⟨gA, 0, none⟩) (i + 1) cA)).frozen? ⟨lB, q, none⟩ = false := fun q => fz_blk z q
                    have HQ1 : Hid _ := HHS.out X4 0 (.slice (some ⟨gA, 0, none⟩) (i + 1) cA) y.2.1
                    have HQ2 : Hid _ := HHS.out _ 1 (.slice (some ⟨gB, 0, none⟩) (i + 1) cB) HQ1.out
                    clear y z
                    refine wpAnyH_ready (rs := [17]) (by kernel_rfl) (by simp) ?_
                    refine AllReadyH.cons rfl (fun K hK => ?_) AllReadyH.nil
                    rw [if_pos (by rfl)]
                    go_simp
                    refine hK.out _ _ HQ1.out (fun hHeld => ?_)
                    clear hK
                    (try simp only [Act.put, List.setIfInBounds_toArray, List.set_cons_zero, List.set_cons_succ])
                    refine wpAnyH_take (i := 18) (oi := { dst := some 91, op := _, type := _, pos := _, after := _, guard := _ }) (v := .pointer (some ⟨lB, 1, none⟩)) rfl (by kernel_rfl) (by kernel_rfl) (by kernel_rfl) (fun _ _ _ h => h) (Or.inl ⟨by rfl, fun w hSw => by first | (go_simp; done) | go_simp⟩) (by assumption) ?_
                    (try simp only [Act.put, List.setIfInBounds_toArray, List.set_cons_zero, List.set_cons_succ])
                    refine wpAnyH_ready (rs := [19]) (by kernel_rfl) (by simp) ?_
                    refine AllReadyH.cons rfl (fun K hK => ?_) AllReadyH.nil
                    rw [if_pos (by rfl)]
                    go_simp
                    refine hK.out _ _ HQ2.out (fun hHeld => ?_)
                    clear hK
                    (try simp only [Act.put, List.setIfInBounds_toArray, List.set_cons_zero, List.set_cons_succ])
                    refine wpAnyH_done (by kernel_rfl) ?_ _
                    clear hHeld y0 yf yl z1 zf HQ1 HQ2
                    go_wp2_with fail
                    go_roundg (N2 - (i + 1))
                    case measure => omega
                    case rel =>
                      obtain ⟨r1, r2, r3, r4, r5, r6, r7, r8, r9, r10⟩ := HFIN.out _ _ _ _ _ HX4.out
                      exact ⟨i + 1, r1, r2, r3, r4, r5, _, rfl, rfl, by omega, by go_num, r6, r7, r8, r9, r10⟩
              · have y := HCL.out X0 HX0.out.o
                have y0 : X0.cell? ⟨lB, 1, none⟩ = some (.slice aO i kO) := cell_blk y.1
                have yl := y.2.2
                rw [if_pos (by rfl)]
                go_simp
                refine hK.out _ _ y.2.1 (fun hHeld => ?_)
                clear hK y y0 yl
                (try simp only [Act.put, List.setIfInBounds_toArray, List.set_cons_zero, List.set_cons_succ])
                refine wpAnyH_ready (rs := [3, 14]) (by kernel_rfl) (by simp) ?_
                refine AllReadyH.cons rfl (fun K hK => ?_) (AllReadyH.cons rfl (fun K hK => ?_) AllReadyH.nil)
                · rw [if_pos (by rfl)]
                  go_simp
                  obtain ⟨X1, hX1⟩ : ∃ Y, Y = X0.alloc (.cells #[.slice aW c kW] 23) := ⟨_, rfl⟩
                  obtain ⟨nA, hnA⟩ : ∃ n, n = X0.heap.size := ⟨_, rfl⟩
                  have HNAX1 : Hid (X1.heap[nA]? = some (.cells #[.slice aW c kW] 23 (0, 0)) ∧ V.heap.size ≤ nA) := by rw [hX1, hnA]; exact ⟨heap_alloc_new _ _, HX0.out.o.size⟩
                  have HX1 : Hid _ := HX0.out.alloc (.cells #[.slice aW c kW] 23)
                  rw [← hX1] at HX1 ⊢
                  rw [← hnA]
                  clear hX1 hnA
                  refine hK.out _ _ (HCL.out X1 HX1.out.o).2.1 (fun hHeld => ?_)
                  clear hK
                  (try simp only [Act.put, List.setIfInBounds_toArray, List.set_cons_zero, List.set_cons_succ])
                  refine wpAnyH_ready (rs := [4, 14]) (by kernel_rfl) (by simp) ?_
                  refine AllReadyH.cons rfl (fun K hK => ?_) (AllReadyH.cons rfl (fun K hK => ?_) AllReadyH.nil)
                  · have yl := (HCL.out X1 HX1.out.o).2.2
                    refine step_A (by rfl) _ _ (by rfl) (lB + 1) (.slice aN i kN) i vs (by rfl) HX1.out.a nA (.slice aW c kW) (by rfl) HNAX1.out.1 rfl (by omega) (by omega) ?_
                    intro gA cA X2 hown hgrow
                    have HX2 : Hid _ := HX1.out.appA hgrow hown
                    clear hown hgrow yl
                    refine hK.out _ _ (HCL.out X2 HX2.out.o).2.1 (fun hHeld => ?_)
                    clear hK
                    (try simp only [Act.put, List.setIfInBounds_toArray, List.set_cons_zero, List.set_cons_succ])
                    refine wpAnyH_take (i := 16) (oi := { dst := some 90, op := _, type := _, pos := _, after := _, guard := _ }) (v := .pointer (some ⟨lB, 0, none⟩)) rfl (by kernel_rfl) (by kernel_rfl) (by kernel_rfl) (fun _ _ _ h => h) (Or.inl ⟨by rfl, fun w hSw => by first | (go_simp; done) | go_simp⟩) (by assumption) ?_
                    (try simp only [Act.put, List.setIfInBounds_toArray, List.set_cons_zero, List.set_cons_succ])
                    refine wpAnyH_ready (rs := [14]) (by kernel_rfl) (by simp) ?_
                    refine AllReadyH.cons rfl (fun K hK => ?_) AllReadyH.nil
                    rw [if_pos (by rfl)]
                    go_simp
                    obtain ⟨X3, hX3⟩ : ∃ Y, Y = X2.alloc (.cells #[.int .u32 (uo : Int)] 38) := ⟨_, rfl⟩
                    obtain ⟨nB, hnB⟩ : ∃ n, n = X2.heap.size := ⟨_, rfl⟩
                    have HNBX3 : Hid (X3.heap[nB]? = some (.cells #[.int .u32 (uo : Int)] 38 (0, 0)) ∧ V.heap.size ≤ nB) := by rw [hX3, hnB]; exact ⟨heap_alloc_new _ _, HX2.out.o.size⟩
                    have HX3 : Hid _ := HX2.out.alloc (.cells #[.int .u32 (uo : Int)] 38)
                    rw [← hX3] at HX3 ⊢
                    rw [← hnB]
                    clear hX3 hnB
                    refine hK.out _ _ (HCL.out X3 HX3.out.o).2.1 (fun hHeld => ?_)
                    clear hK
                    (try simp only [Act.put, List.setIfInBounds_toArray, List.set_cons_zero, List.set_cons_succ])
                    refine wpAnyH_ready (rs := [15]) (by kernel_rfl) (by simp) ?_
                    refine AllReadyH.cons rfl (fun K hK => ?_) AllReadyH.nil
                    have yl := (HCL.out X3 HX3.out.o).2.2
                    refine step_B (by rfl) _ _ (by rfl) (lB + 1) (.slice aO i kO) i (oB.map u32V) (by rfl) HX3.out.b nB (.int .u32 (uo : Int)) (by rfl) HNBX3.out.1 rfl (by omega) (by omega) ?_
                    intro gB cB X4 hown hgrow
                    have HX4 : Hid _ := HX3.out.appB hgrow hown
                    clear hown hgrow yl
                    refine hK.out _ _ (HCL.out X4 HX4.out.o).2.1 (fun hHeld => ?_)
                    clear hK
                    (try simp only [Act.put, List.setIfInBounds_toArray, List.set_cons_zero, List.set_cons_succ])
                    have y := HCL.out X4 HX4.out.o
                    have y0 : X4.cell? ⟨lB, 0, none⟩ = some (.slice aN i kN) := cell_blk y.1
                    have yf : ∀ q, X4.frozen? ⟨lB, q, none⟩ = false := fun q => fz_blk y.1 q
                    have yl := y.2.2
                    have z := heap_setCell_at (k := 0) y.1 (.slice (some ⟨gA, 0, none⟩) (i + 1) cA)
                    have z1 : (X4.setCell ⟨lB, 0, none⟩ (.slice (some ⟨gA, 0, none⟩) (i + 1) cA)).cell? ⟨lB, 1, none⟩ = some (.slice aO i kO) := cell_blk z
                    have zf : ∀ q, (X4.setCell ⟨lB, 0, none⟩ (.slice (some ⟨gA, 0, none⟩) (i + 1) cA)).frozen? ⟨lB, q, none⟩ = false := fun q => fz_blk z q
                    have HQ1 : Hid _ := HHS.out X4 0 (.slice (some ⟨gA, 0, none⟩) (i + 1) cA) y.2.1
                    have HQ2 : Hid _ := HHS.out _ 1 (.slice (some ⟨gB, 0, none⟩) (i + 1) cB) HQ1.out
                    clear y z
                    refine wpAnyH_ready (rs := [17]) (by kernel_rfl) (by simp) ?_
                    refine AllReadyH.cons rfl (fun K hK => ?_) AllReadyH.nil
                    rw [if_pos (by rfl)]
                    go_simp
                    refine hK.out _ _ HQ1.out (fun hHeld => ?_)
                    clear hK
                    (try simp only [Act.put, List.setIfInBounds_toArray, List.set_cons_zero, List.set_cons_succ])
                    refine wpAnyH_take (i := 18) (oi := { dst := some 91, op := _, type := _, pos := _, after := _, guard := _ }) (v := .pointer (some ⟨lB, 1, none⟩)) rfl (by kernel_rfl) (by kernel_rfl) (by kernel_rfl) (fun _ _ _ h => h) (Or.inl ⟨by rfl, fun w hSw => by first | (go_simp; done) | go_simp⟩) (by assumption) ?_
                    (try simp only [Act.put, List.setIfInBounds_toArray, List.set_cons_zero, List.set_cons_succ])
                    refine wpAnyH_ready (rs := [19]) (by kernel_rfl) (by simp) ?_
                    refine AllReadyH.cons rfl (fun K hK => ?_) AllReadyH.nil
                    rw [if_pos (by rfl)]
                    go_simp
                    refine hK.out _ _ HQ2.out (fun hHeld => ?_)
                    clear hK
                    (try simp only [Act.put, List.setIfInBounds_toArray, List.set_cons_zero, List.set_cons_succ])
                    refine wpAnyH_done (by kernel_rfl) ?_ _
                    clear hHeld y0 yf yl z1 zf HQ1 HQ2
                    go_wp2_with fail
                    go_roundg (N2 - (i + 1))
                    case measure => omega
                    case rel =>
                      obtain ⟨r1, r2, r3, r4, r5, r6, r7, r8, r9, r10⟩ := HFIN.out _ _ _ _ _ HX4.out
                      exact ⟨i + 1, r1, r2, r3, r4, r5, _, rfl, rfl, by omega, by go_num, r6, r7, r8, r9, r10⟩
                  · rw [if_pos (by rfl)]
                    go_simp
                    obtain ⟨X2, hX2⟩ : ∃ Y, Y = X1.alloc (.cells #[.int .u32 (uo : Int)] 38) := ⟨_, rfl⟩
                    obtain ⟨nB, hnB⟩ : ∃ n, n = X1.heap.size := ⟨_, rfl⟩
                    have HNBX2 : Hid (X2.heap[nB]? = some (.cells #[.int .u32 (uo : Int)] 38 (0, 0)) ∧ V.heap.size ≤ nB) := by rw [hX2, hnB]; exact ⟨heap_alloc_new _ _, HX1.out.o.size⟩
                    have HX2 : Hid _ := HX1.out.alloc (.cells #[.int .u32 (uo : Int)] 38)
                    have HNAX2 : Hid (X2.heap[nA]? = some (.cells #[.slice aW c kW] 23 (0, 0)) ∧ V.heap.size ≤ nA) := by rw [hX2]; exact ⟨blk_alloc _ HNAX1.out.1, HNAX1.out.2⟩
                    rw [← hX2] at HX2 ⊢
                    rw [← hnB]
                    clear hX2 hnB
                    refine hK.out _ _ (HCL.out X2 HX2.out.o).2.1 (fun hHeld => ?_)
                    clear hK
                    (try simp only [Act.put, List.setIfInBounds_toArray, List.set_cons_zero, List.set_cons_succ])
                    refine wpAnyH_ready (rs := [4]) (by kernel_rfl) (by simp) ?_
                    refine AllReadyH.cons rfl (fun K hK => ?_) AllReadyH.nil
                    have yl := (HCL.out X2 HX2.out.o).2.2
                    refine step_A (by rfl) _ _ (by rfl) (lB + 1) (.slice aN i kN) i vs (by rfl) HX2.out.a nA (.slice aW c kW) (by rfl) HNAX2.out.1 rfl (by omega) (by omega) ?_
                    intro gA cA X3 hown hgrow
                    have HNBX3 : Hid (X3.heap[nB]? = some (.cells #[.int .u32 (uo : Int)] 38 (0, 0)) ∧ V.heap.size ≤ nB) := ⟨blk_grow HNBX2.out.1 HX2.out.a hgrow (fun e => by have h1 := own_lt HOLD.out.nx e; have h2 := HNBX2.out.2; omega), HNBX2.out.2⟩
                    have HX3 : Hid _ := HX2.out.appA hgrow hown
                    clear hown hgrow yl
                    refine hK.out _ _ (HCL.out X3 HX3.out.o).2.1 (fun hHeld => ?_)
                    clear hK
                    (try simp only [Act.put, List.setIfInBounds_toArray, List.set_cons_zero, List.set_cons_succ])
                    refine wpAnyH_take (i := 16) (oi := { dst := some 90, op := _, type := _, pos := _, after := _, guard := _ }) (v := .pointer (some ⟨lB, 0, none⟩)) rfl (by kernel_rfl) (by kernel_rfl) (by kernel_rfl) (fun _ _ _ h => h) (Or.inl ⟨by rfl, fun w hSw => by first | (go_simp; done) | go_simp⟩) (by assumption) ?_
                    (try simp only [Act.put, List.setIfInBounds_toArray, List.set_cons_zero, List.set_cons_succ])
                    refine wpAnyH_ready (rs := [15]) (by kernel_rfl) (by simp) ?_
                    refine AllReadyH.cons rfl (fun K hK => ?_) AllReadyH.nil
                    have yl := (HCL.out X3 HX3.out.o).2.2
                    refine step_B (by rfl) _ _ (by rfl) (lB + 1) (.slice aO i kO) i (oB.map u32V) (by rfl) HX3.out.b nB (.int .u32 (uo : Int)) (by rfl) HNBX3.out.1 rfl (by omega) (by omega) ?_
                    intro gB cB X4 hown hgrow
                    have HX4 : Hid _ := HX3.out.appB hgrow hown
                    clear hown hgrow yl
                    refine hK.out _ _ (HCL.out X4 HX4.out.o).2.1 (fun hHeld => ?_)
                    clear hK
                    (try simp only [Act.put, List.setIfInBounds_toArray, List.set_cons_zero, List.set_cons_succ])
                    have y := HCL.out X4 HX4.out.o
                    have y0 : X4.cell? ⟨lB, 0, none⟩ = some (.slice aN i kN) := cell_blk y.1
                    have yf : ∀ q, X4.frozen? ⟨lB, q, none⟩ = false := fun q => fz_blk y.1 q
                    have yl := y.2.2
                    have z := heap_setCell_at (k := 0) y.1 (.slice (some ⟨gA, 0, none⟩) (i + 1) cA)
                    have z1 : (X4.setCell ⟨lB, 0, none⟩ (.slice (some ⟨gA, 0, none⟩) (i + 1) cA)).cell? ⟨lB, 1, none⟩ = some (.slice aO i kO) := cell_blk z
                    have zf : ∀ q, (X4.setCell ⟨lB, 0, none⟩ (.slice (some ⟨gA, 0, none⟩) (i + 1) cA)).frozen? ⟨lB, q, none⟩ = false := fun q => fz_blk z q
                    have HQ1 : Hid _ := HHS.out X4 0 (.slice (some ⟨gA, 0, none⟩) (i + 1) cA) y.2.1
                    have HQ2 : Hid _ := HHS.out _ 1 (.slice (some ⟨gB, 0, none⟩) (i + 1) cB) HQ1.out
                    clear y z
                    refine wpAnyH_ready (rs := [17]) (by kernel_rfl) (by simp) ?_
                    refine AllReadyH.cons rfl (fun K hK => ?_) AllReadyH.nil
                    rw [if_pos (by rfl)]
                    go_simp
                    refine hK.out _ _ HQ1.out (fun hHeld => ?_)
                    clear hK
                    (try simp only [Act.put, List.setIfInBounds_toArray, List.set_cons_zero, List.set_cons_succ])
                    refine wpAnyH_take (i := 18) (oi := { dst := some 91, op := _, type := _, pos := _, after := _, guard := _ }) (v := .pointer (some ⟨lB, 1, none⟩)) rfl (by kernel_rfl) (by kernel_rfl) (by kernel_rfl) (fun _ _ _ h => h) (Or.inl ⟨by rfl, fun w hSw => by first | (go_simp; done) | go_simp⟩) (by assumption) ?_
                    (try simp only [Act.put, List.setIfInBounds_toArray, List.set_cons_zero, List.set_cons_succ])
                    refine wpAnyH_ready (rs := [19]) (by kernel_rfl) (by simp) ?_
                    refine AllReadyH.cons rfl (fun K hK => ?_) AllReadyH.nil
                    rw [if_pos (by rfl)]
                    go_simp
                    refine hK.out _ _ HQ2.out (fun hHeld => ?_)
                    clear hK
                    (try simp only [Act.put, List.setIfInBounds_toArray, List.set_cons_zero, List.set_cons_succ])
                    refine wpAnyH_done (by kernel_rfl) ?_ _
                    clear hHeld y0 yf yl z1 zf HQ1 HQ2
                    go_wp2_with fail
                    go_roundg (N2 - (i + 1))
                    case measure => omega
                    case rel =>
                      obtain ⟨r1, r2, r3, r4, r5, r6, r7, r8, r9, r10⟩ := HFIN.out _ _ _ _ _ HX4.out
                      exact ⟨i + 1, r1, r2, r3, r4, r5, _, rfl, rfl, by omega, by go_num, r6, r7, r8, r9, r10⟩
                · rw [if_pos (by rfl)]
                  go_simp
                  obtain ⟨X1, hX1⟩ : ∃ Y, Y = X0.alloc (.cells #[.int .u32 (uo : Int)] 38) := ⟨_, rfl⟩
                  obtain ⟨nB, hnB⟩ : ∃ n, n = X0.heap.size := ⟨_, rfl⟩
                  have HNBX1 : Hid (X1.heap[nB]? = some (.cells #[.int .u32 (uo : Int)] 38 (0, 0)) ∧ V.heap.size ≤ nB) := by rw [hX1, hnB]; exact ⟨heap_alloc_new _ _, HX0.out.o.size⟩
                  have HX1 : Hid _ := HX0.out.alloc (.cells #[.int .u32 (uo : Int)] 38)
                  rw [← hX1] at HX1 ⊢
                  rw [← hnB]
                  clear hX1 hnB
                  refine hK.out _ _ (HCL.out X1 HX1.out.o).2.1 (fun hHeld => ?_)
                  clear hK
                  (try simp only [Act.put, List.setIfInBounds_toArray, List.set_cons_zero, List.set_cons_succ])
                  refine wpAnyH_ready (rs := [3]) (by kernel_rfl) (by simp) ?_
                  refine AllReadyH.cons rfl (fun K hK => ?_) AllReadyH.nil
                  rw [if_pos (by rfl)]
                  go_simp
                  obtain ⟨X2, hX2⟩ : ∃ Y, Y = X1.alloc (.cells #[.slice aW c kW] 23) := ⟨_, rfl⟩
                  obtain ⟨nA, hnA⟩ : ∃ n, n = X1.heap.size := ⟨_, rfl⟩
                  have HNAX2 : Hid (X2.heap[nA]? = some (.cells #[.slice aW c kW] 23 (0, 0)) ∧ V.heap.size ≤ nA) := by rw [hX2, hnA]; exact ⟨heap_alloc_new _ _, HX1.out.o.size⟩
                  have HX2 : Hid _ := HX1.out.alloc (.cells #[.slice aW c kW] 23)
                  have HNBX2 : Hid (X2.heap[nB]? = some (.cells #[.int .u32 (uo : Int)] 38 (0, 0)) ∧ V.heap.size ≤ nB) := by rw [hX2]; exact ⟨blk_alloc _ HNBX1.out.1, HNBX1.out.2⟩
                  rw [← hX2] at HX2 ⊢
                  rw [← hnA]
                  clear hX2 hnA
                  refine hK.out _ _ (HCL.out X2 HX2.out.o).2.1 (fun hHeld => ?_)
                  clear hK
                  (try simp only [Act.put, List.setIfInBounds_toArray, List.set_cons_zero, List.set_cons_succ])
                  refine wpAnyH_ready (rs := [4]) (by kernel_rfl) (by simp) ?_
                  refine AllReadyH.cons rfl (fun K hK => ?_) AllReadyH.nil
                  have yl := (HCL.out X2 HX2.out.o).2.2
                  refine step_A (by rfl) _ _ (by rfl) (lB + 1) (.slice aN i kN) i vs (by rfl) HX2.out.a nA (.slice aW c kW) (by rfl) HNAX2.out.1 rfl (by omega) (by omega) ?_
                  intro gA cA X3 hown hgrow
                  have HNBX3 : Hid (X3.heap[nB]? = some (.cells #[.int .u32 (uo : Int)] 38 (0, 0)) ∧ V.heap.size ≤ nB) := ⟨blk_grow HNBX2.out.1 HX2.out.a hgrow (fun e => by have h1 := own_lt HOLD.out.nx e; have h2 := HNBX2.out.2; omega), HNBX2.out.2⟩
                  have HX3 : Hid _ := HX2.out.appA hgrow hown
                  clear hown hgrow yl
                  refine hK.out _ _ (HCL.out X3 HX3.out.o).2.1 (fun hHeld => ?_)
                  clear hK
                  (try simp only [Act.put, List.setIfInBounds_toArray, List.set_cons_zero, List.set_cons_succ])
                  refine wpAnyH_take (i := 16) (oi := { dst := some 90, op := _, type := _, pos := _, after := _, guard := _ }) (v := .pointer (some ⟨lB, 0, none⟩)) rfl (by kernel_rfl) (by kernel_rfl) (by kernel_rfl) (fun _ _ _ h => h) (Or.inl ⟨by rfl, fun w hSw => by first | (go_simp; done) | go_simp⟩) (by assumption) ?_
                  (try simp only [Act.put, List.setIfInBounds_toArray, List.set_cons_zero, List.set_cons_succ])
                  refine wpAnyH_ready (rs := [15]) (by kernel_rfl) (by simp) ?_
                  refine AllReadyH.cons rfl (fun K hK => ?_) AllReadyH.nil
                  have yl := (HCL.out X3 HX3.out.o).2.2
                  refine step_B (by rfl) _ _ (by rfl) (lB + 1) (.slice aO i kO) i (oB.map u32V) (by rfl) HX3.out.b nB (.int .u32 (uo : Int)) (by rfl) HNBX3.out.1 rfl (by omega) (by omega) ?_
                  intro gB cB X4 hown hgrow
                  have HX4 : Hid _ := HX3.out.appB hgrow hown
                  clear hown hgrow yl
                  refine hK.out _ _ (HCL.out X4 HX4.out.o).2.1 (fun hHeld => ?_)
                  clear hK
                  (try simp only [Act.put, List.setIfInBounds_toArray, List.set_cons_zero, List.set_cons_succ])
                  have y := HCL.out X4 HX4.out.o
                  have y0 : X4.cell? ⟨lB, 0, none⟩ = some (.slice aN i kN) := cell_blk y.1
                  have yf : ∀ q, X4.frozen? ⟨lB, q, none⟩ = false := fun q => fz_blk y.1 q
                  have yl := y.2.2
                  have z := heap_setCell_at (k := 0) y.1 (.slice (some ⟨gA, 0, none⟩) (i + 1) cA)
                  have z1 : (X4.setCell ⟨lB, 0, none⟩ (.slice (some ⟨gA, 0, none⟩) (i + 1) cA)).cell? ⟨lB, 1, none⟩ = some (.slice aO i kO) := cell_blk z
                  have zf : ∀ q, (X4.setCell ⟨lB, 0, none⟩ (.slice (some ⟨gA, 0, none⟩) (i + 1) cA)).frozen? ⟨lB, q, none⟩ = false := fun q => fz_blk z q
                  have HQ1 : Hid _ := HHS.out X4 0 (.slice (some ⟨gA, 0, none⟩) (i + 1) cA) y.2.1
                  have HQ2 : Hid _ := HHS.out _ 1 (.slice (some ⟨gB, 0, none⟩) (i + 1) cB) HQ1.out
                  clear y z
                  refine wpAnyH_ready (rs := [17]) (by kernel_rfl) (by simp) ?_
                  refine AllReadyH.cons rfl (fun K hK => ?_) AllReadyH.nil
                  rw [if_pos (by rfl)]
                  go_simp
                  refine hK.out _ _ HQ1.out (fun hHeld => ?_)
                  clear hK
                  (try simp only [Act.put, List.setIfInBounds_toArray, List.set_cons_zero, List.set_cons_succ])
                  refine wpAnyH_take (i := 18) (oi := { dst := some 91, op := _, type := _, pos := _, after := _, guard := _ }) (v := .pointer (some ⟨lB, 1, none⟩)) rfl (by kernel_rfl) (by kernel_rfl) (by kernel_rfl) (fun _ _ _ h => h) (Or.inl ⟨by rfl, fun w hSw => by first | (go_simp; done) | go_simp⟩) (by assumption) ?_
                  (try simp only [Act.put, List.setIfInBounds_toArray, List.set_cons_zero, List.set_cons_succ])
                  refine wpAnyH_ready (rs := [19]) (by kernel_rfl) (by simp) ?_
                  refine AllReadyH.cons rfl (fun K hK => ?_) AllReadyH.nil
                  rw [if_pos (by rfl)]
                  go_simp
                  refine hK.out _ _ HQ2.out (fun hHeld => ?_)
                  clear hK
                  (try simp only [Act.put, List.setIfInBounds_toArray, List.set_cons_zero, List.set_cons_succ])
                  refine wpAnyH_done (by kernel_rfl) ?_ _
                  clear hHeld y0 yf yl z1 zf HQ1 HQ2
                  go_wp2_with fail
                  go_roundg (N2 - (i + 1))
                  case measure => omega
                  case rel =>
                    obtain ⟨r1, r2, r3, r4, r5, r6, r7, r8, r9, r10⟩ := HFIN.out _ _ _ _ _ HX4.out
                    exact ⟨i + 1, r1, r2, r3, r4, r5, _, rfl, rfl, by omega, by go_num, r6, r7, r8, r9, r10⟩
              · rw [if_pos (by rfl)]
                go_simp
                obtain ⟨X1, hX1⟩ : ∃ Y, Y = X0.alloc (.cells #[.int .u32 (uo : Int)] 38) := ⟨_, rfl⟩
                obtain ⟨nB, hnB⟩ : ∃ n, n = X0.heap.size := ⟨_, rfl⟩
                have HNBX1 : Hid (X1.heap[nB]? = some (.cells #[.int .u32 (uo : Int)] 38 (0, 0)) ∧ V.heap.size ≤ nB) := by rw [hX1, hnB]; exact ⟨heap_alloc_new _ _, HX0.out.o.size⟩
                have HX1 : Hid _ := HX0.out.alloc (.cells #[.int .u32 (uo : Int)] 38)
                rw [← hX1] at HX1 ⊢
                rw [← hnB]
                clear hX1 hnB
                refine hK.out _ _ (HCL.out X1 HX1.out.o).2.1 (fun hHeld => ?_)
                clear hK
                (try simp only [Act.put, List.setIfInBounds_toArray, List.set_cons_zero, List.set_cons_succ])
                refine wpAnyH_ready (rs := [3, 6]) (by kernel_rfl) (by simp) ?_
                refine AllReadyH.cons rfl (fun K hK => ?_) (AllReadyH.cons rfl (fun K hK => ?_) AllReadyH.nil)
                · rw [if_pos (by rfl)]
                  go_simp
                  obtain ⟨X2, hX2⟩ : ∃ Y, Y = X1.alloc (.cells #[.slice aW c kW] 23) := ⟨_, rfl⟩
                  obtain ⟨nA, hnA⟩ : ∃ n, n = X1.heap.size := ⟨_, rfl⟩
                  have HNAX2 : Hid (X2.heap[nA]? = some (.cells #[.slice aW c kW] 23 (0, 0)) ∧ V.heap.size ≤ nA) := by rw [hX2, hnA]; exact ⟨heap_alloc_new _ _, HX1.out.o.size⟩
                  have HX2 : Hid _ := HX1.out.alloc (.cells #[.slice aW c kW] 23)
                  have HNBX2 : Hid (X2.heap[nB]? = some (.cells #[.int .u32 (uo : Int)] 38 (0, 0)) ∧ V.heap.size ≤ nB) := by rw [hX2]; exact ⟨blk_alloc _ HNBX1.out.1, HNBX1.out.2⟩
                  rw [← hX2] at HX2 ⊢
                  rw [← hnA]
                  clear hX2 hnA
                  refine hK.out _ _ (HCL.out X2 HX2.out.o).2.1 (fun hHeld => ?_)
                  clear hK
                  (try simp only [Act.put, List.setIfInBounds_toArray, List.set_cons_zero, List.set_cons_succ])
                  refine wpAnyH_ready (rs := [4, 6]) (by kernel_rfl) (by simp) ?_
                  refine AllReadyH.cons rfl (fun K hK => ?_) (AllReadyH.cons rfl (fun K hK => ?_) AllReadyH.nil)
                  · have yl := (HCL.out X2 HX2.out.o).2.2
                    refine step_A (by rfl) _ _ (by rfl) (lB + 1) (.slice aN i kN) i vs (by rfl) HX2.out.a nA (.slice aW c kW) (by rfl) HNAX2.out.1 rfl (by omega) (by omega) ?_
                    intro gA cA X3 hown hgrow
                    have HNBX3 : Hid (X3.heap[nB]? = some (.cells #[.int .u32 (uo : Int)] 38 (0, 0)) ∧ V.heap.size ≤ nB) := ⟨blk_grow HNBX2.out.1 HX2.out.a hgrow (fun e => by have h1 := own_lt HOLD.out.nx e; have h2 := HNBX2.out.2; omega), HNBX2.out.2⟩
                    have HX3 : Hid _ := HX2.out.appA hgrow hown
                    clear hown hgrow yl
                    refine hK.out _ _ (HCL.out X3 HX3.out.o).2.1 (fun hHeld => ?_)
                    clear hK
                    (try simp only [Act.put, List.setIfInBounds_toArray, List.set_cons_zero, List.set_cons_succ])
                    refine wpAnyH_ready (rs := [6]) (by kernel_rfl) (by simp) ?_
                    refine AllReadyH.cons rfl (fun K hK => ?_) AllReadyH.nil
                    have y := HCL.out X3 HX3.out.o
                    have y0 : X3.cell? ⟨lB, 1, none⟩ = some (.slice aO i kO) := cell_blk y.1
                    have yl := y.2.2
                    rw [if_pos (by rfl)]
                    go_simp
                    refine hK.out _ _ y.2.1 (fun hHeld => ?_)
                    clear hK y y0 yl
                    (try simp only [Act.put, List.setIfInBounds_toArray, List.set_cons_zero, List.set_cons_succ])
                    refine wpAnyH_take (i := 16) (oi := { dst := some 90, op := _, type := _, pos := _, after := _, guard := _ }) (v := .pointer (some ⟨lB, 0, none⟩)) rfl (by kernel_rfl) (by kernel_rfl) (by kernel_rfl) (fun _ _ _ h => h) (Or.inl ⟨by rfl, fun w hSw => by first | (go_simp; done) | go_simp⟩) (by assumption) ?_
                    (try simp only [Act.put, List.setIfInBounds_toArray, List.set_cons_zero, List.set_cons_succ])
                    refine wpAnyH_ready (rs := [15]) (by kernel_rfl) (by simp) ?_
                    refine AllReadyH.cons rfl (fun K hK => ?_) AllReadyH.nil
                    have yl := (HCL.out X3 HX3.out.o).2.2
                    refine step_B (by rfl) _ _ (by rfl) (lB + 1) (.slice aO i kO) i (oB.map u32V) (by rfl) HX3.out.b nB (.int .u32 (uo : Int)) (by rfl) HNBX3.out.1 rfl (by omega) (by omega) ?_
                    intro gB cB X4 hown hgrow
                    have HX4 : Hid _ := HX3.out.appB hgrow hown
                    clear hown hgrow yl
                    refine hK.out _ _ (HCL.out X4 HX4.out.o).2.1 (fun hHeld => ?_)
                    clear hK
                    (try simp only [Act.put, List.setIfInBounds_toArray, List.set_cons_zero, List.set_cons_succ])
                    have y := HCL.out X4 HX4.out.o
                    have y0 : X4.cell? ⟨lB, 0, none⟩ = some (.slice aN i kN) := cell_blk y.1
                    have yf : ∀ q, X4.frozen? ⟨lB, q, none⟩ = false := fun q => fz_blk y.1 q
                    have yl := y.2.2
                    have z := heap_setCell_at (k := 0) y.1 (.slice (some ⟨gA, 0, none⟩) (i + 1) cA)
                    have z1 : (X4.setCell ⟨lB, 0, none⟩ (.slice (some ⟨gA, 0, none⟩) (i + 1) cA)).cell? ⟨lB, 1, none⟩ = some (.slice aO i kO) := cell_blk z
                    have zf : ∀ q, (X4.setCell ⟨lB, 0, none⟩ (.slice (some ⟨gA, 0, none⟩) (i + 1) cA)).frozen? ⟨lB, q, none⟩ = false := fun q => fz_blk z q
                    have HQ1 : Hid _ := HHS.out X4 0 (.slice (some ⟨gA, 0, none⟩) (i + 1) cA) y.2.1
                    have HQ2 : Hid _ := HHS.out _ 1 (.slice (some ⟨gB, 0, none⟩) (i + 1) cB) HQ1.out
                    clear y z
                    refine wpAnyH_ready (rs := [17]) (by kernel_rfl) (by simp) ?_
                    refine AllReadyH.cons rfl (fun K hK => ?_) AllReadyH.nil
                    rw [if_pos (by rfl)]
                    go_simp
                    refine hK.out _ _ HQ1.out (fun hHeld => ?_)
                    clear hK
                    (try simp only [Act.put, List.setIfInBounds_toArray, List.set_cons_zero, List.set_cons_succ])
                    refine wpAnyH_take (i := 18) (oi := { dst := some 91, op := _, type := _, pos := _, after := _, guard := _ }) (v := .pointer (some ⟨lB, 1, none⟩)) rfl (by kernel_rfl) (by kernel_rfl) (by kernel_rfl) (fun _ _ _ h => h) (Or.inl ⟨by rfl, fun w hSw => by first | (go_simp; done) | go_simp⟩) (by assumption) ?_
                    (try simp only [Act.put, List.setIfInBounds_toArray, List.set_cons_zero, List.set_cons_succ])
                    refine wpAnyH_ready (rs := [19]) (by kernel_rfl) (by simp) ?_
                    refine AllReadyH.cons rfl (fun K hK => ?_) AllReadyH.nil
                    rw [if_pos (by rfl)]
                    go_simp
                    refine hK.out _ _ HQ2.out (fun hHeld => ?_)
                    clear hK
                    (try simp only [Act.put, List.setIfInBounds_toArray, List.set_cons_zero, List.set_cons_succ])
                    refine wpAnyH_done (by kernel_rfl) ?_ _
                    clear hHeld y0 yf yl z1 zf HQ1 HQ2
                    go_wp2_with fail
                    go_roundg (N2 - (i + 1))
                    case measure => omega
                    case rel =>
                      obtain ⟨r1, r2, r3, r4, r5, r6, r7, r8, r9, r10⟩ := HFIN.out _ _ _ _ _ HX4.out
                      exact ⟨i + 1, r1, r2, r3, r4, r5, _, rfl, rfl, by omega, by go_num, r6, r7, r8, r9, r10⟩
                  · have y := HCL.out X2 HX2.out.o
                    have y0 : X2.cell? ⟨lB, 1, none⟩ = some (.slice aO i kO) := cell_blk y.1
                    have yl := y.2.2
                    rw [if_pos (by rfl)]
                    go_simp
                    refine hK.out _ _ y.2.1 (fun hHeld => ?_)
                    clear hK y y0 yl
                    (try simp only [Act.put, List.setIfInBounds_toArray, List.set_cons_zero, List.set_cons_succ])
                    refine wpAnyH_ready (rs := [4]) (by kernel_rfl) (by simp) ?_
                    refine AllReadyH.cons rfl (fun K hK => ?_) AllReadyH.nil
                    have yl := (HCL.out X2 HX2.out.o).2.2
                    refine step_A (by rfl) _ _ (by rfl) (lB + 1) (.slice aN i kN) i vs (by rfl) HX2.out.a nA (.slice aW c kW) (by rfl) HNAX2.out.1 rfl (by omega) (by omega) ?_
                    intro gA cA X3 hown hgrow
                    have HNBX3 : Hid (X3.heap[nB]? = some (.cells #[.int .u32 (uo : Int)] 38 (0, 0)) ∧ V.heap.size ≤ nB) := ⟨blk_grow HNBX2.out.1 HX2.out.a hgrow (fun e => by have h1 := own_lt HOLD.out.nx e; have h2 := HNBX2.out.2; omega), HNBX2.out.2⟩
                    have HX3 : Hid _ := HX2.out.appA hgrow hown
                    clear hown hgrow yl
                    refine hK.out _ _ (HCL.out X3 HX3.out.o).2.1 (fun hHeld => ?_)
                    clear hK
                    (try simp only [Act.put, List.setIfInBounds_toArray, List.set_cons_zero, List.set_cons_succ])
                    refine wpAnyH_take (i := 16) (oi := { dst := some 90, op := _, type := _, pos := _, after := _, guard := _ }) (v := .pointer (some ⟨lB, 0, none⟩)) rfl (by kernel_rfl) (by kernel_rfl) (by kernel_rfl) (fun _ _ _ h => h) (Or.inl ⟨by rfl, fun w hSw => by first | (go_simp; done) | go_simp⟩) (by assumption) ?_
                    (try simp only [Act.put, List.setIfInBounds_toArray, List.set_cons_zero, List.set_cons_succ])
                    refine wpAnyH_ready (rs := [15]) (by kernel_rfl) (by simp) ?_
                    refine AllReadyH.cons rfl (fun K hK => ?_) AllReadyH.nil
                    have yl := (HCL.out X3 HX3.out.o).2.2
                    refine step_B (by rfl) _ _ (by rfl) (lB + 1) (.slice aO i kO) i (oB.map u32V) (by rfl) HX3.out.b nB (.int .u32 (uo : Int)) (by rfl) HNBX3.out.1 rfl (by omega) (by omega) ?_
                    intro gB cB X4 hown hgrow
                    have HX4 : Hid _ := HX3.out.appB hgrow hown
                    clear hown hgrow yl
                    refine hK.out _ _ (HCL.out X4 HX4.out.o).2.1 (fun hHeld => ?_)
                    clear hK
                    (try simp only [Act.put, List.setIfInBounds_toArray, List.set_cons_zero, List.set_cons_succ])
                    have y := HCL.out X4 HX4.out.o
                    have y0 : X4.cell? ⟨lB, 0, none⟩ = some (.slice aN i kN) := cell_blk y.1
                    have yf : ∀ q, X4.frozen? ⟨lB, q, none⟩ = false := fun q => fz_blk y.1 q
                    have yl := y.2.2
                    have z := heap_setCell_at (k := 0) y.1 (.slice (some ⟨gA, 0, none⟩) (i + 1) cA)
                    have z1 : (X4.setCell ⟨lB, 0, none⟩ (.slice (some ⟨gA, 0, none⟩) (i + 1) cA)).cell? ⟨lB, 1, none⟩ = some (.slice aO i kO) := cell_blk z
                    have zf : ∀ q, (X4.setCell ⟨lB, 0, none⟩ (.slice (some ⟨gA, 0, none⟩) (i + 1) cA)).frozen? ⟨lB, q, none⟩ = false := fun q => fz_blk z q
                    have HQ1 : Hid _ := HHS.out X4 0 (.slice (some ⟨gA, 0, none⟩) (i + 1) cA) y.2.1
                    have HQ2 : Hid _ := HHS.out _ 1 (.slice (some ⟨gB, 0, none⟩) (i + 1) cB) HQ1.out
                    clear y z
                    refine wpAnyH_ready (rs := [17]) (by kernel_rfl) (by simp) ?_
                    refine AllReadyH.cons rfl (fun K hK => ?_) AllReadyH.nil
                    rw [if_pos (by rfl)]
                    go_simp
                    refine hK.out _ _ HQ1.out (fun hHeld => ?_)
                    clear hK
                    (try simp only [Act.put, List.setIfInBounds_toArray, List.set_cons_zero, List.set_cons_succ])
                    refine wpAnyH_take (i := 18) (oi := { dst := some 91, op := _, type := _, pos := _, after := _, guard := _ }) (v := .pointer (some ⟨lB, 1, none⟩)) rfl (by kernel_rfl) (by kernel_rfl) (by kernel_rfl) (fun _ _ _ h => h) (Or.inl ⟨by rfl, fun w hSw => by first | (go_simp; done) | go_simp⟩) (by assumption) ?_
                    (try simp only [Act.put, List.setIfInBounds_toArray, List.set_cons_zero, List.set_cons_succ])
                    refine wpAnyH_ready (rs := [19]) (by kernel_rfl) (by simp) ?_
                    refine AllReadyH.cons rfl (fun K hK => ?_) AllReadyH.nil
                    rw [if_pos (by rfl)]
                    go_simp
                    refine hK.out _ _ HQ2.out (fun hHeld => ?_)
                    clear hK
                    (try simp only [Act.put, List.setIfInBounds_toArray, List.set_cons_zero, List.set_cons_succ])
                    refine wpAnyH_done (by kernel_rfl) ?_ _
                    clear hHeld y0 yf yl z1 zf HQ1 HQ2
                    go_wp2_with fail
                    go_roundg (N2 - (i + 1))
                    case measure => omega
                    case rel =>
                      obtain ⟨r1, r2, r3, r4, r5, r6, r7, r8, r9, r10⟩ := HFIN.out _ _ _ _ _ HX4.out
                      exact ⟨i + 1, r1, r2, r3, r4, r5, _, rfl, rfl, by omega, by go_num, r6, r7, r8, r9, r10⟩
                · have y := HCL.out X1 HX1.out.o
                  have y0 : X1.cell? ⟨lB, 1, none⟩ = some (.slice aO i kO) := cell_blk y.1
                  have yl := y.2.2
                  rw [if_pos (by rfl)]
                  go_simp
                  refine hK.out _ _ y.2.1 (fun hHeld => ?_)
                  clear hK y y0 yl
                  (try simp only [Act.put, List.setIfInBounds_toArray, List.set_cons_zero, List.set_cons_succ])
                  refine wpAnyH_ready (rs := [3]) (by kernel_rfl) (by simp) ?_
                  refine AllReadyH.cons rfl (fun K hK => ?_) AllReadyH.nil
                  rw [if_pos (by rfl)]
                  go_simp
                  obtain ⟨X2, hX2⟩ : ∃ Y, Y = X1.alloc (.cells #[.slice aW c kW] 23) := ⟨_, rfl⟩
                  obtain ⟨nA, hnA⟩ : ∃ n, n = X1.heap.size := ⟨_, rfl⟩
                  have HNAX2 : Hid (X2.heap[nA]? = some (.cells #[.slice aW c kW] 23 (0, 0)) ∧ V.heap.size ≤ nA) := by rw [hX2, hnA]; exact ⟨heap_alloc_new _ _, HX1.out.o.size⟩
                  have HX2 : Hid _ := HX1.out.alloc (.cells #[.slice aW c kW] 23)
                  have HNBX2 : Hid (X2.heap[nB]? = some (.cells #[.int .u32 (uo : Int)] 38 (0, 0)) ∧ V.heap.size ≤ nB) := by rw [hX2]; exact ⟨blk_alloc _ HNBX1.out.1, HNBX1.out.2⟩
                  rw [← hX2] at HX2 ⊢
                  rw [← hnA]
                  clear hX2 hnA
                  refine hK.out _ _ (HCL.out X2 HX2.out.o).2.1 (fun hHeld => ?_)
                  clear hK
                  (try simp only [Act.put, List.setIfInBounds_toArray, List.set_cons_zero, List.set_cons_succ])
                  refine wpAnyH_ready (rs := [4]) (by kernel_rfl) (by simp) ?_
                  refine AllReadyH.cons rfl (fun K hK => ?_) AllReadyH.nil
                  have yl := (HCL.out X2 HX2.out.o).2.2
                  refine step_A (by rfl) _ _ (by rfl) (lB + 1) (.slice aN i kN) i vs (by rfl) HX2.out.a nA (.slice aW c kW) (by rfl) HNAX2.out.1 rfl (by omega) (by omega) ?_
                  intro gA cA X3 hown hgrow
                  have HNBX3 : Hid (X3.heap[nB]? = some (.cells #[.int .u32 (uo : Int)] 38 (0, 0)) ∧ V.heap.size ≤ nB) := ⟨blk_grow HNBX2.out.1 HX2.out.a hgrow (fun e => by have h1 := own_lt HOLD.out.nx e; have h2 := HNBX2.out.2; omega), HNBX2.out.2⟩
                  have HX3 : Hid _ := HX2.out.appA hgrow hown
                  clear hown hgrow yl
                  refine hK.out _ _ (HCL.out X3 HX3.out.o).2.1 (fun hHeld => ?_)
                  clear hK
                  (try simp only [Act.put, List.setIfInBounds_toArray, List.set_cons_zero, List.set_cons_succ])
                  refine wpAnyH_take (i := 16) (oi := { dst := some 90, op := _, type := _, pos := _, after := _, guard := _ }) (v := .pointer (some ⟨lB, 0, none⟩)) rfl (by kernel_rfl) (by kernel_rfl) (by kernel_rfl) (fun _ _ _ h => h) (Or.inl ⟨by rfl, fun w hSw => by first | (go_simp; done) | go_simp⟩) (by assumption) ?_
                  (try simp only [Act.put, List.setIfInBounds_toArray, List.set_cons_zero, List.set_cons_succ])
                  refine wpAnyH_ready (rs := [15]) (by kernel_rfl) (by simp) ?_
                  refine AllReadyH.cons rfl (fun K hK => ?_) AllReadyH.nil
                  have yl := (HCL.out X3 HX3.out.o).2.2
                  refine step_B (by rfl) _ _ (by rfl) (lB + 1) (.slice aO i kO) i (oB.map u32V) (by rfl) HX3.out.b nB (.int .u32 (uo : Int)) (by rfl) HNBX3.out.1 rfl (by omega) (by omega) ?_
                  intro gB cB X4 hown hgrow
                  have HX4 : Hid _ := HX3.out.appB hgrow hown
                  clear hown hgrow yl
                  refine hK.out _ _ (HCL.out X4 HX4.out.o).2.1 (fun hHeld => ?_)
                  clear hK
                  (try simp only [Act.put, List.setIfInBounds_toArray, List.set_cons_zero, List.set_cons_succ])
                  have y := HCL.out X4 HX4.out.o
                  have y0 : X4.cell? ⟨lB, 0, none⟩ = some (.slice aN i kN) := cell_blk y.1
                  have yf : ∀ q, X4.frozen? ⟨lB, q, none⟩ = false := fun q => fz_blk y.1 q
                  have yl := y.2.2
                  have z := heap_setCell_at (k := 0) y.1 (.slice (some ⟨gA, 0, none⟩) (i + 1) cA)
                  have z1 : (X4.setCell ⟨lB, 0, none⟩ (.slice (some ⟨gA, 0, none⟩) (i + 1) cA)).cell? ⟨lB, 1, none⟩ = some (.slice aO i kO) := cell_blk z
                  have zf : ∀ q, (X4.setCell ⟨lB, 0, none⟩ (.slice (some ⟨gA, 0, none⟩) (i + 1) cA)).frozen? ⟨lB, q, none⟩ = false := fun q => fz_blk z q
                  have HQ1 : Hid _ := HHS.out X4 0 (.slice (some ⟨gA, 0, none⟩) (i + 1) cA) y.2.1
                  have HQ2 : Hid _ := HHS.out _ 1 (.slice (some ⟨gB, 0, none⟩) (i + 1) cB) HQ1.out
                  clear y z
                  refine wpAnyH_ready (rs := [17]) (by kernel_rfl) (by simp) ?_
                  refine AllReadyH.cons rfl (fun K hK => ?_) AllReadyH.nil
                  rw [if_pos (by rfl)]
                  go_simp
                  refine hK.out _ _ HQ1.out (fun hHeld => ?_)
                  clear hK
                  (try simp only [Act.put, List.setIfInBounds_toArray, List.set_cons_zero, List.set_cons_succ])
                  refine wpAnyH_take (i := 18) (oi := { dst := some 91, op := _, type := _, pos := _, after := _, guard := _ }) (v := .pointer (some ⟨lB, 1, none⟩)) rfl (by kernel_rfl) (by kernel_rfl) (by kernel_rfl) (fun _ _ _ h => h) (Or.inl ⟨by rfl, fun w hSw => by first | (go_simp; done) | go_simp⟩) (by assumption) ?_
                  (try simp only [Act.put, List.setIfInBounds_toArray, List.set_cons_zero, List.set_cons_succ])
                  refine wpAnyH_ready (rs := [19]) (by kernel_rfl) (by simp) ?_
                  refine AllReadyH.cons rfl (fun K hK => ?_) AllReadyH.nil
                  rw [if_pos (by rfl)]
                  go_simp
                  refine hK.out _ _ HQ2.out (fun hHeld => ?_)
                  clear hK
                  (try simp only [Act.put, List.setIfInBounds_toArray, List.set_cons_zero, List.set_cons_succ])
                  refine wpAnyH_done (by kernel_rfl) ?_ _
                  clear hHeld y0 yf yl z1 zf HQ1 HQ2
                  go_wp2_with fail
                  go_roundg (N2 - (i + 1))
                  case measure => omega
                  case rel =>
                    obtain ⟨r1, r2, r3, r4, r5, r6, r7, r8, r9, r10⟩ := HFIN.out _ _ _ _ _ HX4.out
                    exact ⟨i + 1, r1, r2, r3, r4, r5, _, rfl, rfl, by omega, by go_num, r6, r7, r8, r9, r10⟩
            · rw [if_pos (by rfl)]
              go_simp
              obtain ⟨X1, hX1⟩ : ∃ Y, Y = X0.alloc (.cells #[.slice aW c kW] 23) := ⟨_, rfl⟩
              obtain ⟨nA, hnA⟩ : ∃ n, n = X0.heap.size := ⟨_, rfl⟩
              have HNAX1 : Hid (X1.heap[nA]? = some (.cells #[.slice aW c kW] 23 (0, 0)) ∧ V.heap.size ≤ nA) := by rw [hX1, hnA]; exact ⟨heap_alloc_new _ _, HX0.out.o.size⟩
              have HX1 : Hid _ := HX0.out.alloc (.cells #[.slice aW c kW] 23)
              rw [← hX1] at HX1 ⊢
              rw [← hnA]
              clear hX1 hnA
              refine hK.out _ _ (HCL.out X1 HX1.out.o).2.1 (fun hHeld => ?_)
              clear hK
              (try simp only [Act.put, List.setIfInBounds_toArray, List.set_cons_zero, List.set_cons_succ])
              refine wpAnyH_ready (rs := [1, 6, 14]) (by kernel_rfl) (by simp) ?_
              refine AllReadyH.cons rfl (fun K hK => ?_) (AllReadyH.cons rfl (fun K hK => ?_) (AllReadyH.cons rfl (fun K hK => ?_) AllReadyH.nil))
              · have y := HCL.out X1 HX1.out.o
                have y0 : X1.cell? ⟨lB, 0, none⟩ = some (.slice aN i kN) := cell_blk y.1
                have yl := y.2.2
                rw [if_pos (by rfl)]
                go_simp
                refine hK.out _ _ y.2.1 (fun hHeld => ?_)
                clear hK y y0 yl
                (try simp only [Act.put, List.setIfInBounds_toArray, List.set_cons_zero, List.set_cons_succ])
                refine wpAnyH_ready (rs := [4, 6, 14]) (by kernel_rfl) (by simp) ?_
                refine AllReadyH.cons rfl (fun K hK => ?_) (AllReadyH.cons rfl (fun K hK => ?_) (AllReadyH.cons rfl (fun K hK => ?_) AllReadyH.nil))
                · have yl := (HCL.out X1 HX1.out.o).2.2
                  refine step_A (by rfl) _ _ (by rfl) (lB + 1) (.slice aN i kN) i vs (by rfl) HX1.out.a nA (.slice aW c kW) (by rfl) HNAX1.out.1 rfl (by omega) (by omega) ?_
                  intro gA cA X2 hown hgrow
                  have HX2 : Hid _ := HX1.out.appA hgrow hown
                  clear hown hgrow yl
                  refine hK.out _ _ (HCL.out X2 HX2.out.o).2.1 (fun hHeld => ?_)
                  clear hK
                  (try simp only [Act.put, List.setIfInBounds_toArray, List.set_cons_zero, List.set_cons_succ])
                  refine wpAnyH_ready (rs := [6, 14]) (by kernel_rfl) (by simp) ?_
                  refine AllReadyH.cons rfl (fun K hK => ?_) (AllReadyH.cons rfl (fun K hK => ?_) AllReadyH.nil)
                  · have y := HCL.out X2 HX2.out.o
                    have y0 : X2.cell? ⟨lB, 1, none⟩ = some (.slice aO i kO) := cell_blk y.1
                    have yl := y.2.2
                    rw [if_pos (by rfl)]
                    go_simp
                    refine hK.out _ _ y.2.1 (fun hHeld => ?_)
                    clear hK y y0 yl
                    (try simp only [Act.put, List.setIfInBounds_toArray, List.set_cons_zero, List.set_cons_succ])
                    refine wpAnyH_take (i := 16) (oi := { dst := some 90, op := _, type := _, pos := _, after := _, guard := _ }) (v := .pointer (some ⟨lB, 0, none⟩)) rfl (by kernel_rfl) (by kernel_rfl) (by kernel_rfl) (fun _ _ _ h => h) (Or.inl ⟨by rfl, fun w hSw => by first | (go_simp; done) | go_simp⟩) (by assumption) ?_
                    (try simp only [Act.put, List.setIfInBounds_toArray, List.set_cons_zero, List.set_cons_succ])
                    refine wpAnyH_ready (rs := [14]) (by kernel_rfl) (by simp) ?_
                    refine AllReadyH.cons rfl (fun K hK => ?_) AllReadyH.nil
                    rw [if_pos (by rfl)]
                    go_simp
                    obtain ⟨X3, hX3⟩ : ∃ Y, Y = X2.alloc (.cells #[.int .u32 (uo : Int)] 38) := ⟨_, rfl⟩
                    obtain ⟨nB, hnB⟩ : ∃ n, n = X2.heap.size := ⟨_, rfl⟩
                    have HNBX3 : Hid (X3.heap[nB]? = some (.cells #[.int .u32 (uo : Int)] 38 (0, 0)) ∧ V.heap.size ≤ nB) := by rw [hX3, hnB]; exact ⟨heap_alloc_new _ _, HX2.out.o.size⟩
                    have HX3 : Hid _ := HX2.out.alloc (.cells #[.int .u32 (uo : Int)] 38)
                    rw [← hX3] at HX3 ⊢
                    rw [← hnB]
                    clear hX3 hnB
                    refine hK.out _ _ (HCL.out X3 HX3.out.o).2.1 (fun hHeld => ?_)
                    clear hK
                    (try simp only [Act.put, List.setIfInBounds_toArray, List.set_cons_zero, List.set_cons_succ])
                    refine wpAnyH_ready (rs := [15]) (by kernel_rfl) (by simp) ?_
                    refine AllReadyH.cons rfl (fun K hK => ?_) AllReadyH.nil
                    have yl := (HCL.out X3 HX3.out.o).2.2
                    refine step_B (by rfl) _ _ (by rfl) (lB + 1) (.slice aO i kO) i (oB.map u32V) (by rfl) HX3.out.b nB (.int .u32 (uo : Int)) (by rfl) HNBX3.out.1 rfl (by omega) (by omega) ?_
                    intro gB cB X4 hown hgrow
                    have HX4 : Hid _ := HX3.out.appB hgrow hown
                    clear hown hgrow yl
                    refine hK.out _ _ (HCL.out X4 HX4.out.o).2.1 (fun hHeld => ?_)
                    clear hK
                    (try simp only [Act.put, List.setIfInBounds_toArray, List.set_cons_zero, List.set_cons_succ])
                    have y := HCL.out X4 HX4.out.o
                    have y0 : X4.cell? ⟨lB, 0, none⟩ = some (.slice aN i kN) := cell_blk y.1
                    have yf : ∀ q, X4.frozen? ⟨lB, q, none⟩ = false := fun q => fz_blk y.1 q
                    have yl := y.2.2
                    have z := heap_setCell_at (k := 0) y.1 (.slice (some ⟨gA, 0, none⟩) (i + 1) cA)
                    have z1 : (X4.setCell ⟨lB, 0, none⟩ (.slice (some ⟨gA, 0, none⟩) (i + 1) cA)).cell? ⟨lB, 1, none⟩ = some (.slice aO i kO) := cell_blk z
                    have zf : ∀ q, (X4.setCell ⟨lB, 0, none⟩ (.slice (some ⟨gA, 0, none⟩) (i + 1) cA)).frozen? ⟨lB, q, none⟩ = false := fun q => fz_blk z q
                    have HQ1 : Hid _ := HHS.out X4 0 (.slice (some ⟨gA, 0, none⟩) (i + 1) cA) y.2.1
                    have HQ2 : Hid _ := HHS.out _ 1 (.slice (some ⟨gB, 0, none⟩) (i + 1) cB) HQ1.out
                    clear y z
                    refine wpAnyH_ready (rs := [17]) (by kernel_rfl) (by simp) ?_
                    refine AllReadyH.cons rfl (fun K hK => ?_) AllReadyH.nil
                    rw [if_pos (by rfl)]
                    go_simp
                    refine hK.out _ _ HQ1.out (fun hHeld => ?_)
                    clear hK
                    (try simp only [Act.put, List.setIfInBounds_toArray, List.set_cons_zero, List.set_cons_succ])
                    refine wpAnyH_take (i := 18) (oi := { dst := some 91, op := _, type := _, pos := _, after := _, guard := _ }) (v := .pointer (some ⟨lB, 1, none⟩)) rfl (by kernel_rfl) (by kernel_rfl) (by kernel_rfl) (fun _ _ _ h => h) (Or.inl ⟨by rfl, fun w hSw => by first | (go_simp; done) | go_simp⟩) (by assumption) ?_
                    (try simp only [Act.put, List.setIfInBounds_toArray, List.set_cons_zero, List.set_cons_succ])
                    refine wpAnyH_ready (rs := [19]) (by kernel_rfl) (by simp) ?_
                    refine AllReadyH.cons rfl (fun K hK => ?_) AllReadyH.nil
                    rw [if_pos (by rfl)]
                    go_simp
                    refine hK.out _ _ HQ2.out (fun hHeld => ?_)
                    clear hK
                    (try simp only [Act.put, List.setIfInBounds_toArray, List.set_cons_zero, List.set_cons_succ])
                    refine wpAnyH_done (by kernel_rfl) ?_ _
                    clear hHeld y0 yf yl z1 zf HQ1 HQ2
                    go_wp2_with fail
                    go_roundg (N2 - (i + 1))
                    case measure => omega
                    case rel =>
                      obtain ⟨r1, r2, r3, r4, r5, r6, r7, r8, r9, r10⟩ := HFIN.out _ _ _ _ _ HX4.out
                      exact ⟨i + 1, r1, r2, r3, r4, r5, _, rfl, rfl, by omega, by go_num, r6, r7, r8, r9, r10⟩
                  · rw [if_pos (by rfl)]
                    go_simp
                    obtain ⟨X3, hX3⟩ : ∃ Y, Y = X2.alloc (.cells #[.int .u32 (uo : Int)] 38) := ⟨_, rfl⟩
                    obtain ⟨nB, hnB⟩ : ∃ n, n = X2.heap.size := ⟨_, rfl⟩
                    have HNBX3 : Hid (X3.heap[nB]? = some (.cells #[.int .u32 (uo : Int)] 38 (0, 0)) ∧ V.heap.size ≤ nB) := by rw [hX3, hnB]; exact ⟨heap_alloc_new _ _, HX2.out.o.size⟩
                    have HX3 : Hid _ := HX2.out.alloc (.cells #[.int .u32 (uo : Int)] 38)
                    rw [← hX3] at HX3 ⊢
                    rw [← hnB]
                    clear hX3 hnB
                    refine hK.out _ _ (HCL.out X3 HX3.out.o).2.1 (fun hHeld => ?_)
                    clear hK
                    (try simp only [Act.put, List.setIfInBounds_toArray, List.set_cons_zero, List.set_cons_succ])
                    refine wpAnyH_ready (rs := [6]) (by kernel_rfl) (by simp) ?_
                    refine AllReadyH.cons rfl (fun K hK => ?_) AllReadyH.nil
                    have y := HCL.out X3 HX3.out.o
                    have y0 : X3.cell? ⟨lB, 1, none⟩ = some (.slice aO i kO) := cell_blk y.1
                    have yl := y.2.2
                    rw [if_pos (by rfl)]
                    go_simp
                    refine hK.out _ _ y.2.1 (fun hHeld => ?_)
                    clear hK y y0 yl
                    (try simp only [Act.put, List.setIfInBounds_toArray, List.set_cons_zero, List.set_cons_succ])
                    refine wpAnyH_take (i := 16) (oi := { dst := some 90, op := _, type := _, pos := _, after := _, guard := _ }) (v := .pointer (some ⟨lB, 0, none⟩)) rfl (by kernel_rfl) (by kernel_rfl) (by kernel_rfl) (fun _ _ _ h => h) (Or.inl ⟨by rfl, fun w hSw => by first | (go_simp; done) | go_simp⟩) (by assumption) ?_
                    (try simp only [Act.put, List.setIfInBounds_toArray, List.set_cons_zero, List.set_cons_succ])
                    refine wpAnyH_ready (rs := [15]) (by kernel_rfl) (by simp) ?_
                    refine AllReadyH.cons rfl (fun K hK => ?_) AllReadyH.nil
                    have yl := (HCL.out X3 HX3.out.o).2.2
                    refine step_B (by rfl) _ _ (by rfl) (lB + 1) (.slice aO i kO) i (oB.map u32V) (by rfl) HX3.out.b nB (.int .u32 (uo : Int)) (by rfl) HNBX3.out.1 rfl (by omega) (by omega) ?_
                    intro gB cB X4 hown hgrow
                    have HX4 : Hid _ := HX3.out.appB hgrow hown
                    clear hown hgrow yl
                    refine hK.out _ _ (HCL.out X4 HX4.out.o).2.1 (fun hHeld => ?_)
                    clear hK
                    (try simp only [Act.put, List.setIfInBounds_toArray, List.set_cons_zero, List.set_cons_succ])
                    have y := HCL.out X4 HX4.out.o
                    have y0 : X4.cell? ⟨lB, 0, none⟩ = some (.slice aN i kN) := cell_blk y.1
                    have yf : ∀ q, X4.frozen? ⟨lB, q, none⟩ = false := fun q => fz_blk y.1 q
                    have yl := y.2.2
                    have z := heap_setCell_at (k := 0) y.1 (.slice (some ⟨gA, 0, none⟩) (i + 1) cA)
                    have z1 : (X4.setCell ⟨lB, 0, none⟩ (.slice (some ⟨gA, 0, none⟩) (i + 1) cA)).cell? ⟨lB, 1, none⟩ = some (.slice aO i kO) := cell_blk z
                    have zf : ∀ q, (X4.setCell ⟨lB, 0, none⟩ (.slice (some ⟨gA, 0, none⟩) (i + 1) cA)).frozen? ⟨lB, q, none⟩ = false := fun q => fz_blk z q
                    have HQ1 : Hid _ := HHS.out X4 0 (.slice (some ⟨gA, 0, none⟩) (i + 1) cA) y.2.1
                    have HQ2 : Hid _ := HHS.out _ 1 (.slice (some ⟨gB, 0, none⟩) (i + 1) cB) HQ1.out
                    clear y z
                    refine wpAnyH_ready (rs := [17]) (by kernel_rfl) (by simp) ?_
                    refine AllReadyH.cons rfl (fun K hK => ?_) AllReadyH.nil
                    rw [if_pos (by rfl)]
                    go_simp
                    refine hK.out _ _ HQ1.out (fun hHeld => ?_)
                    clear hK
                    (try simp only [Act.put, List.setIfInBounds_toArray, List.set_cons_zero, List.set_cons_succ])
                    refine wpAnyH_take (i := 18) (oi := { dst := some 91, op := _, type := _, pos := _, after := _, guard := _ }) (v := .pointer (some ⟨lB, 1, none⟩)) rfl (by kernel_rfl) (by kernel_rfl) (by kernel_rfl) (fun _ _ _ h => h) (Or.inl ⟨by rfl, fun w hSw => by first | (go_simp; done) | go_simp⟩) (by assumption) ?_
                    (try simp only [Act.put, List.setIfInBounds_toArray, List.set_cons_zero, List.set_cons_succ])
                    refine wpAnyH_ready (rs := [19]) (by kernel_rfl) (by simp) ?_
                    refine AllReadyH.cons rfl (fun K hK => ?_) AllReadyH.nil
                    rw [if_pos (by rfl)]
                    go_simp
                    refine hK.out _ _ HQ2.out (fun hHeld => ?_)
                    clear hK
                    (try simp only [Act.put, List.setIfInBounds_toArray, List.set_cons_zero, List.set_cons_succ])
                    refine wpAnyH_done (by kernel_rfl) ?_ _
                    clear hHeld y0 yf yl z1 zf HQ1 HQ2
                    go_wp2_with fail
                    go_roundg (N2 - (i + 1))
                    case measure => omega
                    case rel =>
                      obtain ⟨r1, r2, r3, r4, r5, r6, r7, r8, r9, r10⟩ := HFIN.out _ _ _ _ _ HX4.out
                      exact ⟨i + 1, r1, r2, r3, r4, r5, _, rfl, rfl, by omega, by go_num, r6, r7, r8, r9, r10⟩
                · have y := HCL.out X1 HX1.out.o
                  have y0 : X1.cell? ⟨lB, 1, none⟩ = some (.slice aO i kO) := cell_blk y.1
                  have yl := y.2.2
                  rw [if_pos (by rfl)]
                  go_simp
                  refine hK.out _ _ y.2.1 (fun hHeld => ?_)
                  clear hK y y0 yl
                  (try simp only [Act.put, List.setIfInBounds_toArray, List.set_cons_zero, List.set_cons_succ])
                  refine wpAnyH_ready (rs := [4, 14]) (by kernel_rfl) (by simp) ?_
                  refine AllReadyH.cons rfl (fun K hK => ?_) (AllReadyH.cons rfl (fun K hK => ?_) AllReadyH.nil)
                  · have yl := (HCL.out X1 HX1.out.o).2.2
                    refine step_A (by rfl) _ _ (by rfl) (lB + 1) (.slice aN i kN) i vs (by rfl) HX1.out.a nA (.slice aW c kW) (by rfl) HNAX1.out.1 rfl (by omega) (by omega) ?_
                    intro gA cA X2 hown hgrow
                    have HX2 : Hid _ := HX1.out.appA hgrow hown
                    clear hown hgrow yl
                    refine hK.out _ _ (HCL.out X2 HX2.out.o).2.1 (fun hHeld => ?_)
                    clear hK
                    (try simp only [Act.put, List.setIfInBounds_toArray, List.set_cons_zero, List.set_cons_succ])
                    refine wpAnyH_take (i := 16) (oi := { dst := some 90, op := _, type := _, pos := _, after := _, guard := _ }) (v := .pointer (some ⟨lB, 0, none⟩)) rfl (by kernel_rfl) (by kernel_rfl) (by kernel_rfl) (fun _ _ _ h => h) (Or.inl ⟨by rfl, fun w hSw => by first | (go_simp; done) | go_simp⟩) (by assumption) ?_
                    (try simp only [Act.put, List.setIfInBounds_toArray, List.set_cons_zero, List.set_cons_succ])
                    refine wpAnyH_ready (rs := [14]) (by kernel_rfl) (by simp) ?_
                    refine AllReadyH.cons rfl (fun K hK => ?_) AllReadyH.nil
                    rw [if_pos (by rfl)]
                    go_simp
                    obtain ⟨X3, hX3⟩ : ∃ Y, Y = X2.alloc (.cells #[.int .u32 (uo : Int)] 38) := ⟨_, rfl⟩
                    obtain ⟨nB, hnB⟩ : ∃ n, n = X2.heap.size := ⟨_, rfl⟩
                    have HNBX3 : Hid (X3.heap[nB]? = some (.cells #[.int .u32 (uo : Int)] 38 (0, 0)) ∧ V.heap.size ≤ nB) := by rw [hX3, hnB]; exact ⟨heap_alloc_new _ _, HX2.out.o.size⟩
                    have HX3 : Hid _ := HX2.out.alloc (.cells #[.int .u32 (uo : Int)] 38)
                    rw [← hX3] at HX3 ⊢
                    rw [← hnB]
                    clear hX3 hnB
                    refine hK.out _ _ (HCL.out X3 HX3.out.o).2.1 (fun hHeld => ?_)
                    clear hK
                    (try simp only [Act.put, List.setIfInBounds_toArray, List.set_cons_zero, List.set_cons_succ])
                    refine wpAnyH_ready (rs := [15]) (by kernel_rfl) (by simp) ?_
                    refine AllReadyH.cons rfl (fun K hK => ?_) AllReadyH.nil
                    have yl := (HCL.out X3 HX3.out.o).2.2
                    refine step_B (by rfl) _ _ (by rfl) (lB + 1) (.slice aO i kO) i (oB.map u32V) (by rfl) HX3.out.b nB (.int .u32 (uo : Int)) (by rfl) HNBX3.out.1 rfl (by omega) (by omega) ?_
                    intro gB cB X4 hown hgrow
                    have HX4 : Hid _ := HX3.out.appB hgrow hown
                    clear hown hgrow yl
                    refine hK.out _ _ (HCL.out X4 HX4.out.o).2.1 (fun hHeld => ?_)
                    clear hK
                    (try simp only [Act.put, List.setIfInBounds_toArray, List.set_cons_zero, List.set_cons_succ])
                    have y := HCL.out X4 HX4.out.o
                    have y0 : X4.cell? ⟨lB, 0, none⟩ = some (.slice aN i kN) := cell_blk y.1
                    have yf : ∀ q, X4.frozen? ⟨lB, q, none⟩ = false := fun q => fz_blk y.1 q
                    have yl := y.2.2
                    have z := heap_setCell_at (k := 0) y.1 (.slice (some ⟨gA, 0, none⟩) (i + 1) cA)
                    have z1 : (X4.setCell ⟨lB, 0, none⟩ (.slice (some ⟨gA, 0, none⟩) (i + 1) cA)).cell? ⟨lB, 1, none⟩ = some (.slice aO i kO) := cell_blk z
                    have zf : ∀ q, (X4.setCell ⟨lB, 0, none⟩ (.slice (some ⟨gA, 0, none⟩) (i + 1) cA)).frozen? ⟨lB, q, none⟩ = false := fun q => fz_blk z q
                    have HQ1 : Hid _ := HHS.out X4 0 (.slice (some ⟨gA, 0, none⟩) (i + 1) cA) y.2.1
                    have HQ2 : Hid _ := HHS.out _ 1 (.slice (some ⟨gB, 0, none⟩) (i + 1) cB) HQ1.out
                    clear y z
                    refine wpAnyH_ready (rs := [17]) (by kernel_rfl) (by simp) ?_
                    refine AllReadyH.cons rfl (fun K hK => ?_) AllReadyH.nil
                    rw [if_pos (by rfl)]
                    go_simp
                    refine hK.out _ _ HQ1.out (fun hHeld => ?_)
                    clear hK
                    (try simp only [Act.put, List.setIfInBounds_toArray, List.set_cons_zero, List.set_cons_succ])
                    refine wpAnyH_take (i := 18) (oi := { dst := some 91, op := _, type := _, pos := _, after := _, guard := _ }) (v := .pointer (some ⟨lB, 1, none⟩)) rfl (by kernel_rfl) (by kernel_rfl) (by kernel_rfl) (fun _ _ _ h => h) (Or.inl ⟨by rfl, fun w hSw => by first | (go_simp; done) | go_simp⟩) (by assumption) ?_
                    (try simp only [Act.put, List.setIfInBounds_toArray, List.set_cons_zero, List.set_cons_succ])
                    refine wpAnyH_ready (rs := [19]) (by kernel_rfl) (by simp) ?_
                    refine AllReadyH.cons rfl (fun K hK => ?_) AllReadyH.nil
                    rw [if_pos (by rfl)]
                    go_simp
                    refine hK.out _ _ HQ2.out (fun hHeld => ?_)
                    clear hK
                    (try simp only [Act.put, List.setIfInBounds_toArray, List.set_cons_zero, List.set_cons_succ])
                    refine wpAnyH_done (by kernel_rfl) ?_ _
                    clear hHeld y0 yf yl z1 zf HQ1 HQ2
                    go_wp2_with fail
                    go_roundg (N2 - (i + 1))
                    case measure => omega
                    case rel =>
                      obtain ⟨r1, r2, r3, r4, r5, r6, r7, r8, r9, r10⟩ := HFIN.out _ _ _ _ _ HX4.out
                      exact ⟨i + 1, r1, r2, r3, r4, r5, _, rfl, rfl, by omega, by go_num, r6, r7, r8, r9, r10⟩
                  · rw [if_pos (by rfl)]
                    go_simp
                    obtain ⟨X2, hX2⟩ : ∃ Y, Y = X1.alloc (.cells #[.int .u32 (uo : Int)] 38) := ⟨_, rfl⟩
                    obtain ⟨nB, hnB⟩ : ∃ n, n = X1.heap.size := ⟨_, rfl⟩
                    have HNBX2 : Hid (X2.heap[nB]? = some (.cells #[.int .u32 (uo : Int)] 38 (0, 0)) ∧ V.heap.size ≤ nB) := by rw [hX2, hnB]; exact ⟨heap_alloc_new _ _, HX1.out.o.size⟩
                    have HX2 : Hid _ := HX1.out.alloc (.cells #[.int .u32 (uo : Int)] 38)
                    have HNAX2 : Hid (X2.heap[nA]? = some (.cells #[.slice aW c kW] 23 (0, 0)) ∧ V.heap.size ≤ nA) := by rw [hX2]; exact ⟨blk_alloc _ HNAX1.out.1, HNAX1.out.2⟩
                    rw [← hX2] at HX2 ⊢
                    rw [← hnB]
                    clear hX2 hnB
                    refine hK.out _ _ (HCL.out X2 HX2.out.o).2.1 (fun hHeld => ?_)
                    clear hK
                    (try simp only [Act.put, List.setIfInBounds_toArray, List.set_cons_zero, List.set_cons_succ])
                    refine wpAnyH_ready (rs := [4]) (by kernel_rfl) (by simp) ?_
                    refine AllReadyH.cons rfl (fun K hK => ?_) AllReadyH.nil
                    have yl := (HCL.out X2 HX2.out.o).2.2
                    refine step_A (by rfl) _ _ (by rfl) (lB + 1) (.slice aN i kN) i vs (by rfl) HX2.out.a nA (.slice aW c kW) (by rfl) HNAX2.out.1 rfl (by omega) (by omega) ?_
                    intro gA cA X3 hown hgrow
                    have HNBX3 : Hid (X3.heap[nB]? = some (.cells #[.int .u32 (uo : Int)] 38 (0, 0)) ∧ V.heap.size ≤ nB) := ⟨blk_grow HNBX2.out.1 HX2.out.a hgrow (fun e => by have h1 := own_lt HOLD.out.nx e; have h2 := HNBX2.out.2; omega), HNBX2.out.2⟩
                    have HX3 : Hid _ := HX2.out.appA hgrow hown
                    clear hown hgrow yl
                    refine hK.out _ _ (HCL.out X3 HX3.out.o).2.1 (fun hHeld => ?_)
                    clear hK
                    (try simp only [Act.put, List.setIfInBounds_toArray, List.set_cons_zero, List.set_cons_succ])
                    refine wpAnyH_take (i := 16) (oi := { dst := some 90, op := _, type := _, pos := _, after := _, guard := _ }) (v := .pointer (some ⟨lB, 0, none⟩)) rfl (by kernel_rfl) (by kernel_rfl) (by kernel_rfl) (fun _ _ _ h => h) (Or.inl ⟨by rfl, fun w hSw => by first | (go_simp; done) | go_simp⟩) (by assumption) ?_
                    (try simp only [Act.put, List.setIfInBounds_toArray, List.set_cons_zero, List.set_cons_succ])
                    refine wpAnyH_ready (rs := [15]) (by kernel_rfl) (by simp) ?_
                    refine AllReadyH.cons rfl (fun K hK => ?_) AllReadyH.nil
                    have yl := (HCL.out X3 HX3.out.o).2.2
                    refine step_B (by rfl) _ _ (by rfl) (lB + 1) (.slice aO i kO) i (oB.map u32V) (by rfl) HX3.out.b nB (.int .u32 (uo : Int)) (by rfl) HNBX3.out.1 rfl (by omega) (by omega) ?_
                    intro gB cB X4 hown hgrow
                    have HX4 : Hid _ := HX3.out.appB hgrow hown
                    clear hown hgrow yl
                    refine hK.out _ _ (HCL.out X4 HX4.out.o).2.1 (fun hHeld => ?_)
                    clear hK
                    (try simp only [Act.put, List.setIfInBounds_toArray, List.set_cons_zero, List.set_cons_succ])
                    have y := HCL.out X4 HX4.out.o
                    have y0 : X4.cell? ⟨lB, 0, none⟩ = some (.slice aN i kN) := cell_blk y.1
                    have yf : ∀ q, X4.frozen? ⟨lB, q, none⟩ = false := fun q => fz_blk y.1 q
                    have yl := y.2.2
                    have z := heap_setCell_at (k := 0) y.1 (.slice (some ⟨gA, 0, none⟩) (i + 1) cA)
                    have z1 : (X4.setCell ⟨lB, 0, none⟩ (.slice (some ⟨gA, 0, none⟩) (i + 1) cA)).cell? ⟨lB, 1, none⟩ = some (.slice aO i kO) := cell_blk z
                    have zf : ∀ q, (X4.setCell ⟨lB, 0, none⟩ (.slice (some ⟨gA, 0, none⟩) (i + 1) cA)).frozen? ⟨lB, q, none⟩ = false := fun q => fz_blk z q
                    have HQ1 : Hid _ := HHS.out X4 0 (.slice (some ⟨gA, 0, none⟩) (i + 1) cA) y.2.1
                    have HQ2 : Hid _ := HHS.out _ 1 (.slice (some ⟨gB, 0, none⟩) (i + 1) cB) HQ1.out
                    clear y z
                    refine wpAnyH_ready (rs := [17]) (by kernel_rfl) (by simp) ?_
                    refine AllReadyH.cons rfl (fun K hK => ?_) AllReadyH.nil
                    rw [if_pos (by rfl)]
                    go_simp
                    refine hK.out _ _ HQ1.out (fun hHeld => ?_)
                    clear hK
                    (try simp only [Act.put, List.setIfInBounds_toArray, List.set_cons_zero, List.set_cons_succ])
                    refine wpAnyH_take (i := 18) (oi := { dst := some 91, op := _, type := _, pos := _, after := _, guard := _ }) (v := .pointer (some ⟨lB, 1, none⟩)) rfl (by kernel_rfl) (by kernel_rfl) (by kernel_rfl) (fun _ _ _ h => h) (Or.inl ⟨by rfl, fun w hSw => by first | (go_simp; done) | go_simp⟩) (by assumption) ?_
                    (try simp only [Act.put, List.setIfInBounds_toArray, List.set_cons_zero, List.set_cons_succ])
                    refine wpAnyH_ready (rs := [19]) (by kernel_rfl) (by simp) ?_
                    refine AllReadyH.cons rfl (fun K hK => ?_) AllReadyH.nil
                    rw [if_pos (by rfl)]
                    go_simp
                    refine hK.out _ _ HQ2.out (fun hHeld => ?_)
                    clear hK
                    (try simp only [Act.put, List.setIfInBounds_toArray, List.set_cons_zero, List.set_cons_succ])
                    refine wpAnyH_done (by kernel_rfl) ?_ _
                    clear hHeld y0 yf yl z1 zf HQ1 HQ2
                    go_wp2_with fail
                    go_roundg (N2 - (i + 1))
                    case measure => omega
                    case rel =>
                      obtain ⟨r1, r2, r3, r4, r5, r6, r7, r8, r9, r10⟩ := HFIN.out _ _ _ _ _ HX4.out
                      exact ⟨i + 1, r1, r2, r3, r4, r5, _, rfl, rfl, by omega, by go_num, r6, r7, r8, r9, r10⟩
                · rw [if_pos (by rfl)]
                  go_simp
                  obtain ⟨X2, hX2⟩ : ∃ Y, Y = X1.alloc (.cells #[.int .u32 (uo : Int)] 38) := ⟨_, rfl⟩
                  obtain ⟨nB, hnB⟩ : ∃ n, n = X1.heap.size := ⟨_, rfl⟩
                  have HNBX2 : Hid (X2.heap[nB]? = some (.cells #[.int .u32 (uo : Int)] 38 (0, 0)) ∧ V.heap.size ≤ nB) := by rw [hX2, hnB]; exact ⟨heap_alloc_new _ _, HX1.out.o.size⟩
                  have HX2 : Hid _ := HX1.out.alloc (.cells #[.int .u32 (uo : Int)] 38)
                  have HNAX2 : Hid (X2.heap[nA]? = some (.cells #[.slice aW c kW] 23 (0, 0)) ∧ V.heap.size ≤ nA) := by rw [hX2]; exact ⟨blk_alloc _ HNAX1.out.1, HNAX1.out.2⟩
                  rw [← hX2] at HX2 ⊢
                  rw [← hnB]
                  clear hX2 hnB
                  refine hK.out _ _ (HCL.out X2 HX2.out.o).2.1 (fun hHeld => ?_)
                  clear hK
                  (try simp only [Act.put, List.setIfInBounds_toArray, List.set_cons_zero, List.set_cons_succ])
                  refine wpAnyH_ready (rs := [4, 6]) (by kernel_rfl) (by simp) ?_
                  refine AllReadyH.cons rfl (fun K hK => ?_) (AllReadyH.cons rfl (fun K hK => ?_) AllReadyH.nil)
                  · have yl := (HCL.out X2 HX2.out.o).2.2
                    refine step_A (by rfl) _ _ (by rfl) (lB + 1) (.slice aN i kN) i vs (by rfl) HX2.out.a nA (.slice aW c kW) (by rfl) HNAX2.out.1 rfl (by omega) (by omega) ?_
                    intro gA cA X3 hown hgrow
                    have HNBX3 : Hid (X3.heap[nB]? = some (.cells #[.int .u32 (uo : Int)] 38 (0, 0)) ∧ V.heap.size ≤ nB) := ⟨blk_grow HNBX2.out.1 HX2.out.a hgrow (fun e => by have h1 := own_lt HOLD.out.nx e; have h2 := HNBX2.out.2; omega), HNBX2.out.2⟩
                    have HX3 : Hid _ := HX2.out.appA hgrow hown
                    clear hown hgrow yl
                    refine hK.out _ _ (HCL.out X3 HX3.out.o).2.1 (fun hHeld => ?_)
                    clear hK
                    (try simp only [Act.put, List.setIfInBounds_toArray, List.set_cons_zero, List.set_cons_succ])
                    refine wpAnyH_ready (rs := [6]) (by kernel_rfl) (by simp) ?_
                    refine AllReadyH.cons rfl (fun K hK => ?_) AllReadyH.nil
                    have y := HCL.out X3 HX3.out.o
                    have y0 : X3.cell? ⟨lB, 1, none⟩ = some (.slice aO i kO) := cell_blk y.1
                    have yl := y.2.2
                    rw [if_pos (by rfl)]
                    go_simp
                    refine hK.out _ _ y.2.1 (fun hHeld => ?_)
                    clear hK y y0 yl
                    (try simp only [Act.put, List.setIfInBounds_toArray, List.set_cons_zero, List.set_cons_succ])
                    refine wpAnyH_take (i := 16) (oi := { dst := some 90, op := _, type := _, pos := _, after := _, guard := _ }) (v := .pointer (some ⟨lB, 0, none⟩)) rfl (by kernel_rfl) (by kernel_rfl) (by kernel_rfl) (fun _ _ _ h => h) (Or.inl ⟨by rfl, fun w hSw => by first | (go_simp; done) | go_simp⟩) (by assumption) ?_
                    (try simp only [Act.put, List.setIfInBounds_toArray, List.set_cons_zero, List.set_cons_succ])
                    refine wpAnyH_ready (rs := [15]) (by kernel_rfl) (by simp) ?_
                    refine AllReadyH.cons rfl (fun K hK => ?_) AllReadyH.nil
                    have yl := (HCL.out X3 HX3.out.o).2.2
                    refine step_B (by rfl) _ _ (by rfl) (lB + 1) (.slice aO i kO) i (oB.map u32V) (by rfl) HX3.out.b nB (.int .u32 (uo : Int)) (by rfl) HNBX3.out.1 rfl (by omega) (by omega) ?_
                    intro gB cB X4 hown hgrow
                    have HX4 : Hid _ := HX3.out.appB hgrow hown
                    clear hown hgrow yl
                    refine hK.out _ _ (HCL.out X4 HX4.out.o).2.1 (fun hHeld => ?_)
                    clear hK
                    (try simp only [Act.put, List.setIfInBounds_toArray, List.set_cons_zero, List.set_cons_succ])
                    have y := HCL.out X4 HX4.out.o
                    have y0 : X4.cell? ⟨lB, 0, none⟩ = some (.slice aN i kN) := cell_blk y.1
                    have yf : ∀ q, X4.frozen? ⟨lB, q, none⟩ = false := fun q => fz_blk y.1 q
                    have yl := y.2.2
                    have z := heap_setCell_at (k := 0) y.1 (.slice (some ⟨gA, 0, none⟩) (i + 1) cA)
                    have z1 : (X4.setCell ⟨lB, 0, none⟩ (.slice (some ⟨gA, 0, none⟩) (i + 1) cA)).cell? ⟨lB, 1, none⟩ = some (.slice aO i kO) := cell_blk z
                    have zf : ∀ q, (X4.setCell ⟨lB, 0, none⟩ (.slice (some ⟨gA, 0, none⟩) (i + 1) cA)).frozen? ⟨lB, q, none⟩ = false := fun q => fz_blk z q
                    have HQ1 : Hid _ := HHS.out X4 0 (.slice (some ⟨gA, 0, none⟩) (i + 1) cA) y.2.1
                    have HQ2 : Hid _ := HHS.out _ 1 (.slice (some ⟨gB, 0, none⟩) (i + 1) cB) HQ1.out
                    clear y z
                    refine wpAnyH_ready (rs := [17]) (by kernel_rfl) (by simp) ?_
                    refine AllReadyH.cons rfl (fun K hK => ?_) AllReadyH.nil
                    rw [if_pos (by rfl)]
                    go_simp
                    refine hK.out _ _ HQ1.out (fun hHeld => ?_)
                    clear hK
                    (try simp only [Act.put, List.setIfInBounds_toArray, List.set_cons_zero, List.set_cons_succ])
                    refine wpAnyH_take (i := 18) (oi := { dst := some 91, op := _, type := _, pos := _, after := _, guard := _ }) (v := .pointer (some ⟨lB, 1, none⟩)) rfl (by kernel_rfl) (by kernel_rfl) (by kernel_rfl) (fun _ _ _ h => h) (Or.inl ⟨by rfl, fun w hSw => by first | (go_simp; done) | go_simp⟩) (by assumption) ?_
                    (try simp only [Act.put, List.setIfInBounds_toArray, List.set_cons_zero, List.set_cons_succ])
                    refine wpAnyH_ready (rs := [19]) (by kernel_rfl) (by simp) ?_
                    refine AllReadyH.cons rfl (fun K hK => ?_) AllReadyH.nil
                    rw [if_pos (by rfl)]
                    go_simp
                    refine hK.out _ _ HQ2.out (fun hHeld => ?_)
                    clear hK
                    (try simp only [Act.put, List.setIfInBounds_toArray, List.set_cons_zero, List.set_cons_succ])
                    refine wpAnyH_done (by kernel_rfl) ?_ _
                    clear hHeld y0 yf yl z1 zf HQ1 HQ2
                    go_wp2_with fail
                    go_roundg (N2 - (i + 1))
                    case measure => omega
                    case rel =>
                      obtain ⟨r1, r2, r3, r4, r5, r6, r7, r8, r9, r10⟩ := HFIN.out _ _ _ _ _ HX4.out
                      exact ⟨i + 1, r1, r2, r3, r4, r5, _, rfl, rfl, by omega, by go_num, r6, r7, r8, r9, r10⟩
                  · have y := HCL.out X2 HX2.out.o
                    have y0 : X2.cell? ⟨lB, 1, none⟩ = some (.slice aO i kO) := cell_blk y.1
                    have yl := y.2.2
                    rw [if_pos (by rfl)]
                    go_simp
                    refine hK.out _ _ y.2.1 (fun hHeld => ?_)
                    clear hK y y0 yl
                    (try simp only [Act.put, List.setIfInBounds_toArray, List.set_cons_zero, List.set_cons_succ])
                    refine wpAnyH_ready (rs := [4]) (by kernel_rfl) (by simp) ?_
                    refine AllReadyH.cons rfl (fun K hK => ?_) AllReadyH.nil
                    have yl := (HCL.out X2 HX2.out.o).2.2
                    refine step_A (by rfl) _ _ (by rfl) (lB + 1) (.slice aN i kN) i vs (by rfl) HX2.out.a nA (.slice aW c kW) (by rfl) HNAX2.out.1 rfl (by omega) (by omega) ?_
                    intro gA cA X3 hown hgrow
                    have HNBX3 : Hid (X3.heap[nB]? = some (.cells #[.int .u32 (uo : Int)] 38 (0, 0)) ∧ V.heap.size ≤ nB) := ⟨blk_grow HNBX2.out.1 HX2.out.a hgrow (fun e => by have h1 := own_lt HOLD.out.nx e; have h2 := HNBX2.out.2; omega), HNBX2.out.2⟩
                    have HX3 : Hid _ := HX2.out.appA hgrow hown
                    clear hown hgrow yl
                    refine hK.out _ _ (HCL.out X3 HX3.out.o).2.1 (fun hHeld => ?_)
                    clear hK
                    (try simp only [Act.put, List.setIfInBounds_toArray, List.set_cons_zero, List.set_cons_succ])
                    refine wpAnyH_take (i := 16) (oi := { dst := some 90, op := _, type := _, pos := _, after := _, guard := _ }) (v := .pointer (some ⟨lB, 0, none⟩)) rfl (by kernel_rfl) (by kernel_rfl) (by kernel_rfl) (fun _ _ _ h => h) (Or.inl ⟨by rfl, fun w hSw => by first | (go_simp; done) | go_simp⟩) (by assumption) ?_
                    (try simp only [Act.put, List.setIfInBounds_toArray, List.set_cons_zero, List.set_cons_succ])
                    refine wpAnyH_ready (rs := [15]) (by kernel_rfl) (by simp) ?_
                    refine AllReadyH.cons rfl (fun K hK => ?_) AllReadyH.nil
                    have yl := (HCL.out X3 HX3.out.o).2.2
                    refine step_B (by rfl) _ _ (by rfl) (lB + 1) (.slice aO i kO) i (oB.map u32V) (by rfl) HX3.out.b nB (.int .u32 (uo : Int)) (by rfl) HNBX3.out.1 rfl (by omega) (by omega) ?_
                    intro gB cB X4 hown hgrow
                    have HX4 : Hid _ := HX3.out.appB hgrow hown
                    clear hown hgrow yl
                    refine hK.out _ _ (HCL.out X4 HX4.out.o).2.1 (fun hHeld => ?_)
                    clear hK
                    (try simp only [Act.put, List.setIfInBounds_toArray, List.set_cons_zero, List.set_cons_succ])
                    have y := HCL.out X4 HX4.out.o
                    have y0 : X4.cell? ⟨lB, 0, none⟩ = some (.slice aN i kN) := cell_blk y.1
                    have yf : ∀ q, X4.frozen? ⟨lB, q, none⟩ = false := fun q => fz_blk y.1 q
                    have yl := y.2.2
                    have z := heap_setCell_at (k := 0) y.1 (.slice (some ⟨gA, 0, none⟩) (i + 1) cA)
                    have z1 : (X4.setCell ⟨lB, 0, none⟩ (.slice (some ⟨gA, 0, none⟩) (i + 1) cA)).cell? ⟨lB, 1, none⟩ = some (.slice aO i kO) := cell_blk z
                    have zf : ∀ q, (X4.setCell ⟨lB, 0, none⟩ (.slice (some ⟨gA, 0, none⟩) (i + 1) cA)).frozen? ⟨lB, q, none⟩ = false := fun q => fz_blk z q
                    have HQ1 : Hid _ := HHS.out X4 0 (.slice (some ⟨gA, 0, none⟩) (i + 1) cA) y.2.1
                    have HQ2 : Hid _ := HHS.out _ 1 (.slice (some ⟨gB, 0, none⟩) (i + 1) cB) HQ1.out
                    clear y z
                    refine wpAnyH_ready (rs := [17]) (by kernel_rfl) (by simp) ?_
                    refine AllReadyH.cons rfl (fun K hK => ?_) AllReadyH.nil
                    rw [if_pos (by rfl)]
                    go_simp
                    refine hK.out _ _ HQ1.out (fun hHeld => ?_)
                    clear hK
                    (try simp only [Act.put, List.setIfInBounds_toArray, List.set_cons_zero, List.set_cons_succ])
                    refine wpAnyH_take (i := 18) (oi := { dst := some 91, op := _, type := _, pos := _, after := _, guard := _ }) (v := .pointer (some ⟨lB, 1, none⟩)) rfl (by kernel_rfl) (by kernel_rfl) (by kernel_rfl) (fun _ _ _ h => h) (Or.inl ⟨by rfl, fun w hSw => by first | (go_simp; done) | go_simp⟩) (by assumption) ?_
                    (try simp only [Act.put, List.setIfInBounds_toArray, List.set_cons_zero, List.set_cons_succ])
                    refine wpAnyH_ready (rs := [19]) (by kernel_rfl) (by simp) ?_
                    refine AllReadyH.cons rfl (fun K hK => ?_) AllReadyH.nil
                    rw [if_pos (by rfl)]
                    go_simp
                    refine hK.out _ _ HQ2.out (fun hHeld => ?_)
                    clear hK
                    (try simp only [Act.put, List.setIfInBounds_toArray, List.set_cons_zero, List.set_cons_succ])
                    refine wpAnyH_done (by kernel_rfl) ?_ _
                    clear hHeld y0 yf yl z1 zf HQ1 HQ2
                    go_wp2_with fail
                    go_roundg (N2 - (i + 1))
                    case measure => omega
                    case rel =>
                      obtain ⟨r1, r2, r3, r4, r5, r6, r7, r8, r9, r10⟩ := HFIN.out _ _ _ _ _ HX4.out
                      exact ⟨i + 1, r1, r2, r3, r4, r5, _, rfl, rfl, by omega, by go_num, r6, r7, r8, r9, r10⟩
              · have y := HCL.out X1 HX1.out.o
                have y0 : X1.cell? ⟨lB, 1, none⟩ = some (.slice aO i kO) := cell_blk y.1
                have yl := y.2.2
                rw [if_pos (by rfl)]
                go_simp
                refine hK.out _ _ y.2.1 (fun hHeld => ?_)
                clear hK y y0 yl
                (try simp only [Act.put, List.setIfInBounds_toArray, List.set_cons_zero, List.set_cons_succ])
                refine wpAnyH_ready (rs := [1, 14]) (by kernel_rfl) (by simp) ?_
                refine AllReadyH.cons rfl (fun K hK => ?_) (AllReadyH.cons rfl (fun K hK => ?_) AllReadyH.nil)
                · have y := HCL.out X1 HX1.out.o
                  have y0 : X1.cell? ⟨lB, 0, none⟩ = some (.slice aN i kN) := cell_blk y.1
                  have yl := y.2.2
                  rw [if_pos (by rfl)]
                  go_simp
                  refine hK.out _ _ y.2.1 (fun hHeld => ?_)
                  clear hK y y0 yl
                  (try simp only [Act.put, List.setIfInBounds_toArray, List.set_cons_zero, List.set_cons_succ])
                  refine wpAnyH_ready (rs := [4, 14]) (by kernel_rfl) (by simp) ?_
                  refine AllReadyH.cons rfl (fun K hK => ?_) (AllReadyH.cons rfl (fun K hK => ?_) AllReadyH.nil)
                  · have yl := (HCL.out X1 HX1.out.o).2.2
                    refine step_A (by rfl) _ _ (by rfl) (lB + 1) (.slice aN i kN) i vs (by rfl) HX1.out.a nA (.slice aW c kW) (by rfl) HNAX1.out.1 rfl (by omega) (by omega) ?_
                    intro gA cA X2 hown hgrow
                    have HX2 : Hid _ := HX1.out.appA hgrow hown
                    clear hown hgrow yl
                    refine hK.out _ _ (HCL.out X2 HX2.out.o).2.1 (fun hHeld => ?_)
                    clear hK
                    (try simp only [Act.put, List.setIfInBounds_toArray, List.set_cons_zero, List.set_cons_succ])
                    refine wpAnyH_take (i := 16) (oi := { dst := some 90, op := _, type := _, pos := _, after := _, guard := _ }) (v := .pointer (some ⟨lB, 0, none⟩)) rfl (by kernel_rfl) (by kernel_rfl) (by kernel_rfl) (fun _ _ _ h => h) (Or.inl ⟨by rfl, fun w hSw => by first | (go_simp; done) | go_simp⟩) (by assumption) ?_
                    (try simp only [Act.put, List.setIfInBounds_toArray, List.set_cons_zero, List.set_cons_succ])
                    refine wpAnyH_ready (rs := [14]) (by kernel_rfl) (by simp) ?_
                    refine AllReadyH.cons rfl (fun K hK => ?_) AllReadyH.nil
                    rw [if_pos (by rfl)]
                    go_simp
                    obtain ⟨X3, hX3⟩ : ∃ Y, Y = X2.alloc (.cells #[.int .u32 (uo : Int)] 38) := ⟨_, rfl⟩
                    obtain ⟨nB, hnB⟩ : ∃ n, n = X2.heap.size := ⟨_, rfl⟩
                    have HNBX3 : Hid (X3.heap[nB]? = some (.cells #[.int .u32 (uo : Int)] 38 (0, 0)) ∧ V.heap.size ≤ nB) := by rw [hX3, hnB]; exact ⟨heap_alloc_new _ _, HX2.out.o.size⟩
                    have HX3 : Hid _ := HX2.out.alloc (.cells #[.int .u32 (uo : Int)] 38)
                    rw [← hX3] at HX3 ⊢
                    rw [← hnB]
                    clear hX3 hnB
                    refine hK.out _ _ (HCL.out X3 HX3.out.o).2.1 (fun hHeld => ?_)
                    clear hK
                    (try simp only [Act.put, List.setIfInBounds_toArray, List.set_cons_zero, List.set_cons_succ])
                    refine wpAnyH_ready (rs := [15]) (by kernel_rfl) (by simp) ?_
                    refine AllReadyH.cons rfl (fun K hK => ?_) AllReadyH.nil
                    have yl := (HCL.out X3 HX3.out.o).2.2
                    refine step_B (by rfl) _ _ (by rfl) (lB + 1) (.slice aO i kO) i (oB.map u32V) (by rfl) HX3.out.b nB (.int .u32 (uo : Int)) (by rfl) HNBX3.out.1 rfl (by omega) (by omega) ?_
                    intro gB cB X4 hown hgrow
                    have HX4 : Hid _ := HX3.out.appB hgrow hown
                    clear hown hgrow yl
                    refine hK.out _ _ (HCL.out X4 HX4.out.o).2.1 (fun hHeld => ?_)
                    clear hK
                    (try simp only [Act.put, List.setIfInBounds_toArray, List.set_cons_zero, List.set_cons_succ])
                    have y := HCL.out X4 HX4.out.o
                    have y0 : X4.cell? ⟨lB, 0, none⟩ = some (.slice aN i kN) := cell_blk y.1
                    have yf : ∀ q, X4.frozen? ⟨lB, q, none⟩ = false := fun q => fz_blk y.1 q
                    have yl := y.2.2
                    have z := heap_setCell_at (k := 0) y.1 (.slice (some ⟨gA, 0, none⟩) (i + 1) cA)
                    have z1 : (X4.setCell ⟨lB, 0, none⟩ (.slice (some ⟨gA, 0, none⟩) (i + 1) cA)).cell? ⟨lB, 1, none⟩ = some (.slice aO i kO) := cell_blk z
                    have zf : ∀ q, (X4.setCell ⟨lB, 0, none⟩ (.slice (some ⟨gA, 0, none⟩) (i + 1) cA)).frozen? ⟨lB, q, none⟩ = false := fun q => fz_blk z q
                    have HQ1 : Hid _ := HHS.out X4 0 (.slice (some ⟨gA, 0, none⟩) (i + 1) cA) y.2.1
                    have HQ2 : Hid _ := HHS.out _ 1 (.slice (some ⟨gB, 0, none⟩) (i + 1) cB) HQ1.out
                    clear y z
                    refine wpAnyH_ready (rs := [17]) (by kernel_rfl) (by simp) ?_
                    refine AllReadyH.cons rfl (fun K hK => ?_) AllReadyH.nil
                    rw [if_pos (by rfl)]
                    go_simp
                    refine hK.out _ _ HQ1.out (fun hHeld => ?_)
                    clear hK
                    (try simp only [Act.put, List.setIfInBounds_toArray, List.set_cons_zero, List.set_cons_succ])
                    refine wpAnyH_take (i := 18) (oi := { dst := some 91, op := _, type := _, pos := _, after := _, guard := _ }) (v := .pointer (some ⟨lB, 1, none⟩)) rfl (by kernel_rfl) (by kernel_rfl) (by kernel_rfl) (fun _ _ _ h => h) (Or.inl ⟨by rfl, fun w hSw => by first | (go_simp; done) | go_simp⟩) (by assumption) ?_
                    (try simp only [Act.put, List.setIfInBounds_toArray, List.set_cons_zero, List.set_cons_succ])
                    refine wpAnyH_ready (rs := [19]) (by kernel_rfl) (by simp) ?_
                    refine AllReadyH.cons rfl (fun K hK => ?_) AllReadyH.nil
                    rw [if_pos (by rfl)]
                    go_simp
                    refine hK.out _ _ HQ2.out (fun hHeld => ?_)
                    clear hK
                    (try simp only [Act.put, List.setIfInBounds_toArray, List.set_cons_zero, List.set_cons_succ])
                    refine wpAnyH_done (by kernel_rfl) ?_ _
                    clear hHeld y0 yf yl z1 zf HQ1 HQ2
                    go_wp2_with fail
                    go_roundg (N2 - (i + 1))
                    case measure => omega
                    case rel =>
                      obtain ⟨r1, r2, r3, r4, r5, r6, r7, r8, r9, r10⟩ := HFIN.out _ _ _ _ _ HX4.out
                      exact ⟨i + 1, r1, r2, r3, r4, r5, _, rfl, rfl, by omega, by go_num, r6, r7, r8, r9, r10⟩
                  · rw [if_pos (by rfl)]
                    go_simp
                    obtain ⟨X2, hX2⟩ : ∃ Y, Y = X1.alloc (.cells #[.int .u32 (uo : Int)] 38) := ⟨_, rfl⟩
                    obtain ⟨nB, hnB⟩ : ∃ n, n = X1.heap.size := ⟨_, rfl⟩
                    have HNBX2 : Hid (X2.heap[nB]? = some (.cells #[.int .u32 (uo : Int)] 38 (0, 0)) ∧ V.heap.size ≤ nB) := by rw [hX2, hnB]; exact ⟨heap_alloc_new _ _, HX1.out.o.size⟩
                    have HX2 : Hid _ := HX1.out.alloc (.cells #[.int .u32 (uo : Int)] 38)
                    have HNAX2 : Hid (X2.heap[nA]? = some (.cells #[.slice aW c kW] 23 (0, 0)) ∧ V.heap.size ≤ nA) := by rw [hX2]; exact ⟨blk_alloc _ HNAX1.out.1, HNAX1.out.2⟩
                    rw [← hX2] at HX2 ⊢
                    rw [← hnB]
                    clear hX2 hnB
                    refine hK.out _ _ (HCL.out X2 HX2.out.o).2.1 (fun hHeld => ?_)
                    clear hK
                    (try simp only [Act.put, List.setIfInBounds_toArray, List.set_cons_zero, List.set_cons_succ])
                    refine wpAnyH_ready (rs := [4]) (by kernel_rfl) (by simp) ?_
                    refine AllReadyH.cons rfl (fun K hK => ?_) AllReadyH.nil
                    have yl := (HCL.out X2 HX2.out.o).2.2
                    refine step_A (by rfl) _ _ (by rfl) (lB + 1) (.slice aN i kN) i vs (by rfl) HX2.out.a nA (.slice aW c kW) (by rfl) HNAX2.out.1 rfl (by omega) (by omega) ?_
                    intro gA cA X3 hown hgrow
                    have HNBX3 : Hid (X3.heap[nB]? = some (.cells #[.int .u32 (uo : Int)] 38 (0, 0)) ∧ V.heap.size ≤ nB) := ⟨blk_grow HNBX2.out.1 HX2.out.a hgrow (fun e => by have h1 := own_lt HOLD.out.nx e; have h2 := HNBX2.out.2; omega), HNBX2.out.2⟩
                    have HX3 : Hid _ := HX2.out.appA hgrow hown
                    clear hown hgrow yl
                    refine hK.out _ _ (HCL.out X3 HX3.out.o).2.1 (fun hHeld => ?_)
                    clear hK
                    (try simp only [Act.put, List.setIfInBounds_toArray, List.set_cons_zero, List.set_cons_succ])
                    refine wpAnyH_take (i := 16) (oi := { dst := some 90, op := _, type := _, pos := _, after := _, guard := _ }) (v := .pointer (some ⟨lB, 0, none⟩)) rfl (by kernel_rfl) (by kernel_rfl) (by kernel_rfl) (fun _ _ _ h => h) (Or.inl ⟨by rfl, fun w hSw => by first | (go_simp; done) | go_simp⟩) (by assumption) ?_
                    (try simp only [Act.put, List.setIfInBounds_toArray, List.set_cons_zero, List.set_cons_succ])
                    refine wpAnyH_ready (rs := [15]) (by kernel_rfl) (by simp) ?_
                    refine AllReadyH.cons rfl (fun K hK => ?_) AllReadyH.nil
                    have yl := (HCL.out X3 HX3.out.o).2.2
                    refine step_B (by rfl) _ _ (by rfl) (lB + 1) (.slice aO i kO) i (oB.map u32V) (by rfl) HX3.out.b nB (.int .u32 (uo : Int)) (by rfl) HNBX3.out.1 rfl (by omega) (by omega) ?_
                    intro gB cB X4 hown hgrow
                    have HX4 : Hid _ := HX3.out.appB hgrow hown
                    clear hown hgrow yl
                    refine hK.out _ _ (HCL.out X4 HX4.out.o).2.1 (fun hHeld => ?_)
                    clear hK
                    (try simp only [Act.put, List.setIfInBounds_toArray, List.set_cons_zero, List.set_cons_succ])
                    have y := HCL.out X4 HX4.out.o
                    have y0 : X4.cell? ⟨lB, 0, none⟩ = some (.slice aN i kN) := cell_blk y.1
                    have yf : ∀ q, X4.frozen? ⟨lB, q, none⟩ = false := fun q => fz_blk y.1 q
                    have yl := y.2.2
                    have z := heap_setCell_at (k := 0) y.1 (.slice (some ⟨gA, 0, none⟩) (i + 1) cA)
                    have z1 : (X4.setCell ⟨lB, 0, none⟩ (.slice (some ⟨gA, 0, none⟩) (i + 1) cA)).cell? ⟨lB, 1, none⟩ = some (.slice aO i kO) := cell_blk z
                    have zf : ∀ q, (X4.setCell ⟨lB, 0, none⟩ (.slice (some ⟨gA, 0, none⟩) (i + 1) cA)).frozen? ⟨lB, q, none⟩ = false := fun q => fz_blk z q
                    have HQ1 : Hid _ := HHS.out X4 0 (.slice (some ⟨gA, 0, none⟩) (i + 1) cA) y.2.1
                    have HQ2 : Hid _ := HHS.out _ 1 (.slice (some ⟨gB, 0, none⟩) (i + 1) cB) HQ1.out
                    clear y z
                    refine wpAnyH_ready (rs := [17]) (by kernel_rfl) (by simp) ?_
                    refine AllReadyH.cons rfl (fun K hK => ?_) AllReadyH.nil
                    rw [if_pos (by rfl)]
                    go_simp
                    refine hK.out _ _ HQ1.out (fun hHeld => ?_)
                    clear hK
                    (try simp only [Act.put, List.setIfInBounds_toArray, List.set_cons_zero, List.set_cons_succ])
                    refine wpAnyH_take (i := 18) (oi := { dst := some 91, op := _, type := _, pos := _, after := _, guard := _ }) (v := .pointer (some ⟨lB, 1, none⟩)) rfl (by kernel_rfl) (by kernel_rfl) (by kernel_rfl) (fun _ _ _ h => h) (Or.inl ⟨by rfl, fun w hSw => by first | (go_simp; done) | go_simp⟩) (by assumption) ?_
                    (try simp only [Act.put, List.setIfInBounds_toArray, List.set_cons_zero, List.set_cons_succ])
                    refine wpAnyH_ready (rs := [19]) (by kernel_rfl) (by simp) ?_
                    refine AllReadyH.cons rfl (fun K hK => ?_) AllReadyH.nil
                    rw [if_pos (by rfl)]
                    go_simp
                    refine hK.out _ _ HQ2.out (fun hHeld => ?_)
                    clear hK
                    (try simp only [Act.put, List.setIfInBounds_toArray, List.set_cons_zero, List.set_cons_succ])
                    refine wpAnyH_done (by kernel_rfl) ?_ _
                    clear hHeld y0 yf yl z1 zf HQ1 HQ2
                    go_wp2_with fail
                    go_roundg (N2 - (i + 1))
                    case measure => omega
                    case rel =>
                      obtain ⟨r1, r2, r3, r4, r5, r6, r7, r8, r9, r10⟩ := HFIN.out _ _ _ _ _ HX4.out
                      exact ⟨i + 1, r1, r2, r3, r4, r5, _, rfl, rfl, by omega, by go_num, r6, r7, r8, r9, r10⟩
                · rw [if_pos (by rfl)]
                  go_simp
                  obtain ⟨X2, hX2⟩ : ∃ Y, Y = X1.alloc (.cells #[.int .u32 (uo : Int)] 38) := ⟨_, rfl⟩
                  obtain ⟨nB, hnB⟩ : ∃ n, n = X1.heap.size := ⟨_, rfl⟩
                  have HNBX2 : Hid (X2.heap[nB]? = some (.cells #[.int .u32 (uo : Int)] 38 (0, 0)) ∧ V.heap.size ≤ nB) := by rw [hX2, hnB]; exact ⟨heap_alloc_new _ _, HX1.out.o.size⟩
                  have HX2 : Hid _ := HX1.out.alloc (.cells #[.int .u32 (uo : Int)] 38)
                  have HNAX2 : Hid (X2.heap[nA]? = some (.cells #[.slice aW c kW] 23 (0, 0)) ∧ V.heap.size ≤ nA) := by rw [hX2]; exact ⟨blk_alloc _ HNAX1.out.1, HNAX1.out.2⟩
                  rw [← hX2] at HX2 ⊢
                  rw [← hnB]
                  clear hX2 hnB
                  refine hK.out _ _ (HCL.out X2 HX2.out.o).2.1 (fun hHeld => ?_)
                  clear hK
                  (try simp only [Act.put, List.setIfInBounds_toArray, List.set_cons_zero, List.set_cons_succ])
                  refine wpAnyH_ready (rs := [1]) (by kernel_rfl) (by simp) ?_
                  refine AllReadyH.cons rfl (fun K hK => ?_) AllReadyH.nil
                  have y := HCL.out X2 HX2.out.o
                  have y0 : X2.cell? ⟨lB, 0, none⟩ = some (.slice aN i kN) := cell_blk y.1
                  have yl := y.2.2
                  rw [if_pos (by rfl)]
                  go_simp
                  refine hK.out _ _ y.2.1 (fun hHeld => ?_)
                  clear hK y y0 yl
                  (try simp only [Act.put, List.setIfInBounds_toArray, List.set_cons_zero, List.set_cons_succ])
                  refine wpAnyH_ready (rs := [4]) (by kernel_rfl) (by simp) ?_
                  refine AllReadyH.cons rfl (fun K hK => ?_) AllReadyH.nil
                  have yl := (HCL.out X2 HX2.out.o).2.2
                  refine step_A (by rfl) _ _ (by rfl) (lB + 1) (.slice aN i kN) i vs (by rfl) HX2.out.a nA (.slice aW c kW) (by rfl) HNAX2.out.1 rfl (by omega) (by omega) ?_
                  intro gA cA X3 hown hgrow
                  have HNBX3 : Hid (X3.heap[nB]? = some (.cells #[.int .u32 (uo : Int)] 38 (0, 0)) ∧ V.heap.size ≤ nB) := ⟨blk_grow HNBX2.out.1 HX2.out.a hgrow (fun e => by have h1 := own_lt HOLD.out.nx e; have h2 := HNBX2.out.2; omega), HNBX2.out.2⟩
                  have HX3 : Hid _ := HX2.out.appA hgrow hown
                  clear hown hgrow yl
                  refine hK.out _ _ (HCL.out X3 HX3.out.o).2.1 (fun hHeld => ?_)
                  clear hK
                  (try simp only [Act.put, List.setIfInBounds_toArray, List.set_cons_zero, List.set_cons_succ])
                  refine wpAnyH_take (i := 16) (oi := { dst := some 90, op := _, type := _, pos := _, after := _, guard := _ }) (v := .pointer (some ⟨lB, 0, none⟩)) rfl (by kernel_rfl) (by kernel_rfl) (by kernel_rfl) (fun _ _ _ h => h) (Or.inl ⟨by rfl, fun w hSw => by first | (go_simp; done) | go_simp⟩) (by assumption) ?_
                  (try simp only [Act.put, List.setIfInBounds_toArray, List.set_cons_zero, List.set_cons_succ])
                  refine wpAnyH_ready (rs := [15]) (by kernel_rfl) (by simp) ?_
                  refine AllReadyH.cons rfl (fun K hK => ?_) AllReadyH.nil
                  have yl := (HCL.out X3 HX3.out.o).2.2
                  refine step_B (by rfl) _ _ (by rfl) (lB + 1) (.slice aO i kO) i (oB.map u32V) (by rfl) HX3.out.b nB (.int .u32 (uo : Int)) (by rfl) HNBX3.out.1 rfl (by omega) (by omega) ?_
                  intro gB cB X4 hown hgrow
                  have HX4 : Hid _ := HX3.out.appB hgrow hown
                  clear hown hgrow yl
                  refine hK.out _ _ (HCL.out X4 HX4.out.o).2.1 (fun hHeld => ?_)
                  clear hK
                  (try simp only [Act.put, List.setIfInBounds_toArray, List.set_cons_zero, List.set_cons_succ])
                  have y := HCL.out X4 HX4.out.o
                  have y0 : X4.cell? ⟨lB, 0, none⟩ = some (.slice aN i kN) := cell_blk y.1
                  have yf : ∀ q, X4.frozen? ⟨lB, q, none⟩ = false := fun q => fz_blk y.1 q
                  have yl := y.2.2
                  have z := heap_setCell_at (k := 0) y.1 (.slice (some ⟨gA, 0, none⟩) (i + 1) cA)
                  have z1 : (X4.setCell ⟨lB, 0, none⟩ (.slice (some ⟨gA, 0, none⟩) (i + 1) cA)).cell? ⟨lB, 1, none⟩ = some (.slice aO i kO) := cell_blk z
                  have zf : ∀ q, (X4.setCell ⟨lB, 0, none⟩ (.slice (some ⟨gA, 0, none⟩) (i + 1) cA)).frozen? ⟨lB, q, none⟩ = false := fun q => fz_blk z q
                  have HQ1 : Hid _ := HHS.out X4 0 (.slice (some ⟨gA, 0, none⟩) (i + 1) cA) y.2.1
                  have HQ2 : Hid _ := HHS.out _ 1 (.slice (some ⟨gB, 0, none⟩) (i + 1) cB) HQ1.out
                  clear y z
                  refine wpAnyH_ready (rs := [17]) (by kernel_rfl) (by simp) ?_
                  refine AllReadyH.cons rfl (fun K hK => ?_) AllReadyH.nil
                  rw [if_pos (by rfl)]
                  go_simp
                  refine hK.out _ _ HQ1.out (fun hHeld => ?_)
                  clear hK
                  (try simp only [Act.put, List.setIfInBounds_toArray, List.set_cons_zero, List.set_cons_succ])
                  refine wpAnyH_take (i := 18) (oi := { dst := some 91, op := _, type := _, pos := _, after := _, guard := _ }) (v := .pointer (some ⟨lB, 1, none⟩)) rfl (by kernel_rfl) (by kernel_rfl) (by kernel_rfl) (fun _ _ _ h => h) (Or.inl ⟨by rfl, fun w hSw => by first | (go_simp; done) | go_simp⟩) (by assumption) ?_
                  (try simp only [Act.put, List.setIfInBounds_toArray, List.set_cons_zero, List.set_cons_succ])
                  refine wpAnyH_ready (rs := [19]) (by kernel_rfl) (by simp) ?_
                  refine AllReadyH.cons rfl (fun K hK => ?_) AllReadyH.nil
                  rw [if_pos (by rfl)]
                  go_simp
                  refine hK.out _ _ HQ2.out (fun hHeld => ?_)
                  clear hK
                  (try simp only [Act.put, List.setIfInBounds_toArray, List.set_cons_zero, List.set_cons_succ])
                  refine wpAnyH_done (by kernel_rfl) ?_ _
                  clear hHeld y0 yf yl z1 zf HQ1 HQ2
                  go_wp2_with fail
                  go_roundg (N2 - (i + 1))
                  case measure => omega
                  case rel =>
                    obtain ⟨r1, r2, r3, r4, r5, r6, r7, r8, r9, r10⟩ := HFIN.out _ _ _ _ _ HX4.out
                    exact ⟨i + 1, r1, r2, r3, r4, r5, _, rfl, rfl, by omega, by go_num, r6, r7, r8, r9, r10⟩
              · rw [if_pos (by rfl)]
                go_simp
                obtain ⟨X2, hX2⟩ : ∃ Y, Y = X1.alloc (.cells #[.int .u32 (uo : Int)] 38) := ⟨_, rfl⟩
                obtain ⟨nB, hnB⟩ : ∃ n, n = X1.heap.size := ⟨_, rfl⟩
                have HNBX2 : Hid (X2.heap[nB]? = some (.cells #[.int .u32 (uo : Int)] 38 (0, 0)) ∧ V.heap.size ≤ nB) := by rw [hX2, hnB]; exact ⟨heap_alloc_new _ _, HX1.out.o.size⟩
                have HX2 : Hid _ := HX1.out.alloc (.cells #[.int .u32 (uo : Int)] 38)
                have HNAX2 : Hid (X2.heap[nA]? = some (.cells #[.slice aW c kW] 23 (0, 0)) ∧ V.heap.size ≤ nA) := by rw [hX2]; exact ⟨blk_alloc _ HNAX1.out.1, HNAX1.out.2⟩
                rw [← hX2] at HX2 ⊢
                rw [← hnB]
                clear hX2 hnB
                refine hK.out _ _ (HCL.out X2 HX2.out.o).2.1 (fun hHeld => ?_)
                clear hK
                (try simp only [Act.put, List.setIfInBounds_toArray, List.set_cons_zero, List.set_cons_succ])
                refine wpAnyH_ready (rs := [1, 6]) (by kernel_rfl) (by simp) ?_
                refine AllReadyH.cons rfl (fun K hK => ?_) (AllReadyH.cons rfl (fun K hK => ?_) AllReadyH.nil)
                · have y := HCL.out X2 HX2.out.o
                  have y0 : X2.cell? ⟨lB, 0, none⟩ = some (.slice aN i kN) := cell_blk y.1
                  have yl := y.2.2
                  rw [if_pos (by rfl)]
                  go_simp
                  refine hK.out _ _ y.2.1 (fun hHeld => ?_)
                  clear hK y y0 yl
                  (try simp only [Act.put, List.setIfInBounds_toArray, List.set_cons_zero, List.set_cons_succ])
                  refine wpAnyH_ready (rs := [4, 6]) (by kernel_rfl) (by simp) ?_
                  refine AllReadyH.cons rfl (fun K hK => ?_) (AllReadyH.cons rfl (fun K hK => ?_) AllReadyH.nil)
                  · have yl := (HCL.out X2 HX2.out.o).2.2
                    refine step_A (by rfl) _ _ (by rfl) (lB + 1) (.slice aN i kN) i vs (by rfl) HX2.out.a nA (.slice aW c kW) (by rfl) HNAX2.out.1 rfl (by omega) (by omega) ?_
                    intro gA cA X3 hown hgrow
                    have HNBX3 : Hid (X3.heap[nB]? = some (.cells #[.int .u32 (uo : Int)] 38 (0, 0)) ∧ V.heap.size ≤ nB) := ⟨blk_grow HNBX2.out.1 HX2.out.a hgrow (fun e => by have h1 := own_lt HOLD.out.nx e; have h2 := HNBX2.out.2; omega), HNBX2.out.2⟩
                    have HX3 : Hid _ := HX2.out.appA hgrow hown
                    clear hown hgrow yl
                    refine hK.out _ _ (HCL.out X3 HX3.out.o).2.1 (fun hHeld => ?_)
                    clear hK
                    (try simp only [Act.put, List.setIfInBounds_toArray, List.set_cons_zero, List.set_cons_succ])
                    refine wpAnyH_ready (rs := [6]) (by kernel_rfl) (by simp) ?_
                    refine AllReadyH.cons rfl (fun K hK => ?_) AllReadyH.nil
                    have y := HCL.out X3 HX3.out.o
                    have y0 : X3.cell? ⟨lB, 1, none⟩ = some (.slice aO i kO) := cell_blk y.1
                    have yl := y.2.2
                    rw [if_pos (by rfl)]
                    go_simp
                    refine hK.out _ _ y.2.1 (fun hHeld => ?_)
                    clear hK y y0 yl
                    (try simp only [Act.put, List.setIfInBounds_toArray, List.set_cons_zero, List.set_cons_succ])
                    refine wpAnyH_take (i := 16) (oi := { dst := some 90, op := _, type := _, pos := _, after := _, guard := _ }) (v := .pointer (some ⟨lB, 0, none⟩)) rfl (by kernel_rfl) (by kernel_rfl) (by kernel_rfl) (fun _ _ _ h => h) (Or.inl ⟨by rfl, fun w hSw => by first | (go_simp; done) | go_simp⟩) (by assumption) ?_
                    (try simp only [Act.put, List.setIfInBounds_toArray, List.set_cons_zero, List.set_cons_succ])
                    refine wpAnyH_ready (rs := [15]) (by kernel_rfl) (by simp) ?_
                    refine AllReadyH.cons rfl (fun K hK => ?_) AllReadyH.nil
                    have yl := (HCL.out X3 HX3.out.o).2.2
                    refine step_B (by rfl) _ _ (by rfl) (lB + 1) (.slice aO i kO) i (oB.map u32V) (by rfl) HX3.out.b nB (.int .u32 (uo : Int)) (by rfl) HNBX3.out.1 rfl (by omega) (by omega) ?_
                    intro gB cB X4 hown hgrow
                    have HX4 : Hid _ := HX3.out.appB hgrow hown
                    clear hown hgrow yl
                    refine hK.out _ _ (HCL.out X4 HX4.out.o).2.1 (fun hHeld => ?_)
                    clear hK
                    (try simp only [Act.put, List.setIfInBounds_toArray, List.set_cons_zero, List.set_cons_succ])
                    have y := HCL.out X4 HX4.out.o
                    have y0 : X4.cell? ⟨lB, 0, none⟩ = some (.slice aN i kN) := cell_blk y.1
                    have yf : ∀ q, X4.frozen? ⟨lB, q, none⟩ = false := fun q => fz_blk y.1 q
                    have yl := y.2.2
                    have z := heap_setCell_at (k := 0) y.1 (.slice (some ⟨gA, 0, none⟩) (i + 1) cA)
                    have z1 : (X4.setCell ⟨lB, 0, none⟩ (.slice (some ⟨gA, 0, none⟩) (i + 1) cA)).cell? ⟨lB, 1, none⟩ = some (.slice aO i kO) := cell_blk z
                    have zf : ∀ q, (X4.setCell ⟨lB, 0, none⟩ (.slice (some ⟨gA, 0, none⟩) (i + 1) cA)).frozen? ⟨lB, q, none⟩ = false := fun q => fz_blk z q
                    have HQ1 : Hid _ := HHS.out X4 0 (.slice (some ⟨gA, 0, none⟩) (i + 1) cA) y.2.1
                    have HQ2 : Hid _ := HHS.out _ 1 (.slice (some ⟨gB, 0, none⟩) (i + 1) cB) HQ1.out
                    clear y z
                    refine wpAnyH_ready (rs := [17]) (by kernel_rfl) (by simp) ?_
                    refine AllReadyH.cons rfl (fun K hK => ?_) AllReadyH.nil
                    rw [if_pos (by rfl)]
                    go_simp
                    refine hK.out _ _ HQ1.out (fun hHeld => ?_)
                    clear hK
                    (try simp only [Act.put, List.setIfInBounds_toArray, List.set_cons_zero, List.set_cons_succ])
                    refine wpAnyH_take (i := 18) (oi := { dst := some 91, op := _, type := _, pos := _, after := _, guard := _ }) (v := .pointer (some ⟨lB, 1, none⟩)) rfl (by kernel_rfl) (by kernel_rfl) (by kernel_rfl) (fun _ _ _ h => h) (Or.inl ⟨by rfl, fun w hSw => by first | (go_simp; done) | go_simp⟩) (by assumption) ?_
                    (try simp only [Act.put, List.setIfInBounds_toArray, List.set_cons_zero, List.set_cons_succ])
                    refine wpAnyH_ready (rs := [19]) (by kernel_rfl) (by simp) ?_
                    refine AllReadyH.cons rfl (fun K hK => ?_) AllReadyH.nil
                    rw [if_pos (by rfl)]
                    go_simp
                    refine hK.out _ _ HQ2.out (fun hHeld => ?_)
                    clear hK
                    (try simp only [Act.put, List.setIfInBounds_toArray, List.set_cons_zero, List.set_cons_succ])
                    refine wpAnyH_done (by kernel_rfl) ?_ _
                    clear hHeld y0 yf yl z1 zf HQ1 HQ2
                    go_wp2_with fail
                    go_roundg (N2 - (i + 1))
                    case measure => omega
                    case rel =>
                      obtain ⟨r1, r2, r3, r4, r5, r6, r7, r8, r9, r10⟩ := HFIN.out _ _ _ _ _ HX4.out
                      exact ⟨i + 1, r1, r2, r3, r4, r5, _, rfl, rfl, by omega, by go_num, r6, r7, r8, r9, r10⟩
                  · have y := HCL.out X2 HX2.out.o
                    have y0 : X2.cell? ⟨lB, 1, none⟩ = some (.slice aO i kO) := cell_blk y.1
                    have yl := y.2.2
                    rw [if_pos (by rfl)]
                    go_simp
                    refine hK.out _ _ y.2.1 (fun hHeld => ?_)
                    clear hK y y0 yl
                    (try simp only [Act.put, List.setIfInBounds_toArray, List.set_cons_zero, List.set_cons_succ])
                    refine wpAnyH_ready (rs := [4]) (by kernel_rfl) (by simp) ?_
                    refine AllReadyH.cons rfl (fun K hK => ?_) AllReadyH.nil
                    have yl := (HCL.out X2 HX2.out.o).2.2
                    refine step_A (by rfl) _ _ (by rfl) (lB + 1) (.slice aN i kN) i vs (by rfl) HX2.out.a nA (.slice aW c kW) (by rfl) HNAX2.out.1 rfl (by omega) (by omega) ?_
                    intro gA cA X3 hown hgrow
                    have HNBX3 : Hid (X3.heap[nB]? = some (.cells #[.int .u32 (uo : Int)] 38 (0, 0)) ∧ V.heap.size ≤ nB) := ⟨blk_grow HNBX2.out.1 HX2.out.a hgrow (fun e => by have h1 := own_lt HOLD.out.nx e; have h2 := HNBX2.out.2; omega), HNBX2.out.2⟩
                    have HX3 : Hid _ := HX2.out.appA hgrow hown
                    clear hown hgrow yl
                    refine hK.out _ _ (HCL.out X3 HX3.out.o).2.1 (fun hHeld => ?_)
                    clear hK
                    (try simp only [Act.put, List.setIfInBounds_toArray, List.set_cons_zero, List.set_cons_succ])
                    refine wpAnyH_take (i := 16) (oi := { dst := some 90, op := _, type := _, pos := _, after := _, guard := _ }) (v := .pointer (some ⟨lB, 0, none⟩)) rfl (by kernel_rfl) (by kernel_rfl) (by kernel_rfl) (fun _ _ _ h => h) (Or.inl ⟨by rfl, fun w hSw => by first | (go_simp; done) | go_simp⟩) (by assumption) ?_
                    (try simp only [Act.put, List.setIfInBounds_toArray, List.set_cons_zero, List.set_cons_succ])
                    refine wpAnyH_ready (rs := [15]) (by kernel_rfl) (by simp) ?_
                    refine AllReadyH.cons rfl (fun K hK => ?_) AllReadyH.nil
                    have yl := (HCL.out X3 HX3.out.o).2.2
                    refine step_B (by rfl) _ _ (by rfl) (lB + 1) (.slice aO i kO) i (oB.map u32V) (by rfl) HX3.out.b nB (.int .u32 (uo : Int)) (by rfl) HNBX3.out.1 rfl (by omega) (by omega) ?_
                    intro gB cB X4 hown hgrow
                    have HX4 : Hid _ := HX3.out.appB hgrow hown
                    clear hown hgrow yl
                    refine hK.out _ _ (HCL.out X4 HX4.out.o).2.1 (fun hHeld => ?_)
                    clear hK
                    (try simp only [Act.put, List.setIfInBounds_toArray, List.set_cons_zero, List.set_cons_succ])
                    have y := HCL.out X4 HX4.out.o
                    have y0 : X4.cell? ⟨lB, 0, none⟩ = some (.slice aN i kN) := cell_blk y.1
                    have yf : ∀ q, X4.frozen? ⟨lB, q, none⟩ = false := fun q => fz_blk y.1 q
                    have yl := y.2.2
                    have z := heap_setCell_at (k := 0) y.1 (.slice (some ⟨gA, 0, none⟩) (i + 1) cA)
                    have z1 : (X4.setCell ⟨lB, 0, none⟩ (.slice (some ⟨gA, 0, none⟩) (i + 1) cA)).cell? ⟨lB, 1, none⟩ = some (.slice aO i kO) := cell_blk z
                    have zf : ∀ q, (X4.setCell ⟨lB, 0, none⟩ (.slice (some ⟨gA, 0, none⟩) (i + 1) cA)).frozen? ⟨lB, q, none⟩ = false := fun q => fz_blk z q
                    have HQ1 : Hid _ := HHS.out X4 0 (.slice (some ⟨gA, 0, none⟩) (i + 1) cA) y.2.1
                    have HQ2 : Hid _ := HHS.out _ 1 (.slice (some ⟨gB, 0, none⟩) (i + 1) cB) HQ1.out
                    clear y z
                    refine wpAnyH_ready (rs := [17]) (by kernel_rfl) (by simp) ?_
                    refine AllReadyH.cons rfl (fun K hK => ?_) AllReadyH.nil
                    rw [if_pos (by rfl)]
                    go_simp
                    refine hK.out _ _ HQ1.out (fun hHeld => ?_)
                    clear hK
                    (try simp only [Act.put, List.setIfInBounds_toArray, List.set_cons_zero, List.set_cons_succ])
                    refine wpAnyH_take (i := 18) (oi := { dst := some 91, op := _, type := _, pos := _, after := _, guard := _ }) (v := .pointer (some ⟨lB, 1, none⟩)) rfl (by kernel_rfl) (by kernel_rfl) (by kernel_rfl) (fun _ _ _ h => h) (Or.inl ⟨by rfl, fun w hSw => by first | (go_simp; done) | go_simp⟩) (by assumption) ?_
                    (try simp only [Act.put, List.setIfInBounds_toArray, List.set_cons_zero, List.set_cons_succ])
                    refine wpAnyH_ready (rs := [19]) (by kernel_rfl) (by simp) ?_
                    refine AllReadyH.cons rfl (fun K hK => ?_) AllReadyH.nil
                    rw [if_pos (by rfl)]
                    go_simp
                    refine hK.out _ _ HQ2.out (fun hHeld => ?_)
                    clear hK
                    (try simp only [Act.put, List.setIfInBounds_toArray, List.set_cons_zero, List.set_cons_succ])
                    refine wpAnyH_done (by kernel_rfl) ?_ _
                    clear hHeld y0 yf yl z1 zf HQ1 HQ2
                    go_wp2_with fail
                    go_roundg (N2 - (i + 1))
                    case measure => omega
                    case rel =>
                      obtain ⟨r1, r2, r3, r4, r5, r6, r7, r8, r9, r10⟩ := HFIN.out _ _ _ _ _ HX4.out
                      exact ⟨i + 1, r1, r2, r3, r4, r5, _, rfl, rfl, by omega, by go_num, r6, r7, r8, r9, r10⟩
                · have y := HCL.out X2 HX2.out.o
                  have y0 : X2.cell? ⟨lB, 1, none⟩ = some (.slice aO i kO) := cell_blk y.1
                  have yl := y.2.2
                  rw [if_pos (by rfl)]
                  go_simp
                  refine hK.out _ _ y.2.1 (fun hHeld => ?_)
                  clear hK y y0 yl
                  (try simp only [Act.put, List.setIfInBounds_toArray, List.set_cons_zero, List.set_cons_succ])
                  refine wpAnyH_ready (rs := [1]) (by kernel_rfl) (by simp) ?_
                  refine AllReadyH.cons rfl (fun K hK => ?_) AllReadyH.nil
                  have y := HCL.out X2 HX2.out.o
                  have y0 : X2.cell? ⟨lB, 0, none⟩ = some (.slice aN i kN) := cell_blk y.1
                  have yl := y.2.2
                  rw [if_pos (by rfl)]
                  go_simp
                  refine hK.out _ _ y.2.1 (fun hHeld => ?_)
                  clear hK y y0 yl
                  (try simp only [Act.put, List.setIfInBounds_toArray, List.set_cons_zero, List.set_cons_succ])
                  refine wpAnyH_ready (rs := [4]) (by kernel_rfl) (by simp) ?_
                  refine AllReadyH.cons rfl (fun K hK => ?_) AllReadyH.nil
                  have yl := (HCL.out X2 HX2.out.o).2.2
                  refine step_A (by rfl) _ _ (by rfl) (lB + 1) (.slice aN i kN) i vs (by rfl) HX2.out.a nA (.slice aW c kW) (by rfl) HNAX2.out.1 rfl (by omega) (by omega) ?_
                  intro gA cA X3 hown hgrow
                  have HNBX3 : Hid (X3.heap[nB]? = some (.cells #[.int .u32 (uo : Int)] 38 (0, 0)) ∧ V.heap.size ≤ nB) := ⟨blk_grow HNBX2.out.1 HX2.out.a hgrow (fun e => by have h1 := own_lt HOLD.out.nx e; have h2 := HNBX2.out.2; omega), HNBX2.out.2⟩
                  have HX3 : Hid _ := HX2.out.appA hgrow hown
                  clear hown hgrow yl
                  refine hK.out _ _ (HCL.out X3 HX3.out.o).2.1 (fun hHeld => ?_)
                  clear hK
                  (try simp only [Act.put, List.setIfInBounds_toArray, List.set_cons_zero, List.set_cons_succ])
                  refine wpAnyH_take (i := 16) (oi := { dst := some 90, op := _, type := _, pos := _, after := _, guard := _ }) (v := .pointer (some ⟨lB, 0, none⟩)) rfl (by kernel_rfl) (by kernel_rfl) (by kernel_rfl) (fun _ _ _ h => h) (Or.inl ⟨by rfl, fun w hSw => by first | (go_simp; done) | go_simp⟩) (by assumption) ?_
                  (try simp only [Act.put, List.setIfInBounds_toArray, List.set_cons_zero, List.set_cons_succ])
                  refine wpAnyH_ready (rs := [15]) (by kernel_rfl) (by simp) ?_
                  refine AllReadyH.cons rfl (fun K hK => ?_) AllReadyH.nil
                  have yl := (HCL.out X3 HX3.out.o).2.2
                  refine step_B (by rfl) _ _ (by rfl) (lB + 1) (.slice aO i kO) i (oB.map u32V) (by rfl) HX3.out.b nB (.int .u32 (uo : Int)) (by rfl) HNBX3.out.1 rfl (by omega) (by omega) ?_
                  intro gB cB X4 hown hgrow
                  have HX4 : Hid _ := HX3.out.appB hgrow hown
                  clear hown hgrow yl
                  refine hK.out _ _ (HCL.out X4 HX4.out.o).2.1 (fun hHeld => ?_)
                  clear hK
                  (try simp only [Act.put, List.setIfInBounds_toArray, List.set_cons_zero, List.set_cons_succ])
                  have y := HCL.out X4 HX4.out.o
                  have y0 : X4.cell? ⟨lB, 0, none⟩ = some (.slice aN i kN) := cell_blk y.1
                  have yf : ∀ q, X4.frozen? ⟨lB, q, none⟩ = false := fun q => fz_blk y.1 q
                  have yl := y.2.2
                  have z := heap_setCell_at (k := 0) y.1 (.slice (some ⟨gA, 0, none⟩) (i + 1) cA)
                  have z1 : (X4.setCell ⟨lB, 0, none⟩ (.slice (some ⟨gA, 0, none⟩) (i + 1) cA)).cell? ⟨lB, 1, none⟩ = some (.slice aO i kO) := cell_blk z
                  have zf : ∀ q, (X4.setCell ⟨lB, 0, none⟩ (.slice (some ⟨gA, 0, none⟩) (i + 1) cA)).frozen? ⟨lB, q, none⟩ = false := fun q => fz_blk z q
                  have HQ1 : Hid _ := HHS.out X4 0 (.slice (some ⟨gA, 0, none⟩) (i + 1) cA) y.2.1
                  have HQ2 : Hid _ := HHS.out _ 1 (.slice (some ⟨gB, 0, none⟩) (i + 1) cB) HQ1.out
                  clear y z
                  refine wpAnyH_ready (rs := [17]) (by kernel_rfl) (by simp) ?_
                  refine AllReadyH.cons rfl (fun K hK => ?_) AllReadyH.nil
                  rw [if_pos (by rfl)]
                  go_simp
                  refine hK.out _ _ HQ1.out (fun hHeld => ?_)
                  clear hK
                  (try simp only [Act.put, List.setIfInBounds_toArray, List.set_cons_zero, List.set_cons_succ])
                  refine wpAnyH_take (i := 18) (oi := { dst := some 91, op := _, type := _, pos := _, after := _, guard := _ }) (v := .pointer (some ⟨lB, 1, none⟩)) rfl (by kernel_rfl) (by kernel_rfl) (by kernel_rfl) (fun _ _ _ h => h) (Or.inl ⟨by rfl, fun w hSw => by first | (go_simp; done) | go_simp⟩) (by assumption) ?_
                  (try simp only [Act.put, List.setIfInBounds_toArray, List.set_cons_zero, List.set_cons_succ])
                  refine wpAnyH_ready (rs := [19]) (by kernel_rfl) (by simp) ?_
                  refine AllReadyH.cons rfl (fun K hK => ?_) AllReadyH.nil
                  rw [if_pos (by rfl)]
                  go_simp
                  refine hK.out _ _ HQ2.out (fun hHeld => ?_)
                  clear hK
                  (try simp only [Act.put, List.setIfInBounds_toArray, List.set_cons_zero, List.set_cons_succ])
                  refine wpAnyH_done (by kernel_rfl) ?_ _
                  clear hHeld y0 yf yl z1 zf HQ1 HQ2
                  go_wp2_with fail
                  go_roundg (N2 - (i + 1))
                  case measure => omega
                  case rel =>
                    obtain ⟨r1, r2, r3, r4, r5, r6, r7, r8, r9, r10⟩ := HFIN.out _ _ _ _ _ HX4.out
                    exact ⟨i + 1, r1, r2, r3, r4, r5, _, rfl, rfl, by omega, by go_num, r6, r7, r8, r9, r10⟩
            · have y := HCL.out X0 HX0.out.o
              have y0 : X0.cell? ⟨lB, 1, none⟩ = some (.slice aO i kO) := cell_blk y.1
              have yl := y.2.2
              rw [if_pos (by rfl)]
              go_simp
              refine hK.out _ _ y.2.1 (fun hHeld => ?_)
              clear hK y y0 yl
              (try simp only [Act.put, List.setIfInBounds_toArray, List.set_cons_zero, List.set_cons_succ])
              refine wpAnyH_ready (rs := [1, 3, 14]) (by kernel_rfl) (by simp) ?_
              refine AllReadyH.cons rfl (fun K hK => ?_) (AllReadyH.cons rfl (fun K hK => ?_) (AllReadyH.cons rfl (fun K hK => ?_) AllReadyH.nil))
              · have y := HCL.out X0 HX0.out.o
                have y0 : X0.cell? ⟨lB, 0, none⟩ = some (.slice aN i kN) := cell_blk y.1
                have yl := y.2.2
                rw [if_pos (by rfl)]
                go_simp
                refine hK.out _ _ y.2.1 (fun hHeld => ?_)
                clear hK y y0 yl
                (try simp only [Act.put, List.setIfInBounds_toArray, List.set_cons_zero, List.set_cons_succ])
                refine wpAnyH_ready (rs := [3, 14]) (by kernel_rfl) (by simp) ?_
                refine AllReadyH.cons rfl (fun K hK => ?_) (AllReadyH.cons rfl (fun K hK => ?_) AllReadyH.nil)
                · rw [if_pos (by rfl)]
                  go_simp
                  obtain ⟨X1, hX1⟩ : ∃ Y, Y = X0.alloc (.cells #[.slice aW c kW] 23) := ⟨_, rfl⟩
                  obtain ⟨nA, hnA⟩ : ∃ n, n = X0.heap.size := ⟨_, rfl⟩
                  have HNAX1 : Hid (X1.heap[nA]? = some (.cells #[.slice aW c kW] 23 (0, 0)) ∧ V.heap.size ≤ nA) := by rw [hX1, hnA]; exact ⟨heap_alloc_new _ _, HX0.out.o.size⟩
                  have HX1 : Hid _ := HX0.out.alloc (.cells #[.slice aW c kW] 23)
                  rw [← hX1] at HX1 ⊢
                  rw [← hnA]
                  clear hX1 hnA
                  refine hK.out _ _ (HCL.out X1 HX1.out.o).2.1 (fun hHeld => ?_)
                  clear hK
                  (try simp only [Act.put, List.setIfInBounds_toArray, List.set_cons_zero, List.set_cons_succ])
                  refine wpAnyH_ready (rs := [4, 14]) (by kernel_rfl) (by simp) ?_
                  refine AllReadyH.cons rfl (fun K hK => ?_) (AllReadyH.cons rfl (fun K hK => ?_) AllReadyH.nil)
                  · have yl := (HCL.out X1 HX1.out.o).2.2
                    refine step_A (by rfl) _ _ (by rfl) (lB + 1) (.slice aN i kN) i vs (by rfl) HX1.out.a nA (.slice aW c kW) (by rfl) HNAX1.out.1 rfl (by omega) (by omega) ?_
                    intro gA cA X2 hown hgrow
                    have HX2 : Hid _ := HX1.out.appA hgrow hown
                    clear hown hgrow yl
                    refine hK.out _ _ (HCL.out X2 HX2.out.o).2.1 (fun hHeld => ?_)
                    clear hK
                    (try simp only [Act.put, List.setIfInBounds_toArray, List.set_cons_zero, List.set_cons_succ])
                    refine wpAnyH_take (i := 16) (oi := { dst := some 90, op := _, type := _, pos := _, after := _, guard := _ }) (v := .pointer (some ⟨lB, 0, none⟩)) rfl (by kernel_rfl) (by kernel_rfl) (by kernel_rfl) (fun _ _ _ h => h) (Or.inl ⟨by rfl, fun w hSw => by first | (go_simp; done) | go_simp⟩) (by assumption) ?_
                    (try simp only [Act.put, List.setIfInBounds_toArray, List.set_cons_zero, List.set_cons_succ])
                    refine wpAnyH_ready (rs := [14]) (by kernel_rfl) (by simp) ?_
                    refine AllReadyH.cons rfl (fun K hK => ?_) AllReadyH.nil
                    rw [if_pos (by rfl)]
                    go_simp
                    obtain ⟨X3, hX3⟩ : ∃ Y, Y = X2.alloc (.cells #[.int .u32 (uo : Int)] 38) := ⟨_, rfl⟩
                    obtain ⟨nB, hnB⟩ : ∃ n, n = X2.heap.size := ⟨_, rfl⟩
                    have HNBX3 : Hid (X3.heap[nB]? = some (.cells #[.int .u32 (uo : Int)] 38 (0, 0)) ∧ V.heap.size ≤ nB) := by rw [hX3, hnB]; exact ⟨heap_alloc_new _ _, HX2.out.o.size⟩
                    have HX3 : Hid _ := HX2.out.alloc (.cells #[.int .u32 (uo : Int)] 38)
                    rw [← hX3] at HX3 ⊢
                    rw [← hnB]
                    clear hX3 hnB
                    refine hK.out _ _ (HCL.out X3 HX3.out.o).2.1 (fun hHeld => ?_)
                    clear hK
                    (try simp only [Act.put, List.setIfInBounds_toArray, List.set_cons_zero, List.set_cons_succ])
                    refine wpAnyH_ready (rs := [15]) (by kernel_rfl) (by simp) ?_
                    refine AllReadyH.cons rfl (fun K hK => ?_) AllReadyH.nil
                    have yl := (HCL.out X3 HX3.out.o).2.2
                    refine step_B (by rfl) _ _ (by rfl) (lB + 1) (.slice aO i kO) i (oB.map u32V) (by rfl) HX3.out.b nB (.int .u32 (uo : Int)) (by rfl) HNBX3.out.1 rfl (by omega) (by omega) ?_
                    intro gB cB X4 hown hgrow
                    have HX4 : Hid _ := HX3.out.appB hgrow hown
                    clear hown hgrow yl
                    refine hK.out _ _ (HCL.out X4 HX4.out.o).2.1 (fun hHeld => ?_)
                    clear hK
                    (try simp only [Act.put, List.setIfInBounds_toArray, List.set_cons_zero, List.set_cons_succ])
                    have y := HCL.out X4 HX4.out.o
                    have y0 : X4.cell? ⟨lB, 0, none⟩ = some (.slice aN i kN) := cell_blk y.1
                    have yf : ∀ q, X4.frozen? ⟨lB, q, none⟩ = false := fun q => fz_blk y.1 q
                    have yl := y.2.2
                    have z := heap_setCell_at (k := 0) y.1 (.slice (some ⟨gA, 0, none⟩) (i + 1) cA)
                    have z1 : (X4.setCell ⟨lB, 0, none⟩ (.slice (some ⟨gA, 0, none⟩) (i + 1) cA)).cell? ⟨lB, 1, none⟩ = some (.slice aO i kO) := cell_blk z
                    have zf : ∀ q, (X4.setCell ⟨lB, 0, none⟩ (.slice (some ⟨gA, 0, none⟩) (i + 1) cA)).frozen? ⟨lB, q, none⟩ = false := fun q => fz_blk z q
                    have HQ1 : Hid _ := HHS.out X4 0 (.slice (some ⟨gA, 0, none⟩) (i + 1) cA) y.2.1
                    have HQ2 : Hid _ := HHS.out _ 1 (.slice (some ⟨gB, 0, none⟩) (i + 1) cB) HQ1.out
                    clear y z
                    refine wpAnyH_ready (rs := [17]) (by kernel_rfl) (by simp) ?_
                    refine AllReadyH.cons rfl (fun K hK => ?_) AllReadyH.nil
                    rw [if_pos (by rfl)]
                    go_simp
                    refine hK.out _ _ HQ1.out (fun hHeld => ?_)
                    clear hK
                    (try simp only [Act.put, List.setIfInBounds_toArray, List.set_cons_zero, List.set_cons_succ])
                    refine wpAnyH_take (i := 18) (oi := { dst := some 91, op := _, type := _, pos := _, after := _, guard := _ }) (v := .pointer (some ⟨lB, 1, none⟩)) rfl (by kernel_rfl) (by kernel_rfl) (by kernel_rfl) (fun _ _ _ h => h) (Or.inl ⟨by rfl, fun w hSw => by first | (go_simp; done) | go_simp⟩) (by assumption) ?_
                    (try simp only [Act.put, List.setIfInBounds_toArray, List.set_cons_zero, List.set_cons_succ])
                    refine wpAnyH_ready (rs := [19]) (by kernel_rfl) (by simp) ?_
                    refine AllReadyH.cons rfl (fun K hK => ?_) AllReadyH.nil
                    rw [if_pos (by rfl)]
                    go_simp
                    refine hK.out _ _ HQ2.out (fun hHeld => ?_)
                    clear hK
                    (try simp only [Act.put, List.setIfInBounds_toArray, List.set_cons_zero, List.set_cons_succ])
                    refine wpAnyH_done (by kernel_rfl) ?_ _
                    clear hHeld y0 yf yl z1 zf HQ1 HQ2
                    go_wp2_with fail
                    go_roundg (N2 - (i + 1))
                    case measure => omega
                    case rel =>
                      obtain ⟨r1, r2, r3, r4, r5, r6, r7, r8, r9, r10⟩ := HFIN.out _ _ _ _ _ HX4.out
                      exact ⟨i + 1, r1, r2, r3, r4, r5, _, rfl, rfl, by omega, by go_num, r6, r7, r8, r9, r10⟩
                  · rw [if_pos (by rfl)]
                    go_simp
                    obtain ⟨X2, hX2⟩ : ∃ Y, Y = X1.alloc (.cells #[.int .u32 (uo : Int)] 38) := ⟨_, rfl⟩
                    obtain ⟨nB, hnB⟩ : ∃ n, n = X1.heap.size := ⟨_, rfl⟩
                    have HNBX2 : Hid (X2.heap[nB]? = some (.cells #[.int .u32 (uo : Int)] 38 (0, 0)) ∧ V.heap.size ≤ nB) := by rw [hX2, hnB]; exact ⟨heap_alloc_new _ _, HX1.out.o.size⟩
                    have HX2 : Hid _ := HX1.out.alloc (.cells #[.int .u32 (uo : Int)] 38)
                    have HNAX2 : Hid (X2.heap[nA]? = some (.cells #[.slice aW c kW] 23 (0, 0)) ∧ V.heap.size ≤ nA) := by rw [hX2]; exact ⟨blk_alloc _ HNAX1.out.1, HNAX1.out.2⟩
                    rw [← hX2] at HX2 ⊢
                    rw [← hnB]
                    clear hX2 hnB
                    refine hK.out _ _ (HCL.out X2 HX2.out.o).2.1 (fun hHeld => ?_)
                    clear hK
                    (try simp only [Act.put, List.setIfInBounds_toArray, List.set_cons_zero, List.set_cons_succ])
                    refine wpAnyH_ready (rs := [4]) (by kernel_rfl) (by simp) ?_
                    refine AllReadyH.cons rfl (fun K hK => ?_) AllReadyH.nil
                    have yl := (HCL.out X2 HX2.out.o).2.2
                    refine step_A (by rfl) _ _ (by rfl) (lB + 1) (.slice aN i kN) i vs (by rfl) HX2.out.a nA (.slice aW c kW) (by rfl) HNAX2.out.1 rfl (by omega) (by omega) ?_
                    intro gA cA X3 hown hgrow
                    have HNBX3 : Hid (X3.heap[nB]? = some (.cells #[.int .u32 (uo : Int)] 38 (0, 0)) ∧ V.heap.size ≤ nB) := ⟨blk_grow HNBX2.out.1 HX2.out.a hgrow (fun e => by have h1 := own_lt HOLD.out.nx e; have h2 := HNBX2.out.2; omega), HNBX2.out.2⟩
                    have HX3 : Hid _ := HX2.out.appA hgrow hown
                    clear hown hgrow yl
                    refine hK.out _ _ (HCL.out X3 HX3.out.o).2.1 (fun hHeld => ?_)
                    clear hK
                    (try simp only [Act.put, List.setIfInBounds_toArray, List.set_cons_zero, List.set_cons_succ])
                    refine wpAnyH_take (i := 16) (oi := { dst := some 90, op := _, type := _, pos := _, after := _, guard := _ }) (v := .pointer (some ⟨lB, 0, none⟩)) rfl (by kernel_rfl) (by kernel_rfl) (by kernel_rfl) (fun _ _ _ h => h) (Or.inl ⟨by rfl, fun w hSw => by first | (go_simp; done) | go_simp⟩) (by assumption) ?_
                    (try simp only [Act.put, List.setIfInBounds_toArray, List.set_cons_zero, List.set_cons_succ])
                    refine wpAnyH_ready (rs := [15]) (by kernel_rfl) (by simp) ?_
                    refine AllReadyH.cons rfl (fun K hK => ?_) AllReadyH.nil
                    have yl := (HCL.out X3 HX3.out.o).2.2
                    refine step_B (by rfl) _ _ (by rfl) (lB + 1) (.slice aO i kO) i (oB.map u32V) (by rfl) HX3.out.b nB (.int .u32 (uo : Int)) (by rfl) HNBX3.out.1 rfl (by omega) (by omega) ?_
                    intro gB cB X4 hown hgrow
                    have HX4 : Hid _ := HX3.out.appB hgrow hown
                    clear hown hgrow yl
                    refine hK.out _ _ (HCL.out X4 HX4.out.o).2.1 (fun hHeld => ?_)
                    clear hK
                    (try simp only [Act.put, List.setIfInBounds_toArray, List.set_cons_zero, List.set_cons_succ])
                    have y := HCL.out X4 HX4.out.o
                    have y0 : X4.cell? ⟨lB, 0, none⟩ = some (.slice aN i kN) := cell_blk y.1
                    have yf : ∀ q, X4.frozen? ⟨lB, q, none⟩ = false := fun q => fz_blk y.1 q
                    have yl := y.2.2
                    have z := heap_setCell_at (k := 0) y.1 (.slice (some ⟨gA, 0, none⟩) (i + 1) cA)
                    have z1 : (X4.setCell ⟨lB, 0, none⟩ (.slice (some ⟨gA, 0, none⟩) (i + 1) cA)).cell? ⟨lB, 1, none⟩ = some (.slice aO i kO) := cell_blk z
                    have zf : ∀ q, (X4.setCell ⟨lB, 0, none⟩ (.slice (some ⟨gA, 0, none⟩) (i + 1) cA)).frozen? ⟨lB, q, none⟩ = false := fun q => fz_blk z q
                    have HQ1 : Hid _ := HHS.out X4 0 (.slice (some ⟨gA, 0, none⟩) (i + 1) cA) y.2.1
                    have HQ2 : Hid _ := HHS.out _ 1 (.slice (some ⟨gB, 0, none⟩) (i + 1) cB) HQ1.out
                    clear y z
                    refine wpAnyH_ready (rs := [17]) (by kernel_rfl) (by simp) ?_
                    refine AllReadyH.cons rfl (fun K hK => ?_) AllReadyH.nil
                    rw [if_pos (by rfl)]
                    go_simp
                    refine hK.out _ _ HQ1.out (fun hHeld => ?_)
                    clear hK
                    (try simp only [Act.put, List.setIfInBounds_toArray, List.set_cons_zero, List.set_cons_succ])
                    refine wpAnyH_take (i := 18) (oi := { dst := some 91, op := _, type := _, pos := _, after := _, guard := _ }) (v := .pointer (some ⟨lB, 1, none⟩)) rfl (by kernel_rfl) (by kernel_rfl) (by kernel_rfl) (fun _ _ _ h => h) (Or.inl ⟨by rfl, fun w hSw => by first | (go_simp; done) | go_simp⟩) (by assumption) ?_
                    (try simp only [Act.put, List.setIfInBounds_toArray, List.set_cons_zero, List.set_cons_succ])
                    refine wpAnyH_ready (rs := [19]) (by kernel_rfl) (by simp) ?_
                    refine AllReadyH.cons rfl (fun K hK => ?_) AllReadyH.nil
                    rw [if_pos (by rfl)]
                    go_simp
                    refine hK.out _ _ HQ2.out (fun hHeld => ?_)
                    clear hK
                    (try simp only [Act.put, List.setIfInBounds_toArray, List.set_cons_zero, List.set_cons_succ])
                    refine wpAnyH_done (by kernel_rfl) ?_ _
                    clear hHeld y0 yf yl z1 zf HQ1 HQ2
                    go_wp2_with fail
                    go_roundg (N2 - (i + 1))
                    case measure => omega
                    case rel =>
                      obtain ⟨r1, r2, r3, r4, r5, r6, r7, r8, r9, r10⟩ := HFIN.out _ _ _ _ _ HX4.out
                      exact ⟨i + 1, r1, r2, r3, r4, r5, _, rfl, rfl, by omega, by go_num, r6, r7, r8, r9, r10⟩
                · rw [if_pos (by rfl)]
                  go_simp
                  obtain ⟨X1, hX1⟩ : ∃ Y, Y = X0.alloc (.cells #[.int .u32 (uo : Int)] 38) := ⟨_, rfl⟩
                  obtain ⟨nB, hnB⟩ : ∃ n, n = X0.heap.size := ⟨_, rfl⟩
                  have HNBX1 : Hid (X1.heap[nB]? = some (.cells #[.int .u32 (uo : Int)] 38 (0, 0)) ∧ V.heap.size ≤ nB) := by rw [hX1, hnB]; exact ⟨heap_alloc_new _ _, HX0.out.o.size⟩
                  have HX1 : Hid _ := HX0.out.alloc (.cells #[.int .u32 (uo : Int)] 38)
                  rw [← hX1] at HX1 ⊢
                  rw [← hnB]
                  clear hX1 hnB
                  refine hK.out _ _ (HCL.out X1 HX1.out.o).2.1 (fun hHeld => ?_)
                  clear hK
                  (try simp only [Act.put, List.setIfInBounds_toArray, List.set_cons_zero, List.set_cons_succ])
                  refine wpAnyH_ready (rs := [3]) (by kernel_rfl) (by simp) ?_
                  refine AllReadyH.cons rfl (fun K hK => ?_) AllReadyH.nil
                  rw [if_pos (by rfl)]
                  go_simp
                  obtain ⟨X2, hX2⟩ : ∃ Y, Y = X1.alloc (.cells #[.slice aW c kW] 23) := ⟨_, rfl⟩
                  obtain ⟨nA, hnA⟩ : ∃ n, n = X1.heap.size := ⟨_, rfl⟩
                  have HNAX2 : Hid (X2.heap[nA]? = some (.cells #[.slice aW c kW] 23 (0, 0)) ∧ V.heap.size ≤ nA) := by rw [hX2, hnA]; exact ⟨heap_alloc_new _ _, HX1.out.o.size⟩
                  have HX2 : Hid _ := HX1.out.alloc (.cells #[.slice aW c kW] 23)
                  have HNBX2 : Hid (X2.heap[nB]? = some (.cells #[.int .u32 (uo : Int)] 38 (0, 0)) ∧ V.heap.size ≤ nB) := by rw [hX2]; exact ⟨blk_alloc _ HNBX1.out.1, HNBX1.out.2⟩
                  rw [← hX2] at HX2 ⊢
                  rw [← hnA]
                  clear hX2 hnA
                  refine hK.out _ _ (HCL.out X2 HX2.out.o).2.1 (fun hHeld => ?_)
                  clear hK
                  (try simp only [Act.put, List.setIfInBounds_toArray, List.set_cons_zero, List.set_cons_succ])
                  refine wpAnyH_ready (rs := [4]) (by kernel_rfl) (by simp) ?_
                  refine AllReadyH.cons rfl (fun K hK => ?_) AllReadyH.nil
                  have yl := (HCL.out X2 HX2.out.o).2.2
                  refine step_A (by rfl) _ _ (by rfl) (lB + 1) (.slice aN i kN) i vs (by rfl) HX2.out.a nA (.slice aW c kW) (by rfl) HNAX2.out.1 rfl (by omega) (by omega) ?_
                  intro gA cA X3 hown hgrow
                  have HNBX3 : Hid (X3.heap[nB]? = some (.cells #[.int .u32 (uo : Int)] 38 (0, 0)) ∧ V.heap.size ≤ nB) := ⟨blk_grow HNBX2.out.1 HX2.out.a hgrow (fun e => by have h1 := own_lt HOLD.out.nx e; have h2 := HNBX2.out.2; omega), HNBX2.out.2⟩
                  have HX3 : Hid _ := HX2.out.appA hgrow hown
                  clear hown hgrow yl
                  refine hK.out _ _ (HCL.out X3 HX3.out.o).2.1 (fun hHeld => ?_)
                  clear hK
                  (try simp only [Act.put, List.setIfInBounds_toArray, List.set_cons_zero, List.set_cons_succ])
                  refine wpAnyH_take (i := 16) (oi := { dst := some 90, op := _, type := _, pos := _, after := _, guard := _ }) (v := .pointer (some ⟨lB, 0, none⟩)) rfl (by kernel_rfl) (by kernel_rfl) (by kernel_rfl) (fun _ _ _ h => h) (Or.inl ⟨by rfl, fun w hSw => by first | (go_simp; done) | go_simp⟩) (by assumption) ?_
                  (try simp only [Act.put, List.setIfInBounds_toArray, List.set_cons_zero, List.set_cons_succ])
                  refine wpAnyH_ready (rs := [15]) (by kernel_rfl) (by simp) ?_
                  refine AllReadyH.cons rfl (fun K hK => ?_) AllReadyH.nil
                  have yl := (HCL.out X3 HX3.out.o).2.2
                  refine step_B (by rfl) _ _ (by rfl) (lB + 1) (.slice aO i kO) i (oB.map u32V) (by rfl) HX3.out.b nB (.int .u32 (uo : Int)) (by rfl) HNBX3.out.1 rfl (by omega) (by omega) ?_
                  intro gB cB X4 hown hgrow
                  have HX4 : Hid _ := HX3.out.appB hgrow hown
                  clear hown hgrow yl
                  refine hK.out _ _ (HCL.out X4 HX4.out.o).2.1 (fun hHeld => ?_)
                  clear hK
                  (try simp only [Act.put, List.setIfInBounds_toArray, List.set_cons_zero, List.set_cons_succ])
                  have y := HCL.out X4 HX4.out.o
                  have y0 : X4.cell? ⟨lB, 0, none⟩ = some (.slice aN i kN) := cell_blk y.1
                  have yf : ∀ q, X4.frozen? ⟨lB, q, none⟩ = false := fun q => fz_blk y.1 q
                  have yl := y.2.2
                  have z := heap_setCell_at (k := 0) y.1 (.slice (some ⟨gA, 0, none⟩) (i + 1) cA)
                  have z1 : (X4.setCell ⟨lB, 0, none⟩ (.slice (some ⟨gA, 0, none⟩) (i + 1) cA)).cell? ⟨lB, 1, none⟩ = some (.slice aO i kO) := cell_blk z
                  have zf : ∀ q, (X4.setCell ⟨lB, 0, none⟩ (.slice (some ⟨gA, 0, none⟩) (i + 1) cA)).frozen? ⟨lB, q, none⟩ = false := fun q => fz_blk z q
                  have HQ1 : Hid _ := HHS.out X4 0 (.slice (some ⟨gA, 0, none⟩) (i + 1) cA) y.2.1
                  have HQ2 : Hid _ := HHS.out _ 1 (.slice (some ⟨gB, 0, none⟩) (i + 1) cB) HQ1.out
                  clear y z
                  refine wpAnyH_ready (rs := [17]) (by kernel_rfl) (by simp) ?_
                  refine AllReadyH.cons rfl (fun K hK => ?_) AllReadyH.nil
                  rw [if_pos (by rfl)]
                  go_simp
                  refine hK.out _ _ HQ1.out (fun hHeld => ?_)
                  clear hK
                  (try simp only [Act.put, List.setIfInBounds_toArray, List.set_cons_zero, List.set_cons_succ])
                  refine wpAnyH_take (i := 18) (oi := { dst := some 91, op := _, type := _, pos := _, after := _, guard := _ }) (v := .pointer (some ⟨lB, 1, none⟩)) rfl (by kernel_rfl) (by kernel_rfl) (by kernel_rfl) (fun _ _ _ h => h) (Or.inl ⟨by rfl, fun w hSw => by first | (go_simp; done) | go_simp⟩) (by assumption) ?_
                  (try simp only [Act.put, List.setIfInBounds_toArray, List.set_cons_zero, List.set_cons_succ])
                  refine wpAnyH_ready (rs := [19]) (by kernel_rfl) (by simp) ?_
                  refine AllReadyH.cons rfl (fun K hK => ?_) AllReadyH.nil
                  rw [if_pos (by rfl)]
                  go_simp
                  refine hK.out _ _ HQ2.out (fun hHeld => ?_)
                  clear hK
                  (try simp only [Act.put, List.setIfInBounds_toArray, List.set_cons_zero, List.set_cons_succ])
                  refine wpAnyH_done (by kernel_rfl) ?_ _
                  clear hHeld y0 yf yl z1 zf HQ1 HQ2
                  go_wp2_with fail
                  go_roundg (N2 - (i + 1))
                  case measure => omega
                  case rel =>
                    obtain ⟨r1, r2, r3, r4, r5, r6, r7, r8, r9, r10⟩ := HFIN.out _ _ _ _ _ HX4.out
                    exact ⟨i + 1, r1, r2, r3, r4, r5, _, rfl, rfl, by omega, by go_num, r6, r7, r8, r9, r10⟩
              · rw [if_pos (by rfl)]
                go_simp
                obtain ⟨X1, hX1⟩ : ∃ Y, Y = X0.alloc (.cells #[.slice aW c kW] 23) := ⟨_, rfl⟩
                obtain ⟨nA, hnA⟩ : ∃ n, n = X0.heap.size := ⟨_, rfl⟩
                have HNAX1 : Hid (X1.heap[nA]? = some (.cells #[.slice aW c kW] 23 (0, 0)) ∧ V.heap.size ≤ nA) := by rw [hX1, hnA]; exact ⟨heap_alloc_new _ _, HX0.out.o.size⟩
                have HX1 : Hid _ := HX0.out.alloc (.cells #[.slice aW c kW] 23)
                rw [← hX1] at HX1 ⊢
                rw [← hnA]
                clear hX1 hnA
                refine hK.out _ _ (HCL.out X1 HX1.out.o).2.1 (fun hHeld => ?_)
                clear hK
                (try simp only [Act.put, List.setIfInBounds_toArray, List.set_cons_zero, List.set_cons_succ])
                refine wpAnyH_ready (rs := [1, 14]) (by kernel_rfl) (by simp) ?_
                refine AllReadyH.cons rfl (fun K hK => ?_) (AllReadyH.cons rfl (fun K hK => ?_) AllReadyH.nil)
                · have y := HCL.out X1 HX1.out.o
                  have y0 : X1.cell? ⟨lB, 0, none⟩ = some (.slice aN i kN) := cell_blk y.1
                  have yl := y.2.2
                  rw [if_pos (by rfl)]
                  go_simp
                  refine hK.out _ _ y.2.1 (fun hHeld => ?_)
                  clear hK y y0 yl
                  (try simp only [Act.put, List.setIfInBounds_toArray, List.set_cons_zero, List.set_cons_succ])
                  refine wpAnyH_ready (rs := [4, 14]) (by kernel_rfl) (by simp) ?_
                  refine AllReadyH.cons rfl (fun K hK => ?_) (AllReadyH.cons rfl (fun K hK => ?_) AllReadyH.nil)
                  · have yl := (HCL.out X1 HX1.out.o).2.2
                    refine step_A (by rfl) _ _ (by rfl) (lB + 1) (.slice aN i kN) i vs (by rfl) HX1.out.a nA (.slice aW c kW) (by rfl) HNAX1.out.1 rfl (by omega) (by omega) ?_
                    intro gA cA X2 hown hgrow
                    have HX2 : Hid _ := HX1.out.appA hgrow hown
                    clear hown hgrow yl
                    refine hK.out _ _ (HCL.out X2 HX2.out.o).2.1 (fun hHeld => ?_)
                    clear hK
                    (try simp only [Act.put, List.setIfInBounds_toArray, List.set_cons_zero, List.set_cons_succ])
                    refine wpAnyH_take (i := 16) (oi := { dst := some 90, op := _, type := _, pos := _, after := _, guard := _ }) (v := .pointer (some ⟨lB, 0, none⟩)) rfl (by kernel_rfl) (by kernel_rfl) (by kernel_rfl) (fun _ _ _ h => h) (Or.inl ⟨by rfl, fun w hSw => by first | (go_simp; done) | go_simp⟩) (by assumption) ?_
                    (try simp only [Act.put, List.setIfInBounds_toArray, List.set_cons_zero, List.set_cons_succ])
                    refine wpAnyH_ready (rs := [14]) (by kernel_rfl) (by simp) ?_
                    refine AllReadyH.cons rfl (fun K hK => ?_) AllReadyH.nil
                    rw [if_pos (by rfl)]
                    go_simp
                    obtain ⟨X3, hX3⟩ : ∃ Y, Y = X2.alloc (.cells #[.int .u32 (uo : Int)] 38) := ⟨_, rfl⟩
                    obtain ⟨nB, hnB⟩ : ∃ n, n = X2.heap.size := ⟨_, rfl⟩
                    have HNBX3 : Hid (X3.heap[nB]? = some (.cells #[.int .u32 (uo : Int)] 38 (0, 0)) ∧ V.heap.size ≤ nB) := by rw [hX3, hnB]; exact ⟨heap_alloc_new _ _, HX2.out.o.size⟩
                    have HX3 : Hid _ := HX2.out.alloc (.cells #[.int .u32 (uo : Int)] 38)
                    rw [← hX3] at HX3 ⊢
                    rw [← hnB]
                    clear hX3 hnB
                    refine hK.out _ _ (HCL.out X3 HX3.out.o).2.1 (fun hHeld => ?_)
                    clear hK
                    (try simp only [Act.put, List.setIfInBounds_toArray, List.set_cons_zero, List.set_cons_succ])
                    refine wpAnyH_ready (rs := [15]) (by kernel_rfl) (by simp) ?_
                    refine AllReadyH.cons rfl (fun K hK => ?_) AllReadyH.nil
                    have yl := (HCL.out X3 HX3.out.o).2.2
                    refine step_B (by rfl) _ _ (by rfl) (lB + 1) (.slice aO i kO) i (oB.map u32V) (by rfl) HX3.out.b nB (.int .u32 (uo : Int)) (by rfl) HNBX3.out.1 rfl (by omega) (by omega) ?_
                    intro gB cB X4 hown hgrow
                    have HX4 : Hid _ := HX3.out.appB hgrow hown
                    clear hown hgrow yl
                    refine hK.out _ _ (HCL.out X4 HX4.out.o).2.1 (fun hHeld => ?_)
                    clear hK
                    (try simp only [Act.put, List.setIfInBounds_toArray, List.set_cons_zero, List.set_cons_succ])
                    have y := HCL.out X4 HX4.out.o
                    have y0 : X4.cell? ⟨lB, 0, none⟩ = some (.slice aN i kN) := cell_blk y.1
                    have yf : ∀ q, X4.frozen? ⟨lB, q, none⟩ = false := fun q => fz_blk y.1 q
                    have yl := y.2.2
                    have z := heap_setCell_at (k := 0) y.1 (.slice (some ⟨gA, 0, none⟩) (i + 1) cA)
                    have z1 : (X4.setCell ⟨lB, 0, none⟩ (.slice (some ⟨gA, 0, none⟩) (i + 1) cA)).cell? ⟨lB, 1, none⟩ = some (.slice aO i kO) := cell_blk z
                    have zf : ∀ q, (X4.setCell ⟨lB, 0, none⟩ (.slice (some ⟨gA, 0, none⟩) (i + 1) cA)).frozen? ⟨lB, q, none⟩ = false := fun q => fz_blk z q
                    have HQ1 : Hid _ := HHS.out X4 0 (.slice (some ⟨gA, 0, none⟩) (i + 1) cA) y.2.1
                    have HQ2 : Hid _ := HHS.out _ 1 (.slice (some ⟨gB, 0, none⟩) (i + 1) cB) HQ1.out
                    clear y z
                    refine wpAnyH_ready (rs := [17]) (by kernel_rfl) (by simp) ?_
                    refine AllReadyH.cons rfl (fun K hK => ?_) AllReadyH.nil
                    rw [if_pos (by rfl)]
                    go_simp
                    refine hK.out _ _ HQ1.out (fun hHeld => ?_)
                    clear hK
                    (try simp only [Act.put, List.setIfInBounds_toArray, List.set_cons_zero, List.set_cons_succ])
                    refine wpAnyH_take (i := 18) (oi := { dst := some 91, op := _, type := _, pos := _, after := _, guard := _ }) (v := .pointer (some ⟨lB, 1, none⟩)) rfl (by kernel_rfl) (by kernel_rfl) (by kernel_rfl) (fun _ _ _ h => h) (Or.inl ⟨by rfl, fun w hSw => by first | (go_simp; done) | go_simp⟩) (by assumption) ?_
                    (try simp only [Act.put, List.setIfInBounds_toArray, List.set_cons_zero, List.set_cons_succ])
                    refine wpAnyH_ready (rs := [19]) (by kernel_rfl) (by simp) ?_
                    refine AllReadyH.cons rfl (fun K hK => ?_) AllReadyH.nil
                    rw [if_pos (by rfl)]
                    go_simp
                    refine hK.out _ _ HQ2.out (fun hHeld => ?_)
                    clear hK
                    (try simp only [Act.put, List.setIfInBounds_toArray, List.set_cons_zero, List.set_cons_succ])
                    refine wpAnyH_done (by kernel_rfl) ?_ _
                    clear hHeld y0 yf yl z1 zf HQ1 HQ2
                    go_wp2_with fail
                    go_roundg (N2 - (i + 1))
                    case measure => omega
                    case rel =>
                      obtain ⟨r1, r2, r3, r4, r5, r6, r7, r8, r9, r10⟩ := HFIN.out _ _ _ _ _ HX4.out
                      exact ⟨i + 1, r1, r2, r3, r4, r5, _, rfl, rfl, by omega, by go_num, r6, r7, r8, r9, r10⟩
                  · rw [if_pos (by rfl)]
                    go_simp
                    obtain ⟨X2, hX2⟩ : ∃ Y, Y = X1.alloc (.cells #[.int .u32 (uo : Int)] 38) := ⟨_, rfl⟩
                    obtain ⟨nB, hnB⟩ : ∃ n, n = X1.heap.size := ⟨_, rfl⟩
                    have HNBX2 : Hid (X2.heap[nB]? = some (.cells #[.int .u32 (uo : Int)] 38 (0, 0)) ∧ V.heap.size ≤ nB) := by rw [hX2, hnB]; exact ⟨heap_alloc_new _ _, HX1.out.o.size⟩
                    have HX2 : Hid _ := HX1.out.alloc (.cells #[.int .u32 (uo : Int)] 38)
                    have HNAX2 : Hid (X2.heap[nA]? = some (.cells #[.slice aW c kW] 23 (0, 0)) ∧ V.heap.size ≤ nA) := by rw [hX2]; exact ⟨blk_alloc _ HNAX1.out.1, HNAX1.out.2⟩
                    rw [← hX2] at HX2 ⊢
                    rw [← hnB]
                    clear hX2 hnB
                    refine hK.out _ _ (HCL.out X2 HX2.out.o).2.1 (fun hHeld => ?_)
                    clear hK
                    (try simp only [Act.put, List.setIfInBounds_toArray, List.set_cons_zero, List.set_cons_succ])
                    refine wpAnyH_ready (rs := [4]) (by kernel_rfl) (by simp) ?_
                    refine AllReadyH.cons rfl (fun K hK => ?_) AllReadyH.nil
                    have yl := (HCL.out X2 HX2.out.o).2.2
                    refine step_A (by rfl) _ _ (by rfl) (lB + 1) (.slice aN i kN) i vs (by rfl) HX2.out.a nA (.slice aW c kW) (by rfl) HNAX2.out.1 rfl (by omega) (by omega) ?_
                    intro gA cA X3 hown hgrow
                    have HNBX3 : Hid (X3.heap[nB]? = some (.cells #[.int .u32 (uo : Int)] 38 (0, 0)) ∧ V.heap.size ≤ nB) := ⟨blk_grow HNBX2.out.1 HX2.out.a hgrow (fun e => by have h1 := own_lt HOLD.out.nx e; have h2 := HNBX2.out.2; omega), HNBX2.out.2⟩
                    have HX3 : Hid _ := HX2.out.appA hgrow hown
                    clear hown hgrow yl
                    refine hK.out _ _ (HCL.out X3 HX3.out.o).2.1 (fun hHeld => ?_)
                    clear hK
                    (try simp only [Act.put, List.setIfInBounds_toArray, List.set_cons_zero, List.set_cons_succ])
                    refine wpAnyH_take (i := 16) (oi := { dst := some 90, op := _, type := _, pos := _, after := _, guard := _ }) (v := .pointer (some ⟨lB, 0, none⟩)) rfl (by kernel_rfl) (by kernel_rfl) (by kernel_rfl) (fun _ _ _ h => h) (Or.inl ⟨by rfl, fun w hSw => by first | (go_simp; done) | go_simp⟩) (by assumption) ?_
                    (try simp only [Act.put, List.setIfInBounds_toArray, List.set_cons_zero, List.set_cons_succ])
                    refine wpAnyH_ready (rs := [15]) (by kernel_rfl) (by simp) ?_
                    refine AllReadyH.cons rfl (fun K hK => ?_) AllReadyH.nil
                    have yl := (HCL.out X3 HX3.out.o).2.2
                    refine step_B (by rfl) _ _ (by rfl) (lB + 1) (.slice aO i kO) i (oB.map u32V) (by rfl) HX3.out.b nB (.int .u32 (uo : Int)) (by rfl) HNBX3.out.1 rfl (by omega) (by omega) ?_
                    intro gB cB X4 hown hgrow
                    have HX4 : Hid _ := HX3.out.appB hgrow hown
                    clear hown hgrow yl
                    refine hK.out _ _ (HCL.out X4 HX4.out.o).2.1 (fun hHeld => ?_)
                    clear hK
                    (try simp only [Act.put, List.setIfInBounds_toArray, List.set_cons_zero, List.set_cons_succ])
                    have y := HCL.out X4 HX4.out.o
                    have y0 : X4.cell? ⟨lB, 0, none⟩ = some (.slice aN i kN) := cell_blk y.1
                    have yf : ∀ q, X4.frozen? ⟨lB, q, none⟩ = false := fun q => fz_blk y.1 q
                    have yl := y.2.2
                    have z := heap_setCell_at (k := 0) y.1 (.slice (some ⟨gA, 0, none⟩) (i + 1) cA)
                    have z1 : (X4.setCell ⟨lB, 0, none⟩ (.slice (some ⟨gA, 0, none⟩) (i + 1) cA)).cell? ⟨lB, 1, none⟩ = some (.slice aO i kO) := cell_blk z
                    have zf : ∀ q, (X4.setCell ⟨lB, 0, none⟩ (.slice (some ⟨gA, 0, none⟩) (i + 1) cA)).frozen? ⟨lB, q, none⟩ = false := fun q => fz_blk z q
                    have HQ1 : Hid _ := HHS.out X4 0 (.slice (some ⟨gA, 0, none⟩) (i + 1) cA) y.2.1
                    have HQ2 : Hid _ := HHS.out _ 1 (.slice (some ⟨gB, 0, none⟩) (i + 1) cB) HQ1.out
                    clear y z
                    refine wpAnyH_ready (rs := [17]) (by kernel_rfl) (by simp) ?_
                    refine AllReadyH.cons rfl (fun K hK => ?_) AllReadyH.nil
                    rw [if_pos (by rfl)]
                    go_simp
                    refine hK.out _ _ HQ1.out (fun hHeld => ?_)
                    clear hK
                    (try simp only [Act.put, List.setIfInBounds_toArray, List.set_cons_zero, List.set_cons_succ])
                    refine wpAnyH_take (i := 18) (oi := { dst := some 91, op := _, type := _, pos := _, after := _, guard := _ }) (v := .pointer (some ⟨lB, 1, none⟩)) rfl (by kernel_rfl) (by kernel_rfl) (by kernel_rfl) (fun _ _ _ h => h) (Or.inl ⟨by rfl, fun w hSw => by first | (go_simp; done) | go_simp⟩) (by assumption) ?_
                    (try simp only [Act.put, List.setIfInBounds_toArray, List.set_cons_zero, List.set_cons_succ])
                    refine wpAnyH_ready (rs := [19]) (by kernel_rfl) (by simp) ?_
                    refine AllReadyH.cons rfl (fun K hK => ?_) AllReadyH.nil
                    rw [if_pos (by rfl)]
                    go_simp
                    refine hK.out _ _ HQ2.out (fun hHeld => ?_)
                    clear hK
                    (try simp only [Act.put, List.setIfInBounds_toArray, List.set_cons_zero, List.set_cons_succ])
                    refine wpAnyH_done (by kernel_rfl) ?_ _
                    clear hHeld y0 yf yl z1 zf HQ1 HQ2
                    go_wp2_with fail
                    go_roundg (N2 - (i + 1))
                    case measure => omega
                    case rel =>
                      obtain ⟨r1, r2, r3, r4, r5, r6, r7, r8, r9, r10⟩ := HFIN.out _ _ _ _ _ HX4.out
                      exact ⟨i + 1, r1, r2, r3, r4, r5, _, rfl, rfl, by omega, by go_num, r6, r7, r8, r9, r10⟩
                · rw [if_pos (by rfl)]
                  go_simp
                  obtain ⟨X2, hX2⟩ : ∃ Y, Y = X1.alloc (.cells #[.int .u32 (uo : Int)] 38) := ⟨_, rfl⟩
                  obtain ⟨nB, hnB⟩ : ∃ n, n = X1.heap.size := ⟨_, rfl⟩
                  have HNBX2 : Hid (X2.heap[nB]? = some (.cells #[.int .u32 (uo : Int)] 38 (0, 0)) ∧ V.heap.size ≤ nB) := by rw [hX2, hnB]; exact ⟨heap_alloc_new _ _, HX1.out.o.size⟩
                  have HX2 : Hid _ := HX1.out.alloc (.cells #[.int .u32 (uo : Int)] 38)
                  have HNAX2 : Hid (X2.heap[nA]? = some (.cells #[.slice aW c kW] 23 (0, 0)) ∧ V.heap.size ≤ nA) := by rw [hX2]; exact ⟨blk_alloc _ HNAX1.out.1, HNAX1.out.2⟩
                  rw [← hX2] at HX2 ⊢
                  rw [← hnB]
                  clear hX2 hnB
                  refine hK.out _ _ (HCL.out X2 HX2.out.o).2.1 (fun hHeld => ?_)
                  clear hK
                  (try simp only [Act.put, List.setIfInBounds_toArray, List.set_cons_zero, List.set_cons_succ])
                  refine wpAnyH_ready (rs := [1]) (by kernel_rfl) (by simp) ?_
                  refine AllReadyH.cons rfl (fun K hK => ?_) AllReadyH.nil
                  have y := HCL.out X2 HX2.out.o
                  have y0 : X2.cell? ⟨lB, 0, none⟩ = some (.slice aN i kN) := cell_blk y.1
                  have yl := y.2.2
                  rw [if_pos (by rfl)]
                  go_simp
                  refine hK.out _ _ y.2.1 (fun hHeld => ?_)
                  clear hK y y0 yl
                  (try simp only [Act.put, List.setIfInBounds_toArray, List.set_cons_zero, List.set_cons_succ])
                  refine wpAnyH_ready (rs := [4]) (by kernel_rfl) (by simp) ?_
                  refine AllReadyH.cons rfl (fun K hK => ?_) AllReadyH.nil
                  have yl := (HCL.out X2 HX2.out.o).2.2
                  refine step_A (by rfl) _ _ (by rfl) (lB + 1) (.slice aN i kN) i vs (by rfl) HX2.out.a nA (.slice aW c kW) (by rfl) HNAX2.out.1 rfl (by omega) (by omega) ?_
                  intro gA cA X3 hown hgrow
                  have HNBX3 : Hid (X3.heap[nB]? = some (.cells #[.int .u32 (uo : Int)] 38 (0, 0)) ∧ V.heap.size ≤ nB) := ⟨blk_grow HNBX2.out.1 HX2.out.a hgrow (fun e => by have h1 := own_lt HOLD.out.nx e; have h2 := HNBX2.out.2; omega), HNBX2.out.2⟩
                  have HX3 : Hid _ := HX2.out.appA hgrow hown
                  clear hown hgrow yl
                  refine hK.out _ _ (HCL.out X3 HX3.out.o).2.1 (fun hHeld => ?_)
                  clear hK
                  (try simp only [Act.put, List.setIfInBounds_toArray, List.set_cons_zero, List.set_cons_succ])
                  refine wpAnyH_take (i := 16) (oi := { dst := some 90, op := _, type := _, pos := _, after := _, guard := _ }) (v := .pointer (some ⟨lB, 0, none⟩)) rfl (by kernel_rfl) (by kernel_rfl) (by kernel_rfl) (fun _ _ _ h => h) (Or.inl ⟨by rfl, fun w hSw => by first | (go_simp; done) | go_simp⟩) (by assumption) ?_
                  (try simp only [Act.put, List.setIfInBounds_toArray, List.set_cons_zero, List.set_cons_succ])
                  refine wpAnyH_ready (rs := [15]) (by kernel_rfl) (by simp) ?_
                  refine AllReadyH.cons rfl (fun K hK => ?_) AllReadyH.nil
                  have yl := (HCL.out X3 HX3.out.o).2.2
                  refine step_B (by rfl) _ _ (by rfl) (lB + 1) (.slice aO i kO) i (oB.map u32V) (by rfl) HX3.out.b nB (.int .u32 (uo : Int)) (by rfl) HNBX3.out.1 rfl (by omega) (by omega) ?_
                  intro gB cB X4 hown hgrow
                  have HX4 : Hid _ := HX3.out.appB hgrow hown
                  clear hown hgrow yl
                  refine hK.out _ _ (HCL.out X4 HX4.out.o).2.1 (fun hHeld => ?_)
                  clear hK
                  (try simp only [Act.put, List.setIfInBounds_toArray, List.set_cons_zero, List.set_cons_succ])
                  have y := HCL.out X4 HX4.out.o
                  have y0 : X4.cell? ⟨lB, 0, none⟩ = some (.slice aN i kN) := cell_blk y.1
                  have yf : ∀ q, X4.frozen? ⟨lB, q, none⟩ = false := fun q => fz_blk y.1 q
                  have yl := y.2.2
                  have z := heap_setCell_at (k := 0) y.1 (.slice (some ⟨gA, 0, none⟩) (i + 1) cA)
                  have z1 : (X4.setCell ⟨lB, 0, none⟩ (.slice (some ⟨gA, 0, none⟩) (i + 1) cA)).cell? ⟨lB, 1, none⟩ = some (.slice aO i kO) := cell_blk z
                  have zf : ∀ q, (X4.setCell ⟨lB, 0, none⟩ (.slice (some ⟨gA, 0, none⟩) (i + 1) cA)).frozen? ⟨lB, q, none⟩ = false := fun q => fz_blk z q
                  have HQ1 : Hid _ := HHS.out X4 0 (.slice (some ⟨gA, 0, none⟩) (i + 1) cA) y.2.1
                  have HQ2 : Hid _ := HHS.out _ 1 (.slice (some ⟨gB, 0, none⟩) (i + 1) cB) HQ1.out
                  clear y z
                  refine wpAnyH_ready (rs := [17]) (by kernel_rfl) (by simp) ?_
                  refine AllReadyH.cons rfl (fun K hK => ?_) AllReadyH.nil
                  rw [if_pos (by rfl)]
                  go_simp
                  refine hK.out _ _ HQ1.out (fun hHeld => ?_)
                  clear hK
                  (try simp only [Act.put, List.setIfInBounds_toArray, List.set_cons_zero, List.set_cons_succ])
                  refine wpAnyH_take (i := 18) (oi := { dst := some 91, op := _, type := _, pos := _, after := _, guard := _ }) (v := .pointer (some ⟨lB, 1, none⟩)) rfl (by kernel_rfl) (by kernel_rfl) (by kernel_rfl) (fun _ _ _ h => h) (Or.inl ⟨by rfl, fun w hSw => by first | (go_simp; done) | go_simp⟩) (by assumption) ?_
                  (try simp only [Act.put, List.setIfInBounds_toArray, List.set_cons_zero, List.set_cons_succ])
                  refine wpAnyH_ready (rs := [19]) (by kernel_rfl) (by simp) ?_
                  refine AllReadyH.cons rfl (fun K hK => ?_) AllReadyH.nil
                  rw [if_pos (by rfl)]
                  go_simp
                  refine hK.out _ _ HQ2.out (fun hHeld => ?_)
                  clear hK
                  (try simp only [Act.put, List.setIfInBounds_toArray, List.set_cons_zero, List.set_cons_succ])
                  refine wpAnyH_done (by kernel_rfl) ?_ _
                  clear hHeld y0 yf yl z1 zf HQ1 HQ2
                  go_wp2_with fail
                  go_roundg (N2 - (i + 1))
                  case measure => omega
                  case rel =>
                    obtain ⟨r1, r2, r3, r4, r5, r6, r7, r8, r9, r10⟩ := HFIN.out _ _ _ _ _ HX4.out
                    exact ⟨i + 1, r1, r2, r3, r4, r5, _, rfl, rfl, by omega, by go_num, r6, r7, r8, r9, r10⟩
              · rw [if_pos (by rfl)]
                go_simp
                obtain ⟨X1, hX1⟩ : ∃ Y, Y = X0.alloc (.cells #[.int .u32 (uo : Int)] 38) := ⟨_, rfl⟩
                obtain ⟨nB, hnB⟩ : ∃ n, n = X0.heap.size := ⟨_, rfl⟩
                have HNBX1 : Hid (X1.heap[nB]? = some (.cells #[.int .u32 (uo : Int)] 38 (0, 0)) ∧ V.heap.size ≤ nB) := by rw [hX1, hnB]; exact ⟨heap_alloc_new _ _, HX0.out.o.size⟩
                have HX1 : Hid _ := HX0.out.alloc (.cells #[.int .u32 (uo : Int)] 38)
                rw [← hX1] at HX1 ⊢
                rw [← hnB]
                clear hX1 hnB
                refine hK.out _ _ (HCL.out X1 HX1.out.o).2.1 (fun hHeld => ?_)
                clear hK
                (try simp only [Act.put, List.setIfInBounds_toArray, List.set_cons_zero, List.set_cons_succ])
                refine wpAnyH_ready (rs := [1, 3]) (by kernel_rfl) (by simp) ?_
                refine AllReadyH.cons rfl (fun K hK => ?_) (AllReadyH.cons rfl (fun K hK => ?_) AllReadyH.nil)
                · have y := HCL.out X1 HX1.out.o
                  have y0 : X1.cell? ⟨lB, 0, none⟩ = some (.slice aN i kN) := cell_blk y.1
                  have yl := y.2.2
                  rw [if_pos (by rfl)]
                  go_simp
                  refine hK.out _ _ y.2.1 (fun hHeld => ?_)
                  clear hK y y0 yl
                  (try simp only [Act.put, List.setIfInBounds_toArray, List.set_cons_zero, List.set_cons_succ])
                  refine wpAnyH_ready (rs := [3]) (by kernel_rfl) (by simp) ?_
                  refine AllReadyH.cons rfl (fun K hK => ?_) AllReadyH.nil
                  rw [if_pos (by rfl)]
                  go_simp
                  obtain ⟨X2, hX2⟩ : ∃ Y, Y = X1.alloc (.cells #[.slice aW c kW] 23) := ⟨_, rfl⟩
                  obtain ⟨nA, hnA⟩ : ∃ n, n = X1.heap.size := ⟨_, rfl⟩
                  have HNAX2 : Hid (X2.heap[nA]? = some (.cells #[.slice aW c kW] 23 (0, 0)) ∧ V.heap.size ≤ nA) := by rw [hX2, hnA]; exact ⟨heap_alloc_new _ _, HX1.out.o.size⟩
                  have HX2 : Hid _ := HX1.out.alloc (.cells #[.slice aW c kW] 23)
                  have HNBX2 : Hid (X2.heap[nB]? = some (.cells #[.int .u32 (uo : Int)] 38 (0, 0)) ∧ V.heap.size ≤ nB) := by rw [hX2]; exact ⟨blk_alloc _ HNBX1.out.1, HNBX1.out.2⟩
                  rw [← hX2] at HX2 ⊢
                  rw [← hnA]
                  clear hX2 hnA
                  refine hK.out _ _ (HCL.out X2 HX2.out.o).2.1 (fun hHeld => ?_)
                  clear hK
                  (try simp only [Act.put, List.setIfInBounds_toArray, List.set_cons_zero, List.set_cons_succ])
                  refine wpAnyH_ready (rs := [4]) (by kernel_rfl) (by simp) ?_
                  refine AllReadyH.cons rfl (fun K hK => ?_) AllReadyH.nil
                  have yl := (HCL.out X2 HX2.out.o).2.2
                  refine step_A (by rfl) _ _ (by rfl) (lB + 1) (.slice aN i kN) i vs (by rfl) HX2.out.a nA (.slice aW c kW) (by rfl) HNAX2.out.1 rfl (by omega) (by omega) ?_
                  intro gA cA X3 hown hgrow
                  have HNBX3 : Hid (X3.heap[nB]? = some (.cells #[.int .u32 (uo : Int)] 38 (0, 0)) ∧ V.heap.size ≤ nB) := ⟨blk_grow HNBX2.out.1 HX2.out.a hgrow (fun e => by have h1 := own_lt HOLD.out.nx e; have h2 := HNBX2.out.2; omega), HNBX2.out.2⟩
                  have HX3 : Hid _ := HX2.out.appA hgrow hown
                  clear hown hgrow yl
                  refine hK.out _ _ (HCL.out X3 HX3.out.o).2.1 (fun hHeld => ?_)
                  clear hK
                  (try simp only [Act.put, List.setIfInBounds_toArray, List.set_cons_zero, List.set_cons_succ])
                  refine wpAnyH_take (i := 16) (oi := { dst := some 90, op := _, type := _, pos := _, after := _, guard := _ }) (v := .pointer (some ⟨lB, 0, none⟩)) rfl (by kernel_rfl) (by kernel_rfl) (by kernel_rfl) (fun _ _ _ h => h) (Or.inl ⟨by rfl, fun w hSw => by first | (go_simp; done) | go_simp⟩) (by assumption) ?_
                  (try simp only [Act.put, List.setIfInBounds_toArray, List.set_cons_zero, List.set_cons_succ])
                  refine wpAnyH_ready (rs := [15]) (by kernel_rfl) (by simp) ?_
                  refine AllReadyH.cons rfl (fun K hK => ?_) AllReadyH.nil
                  have yl := (HCL.out X3 HX3.out.o).2.2
                  refine step_B (by rfl) _ _ (by rfl) (lB + 1) (.slice aO i kO) i (oB.map u32V) (by rfl) HX3.out.b nB (.int .u32 (uo : Int)) (by rfl) HNBX3.out.1 rfl (by omega) (by omega) ?_
                  intro gB cB X4 hown hgrow
                  have HX4 : Hid _ := HX3.out.appB hgrow hown
                  clear hown hgrow yl
                  refine hK.out _ _ (HCL.out X4 HX4.out.o).2.1 (fun hHeld => ?_)
                  clear hK
                  (try simp only [Act.put, List.setIfInBounds_toArray, List.set_cons_zero, List.set_cons_succ])
                  have y := HCL.out X4 HX4.out.o
                  have y0 : X4.cell? ⟨lB, 0, none⟩ = some (.slice aN i kN) := cell_blk y.1
                  have yf : ∀ q, X4.frozen? ⟨lB, q, none⟩ = false := fun q => fz_blk y.1 q
                  have yl := y.2.2
                  have z := heap_setCell_at (k := 0) y.1 (.slice (some ⟨gA, 0, none⟩) (i + 1) cA)
                  have z1 : (X4.setCell ⟨lB, 0, none⟩ (.slice (some ⟨gA, 0, none⟩) (i + 1) cA)).cell? ⟨lB, 1, none⟩ = some (.slice aO i kO) := cell_blk z
                  have zf : ∀ q, (X4.setCell ⟨lB, 0, none⟩ (.slice (some ⟨gA, 0, none⟩) (i + 1) cA)).frozen? ⟨lB, q, none⟩ = false := fun q => fz_blk z q
                  have HQ1 : Hid _ := HHS.out X4 0 (.slice (some ⟨gA, 0, none⟩) (i + 1) cA) y.2.1
                  have HQ2 : Hid _ := HHS.out _ 1 (.slice (some ⟨gB, 0, none⟩) (i + 1) cB) HQ1.out
                  clear y z
                  refine wpAnyH_ready (rs := [17]) (by kernel_rfl) (by simp) ?_
                  refine AllReadyH.cons rfl (fun K hK => ?_) AllReadyH.nil
                  rw [if_pos (by rfl)]
                  go_simp
                  refine hK.out _ _ HQ1.out (fun hHeld => ?_)
                  clear hK
                  (try simp only [Act.put, List.setIfInBounds_toArray, List.set_cons_zero, List.set_cons_succ])
                  refine wpAnyH_take (i := 18) (oi := { dst := some 91, op := _, type := _, pos := _, after := _, guard := _ }) (v := .pointer (some ⟨lB, 1, none⟩)) rfl (by kernel_rfl) (by kernel_rfl) (by kernel_rfl) (fun _ _ _ h => h) (Or.inl ⟨by rfl, fun w hSw => by first | (go_simp; done) | go_simp⟩) (by assumption) ?_
                  (try simp only [Act.put, List.setIfInBounds_toArray, List.set_cons_zero, List.set_cons_succ])
                  refine wpAnyH_ready (rs := [19]) (by kernel_rfl) (by simp) ?_
                  refine AllReadyH.cons rfl (fun K hK => ?_) AllReadyH.nil
                  rw [if_pos (by rfl)]
                  go_simp
                  refine hK.out _ _ HQ2.out (fun hHeld => ?_)
                  clear hK
                  (try simp only [Act.put, List.setIfInBounds_toArray, List.set_cons_zero, List.set_cons_succ])
                  refine wpAnyH_done (by kernel_rfl) ?_ _
                  clear hHeld y0 yf yl z1 zf HQ1 HQ2
                  go_wp2_with fail
                  go_roundg (N2 - (i + 1))
                  case measure => omega
                  case rel =>
                    obtain ⟨r1, r2, r3, r4, r5, r6, r7, r8, r9, r10⟩ := HFIN.out _ _ _ _ _ HX4.out
                    exact ⟨i + 1, r1, r2, r3, r4, r5, _, rfl, rfl, by omega, by go_num, r6, r7, r8, r9, r10⟩
                · rw [if_pos (by rfl)]
                  go_simp
                  obtain ⟨X2, hX2⟩ : ∃ Y, Y = X1.alloc (.cells #[.slice aW c kW] 23) := ⟨_, rfl⟩
                  obtain ⟨nA, hnA⟩ : ∃ n, n = X1.heap.size := ⟨_, rfl⟩
                  have HNAX2 : Hid (X2.heap[nA]? = some (.cells #[.slice aW c kW] 23 (0, 0)) ∧ V.heap.size ≤ nA) := by rw [hX2, hnA]; exact ⟨heap_alloc_new _ _, HX1.out.o.size⟩
                  have HX2 : Hid _ := HX1.out.alloc (.cells #[.slice aW c kW] 23)
                  have HNBX2 : Hid (X2.heap[nB]? = some (.cells #[.int .u32 (uo : Int)] 38 (0, 0)) ∧ V.heap.size ≤ nB) := by rw [hX2]; exact ⟨blk_alloc _ HNBX1.out.1, HNBX1.out.2⟩
                  rw [← hX2] at HX2 ⊢
                  rw [← hnA]
                  clear hX2 hnA
                  refine hK.out _ _ (HCL.out X2 HX2.out.o).2.1 (fun hHeld => ?_)
                  clear hK
                  (try simp only [Act.put, List.setIfInBounds_toArray, List.set_cons_zero, List.set_cons_succ])
                  refine wpAnyH_ready (rs := [1]) (by kernel_rfl) (by simp) ?_
                  refine AllReadyH.cons rfl (fun K hK => ?_) AllReadyH.nil
                  have y := HCL.out X2 HX2.out.o
                  have y0 : X2.cell? ⟨lB, 0, none⟩ = some (.slice aN i kN) := cell_blk y.1
                  have yl := y.2.2
                  rw [if_pos (by rfl)]
                  go_simp
                  refine hK.out _ _ y.2.1 (fun hHeld => ?_)
                  clear hK y y0 yl
                  (try simp only [Act.put, List.setIfInBounds_toArray, List.set_cons_zero, List.set_cons_succ])
                  refine wpAnyH_ready (rs := [4]) (by kernel_rfl) (by simp) ?_
                  refine AllReadyH.cons rfl (fun K hK => ?_) AllReadyH.nil
                  have yl := (HCL.out X2 HX2.out.o).2.2
                  refine step_A (by rfl) _ _ (by rfl) (lB + 1) (.slice aN i kN) i vs (by rfl) HX2.out.a nA (.slice aW c kW) (by rfl) HNAX2.out.1 rfl (by omega) (by omega) ?_
                  intro gA cA X3 hown hgrow
                  have HNBX3 : Hid (X3.heap[nB]? = some (.cells #[.int .u32 (uo : Int)] 38 (0, 0)) ∧ V.heap.size ≤ nB) := ⟨blk_grow HNBX2.out.1 HX2.out.a hgrow (fun e => by have h1 := own_lt HOLD.out.nx e; have h2 := HNBX2.out.2; omega), HNBX2.out.2⟩
                  have HX3 : Hid _ := HX2.out.appA hgrow hown
                  clear hown hgrow yl
                  refine hK.out _ _ (HCL.out X3 HX3.out.o).2.1 (fun hHeld => ?_)
                  clear hK
                  (try simp only [Act.put, List.setIfInBounds_toArray, List.set_cons_zero, List.set_cons_succ])
                  refine wpAnyH_take (i := 16) (oi := { dst := some 90, op := _, type := _, pos := _, after := _, guard := _ }) (v := .pointer (some ⟨lB, 0, none⟩)) rfl (by kernel_rfl) (by kernel_rfl) (by kernel_rfl) (fun _ _ _ h => h) (Or.inl ⟨by rfl, fun w hSw => by first | (go_simp; done) | go_simp⟩) (by assumption) ?_
                  (try simp only [Act.put, List.setIfInBounds_toArray, List.set_cons_zero, List.set_cons_succ])
                  refine wpAnyH_ready (rs := [15]) (by kernel_rfl) (by simp) ?_
                  refine AllReadyH.cons rfl (fun K hK => ?_) AllReadyH.nil
                  have yl := (HCL.out X3 HX3.out.o).2.2
                  refine step_B (by rfl) _ _ (by rfl) (lB + 1) (.slice aO i kO) i (oB.map u32V) (by rfl) HX3.out.b nB (.int .u32 (uo : Int)) (by rfl) HNBX3.out.1 rfl (by omega) (by omega) ?_
                  intro gB cB X4 hown hgrow
                  have HX4 : Hid _ := HX3.out.appB hgrow hown
                  clear hown hgrow yl
                  refine hK.out _ _ (HCL.out X4 HX4.out.o).2.1 (fun hHeld => ?_)
                  clear hK
                  (try simp only [Act.put, List.setIfInBounds_toArray, List.set_cons_zero, List.set_cons_succ])
                  have y := HCL.out X4 HX4.out.o
                  have y0 : X4.cell? ⟨lB, 0, none⟩ = some (.slice aN i kN) := cell_blk y.1
                  have yf : ∀ q, X4.frozen? ⟨lB, q, none⟩ = false := fun q => fz_blk y.1 q
                  have yl := y.2.2
                  have z := heap_setCell_at (k := 0) y.1 (.slice (some ⟨gA, 0, none⟩) (i + 1) cA)
                  have z1 : (X4.setCell ⟨lB, 0, none⟩ (.slice (some ⟨gA, 0, none⟩) (i + 1) cA)).cell? ⟨lB, 1, none⟩ = some (.slice aO i kO) := cell_blk z
                  have zf : ∀ q, (X4.setCell ⟨lB, 0, none⟩ (.slice (some ⟨gA, 0, none⟩) (i + 1) cA)).frozen? ⟨lB, q, none⟩ = false := fun q => fz_blk z q
                  have HQ1 : Hid _ := HHS.out X4 0 (.slice (some ⟨gA, 0, none⟩) (i + 1) cA) y.2.1
                  have HQ2 : Hid _ := HHS.out _ 1 (.slice (some ⟨gB, 0, none⟩) (i + 1) cB) HQ1.out
                  clear y z
                  refine wpAnyH_ready (rs := [17]) (by kernel_rfl) (by simp) ?_
                  refine AllReadyH.cons rfl (fun K hK => ?_) AllReadyH.nil
                  rw [if_pos (by rfl)]
                  go_simp
                  refine hK.out _ _ HQ1.out (fun hHeld => ?_)
                  clear hK
                  (try simp only [Act.put, List.setIfInBounds_toArray, List.set_cons_zero, List.set_cons_succ])
                  refine wpAnyH_take (i := 18) (oi := { dst := some 91, op := _, type := _, pos := _, after := _, guard := _ }) (v := .pointer (some ⟨lB, 1, none⟩)) rfl (by kernel_rfl) (by kernel_rfl) (by kernel_rfl) (fun _ _ _ h => h) (Or.inl ⟨by rfl, fun w hSw => by first | (go_simp; done) | go_simp⟩) (by assumption) ?_
                  (try simp only [Act.put, List.setIfInBounds_toArray, List.set_cons_zero, List.set_cons_succ])
                  refine wpAnyH_ready (rs := [19]) (by kernel_rfl) (by simp) ?_
                  refine AllReadyH.cons rfl (fun K hK => ?_) AllReadyH.nil
                  rw [if_pos (by rfl)]
                  go_simp
                  refine hK.out _ _ HQ2.out (fun hHeld => ?_)
                  clear hK
                  (try simp only [Act.put, List.setIfInBounds_toArray, List.set_cons_zero, List.set_cons_succ])
                  refine wpAnyH_done (by kernel_rfl) ?_ _
                  clear hHeld y0 yf yl z1 zf HQ1 HQ2
                  go_wp2_with fail
                  go_roundg (N2 - (i + 1))
                  case measure => omega
                  case rel =>
                    obtain ⟨r1, r2, r3, r4, r5, r6, r7, r8, r9, r10⟩ := HFIN.out _ _ _ _ _ HX4.out
                    exact ⟨i + 1, r1, r2, r3, r4, r5, _, rfl, rfl, by omega, by go_num, r6, r7, r8, r9, r10⟩
            · rw [if_pos (by rfl)]
              go_simp
              obtain ⟨X1, hX1⟩ : ∃ Y, Y = X0.alloc (.cells #[.int .u32 (uo : Int)] 38) := ⟨_, rfl⟩
              obtain ⟨nB, hnB⟩ : ∃ n, n = X0.heap.size := ⟨_, rfl⟩
              have HNBX1 : Hid (X1.heap[nB]? = some (.cells #[.int .u32 (uo : Int)] 38 (0, 0)) ∧ V.heap.size ≤ nB) := by rw [hX1, hnB]; exact ⟨heap_alloc_new _ _, HX0.out.o.size⟩
              have HX1 : Hid _ := HX0.out.alloc (.cells #[.int .u32 (uo : Int)] 38)
              rw [← hX1] at HX1 ⊢
              rw [← hnB]
              clear hX1 hnB
              refine hK.out _ _ (HCL.out X1 HX1.out.o).2.1 (fun hHeld => ?_)
              clear hK
              (try simp only [Act.put, List.setIfInBounds_toArray, List.set_cons_zero, List.set_cons_succ])
              refine wpAnyH_ready (rs := [1, 3, 6]) (by kernel_rfl) (by simp) ?_
              refine AllReadyH.cons rfl (fun K hK => ?_) (AllReadyH.cons rfl (fun K hK => ?_) (AllReadyH.cons rfl (fun K hK => ?_) AllReadyH.nil))
              · have y := HCL.out X1 HX1.out.o
                have y0 : X1.cell? ⟨lB, 0, none⟩ = some (.slice aN i kN) := cell_blk y.1
                have yl := y.2.2
                rw [if_pos (by rfl)]
                go_simp
                refine hK.out _ _ y.2.1 (fun hHeld => ?_)
                clear hK y y0 yl
                (try simp only [Act.put, List.setIfInBounds_toArray, List.set_cons_zero, List.set_cons_succ])
                refine wpAnyH_ready (rs := [3, 6]) (by kernel_rfl) (by simp) ?_
                refine AllReadyH.cons rfl (fun K hK => ?_) (AllReadyH.cons rfl (fun K hK => ?_) AllReadyH.nil)
                · rw [if_pos (by rfl)]
                  go_simp
                  obtain ⟨X2, hX2⟩ : ∃ Y, Y = X1.alloc (.cells #[.slice aW c kW] 23) := ⟨_, rfl⟩
                  obtain ⟨nA, hnA⟩ : ∃ n, n = X1.heap.size := ⟨_, rfl⟩
                  have HNAX2 : Hid (X2.heap[nA]? = some (.cells #[.slice aW c kW] 23 (0, 0)) ∧ V.heap.size ≤ nA) := by rw [hX2, hnA]; exact ⟨heap_alloc_new _ _, HX1.out.o.size⟩
                  have HX2 : Hid _ := HX1.out.alloc (.cells #[.slice aW c kW] 23)
                  have HNBX2 : Hid (X2.heap[nB]? = some (.cells #[.int .u32 (uo : Int)] 38 (0, 0)) ∧ V.heap.size ≤ nB) := by rw [hX2]; exact ⟨blk_alloc _ HNBX1.out.1, HNBX1.out.2⟩
                  rw [← hX2] at HX2 ⊢
                  rw [← hnA]
                  clear hX2 hnA
                  refine hK.out _ _ (HCL.out X2 HX2.out.o).2.1 (fun hHeld => ?_)
                  clear hK
                  (try simp only [Act.put, List.setIfInBounds_toArray, List.set_cons_zero, List.set_cons_succ])
                  refine wpAnyH_ready (rs := [4, 6]) (by kernel_rfl) (by simp) ?_
                  refine AllReadyH.cons rfl (fun K hK => ?_) (AllReadyH.cons rfl (fun K hK => ?_) AllReadyH.nil)
                  · have yl := (HCL.out X2 HX2.out.o).2.2
                    refine step_A (by rfl) _ _ (by rfl) (lB + 1) (.slice aN i kN) i vs (by rfl) HX2.out.a nA (.slice aW c kW) (by rfl) HNAX2.out.1 rfl (by omega) (by omega) ?_
                    intro gA cA X3 hown hgrow
                    have HNBX3 : Hid (X3.heap[nB]? = some (.cells #[.int .u32 (uo : Int)] 38 (0, 0)) ∧ V.heap.size ≤ nB) := ⟨blk_grow HNBX2.out.1 HX2.out.a hgrow (fun e => by have h1 := own_lt HOLD.out.nx e; have h2 := HNBX2.out.2; omega), HNBX2.out.2⟩
                    have HX3 : Hid _ := HX2.out.appA hgrow hown
                    clear hown hgrow yl
                    refine hK.out _ _ (HCL.out X3 HX3.out.o).2.1 (fun hHeld => ?_)
                    clear hK
                    (try simp only [Act.put, List.setIfInBounds_toArray, List.set_cons_zero, List.set_cons_succ])
                    refine wpAnyH_ready (rs := [6]) (by kernel_rfl) (by simp) ?_
                    refine AllReadyH.cons rfl (fun K hK => ?_) AllReadyH.nil
                    have y := HCL.out X3 HX3.out.o
                    have y0 : X3.cell? ⟨lB, 1, none⟩ = some (.slice aO i kO) := cell_blk y.1
                    have yl := y.2.2
                    rw [if_pos (by rfl)]
                    go_simp
                    refine hK.out _ _ y.2.1 (fun hHeld => ?_)
                    clear hK y y0 yl
                    (try simp only [Act.put, List.setIfInBounds_toArray, List.set_cons_zero, List.set_cons_succ])
                    refine wpAnyH_take (i := 16) (oi := { dst := some 90, op := _, type := _, pos := _, after := _, guard := _ }) (v := .pointer (some ⟨lB, 0, none⟩)) rfl (by kernel_rfl) (by kernel_rfl) (by kernel_rfl) (fun _ _ _ h => h) (Or.inl ⟨by rfl, fun w hSw => by first | (go_simp; done) | go_simp⟩) (by assumption) ?_
                    (try simp only [Act.put, List.setIfInBounds_toArray, List.set_cons_zero, List.set_cons_succ])
                    refine wpAnyH_ready (rs := [15]) (by kernel_rfl) (by simp) ?_
                    refine AllReadyH.cons rfl (fun K hK => ?_) AllReadyH.nil
                    have yl := (HCL.out X3 HX3.out.o).2.2
                    refine step_B (by rfl) _ _ (by rfl) (lB + 1) (.slice aO i kO) i (oB.map u32V) (by rfl) HX3.out.b nB (.int .u32 (uo : Int)) (by rfl) HNBX3.out.1 rfl (by omega) (by omega) ?_
                    intro gB cB X4 hown hgrow
                    have HX4 : Hid _ := HX3.out.appB hgrow hown
                    clear hown hgrow yl
                    refine hK.out _ _ (HCL.out X4 HX4.out.o).2.1 (fun hHeld => ?_)
                    clear hK
                    (try simp only [Act.put, List.setIfInBounds_toArray, List.set_cons_zero, List.set_cons_succ])
                    have y := HCL.out X4 HX4.out.o
                    have y0 : X4.cell? ⟨lB, 0, none⟩ = some (.slice aN i kN) := cell_blk y.1
                    have yf : ∀ q, X4.frozen? ⟨lB, q, none⟩ = false := fun q => fz_blk y.1 q
                    have yl := y.2.2
                    have z := heap_setCell_at (k := 0) y.1 (.slice (some ⟨gA, 0, none⟩) (i + 1) cA)
                    have z1 : (X4.setCell ⟨lB, 0, none⟩ (.slice (some ⟨gA, 0, none⟩) (i + 1) cA)).cell? ⟨lB, 1, none⟩ = some (.slice aO i kO) := cell_blk z
                    have zf : ∀ q, (X4.setCell ⟨lB, 0, none⟩ (.slice (some ⟨gA, 0, none⟩) (i + 1) cA)).frozen? ⟨lB, q, none⟩ = false := fun q => fz_blk z q
                    have HQ1 : Hid _ := HHS.out X4 0 (.slice (some ⟨gA, 0, none⟩) (i + 1) cA) y.2.1
                    have HQ2 : Hid _ := HHS.out _ 1 (.slice (some ⟨gB, 0, none⟩) (i + 1) cB) HQ1.out
                    clear y z
                    refine wpAnyH_ready (rs := [17]) (by kernel_rfl) (by simp) ?_
                    refine AllReadyH.cons rfl (fun K hK => ?_) AllReadyH.nil
                    rw [if_pos (by rfl)]
                    go_simp
                    refine hK.out _ _ HQ1.out (fun hHeld => ?_)
                    clear hK
                    (try simp only [Act.put, List.setIfInBounds_toArray, List.set_cons_zero, List.set_cons_succ])
                    refine wpAnyH_take (i := 18) (oi := { dst := some 91, op := _, type := _, pos := _, after := _, guard := _ }) (v := .pointer (some ⟨lB, 1, none⟩)) rfl (by kernel_rfl) (by kernel_rfl) (by kernel_rfl) (fun _ _ _ h => h) (Or.inl ⟨by rfl, fun w hSw => by first | (go_simp; done) | go_simp⟩) (by assumption) ?_
                    (try simp only [Act.put, List.setIfInBounds_toArray, List.set_cons_zero, List.set_cons_succ])
                    refine wpAnyH_ready (rs := [19]) (by kernel_rfl) (by simp) ?_
                    refine AllReadyH.cons rfl (fun K hK => ?_) AllReadyH.nil
                    rw [if_pos (by rfl)]
                    go_simp
                    refine hK.out _ _ HQ2.out (fun hHeld => ?_)
                    clear hK
                    (try simp only [Act.put, List.setIfInBounds_toArray, List.set_cons_zero, List.set_cons_succ])
                    refine wpAnyH_done (by kernel_rfl) ?_ _
                    clear hHeld y0 yf yl z1 zf HQ1 HQ2
                    go_wp2_with fail
                    go_roundg (N2 - (i + 1))
                    case measure => omega
                    case rel =>
                      obtain ⟨r1, r2, r3, r4, r5, r6, r7, r8, r9, r10⟩ := HFIN.out _ _ _ _ _ HX4.out
                      exact ⟨i + 1, r1, r2, r3, r4, r5, _, rfl, rfl, by omega, by go_num, r6, r7, r8, r9, r10⟩
                  · have y := HCL.out X2 HX2.out.o
                    have y0 : X2.cell? ⟨lB, 1, none⟩ = some (.slice aO i kO) := cell_blk y.1
                    have yl := y.2.2
                    rw [if_pos (by rfl)]
                    go_simp
                    refine hK.out _ _ y.2.1 (fun hHeld => ?_)
                    clear hK y y0 yl
                    (try simp only [Act.put, List.setIfInBounds_toArray, List.set_cons_zero, List.set_cons_succ])
                    refine wpAnyH_ready (rs := [4]) (by kernel_rfl) (by simp) ?_
                    refine AllReadyH.cons rfl (fun K hK => ?_) AllReadyH.nil
                    have yl := (HCL.out X2 HX2.out.o).2.2
                    refine step_A (by rfl) _ _ (by rfl) (lB + 1) (.slice aN i kN) i vs (by rfl) HX2.out.a nA (.slice aW c kW) (by rfl) HNAX2.out.1 rfl (by omega) (by omega) ?_
                    intro gA cA X3 hown hgrow
                    have HNBX3 : Hid (X3.heap[nB]? = some (.cells #[.int .u32 (uo : Int)] 38 (0, 0)) ∧ V.heap.size ≤ nB) := ⟨blk_grow HNBX2.out.1 HX2.out.a hgrow (fun e => by have h1 := own_lt HOLD.out.nx e; have h2 := HNBX2.out.2; omega), HNBX2.out.2⟩
                    have HX3 : Hid _ := HX2.out.appA hgrow hown
                    clear hown hgrow yl
                    refine hK.out _ _ (HCL.out X3 HX3.out.o).2.1 (fun hHeld => ?_)
                    clear hK
                    (try simp only [Act.put, List.setIfInBounds_toArray, List.set_cons_zero, List.set_cons_succ])
                    refine wpAnyH_take (i := 16) (oi := { dst := some 90, op := _, type := _, pos := _, after := _, guard := _ }) (v := .pointer (some ⟨lB, 0, none⟩)) rfl (by kernel_rfl) (by kernel_rfl) (by kernel_rfl) (fun _ _ _ h => h) (Or.inl ⟨by rfl, fun w hSw => by first | (go_simp; done) | go_simp⟩) (by assumption) ?_
                    (try simp only [Act.put, List.setIfInBounds_toArray, List.set_cons_zero, List.set_cons_succ])
                    refine wpAnyH_ready (rs := [15]) (by kernel_rfl) (by simp) ?_
                    refine AllReadyH.cons rfl (fun K hK => ?_) AllReadyH.nil
                    have yl := (HCL.out X3 HX3.out.o).2.2
                    refine step_B (by rfl) _ _ (by rfl) (lB + 1) (.slice aO i kO) i (oB.map u32V) (by rfl) HX3.out.b nB (.int .u32 (uo : Int)) (by rfl) HNBX3.out.1 rfl (by omega) (by omega) ?_
                    intro gB cB X4 hown hgrow
                    have HX4 : Hid _ := HX3.out.appB hgrow hown
                    clear hown hgrow yl
                    refine hK.out _ _ (HCL.out X4 HX4.out.o).2.1 (fun hHeld => ?_)
                    clear hK
                    (try simp only [Act.put, List.setIfInBounds_toArray, List.set_cons_zero, List.set_cons_succ])
                    have y := HCL.out X4 HX4.out.o
                    have y0 : X4.cell? ⟨lB, 0, none⟩ = some (.slice aN i kN) := cell_blk y.1
                    have yf : ∀ q, X4.frozen? ⟨lB, q, none⟩ = false := fun q => fz_blk y.1 q
                    have yl := y.2.2
                    have z := heap_setCell_at (k := 0) y.1 (.slice (some ⟨gA, 0, none⟩) (i + 1) cA)
                    have z1 : (X4.setCell ⟨lB, 0, none⟩ (.slice (some ⟨gA, 0, none⟩) (i + 1) cA)).cell? ⟨lB, 1, none⟩ = some (.slice aO i kO) := cell_blk z
                    have zf : ∀ q, (X4.setCell ⟨lB, 0, none⟩ (.slice (some ⟨gA, 0, none⟩) (i + 1) cA)).frozen? ⟨lB, q, none⟩ = false := fun q => fz_blk z q
                    have HQ1 : Hid _ := HHS.out X4 0 (.slice (some ⟨gA, 0, none⟩) (i + 1) cA) y.2.1
                    have HQ2 : Hid _ := HHS.out _ 1 (.slice (some ⟨gB, 0, none⟩) (i + 1) cB) HQ1.out
                    clear y z
                    refine wpAnyH_ready (rs := [17]) (by kernel_rfl) (by simp) ?_
                    refine AllReadyH.cons rfl (fun K hK => ?_) AllReadyH.nil
                    rw [if_pos (by rfl)]
                    go_simp
                    refine hK.out _ _ HQ1.out (fun hHeld => ?_)
                    clear hK
                    (try simp only [Act.put, List.setIfInBounds_toArray, List.set_cons_zero, List.set_cons_succ])
                    refine wpAnyH_take (i := 18) (oi := { dst := some 91, op := _, type := _, pos := _, after := _, guard := _ }) (v := .pointer (some ⟨lB, 1, none⟩)) rfl (by kernel_rfl) (by kernel_rfl) (by kernel_rfl) (fun _ _ _ h => h) (Or.inl ⟨by rfl, fun w hSw => by first | (go_simp; done) | go_simp⟩) (by assumption) ?_
                    (try simp only [Act.put, List.setIfInBounds_toArray, List.set_cons_zero, List.set_cons_succ])
                    refine wpAnyH_ready (rs := [19]) (by kernel_rfl) (by simp) ?_
                    refine AllReadyH.cons rfl (fun K hK => ?_) AllReadyH.nil
                    rw [if_pos (by rfl)]
                    go_simp
                    refine hK.out _ _ HQ2.out (fun hHeld => ?_)
                    clear hK
                    (try simp only [Act.put, List.setIfInBounds_toArray, List.set_cons_zero, List.set_cons_succ])
                    refine wpAnyH_done (by kernel_rfl) ?_ _
                    clear hHeld y0 yf yl z1 zf HQ1 HQ2
                    go_wp2_with fail
                    go_roundg (N2 - (i + 1))
                    case measure => omega
                    case rel =>
                      obtain ⟨r1, r2, r3, r4, r5, r6, r7, r8, r9, r10⟩ := HFIN.out _ _ _ _ _ HX4.out
                      exact ⟨i + 1, r1, r2, r3, r4, r5, _, rfl, rfl, by omega, by go_num, r6, r7, r8, r9, r10⟩
                · have y := HCL.out X1 HX1.out.o
                  have y0 : X1.cell? ⟨lB, 1, none⟩ = some (.slice aO i kO) := cell_blk y.1
                  have yl := y.2.2
                  rw [if_pos (by rfl)]
                  go_simp
                  refine hK.out _ _ y.2.1 (fun hHeld => ?_)
                  clear hK y y0 yl
                  (try simp only [Act.put, List.setIfInBounds_toArray, List.set_cons_zero, List.set_cons_succ])
                  refine wpAnyH_ready (rs := [3]) (by kernel_rfl) (by simp) ?_
                  refine AllReadyH.cons rfl (fun K hK => ?_) AllReadyH.nil
                  rw [if_pos (by rfl)]
                  go_simp
                  obtain ⟨X2, hX2⟩ : ∃ Y, Y = X1.alloc (.cells #[.slice aW c kW] 23) := ⟨_, rfl⟩
                  obtain ⟨nA, hnA⟩ : ∃ n, n = X1.heap.size := ⟨_, rfl⟩
                  have HNAX2 : Hid (X2.heap[nA]? = some (.cells #[.slice aW c kW] 23 (0, 0)) ∧ V.heap.size ≤ nA) := by rw [hX2, hnA]; exact ⟨heap_alloc_new _ _, HX1.out.o.size⟩
                  have HX2 : Hid _ := HX1.out.alloc (.cells #[.slice aW c kW] 23)
                  have HNBX2 : Hid (X2.heap[nB]? = some (.cells #[.int .u32 (uo : Int)] 38 (0, 0)) ∧ V.heap.size ≤ nB) := by rw [hX2]; exact ⟨blk_alloc _ HNBX1.out.1, HNBX1.out.2⟩
                  rw [← hX2] at HX2 ⊢
                  rw [← hnA]
                  clear hX2 hnA
                  refine hK.out _ _ (HCL.out X2 HX2.out.o).2.1 (fun hHeld => ?_)
                  clear hK
                  (try simp only [Act.put, List.setIfInBounds_toArray, List.set_cons_zero, List.set_cons_succ])
                  refine wpAnyH_ready (rs := [4]) (by kernel_rfl) (by simp) ?_
                  refine AllReadyH.cons rfl (fun K hK => ?_) AllReadyH.nil
                  have yl := (HCL.out X2 HX2.out.o).2.2
                  refine step_A (by rfl) _ _ (by rfl) (lB + 1) (.slice aN i kN) i vs (by rfl) HX2.out.a nA (.slice aW c kW) (by rfl) HNAX2.out.1 rfl (by omega) (by omega) ?_
                  intro gA cA X3 hown hgrow
                  have HNBX3 : Hid (X3.heap[nB]? = some (.cells #[.int .u32 (uo : Int)] 38 (0, 0)) ∧ V.heap.size ≤ nB) := ⟨blk_grow HNBX2.out.1 HX2.out.a hgrow (fun e => by have h1 := own_lt HOLD.out.nx e; have h2 := HNBX2.out.2; omega), HNBX2.out.2⟩
                  have HX3 : Hid _ := HX2.out.appA hgrow hown
                  clear hown hgrow yl
                  refine hK.out _ _ (HCL.out X3 HX3.out.o).2.1 (fun hHeld => ?_)
                  clear hK
                  (try simp only [Act.put, List.setIfInBounds_toArray, List.set_cons_zero, List.set_cons_succ])
                  refine wpAnyH_take (i := 16) (oi := { dst := some 90, op := _, type := _, pos := _, after := _, guard := _ }) (v := .pointer (some ⟨lB, 0, none⟩)) rfl (by kernel_rfl) (by kernel_rfl) (by kernel_rfl) (fun _ _ _ h => h) (Or.inl ⟨by rfl, fun w hSw => by first | (go_simp; done) | go_simp⟩) (by assumption) ?_
                  (try simp only [Act.put, List.setIfInBounds_toArray, List.set_cons_zero, List.set_cons_succ])
                  refine wpAnyH_ready (rs := [15]) (by kernel_rfl) (by simp) ?_
                  refine AllReadyH.cons rfl (fun K hK => ?_) AllReadyH.nil
                  have yl := (HCL.out X3 HX3.out.o).2.2
                  refine step_B (by rfl) _ _ (by rfl) (lB + 1) (.slice aO i kO) i (oB.map u32V) (by rfl) HX3.out.b nB (.int .u32 (uo : Int)) (by rfl) HNBX3.out.1 rfl (by omega) (by omega) ?_
                  intro gB cB X4 hown hgrow
                  have HX4 : Hid _ := HX3.out.appB hgrow hown
                  clear hown hgrow yl
                  refine hK.out _ _ (HCL.out X4 HX4.out.o).2.1 (fun hHeld => ?_)
                  clear hK
                  (try simp only [Act.put, List.setIfInBounds_toArray, List.set_cons_zero, List.set_cons_succ])
                  have y := HCL.out X4 HX4.out.o
                  have y0 : X4.cell? ⟨lB, 0, none⟩ = some (.slice aN i kN) := cell_blk y.1
                  have yf : ∀ q, X4.frozen? ⟨lB, q, none⟩ = false := fun q => fz_blk y.1 q
                  have yl := y.2.2
                  have z := heap_setCell_at (k := 0) y.1 (.slice (some ⟨gA, 0, none⟩) (i + 1) cA)
                  have z1 : (X4.setCell ⟨lB, 0, none⟩ (.slice (some ⟨gA, 0, none⟩) (i + 1) cA)).cell? ⟨lB, 1, none⟩ = some (.slice aO i kO) := cell_blk z
                  have zf : ∀ q, (X4.setCell ⟨lB, 0, none⟩ (.slice (some ⟨gA, 0, none⟩) (i + 1) cA)).frozen? ⟨lB, q, none⟩ = false := fun q => fz_blk z q
                  have HQ1 : Hid _ := HHS.out X4 0 (.slice (some ⟨gA, 0, none⟩) (i + 1) cA) y.2.1
                  have HQ2 : Hid _ := HHS.out _ 1 (.slice (some ⟨gB, 0, none⟩) (i + 1) cB) HQ1.out
                  clear y z
                  refine wpAnyH_ready (rs := [17]) (by kernel_rfl) (by simp) ?_
                  refine AllReadyH.cons rfl (fun K hK => ?_) AllReadyH.nil
                  rw [if_pos (by rfl)]
                  go_simp
                  refine hK.out _ _ HQ1.out (fun hHeld => ?_)
                  clear hK
                  (try simp only [Act.put, List.setIfInBounds_toArray, List.set_cons_zero, List.set_cons_succ])
                  refine wpAnyH_take (i := 18) (oi := { dst := some 91, op := _, type := _, pos := _, after := _, guard := _ }) (v := .pointer (some ⟨lB, 1, none⟩)) rfl (by kernel_rfl) (by kernel_rfl) (by kernel_rfl) (fun _ _ _ h => h) (Or.inl ⟨by rfl, fun w hSw => by first | (go_simp; done) | go_simp⟩) (by assumption) ?_
                  (try simp only [Act.put, List.setIfInBounds_toArray, List.set_cons_zero, List.set_cons_succ])
                  refine wpAnyH_ready (rs := [19]) (by kernel_rfl) (by simp) ?_
                  refine AllReadyH.cons rfl (fun K hK => ?_) AllReadyH.nil
                  rw [if_pos (by rfl)]
                  go_simp
                  refine hK.out _ _ HQ2.out (fun hHeld => ?_)
                  clear hK
                  (try simp only [Act.put, List.setIfInBounds_toArray, List.set_cons_zero, List.set_cons_succ])
                  refine wpAnyH_done (by kernel_rfl) ?_ _
                  clear hHeld y0 yf yl z1 zf HQ1 HQ2
                  go_wp2_with fail
                  go_roundg (N2 - (i + 1))
                  case measure => omega
                  case rel =>
                    obtain ⟨r1, r2, r3, r4, r5, r6, r7, r8, r9, r10⟩ := HFIN.out _ _ _ _ _ HX4.out
                    exact ⟨i + 1, r1, r2, r3, r4, r5, _, rfl, rfl, by omega, by go_num, r6, r7, r8, r9, r10⟩
              · rw [if_pos (by rfl)]
                go_simp
                obtain ⟨X2, hX2⟩ : ∃ Y, Y = X1.alloc (.cells #[.slice aW c kW] 23) := ⟨_, rfl⟩
                obtain ⟨nA, hnA⟩ : ∃ n, n = X1.heap.size := ⟨_, rfl⟩
                have HNAX2 : Hid (X2.heap[nA]? = some (.cells #[.slice aW c kW] 23 (0, 0)) ∧ V.heap.size ≤ nA) := by rw [hX2, hnA]; exact ⟨heap_alloc_new _ _, HX1.out.o.size⟩
                have HX2 : Hid _ := HX1.out.alloc (.cells #[.slice aW c kW] 23)
                have HNBX2 : Hid (X2.heap[nB]? = some (.cells #[.int .u32 (uo : Int)] 38 (0, 0)) ∧ V.heap.size ≤ nB) := by rw [hX2]; exact ⟨blk_alloc _ HNBX1.out.1, HNBX1.out.2⟩
                rw [← hX2] at HX2 ⊢
                rw [← hnA]
                clear hX2 hnA
                refine hK.out _ _ (HCL.out X2 HX2.out.o).2.1 (fun hHeld => ?_)
                clear hK
                (try simp only [Act.put, List.setIfInBounds_toArray, List.set_cons_zero, List.set_cons_succ])
                refine wpAnyH_ready (rs := [1, 6]) (by kernel_rfl) (by simp) ?_
                refine AllReadyH.cons rfl (fun K hK => ?_) (AllReadyH.cons rfl (fun K hK => ?_) AllReadyH.nil)
                · have y := HCL.out X2 HX2.out.o
                  have y0 : X2.cell? ⟨lB, 0, none⟩ = some (.slice aN i kN) := cell_blk y.1
                  have yl := y.2.2
                  rw [if_pos (by rfl)]
                  go_simp
                  refine hK.out _ _ y.2.1 (fun hHeld => ?_)
                  clear hK y y0 yl
                  (try simp only [Act.put, List.setIfInBounds_toArray, List.set_cons_zero, List.set_cons_succ])
                  refine wpAnyH_ready (rs := [4, 6]) (by kernel_rfl) (by simp) ?_
                  refine AllReadyH.cons rfl (fun K hK => ?_) (AllReadyH.cons rfl (fun K hK => ?_) AllReadyH.nil)
                  · have yl := (HCL.out X2 HX2.out.o).2.2
                    refine step_A (by rfl) _ _ (by rfl) (lB + 1) (.slice aN i kN) i vs (by rfl) HX2.out.a nA (.slice aW c kW) (by rfl) HNAX2.out.1 rfl (by omega) (by omega) ?_
                    intro gA cA X3 hown hgrow
                    have HNBX3 : Hid (X3.heap[nB]? = some (.cells #[.int .u32 (uo : Int)] 38 (0, 0)) ∧ V.heap.size ≤ nB) := ⟨blk_grow HNBX2.out.1 HX2.out.a hgrow (fun e => by have h1 := own_lt HOLD.out.nx e; have h2 := HNBX2.out.2; omega), HNBX2.out.2⟩
                    have HX3 : Hid _ := HX2.out.appA hgrow hown
                    clear hown hgrow yl
                    refine hK.out _ _ (HCL.out X3 HX3.out.o).2.1 (fun hHeld => ?_)
                    clear hK
                    (try simp only [Act.put, List.setIfInBounds_toArray, List.set_cons_zero, List.set_cons_succ])
                    refine wpAnyH_ready (rs := [6]) (by kernel_rfl) (by simp) ?_
                    refine AllReadyH.cons rfl (fun K hK => ?_) AllReadyH.nil
                    have y := HCL.out X3 HX3.out.o
                    have y0 : X3.cell? ⟨lB, 1, none⟩ = some (.slice aO i kO) := cell_blk y.1
                    have yl := y.2.2
                    rw [if_pos (by rfl)]
                    go_simp
                    refine hK.out _ _ y.2.1 (fun hHeld => ?_)
                    clear hK y y0 yl
                    (try simp only [Act.put, List.setIfInBounds_toArray, List.set_cons_zero, List.set_cons_succ])
                    refine wpAnyH_take (i := 16) (oi := { dst := some 90, op := _, type := _, pos := _, after := _, guard := _ }) (v := .pointer (some ⟨lB, 0, none⟩)) rfl (by kernel_rfl) (by kernel_rfl) (by kernel_rfl) (fun _ _ _ h => h) (Or.inl ⟨by rfl, fun w hSw => by first | (go_simp; done) | go_simp⟩) (by assumption) ?_
                    (try simp only [Act.put, List.setIfInBounds_toArray, List.set_cons_zero, List.set_cons_succ])
                    refine wpAnyH_ready (rs := [15]) (by kernel_rfl) (by simp) ?_
                    refine AllReadyH.cons rfl (fun K hK => ?_) AllReadyH.nil
                    have yl := (HCL.out X3 HX3.out.o).2.2
                    refine step_B (by rfl) _ _ (by rfl) (lB + 1) (.slice aO i kO) i (oB.map u32V) (by rfl) HX3.out.b nB (.int .u32 (uo : Int)) (by rfl) HNBX3.out.1 rfl (by omega) (by omega) ?_
                    intro gB cB X4 hown hgrow
                    have HX4 : Hid _ := HX3.out.appB hgrow hown
                    clear hown hgrow yl
                    refine hK.out _ _ (HCL.out X4 HX4.out.o).2.1 (fun hHeld => ?_)
                    clear hK
                    (try simp only [Act.put, List.setIfInBounds_toArray, List.set_cons_zero, List.set_cons_succ])
                    have y := HCL.out X4 HX4.out.o
                    have y0 : X4.cell? ⟨lB, 0, none⟩ = some (.slice aN i kN) := cell_blk y.1
                    have yf : ∀ q, X4.frozen? ⟨lB, q, none⟩ = false := fun q => fz_blk y.1 q
                    have yl := y.2.2
                    have z := heap_setCell_at (k := 0) y.1 (.slice (some ⟨gA, 0, none⟩) (i + 1) cA)
                    have z1 : (X4.setCell ⟨lB, 0, none⟩ (.slice (some ⟨gA, 0, none⟩) (i + 1) cA)).cell? ⟨lB, 1, none⟩ = some (.slice aO i kO) := cell_blk z
                    have zf : ∀ q, (X4.setCell ⟨lB, 0, none⟩ (.slice (some ⟨gA, 0, none⟩) (i + 1) cA)).frozen? ⟨lB, q, none⟩ = false := fun q => fz_blk z q
                    have HQ1 : Hid _ := HHS.out X4 0 (.slice (some ⟨gA, 0, none⟩) (i + 1) cA) y.2.1
                    have HQ2 : Hid _ := HHS.out _ 1 (.slice (some ⟨gB, 0, none⟩) (i + 1) cB) HQ1.out
                    clear y z
                    refine wpAnyH_ready (rs := [17]) (by kernel_rfl) (by simp) ?_
                    refine AllReadyH.cons rfl (fun K hK => ?_) AllReadyH.nil
                    rw [if_pos (by rfl)]
                    go_simp
                    refine hK.out _ _ HQ1.out (fun hHeld => ?_)
                    clear hK
                    (try simp only [Act.put, List.setIfInBounds_toArray, List.set_cons_zero, List.set_cons_succ])
                    refine wpAnyH_take (i := 18) (oi := { dst := some 91, op := _, type := _, pos := _, after := _, guard := _ }) (v := .pointer (some ⟨lB, 1, none⟩)) rfl (by kernel_rfl) (by kernel_rfl) (by kernel_rfl) (fun _ _ _ h => h) (Or.inl ⟨by rfl, fun w hSw => by first | (go_simp; done) | go_simp⟩) (by assumption) ?_
                    (try simp only [Act.put, List.setIfInBounds_toArray, List.set_cons_zero, List.set_cons_succ])
                    refine wpAnyH_ready (rs := [19]) (by kernel_rfl) (by simp) ?_
                    refine AllReadyH.cons rfl (fun K hK => ?_) AllReadyH.nil
                    rw [if_pos (by rfl)]
                    go_simp
                    refine hK.out _ _ HQ2.out (fun hHeld => ?_)
                    clear hK
                    (try simp only [Act.put, List.setIfInBounds_toArray, List.set_cons_zero, List.set_cons_succ])
                    refine wpAnyH_done (by kernel_rfl) ?_ _
                    clear hHeld y0 yf yl z1 zf HQ1 HQ2
                    go_wp2_with fail
                    go_roundg (N2 - (i + 1))
                    case measure => omega
                    case rel =>
                      obtain ⟨r1, r2, r3, r4, r5, r6, r7, r8, r9, r10⟩ := HFIN.out _ _ _ _ _ HX4.out
                      exact ⟨i + 1, r1, r2, r3, r4, r5, _, rfl, rfl, by omega, by go_num, r6, r7, r8, r9, r10⟩
                  · have y := HCL.out X2 HX2.out.o
                    have y0 : X2.cell? ⟨lB, 1, none⟩ = some (.slice aO i kO) := cell_blk y.1
                    have yl := y.2.2
                    rw [if_pos (by rfl)]
                    go_simp
                    refine hK.out _ _ y.2.1 (fun hHeld => ?_)
                    clear hK y y0 yl
                    (try simp only [Act.put, List.setIfInBounds_toArray, List.set_cons_zero, List.set_cons_succ])
                    refine wpAnyH_ready (rs := [4]) (by kernel_rfl) (by simp) ?_
                    refine AllReadyH.cons rfl (fun K hK => ?_) AllReadyH.nil
                    have yl := (HCL.out X2 HX2.out.o).2.2
                    refine step_A (by rfl) _ _ (by rfl) (lB + 1) (.slice aN i kN) i vs (by rfl) HX2.out.a nA (.slice aW c kW) (by rfl) HNAX2.out.1 rfl (by omega) (by omega) ?_
                    intro gA cA X3 hown hgrow
                    have HNBX3 : Hid (X3.heap[nB]? = some (.cells #[.int .u32 (uo : Int)] 38 (0, 0)) ∧ V.heap.size ≤ nB) := ⟨blk_grow HNBX2.out.1 HX2.out.a hgrow (fun e => by have h1 := own_lt HOLD.out.nx e; have h2 := HNBX2.out.2; omega), HNBX2.out.2⟩
                    have HX3 : Hid _ := HX2.out.appA hgrow hown
                    clear hown hgrow yl
                    refine hK.out _ _ (HCL.out X3 HX3.out.o).2.1 (fun hHeld => ?_)
                    clear hK
                    (try simp only [Act.put, List.setIfInBounds_toArray, List.set_cons_zero, List.set_cons_succ])
                    refine wpAnyH_take (i := 16) (oi := { dst := some 90, op := _, type := _, pos := _, after := _, guard := _ }) (v := .pointer (some ⟨lB, 0, none⟩)) rfl (by kernel_rfl) (by kernel_rfl) (by kernel_rfl) (fun _ _ _ h => h) (Or.inl ⟨by rfl, fun w hSw => by first | (go_simp; done) | go_simp⟩) (by assumption) ?_
                    (try simp only [Act.put, List.setIfInBounds_toArray, List.set_cons_zero, List.set_cons_succ])
                    refine wpAnyH_ready (rs := [15]) (by kernel_rfl) (by simp) ?_
                    refine AllReadyH.cons rfl (fun K hK => ?_) AllReadyH.nil
                    have yl := (HCL.out X3 HX3.out.o).2.2
                    refine step_B (by rfl) _ _ (by rfl) (lB + 1) (.slice aO i kO) i (oB.map u32V) (by rfl) HX3.out.b nB (.int .u32 (uo : Int)) (by rfl) HNBX3.out.1 rfl (by omega) (by omega) ?_
                    intro gB cB X4 hown hgrow
                    have HX4 : Hid _ := HX3.out.appB hgrow hown
                    clear hown hgrow yl
                    refine hK.out _ _ (HCL.out X4 HX4.out.o).2.1 (fun hHeld => ?_)
                    clear hK
                    (try simp only [Act.put, List.setIfInBounds_toArray, List.set_cons_zero, List.set_cons_succ])
                    have y := HCL.out X4 HX4.out.o
                    have y0 : X4.cell? ⟨lB, 0, none⟩ = some (.slice aN i kN) := cell_blk y.1
                    have yf : ∀ q, X4.frozen? ⟨lB, q, none⟩ = false := fun q => fz_blk y.1 q
                    have yl := y.2.2
                    have z := heap_setCell_at (k := 0) y.1 (.slice (some ⟨gA, 0, none⟩) (i + 1) cA)
                    have z1 : (X4.setCell ⟨lB, 0, none⟩ (.slice (some ⟨gA, 0, none⟩) (i + 1) cA)).cell? ⟨lB, 1, none⟩ = some (.slice aO i kO) := cell_blk z
                    have zf : ∀ q, (X4.setCell ⟨lB, 0, none⟩ (.slice (some ⟨gA, 0, none⟩) (i + 1) cA)).frozen? ⟨lB, q, none⟩ = false := fun q => fz_blk z q
                    have HQ1 : Hid _ := HHS.out X4 0 (.slice (some ⟨gA, 0, none⟩) (i + 1) cA) y.2.1
                    have HQ2 : Hid _ := HHS.out _ 1 (.slice (some ⟨gB, 0, none⟩) (i + 1) cB) HQ1.out
                    clear y z
                    refine wpAnyH_ready (rs := [17]) (by kernel_rfl) (by simp) ?_
                    refine AllReadyH.cons rfl (fun K hK => ?_) AllReadyH.nil
                    rw [if_pos (by rfl)]
                    go_simp
                    refine hK.out _ _ HQ1.out (fun hHeld => ?_)
                    clear hK
                    (try simp only [Act.put, List.setIfInBounds_toArray, List.set_cons_zero, List.set_cons_succ])
                    refine wpAnyH_take (i := 18) (oi := { dst := some 91, op := _, type := _, pos := _, after := _, guard := _ }) (v := .pointer (some ⟨lB, 1, none⟩)) rfl (by kernel_rfl) (by kernel_rfl) (by kernel_rfl) (fun _ _ _ h => h) (Or.inl ⟨by rfl, fun w hSw => by first | (go_simp; done) | go_simp⟩) (by assumption) ?_
                    (try simp only [Act.put, List.setIfInBounds_toArray, List.set_cons_zero, List.set_cons_succ])
                    refine wpAnyH_ready (rs := [19]) (by kernel_rfl) (by simp) ?_
                    refine AllReadyH.cons rfl (fun K hK => ?_) AllReadyH.nil
                    rw [if_pos (by rfl)]
                    go_simp
                    refine hK.out _ _ HQ2.out (fun hHeld => ?_)
                    clear hK
                    (try simp only [Act.put, List.setIfInBounds_toArray, List.set_cons_zero, List.set_cons_succ])
                    refine wpAnyH_done (by kernel_rfl) ?_ _
                    clear hHeld y0 yf yl z1 zf HQ1 HQ2
                    go_wp2_with fail
                    go_roundg (N2 - (i + 1))
                    case measure => omega
                    case rel =>
                      obtain ⟨r1, r2, r3, r4, r5, r6, r7, r8, r9, r10⟩ := HFIN.out _ _ _ _ _ HX4.out
                      exact ⟨i + 1, r1, r2, r3, r4, r5, _, rfl, rfl, by omega, by go_num, r6, r7, r8, r9, r10⟩
                · have y := HCL.out X2 HX2.out.o
                  have y0 : X2.cell? ⟨lB, 1, none⟩ = some (.slice aO i kO) := cell_blk y.1
                  have yl := y.2.2
                  rw [if_pos (by rfl)]
                  go_simp
                  refine hK.out _ _ y.2.1 (fun hHeld => ?_)
                  clear hK y y0 yl
                  (try simp only [Act.put, List.setIfInBounds_toArray, List.set_cons_zero, List.set_cons_succ])
                  refine wpAnyH_ready (rs := [1]) (by kernel_rfl) (by simp) ?_
                  refine AllReadyH.cons rfl (fun K hK => ?_) AllReadyH.nil
                  have y := HCL.out X2 HX2.out.o
                  have y0 : X2.cell? ⟨lB, 0, none⟩ = some (.slice aN i kN) := cell_blk y.1
                  have yl := y.2.2
                  rw [if_pos (by rfl)]
                  go_simp
                  refine hK.out _ _ y.2.1 (fun hHeld => ?_)
                  clear hK y y0 yl
                  (try simp only [Act.put, List.setIfInBounds_toArray, List.set_cons_zero, List.set_cons_succ])
                  refine wpAnyH_ready (rs := [4]) (by kernel_rfl) (by simp) ?_
                  refine AllReadyH.cons rfl (fun K hK => ?_) AllReadyH.nil
                  have yl := (HCL.out X2 HX2.out.o).2.2
                  refine step_A (by rfl) _ _ (by rfl) (lB + 1) (.slice aN i kN) i vs (by rfl) HX2.out.a nA (.slice aW c kW) (by rfl) HNAX2.out.1 rfl (by omega) (by omega) ?_
                  intro gA cA X3 hown hgrow
                  have HNBX3 : Hid (X3.heap[nB]? = some (.cells #[.int .u32 (uo : Int)] 38 (0, 0)) ∧ V.heap.size ≤ nB) := ⟨blk_grow HNBX2.out.1 HX2.out.a hgrow (fun e => by have h1 := own_lt HOLD.out.nx e; have h2 := HNBX2.out.2; omega), HNBX2.out.2⟩
                  have HX3 : Hid _ := HX2.out.appA hgrow hown
                  clear hown hgrow yl
                  refine hK.out _ _ (HCL.out X3 HX3.out.o).2.1 (fun hHeld => ?_)
                  clear hK
                  (try simp only [Act.put, List.setIfInBounds_toArray, List.set_cons_zero, List.set_cons_succ])
                  refine wpAnyH_take (i := 16) (oi := { dst := some 90, op := _, type := _, pos := _, after := _, guard := _ }) (v := .pointer (some ⟨lB, 0, none⟩)) rfl (by kernel_rfl) (by kernel_rfl) (by kernel_rfl) (fun _ _ _ h => h) (Or.inl ⟨by rfl, fun w hSw => by first | (go_simp; done) | go_simp⟩) (by assumption) ?_
                  (try simp only [Act.put, List.setIfInBounds_toArray, List.set_cons_zero, List.set_cons_succ])
                  refine wpAnyH_ready (rs := [15]) (by kernel_rfl) (by simp) ?_
                  refine AllReadyH.cons rfl (fun K hK => ?_) AllReadyH.nil
                  have yl := (HCL.out X3 HX3.out.o).2.2
                  refine step_B (by rfl) _ _ (by rfl) (lB + 1) (.slice aO i kO) i (oB.map u32V) (by rfl) HX3.out.b nB (.int .u32 (uo : Int)) (by rfl) HNBX3.out.1 rfl (by omega) (by omega) ?_
                  intro gB cB X4 hown hgrow
                  have HX4 : Hid _ := HX3.out.appB hgrow hown
                  clear hown hgrow yl
                  refine hK.out _ _ (HCL.out X4 HX4.out.o).2.1 (fun hHeld => ?_)
                  clear hK
                  (try simp only [Act.put, List.setIfInBounds_toArray, List.set_cons_zero, List.set_cons_succ])
                  have y := HCL.out X4 HX4.out.o
                  have y0 : X4.cell? ⟨lB, 0, none⟩ = some (.slice aN i kN) := cell_blk y.1
                  have yf : ∀ q, X4.frozen? ⟨lB, q, none⟩ = false := fun q => fz_blk y.1 q
                  have yl := y.2.2
                  have z := heap_setCell_at (k := 0) y.1 (.slice (some ⟨gA, 0, none⟩) (i + 1) cA)
                  have z1 : (X4.setCell ⟨lB, 0, none⟩ (.slice (some ⟨gA, 0, none⟩) (i + 1) cA)).cell? ⟨lB, 1, none⟩ = some (.slice aO i kO) := cell_blk z
                  have zf : ∀ q, (X4.setCell ⟨lB, 0, none⟩ (.slice (some ⟨gA, 0, none⟩) (i + 1) cA)).frozen? ⟨lB, q, none⟩ = false := fun q => fz_blk z q
                  have HQ1 : Hid _ := HHS.out X4 0 (.slice (some ⟨gA, 0, none⟩) (i + 1) cA) y.2.1
                  have HQ2 : Hid _ := HHS.out _ 1 (.slice (some ⟨gB, 0, none⟩) (i + 1) cB) HQ1.out
                  clear y z
                  refine wpAnyH_ready (rs := [17]) (by kernel_rfl) (by simp) ?_
                  refine AllReadyH.cons rfl (fun K hK => ?_) AllReadyH.nil
                  rw [if_pos (by rfl)]
                  go_simp
                  refine hK.out _ _ HQ1.out (fun hHeld => ?_)
                  clear hK
                  (try simp only [Act.put, List.setIfInBounds_toArray, List.set_cons_zero, List.set_cons_succ])
                  refine wpAnyH_take (i := 18) (oi := { dst := some 91, op := _, type := _, pos := _, after := _, guard := _ }) (v := .pointer (some ⟨lB, 1, none⟩)) rfl (by kernel_rfl) (by kernel_rfl) (by kernel_rfl) (fun _ _ _ h => h) (Or.inl ⟨by rfl, fun w hSw => by first | (go_simp; done) | go_simp⟩) (by assumption) ?_
                  (try simp only [Act.put, List.setIfInBounds_toArray, List.set_cons_zero, List.set_cons_succ])
                  refine wpAnyH_ready (rs := [19]) (by kernel_rfl) (by simp) ?_
                  refine AllReadyH.cons rfl (fun K hK => ?_) AllReadyH.nil
                  rw [if_pos (by rfl)]
                  go_simp
                  refine hK.out _ _ HQ2.out (fun hHeld => ?_)
                  clear hK
                  (try simp only [Act.put, List.setIfInBounds_toArray, List.set_cons_zero, List.set_cons_succ])
                  refine wpAnyH_done (by kernel_rfl) ?_ _
                  clear hHeld y0 yf yl z1 zf HQ1 HQ2
                  go_wp2_with fail
                  go_roundg (N2 - (i + 1))
                  case measure => omega
                  case rel =>
                    obtain ⟨r1, r2, r3, r4, r5, r6, r7, r8, r9, r10⟩ := HFIN.out _ _ _ _ _ HX4.out
                    exact ⟨i + 1, r1, r2, r3, r4, r5, _, rfl, rfl, by omega, by go_num, r6, r7, r8, r9, r10⟩
              · have y := HCL.out X1 HX1.out.o
                have y0 : X1.cell? ⟨lB, 1, none⟩ = some (.slice aO i kO) := cell_blk y.1
                have yl := y.2.2
                rw [if_pos (by rfl)]
                go_simp
                refine hK.out _ _ y.2.1 (fun hHeld => ?_)
                clear hK y y0 yl
                (try simp only [Act.put, List.setIfInBounds_toArray, List.set_cons_zero, List.set_cons_succ])
                refine wpAnyH_ready (rs := [1, 3]) (by kernel_rfl) (by simp) ?_
                refine AllReadyH.cons rfl (fun K hK => ?_) (AllReadyH.cons rfl (fun K hK => ?_) AllReadyH.nil)
                · have y := HCL.out X1 HX1.out.o
                  have y0 : X1.cell? ⟨lB, 0, none⟩ = some (.slice aN i kN) := cell_blk y.1
                  have yl := y.2.2
                  rw [if_pos (by rfl)]
                  go_simp
                  refine hK.out _ _ y.2.1 (fun hHeld => ?_)
                  clear hK y y0 yl
                  (try simp only [Act.put, List.setIfInBounds_toArray, List.set_cons_zero, List.set_cons_succ])
                  refine wpAnyH_ready (rs := [3]) (by kernel_rfl) (by simp) ?_
                  refine AllReadyH.cons rfl (fun K hK => ?_) AllReadyH.nil
                  rw [if_pos (by rfl)]
                  go_simp
                  obtain ⟨X2, hX2⟩ : ∃ Y, Y = X1.alloc (.cells #[.slice aW c kW] 23) := ⟨_, rfl⟩
                  obtain ⟨nA, hnA⟩ : ∃ n, n = X1.heap.size := ⟨_, rfl⟩
                  have HNAX2 : Hid (X2.heap[nA]? = some (.cells #[.slice aW c kW] 23 (0, 0)) ∧ V.heap.size ≤ nA) := by rw [hX2, hnA]; exact ⟨heap_alloc_new _ _, HX1.out.o.size⟩
                  have HX2 : Hid _ := HX1.out.alloc (.cells #[.slice aW c kW] 23)
                  have HNBX2 : Hid (X2.heap[nB]? = some (.cells #[.int .u32 (uo : Int)] 38 (0, 0)) ∧ V.heap.size ≤ nB) := by rw [hX2]; exact ⟨blk_alloc _ HNBX1.out.1, HNBX1.out.2⟩
                  rw [← hX2] at HX2 ⊢
                  rw [← hnA]
                  clear hX2 hnA
                  refine hK.out _ _ (HCL.out X2 HX2.out.o).2.1 (fun hHeld => ?_)
                  clear hK
                  (try simp only [Act.put, List.setIfInBounds_toArray, List.set_cons_zero, List.set_cons_succ])
                  refine wpAnyH_ready (rs := [4]) (by kernel_rfl) (by simp) ?_
                  refine AllReadyH.cons rfl (fun K hK => ?_) AllReadyH.nil
                  have yl := (HCL.out X2 HX2.out.o).2.2
                  refine step_A (by rfl) _ _ (by rfl) (lB + 1) (.slice aN i kN) i vs (by rfl) HX2.out.a nA (.slice aW c kW) (by rfl) HNAX2.out.1 rfl (by omega) (by omega) ?_
                  intro gA cA X3 hown hgrow
                  have HNBX3 : Hid (X3.heap[nB]? = some (.cells #[.int .u32 (uo : Int)] 38 (0, 0)) ∧ V.heap.size ≤ nB) := ⟨blk_grow HNBX2.out.1 HX2.out.a hgrow (fun e => by have h1 := own_lt HOLD.out.nx e; have h2 := HNBX2.out.2; omega), HNBX2.out.2⟩
                  have HX3 : Hid _ := HX2.out.appA hgrow hown
                  clear hown hgrow yl
                  refine hK.out _ _ (HCL.out X3 HX3.out.o).2.1 (fun hHeld => ?_)
                  clear hK
                  (try simp only [Act.put, List.setIfInBounds_toArray, List.set_cons_zero, List.set_cons_succ])
                  refine wpAnyH_take (i := 16) (oi := { dst := some 90, op := _, type := _, pos := _, after := _, guard := _ }) (v := .pointer (some ⟨lB, 0, none⟩)) rfl (by kernel_rfl) (by kernel_rfl) (by kernel_rfl) (fun _ _ _ h => h) (Or.inl ⟨by rfl, fun w hSw => by first | (go_simp; done) | go_simp⟩) (by assumption) ?_
                  (try simp only [Act.put, List.setIfInBounds_toArray, List.set_cons_zero, List.set_cons_succ])
                  refine wpAnyH_ready (rs := [15]) (by kernel_rfl) (by simp) ?_
                  refine AllReadyH.cons rfl (fun K hK => ?_) AllReadyH.nil
                  have yl := (HCL.out X3 HX3.out.o).2.2
                  refine step_B (by rfl) _ _ (by rfl) (lB + 1) (.slice aO i kO) i (oB.map u32V) (by rfl) HX3.out.b nB (.int .u32 (uo : Int)) (by rfl) HNBX3.out.1 rfl (by omega) (by omega) ?_
                  intro gB cB X4 hown hgrow
                  have HX4 : Hid _ := HX3.out.appB hgrow hown
                  clear hown hgrow yl
                  refine hK.out _ _ (HCL.out X4 HX4.out.o).2.1 (fun hHeld => ?_)
                  clear hK
                  (try simp only [Act.put, List.setIfInBounds_toArray, List.set_cons_zero, List.set_cons_succ])
                  have y := HCL.out X4 HX4.out.o
                  have y0 : X4.cell? ⟨lB, 0, none⟩ = some (.slice aN i kN) := cell_blk y.1
                  have yf : ∀ q, X4.frozen? ⟨lB, q, none⟩ = false := fun q => fz_blk y.1 q
                  have yl := y.2.2
                  have z := heap_setCell_at (k := 0) y.1 (.slice (some ⟨gA, 0, none⟩) (i + 1) cA)
                  have z1 : (X4.setCell ⟨lB, 0, none⟩ (.slice (some ⟨gA, 0, none⟩) (i + 1) cA)).cell? ⟨lB, 1, none⟩ = some (.slice aO i kO) := cell_blk z
                  have zf : ∀ q, (X4.setCell ⟨lB, 0, none⟩ (.slice (some ⟨gA, 0, none⟩) (i + 1) cA)).frozen? ⟨lB, q, none⟩ = false := fun q => fz_blk z q
                  have HQ1 : Hid _ := HHS.out X4 0 (.slice (some ⟨gA, 0, none⟩) (i + 1) cA) y.2.1
                  have HQ2 : Hid _ := HHS.out _ 1 (.slice (some ⟨gB, 0, none⟩) (i + 1) cB) HQ1.out
                  clear y z
                  refine wpAnyH_ready (rs := [17]) (by kernel_rfl) (by simp) ?_
                  refine AllReadyH.cons rfl (fun K hK => ?_) AllReadyH.nil
                  rw [if_pos (by rfl)]
                  go_simp
                  refine hK.out _ _ HQ1.out (fun hHeld => ?_)
                  clear hK
                  (try simp only [Act.put, List.setIfInBounds_toArray, List.set_cons_zero, List.set_cons_succ])
                  refine wpAnyH_take (i := 18) (oi := { dst := some 91, op := _, type := _, pos := _, after := _, guard := _ }) (v := .pointer (some ⟨lB, 1, none⟩)) rfl (by kernel_rfl) (by kernel_rfl) (by kernel_rfl) (fun _ _ _ h => h) (Or.inl ⟨by rfl, fun w hSw => by first | (go_simp; done) | go_simp⟩) (by assumption) ?_
                  (try simp only [Act.put, List.setIfInBounds_toArray, List.set_cons_zero, List.set_cons_succ])
                  refine wpAnyH_ready (rs := [19]) (by kernel_rfl) (by simp) ?_
                  refine AllReadyH.cons rfl (fun K hK => ?_) AllReadyH.nil
                  rw [if_pos (by rfl)]
                  go_simp
                  refine hK.out _ _ HQ2.out (fun hHeld => ?_)
                  clear hK
                  (try simp only [Act.put, List.setIfInBounds_toArray, List.set_cons_zero, List.set_cons_succ])
                  refine wpAnyH_done (by kernel_rfl) ?_ _
                  clear hHeld y0 yf yl z1 zf HQ1 HQ2
                  go_wp2_with fail
                  go_roundg (N2 - (i + 1))
                  case measure => omega
                  case rel =>
                    obtain ⟨r1, r2, r3, r4, r5, r6, r7, r8, r9, r10⟩ := HFIN.out _ _ _ _ _ HX4.out
                    exact ⟨i + 1, r1, r2, r3, r4, r5, _, rfl, rfl, by omega, by go_num, r6, r7, r8, r9, r10⟩
                · rw [if_pos (by rfl)]
                  go_simp
                  obtain ⟨X2, hX2⟩ : ∃ Y, Y = X1.alloc (.cells #[.slice aW c kW] 23) := ⟨_, rfl⟩
                  obtain ⟨nA, hnA⟩ : ∃ n, n = X1.heap.size := ⟨_, rfl⟩
                  have HNAX2 : Hid (X2.heap[nA]? = some (.cells #[.slice aW c kW] 23 (0, 0)) ∧ V.heap.size ≤ nA) := by rw [hX2, hnA]; exact ⟨heap_alloc_new _ _, HX1.out.o.size⟩
                  have HX2 : Hid _ := HX1.out.alloc (.cells #[.slice aW c kW] 23)
                  have HNBX2 : Hid (X2.heap[nB]? = some (.cells #[.int .u32 (uo : Int)] 38 (0, 0)) ∧ V.heap.size ≤ nB) := by rw [hX2]; exact ⟨blk_alloc _ HNBX1.out.1, HNBX1.out.2⟩
                  rw [← hX2] at HX2 ⊢
                  rw [← hnA]
                  clear hX2 hnA
                  refine hK.out _ _ (HCL.out X2 HX2.out.o).2.1 (fun hHeld => ?_)
                  clear hK
                  (try simp only [Act.put, List.setIfInBounds_toArray, List.set_cons_zero, List.set_cons_succ])
                  refine wpAnyH_ready (rs := [1]) (by kernel_rfl) (by simp) ?_
                  refine AllReadyH.cons rfl (fun K hK => ?_) AllReadyH.nil
                  have y := HCL.out X2 HX2.out.o
                  have y0 : X2.cell? ⟨lB, 0, none⟩ = some (.slice aN i kN) := cell_blk y.1
                  have yl := y.2.2
                  rw [if_pos (by rfl)]
                  go_simp
                  refine hK.out _ _ y.2.1 (fun hHeld => ?_)
                  clear hK y y0 yl
                  (try simp only [Act.put, List.setIfInBounds_toArray, List.set_cons_zero, List.set_cons_succ])
                  refine wpAnyH_ready (rs := [4]) (by kernel_rfl) (by simp) ?_
                  refine AllReadyH.cons rfl (fun K hK => ?_) AllReadyH.nil
                  have yl := (HCL.out X2 HX2.out.o).2.2
                  refine step_A (by rfl) _ _ (by rfl) (lB + 1) (.slice aN i kN) i vs (by rfl) HX2.out.a nA (.slice aW c kW) (by rfl) HNAX2.out.1 rfl (by omega) (by omega) ?_
                  intro gA cA X3 hown hgrow
                  have HNBX3 : Hid (X3.heap[nB]? = some (.cells #[.int .u32 (uo : Int)] 38 (0, 0)) ∧ V.heap.size ≤ nB) := ⟨blk_grow HNBX2.out.1 HX2.out.a hgrow (fun e => by have h1 := own_lt HOLD.out.nx e; have h2 := HNBX2.out.2; omega), HNBX2.out.2⟩
                  have HX3 : Hid _ := HX2.out.appA hgrow hown
                  clear hown hgrow yl
                  refine hK.out _ _ (HCL.out X3 HX3.out.o).2.1 (fun hHeld => ?_)
                  clear hK
                  (try simp only [Act.put, List.setIfInBounds_toArray, List.set_cons_zero, List.set_cons_succ])
                  refine wpAnyH_take (i := 16) (oi := { dst := some 90, op := _, type := _, pos := _, after := _, guard := _ }) (v := .pointer (some ⟨lB, 0, none⟩)) rfl (by kernel_rfl) (by kernel_rfl) (by kernel_rfl) (fun _ _ _ h => h) (Or.inl ⟨by rfl, fun w hSw => by first | (go_simp; done) | go_simp⟩) (by assumption) ?_
                  (try simp only [Act.put, List.setIfInBounds_toArray, List.set_cons_zero, List.set_cons_succ])
                  refine wpAnyH_ready (rs := [15]) (by kernel_rfl) (by simp) ?_
                  refine AllReadyH.cons rfl (fun K hK => ?_) AllReadyH.nil
                  have yl := (HCL.out X3 HX3.out.o).2.2
                  refine step_B (by rfl) _ _ (by rfl) (lB + 1) (.slice aO i kO) i (oB.map u32V) (by rfl) HX3.out.b nB (.int .u32 (uo : Int)) (by rfl) HNBX3.out.1 rfl (by omega) (by omega) ?_
                  intro gB cB X4 hown hgrow
                  have HX4 : Hid _ := HX3.out.appB hgrow hown
                  clear hown hgrow yl
                  refine hK.out _ _ (HCL.out X4 HX4.out.o).2.1 (fun hHeld => ?_)
                  clear hK
                  (try simp only [Act.put, List.setIfInBounds_toArray, List.set_cons_zero, List.set_cons_succ])
                  have y := HCL.out X4 HX4.out.o
                  have y0 : X4.cell? ⟨lB, 0, none⟩ = some (.slice aN i kN) := cell_blk y.1
                  have yf : ∀ q, X4.frozen? ⟨lB, q, none⟩ = false := fun q => fz_blk y.1 q
                  have yl := y.2.2
                  have z := heap_setCell_at (k := 0) y.1 (.slice (some ⟨gA, 0, none⟩) (i + 1) cA)
                  have z1 : (X4.setCell ⟨lB, 0, none⟩ (.slice (some ⟨gA, 0, none⟩) (i + 1) cA)).cell? ⟨lB, 1, none⟩ = some (.slice aO i kO) := cell_blk z
                  have zf : ∀ q, (X4.setCell ⟨lB, 0, none⟩ (.slice (some ⟨gA, 0, none⟩) (i + 1) cA)).frozen? ⟨lB, q, none⟩ = false := fun q => fz_blk z q
                  have HQ1 : Hid _ := HHS.out X4 0 (.slice (some ⟨gA, 0, none⟩) (i + 1) cA) y.2.1
                  have HQ2 : Hid _ := HHS.out _ 1 (.slice (some ⟨gB, 0, none⟩) (i + 1) cB) HQ1.out
                  clear y z
                  refine wpAnyH_ready (rs := [17]) (by kernel_rfl) (by simp) ?_
                  refine AllReadyH.cons rfl (fun K hK => ?_) AllReadyH.nil
                  rw [if_pos (by rfl)]
                  go_simp
                  refine hK.out _ _ HQ1.out (fun hHeld => ?_)
                  clear hK
                  (try simp only [Act.put, List.setIfInBounds_toArray, List.set_cons_zero, List.set_cons_succ])
                  refine wpAnyH_take (i := 18) (oi := { dst := some 91, op := _, type := _, pos := _, after := _, guard := _ }) (v := .pointer (some ⟨lB, 1, none⟩)) rfl (by kernel_rfl) (by kernel_rfl) (by kernel_rfl) (fun _ _ _ h => h) (Or.inl ⟨by rfl, fun w hSw => by first | (go_simp; done) | go_simp⟩) (by assumption) ?_
                  (try simp only [Act.put, List.setIfInBounds_toArray, List.set_cons_zero, List.set_cons_succ])
                  refine wpAnyH_ready (rs := [19]) (by kernel_rfl) (by simp) ?_
                  refine AllReadyH.cons rfl (fun K hK => ?_) AllReadyH.nil
                  rw [if_pos (by rfl)]
                  go_simp
                  refine hK.out _ _ HQ2.out (fun hHeld => ?_)
                  clear hK
                  (try simp only [Act.put, List.setIfInBounds_toArray, List.set_cons_zero, List.set_cons_succ])
                  refine wpAnyH_done (by kernel_rfl) ?_ _
                  clear hHeld y0 yf yl z1 zf HQ1 HQ2
                  go_wp2_with fail
                  go_roundg (N2 - (i + 1))
                  case measure => omega
                  case rel =>
                    obtain ⟨r1, r2, r3, r4, r5, r6, r7, r8, r9, r10⟩ := HFIN.out _ _ _ _ _ HX4.out
                    exact ⟨i + 1, r1, r2, r3, r4, r5, _, rfl, rfl, by omega, by go_num, r6, r7, r8, r9, r10⟩
      · have t1 : decide ((i : Int) < (N2 : Int)) = false := decide_eq_false (by omega)
        have hin : i = N2 := by omega
        obtain ⟨aN, kN, eN⟩ := own_form HG.out.1.nx
        obtain ⟨aO, kO, eO⟩ := own_form HG.out.1.out
        have hri : rB.length = N2 := by rw [← hin]; exact HG.out.2.1
        have hro : oB.length = N2 := by rw [← hin]; exact HG.out.2.2.1
        rw [hri] at eN
        rw [hro] at eO
        subst eN
        subst eO
        have HRb : Hid (Ra W (lB + 1) (.agg #[.slice aN N2 kN, .slice aO N2 kO]) rB oB ∧ Hm.Ok rB oB k ∧ rB.length = N2 ∧ Hm.Eqx k (Hm.dR rB) (Hm.oR oB) (Hm.dR rows) (Hm.oR outs) 0 0 ∧ W.heap[lB]? = some (.cells #[.slice aN N2 kN, .slice aO N2 kO] 27 (0, 0))) := ⟨HG.out.1.ra (Only.refl (fun _ => False) W) (fun b hb => hb.elim), HG.out.2.2.2.1.ok (by omega) (by rw [hri, HN2.out]) (by rw [hro, HN2.out]), hri, HG.out.2.2.2.1.eqx (by omega) (by rw [hri, HN2.out]) (by rw [hro, HN2.out]), HG.out.1.lst⟩
        clear hri hro
        have x0 : W.cell? ⟨w2.heap.size, 0, none⟩ = some (.slice (some ⟨bn, 0, none⟩) n cN) := cell_blk HWL.out.2.1
        have x1 : W.cell? ⟨w2.heap.size, 1, none⟩ = some (.slice (some ⟨bo, 0, none⟩) n co) := cell_blk HWL.out.2.1
        have lx0 : w2.heap.size < W.heap.size := World.block_lt_of_cell? W _ x0
        have lxB : lB < W.heap.size := (Array.getElem?_eq_some_iff.1 HRb.out.2.2.2.2).1
        go_wp2_with fail
        refine Calls.mono (make_ra _ k _ rows outs W (H2.out.2.1.keep HWL.out.1) H2.out.2.2.1 (by have := H2.out.2.2.2.1; omega) (by omega)) ?_
        rintro e w4 ⟨v4, rows4, outs4, r4, rfl, hR4, hL4, ho4⟩
        obtain ⟨cX, mX, cO, mO, rfl⟩ := hR4.form
        have H4 : Hid (Only (fun _ => False) W w4 ∧ Ra w4 W.heap.size (.agg #[.slice cX rows4.length mX, .slice cO outs4.length mO]) rows4 outs4 ∧ Hm.Lst rows.length k (Hm.dR rows) (Hm.oR outs) rows4 outs4 r4) := ⟨ho4, hR4, hL4⟩
        have hb4 := (ho4.block _ lxB (fun h => h)).trans HRb.out.2.2.2.2
        have y0 : w4.cell? ⟨lB, 0, none⟩ = some (.slice aN N2 kN) := cell_blk hb4
        have y1 : w4.cell? ⟨lB, 1, none⟩ = some (.slice aO N2 kO) := cell_blk hb4
        have ly : lB < w4.heap.size := World.block_lt_of_cell? w4 _ y0
        clear hR4 hL4 ho4 hb4 x0 x1
        go_wp2_with fail
        refine Calls.mono (make_ra (lB + 1) k _ rB oB _ (HRb.out.1.keep (H4.out.1.alloc _)) HRb.out.2.1 (by have := HRb.out.2.2.1; omega) (by omega)) ?_
        rintro e w5 ⟨v5, rows5, outs5, r5, rfl, hR5, hL5, ho5⟩
        obtain ⟨e5, e6⟩ := Hm.lst_one hL5 H4.out.2.2 HRb.out.2.2.2.1
        rw [e5, e6] at hR5
        clear e5 e6 hL5
        obtain ⟨dX, nX, dO, nO, rfl⟩ := hR5.form
        have H5 : Hid (Only (fun _ => False) w4 w5 ∧ Ra w5 lB (.agg #[.slice dX rows4.length nX, .slice dO outs4.length nO]) rows4 outs4 ∧ w5.heap[w4.heap.size]? = some (.cells #[.slice cX rows4.length mX, .slice cO outs4.length mO] 27 (0, 0))) := ⟨((Only.refl (fun _ => False) w4).alloc _).trans ho5, hR5.low (by simp; omega), (ho5.block _ (by simp) (fun h => h)).trans (heap_alloc_new w4 _)⟩
        have z0 : w5.cell? ⟨w4.heap.size, 0, none⟩ = some (.slice cX rows4.length mX) := cell_blk H5.out.2.2
        have z1 : w5.cell? ⟨w4.heap.size, 1, none⟩ = some (.slice cO outs4.length mO) := cell_blk H5.out.2.2
        have lz : w4.heap.size < w5.heap.size := World.block_lt_of_cell? w5 _ z0
        clear hR5 ho5 y0 y1
        go_wp2_with fail
        refine Calls.mono (same_auto _ _ _ _ rows4 outs4 _ (H4.out.2.1.keep (H5.out.1.alloc _)) (H5.out.2.1.keep ((Only.refl _ _).alloc _)) (Lst_len H4.out.2.2 (by omega))) ?_
        rintro e w6 ⟨rfl, ho6⟩
        have H6 : Hid (Only (fun _ => False) w5 w6) := ((Only.refl (fun _ => False) w5).alloc _).trans ho6
        clear ho6
        go_wp2_with fail
        go_ret
        exact ⟨rfl, H2.out.1.trans (HWL.out.1.trans (H4.out.1.trans (H5.out.1.trans H6.out)))⟩
end Go.Proofs.Ytelifjeppegcmaa.leastCopies
