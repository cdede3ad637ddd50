/-
  stanzalaw05.LeastAlike returns true at all numbers; no condition.
-/
import Derived.Test.YtelifjeppegcmaaRows
import Derived.Test.YtelifjeppegcmaaAl0
import Derived.ChangeMaps5
import Derived.ChangeOld
import Derived.OpenShut
import Derived.ProofKit
import Derived.Deep.QuietTactic
import Derived.BigQuiet
namespace Go.Proofs.Ytelifjeppegcmaa.leastAlike
open Go.ChangeShapes Go.WideShapes Go.ChangeAt Go.RowKit Go.Maps
set_option linter.unusedVariables false
set_option linter.unusedSimpArgs false
theorem own : ownKnob Try.prog.godebug = none := by kernel_rfl
set_option maxRecDepth 100000 in
set_option maxHeartbeats 8000000 in
theorem walk0 (aU : Option Addr) (nU cU : Nat) (U : List Nat) (aC : Option Addr) (nC cC : Nat) (C : List Int) (x : Nat) (aP : Option Addr) (nP cP : Nat) (P : List Int) (w : World) (hU : Uw w aU nU U) (hC : Iw w aC nC C) (hnU : nU ≤ maxLen) (hnC : nC ≤ maxLen) (hx : x < 256) (hP : Iw w aP nP P) (hnP : nP ≤ maxLen) :
    Calls Try.prog 5 #[.slice aU nU cU, .slice aC nC cC, .int .u8 (x : Int), .slice aP nP cP] w fun e w' => e = .returned (.bool true) ∧ Only (fun _ => False) w w' := by
  have HMD : Hid (∀ W, Only (fun _ => False) w W → Calls Try.prog 9 #[.slice aU nU cU, .slice aC nC cC, .int .u8 (x : Int)] W (mdP (min nU 30) (x % 4) W)) := fun W ho => made_any aU nU cU U aC nC cC C x W (Uw.keep hU ho) (hC.keep ho) hnU hnC hx
  have HP : Hid (Iw w aP nP P) := hP
  unfold maxLen at hnP
  obtain ⟨n, hn⟩ : ∃ n, n = min nU 30 := ⟨_, rfl⟩
  obtain ⟨k, hk⟩ : ∃ k, k = x % 4 := ⟨_, rfl⟩
  have hn30 : n ≤ 30 := by omega
  have hk3 : k ≤ 3 := by omega
  rw [← hn, ← hk] at HMD
  clear hn hk hU hC hnU hnC hx hP
  by_cases h0 : n = 0
  · subst h0
    go_enter Try.func5, Try.ntmps5
    go_wp2_with (first | (go_at_call 8; refine (awake_any _).mono ?_; rintro e w1 ⟨rfl, ho1⟩; have HO1 : Hid (Only (fun _ => False) w w1) := ho1; clear ho1) | (go_at_call 9; refine Calls.mono (HMD.out w1 HO1.out) ?_; rintro e w2 ⟨v, rows, outs, rfl, hRa, h1, h2, hRI, ho2⟩; obtain ⟨aX, kX, aO, kO, rfl⟩ := hRa.form; rw [h1, h2]; have HO2 : Hid (Only (fun _ => False) w w2) := HO1.out.trans ho2; clear hRa h1 h2 hRI ho2))
    go_ret
    exact ⟨rfl, HO2.out.alloc _⟩
  · have e0 : ((n : Int) == 0) = false := by rw [beq_eq_false_iff_ne]; omega
    by_cases hbig : 300 < nP
    · have t0 : (300 : Int) < (nP : Int) := by omega
      go_enter Try.func5, Try.ntmps5
      go_wp2_with (first | (go_at_call 8; refine (awake_any _).mono ?_; rintro e w1 ⟨rfl, ho1⟩; have HO1 : Hid (Only (fun _ => False) w w1) := ho1; clear ho1) | (go_at_call 9; refine Calls.mono (HMD.out w1 HO1.out) ?_; rintro e w2 ⟨v, rows, outs, rfl, hRa, h1, h2, hRI, ho2⟩; obtain ⟨aX, kX, aO, kO, rfl⟩ := hRa.form; rw [h1, h2]; have HO2 : Hid (Only (fun _ => False) w w2) := HO1.out.trans ho2; clear hRa h1 h2 hRI ho2))
      go_ret
      exact ⟨rfl, HO2.out.alloc _⟩
    · have t0 : decide ((300 : Int) < (nP : Int)) = false := decide_eq_false (by omega)
      have hP300 : nP ≤ 300 := by omega
      go_enter Try.func5, Try.ntmps5
      go_wp2_with (first | (go_at_call 8; refine (awake_any _).mono ?_; rintro e w1 ⟨rfl, ho1⟩; have HO1 : Hid (Only (fun _ => False) w w1) := ho1; clear ho1) | (go_at_call 9; refine Calls.mono (HMD.out w1 HO1.out) ?_; rintro e w2 ⟨v, rows, outs, rfl, hRa, h1, h2, hRI, ho2⟩; have hok : Hm.Ok rows outs k := mk_ok (by omega) h1 h2 hRI; obtain ⟨bn, cN, bo, co, rfl, hnx, hou⟩ := hRa.nxt hok; rw [h1] at hRa hnx hou ⊢; have H2 : Hid (Only (fun _ => False) w w2 ∧ Ra w2 w1.heap.size (.agg #[.slice (some ⟨bn, 0, none⟩) n cN, .slice (some ⟨bo, 0, none⟩) n co]) rows outs ∧ Hm.Ok rows outs k ∧ rows.length = n ∧ outs.length = n ∧ Nxt w2 n k bn 0 (Hm.dR rows) ∧ (∀ s, s < n → w2.cell? ⟨bo, 0 + s, none⟩ = some (.int .u32 (Hm.oR outs s : Int)))) := ⟨HO1.out.trans ho2, hRa, hok, h1, h2, hnx, hou⟩; clear hRa h1 h2 hRI ho2 hok hnx hou) | fail)
      -- Make of a
      obtain ⟨Z2, hZ2⟩ : ∃ Z, Z = w2.alloc (.cells #[.slice (some ⟨bn, 0, none⟩) n cN, .slice (some ⟨bo, 0, none⟩) n co] 27) := ⟨_, rfl⟩
      rw [← hZ2]
      have HZ2 : Hid (Only (fun _ => False) w2 Z2 ∧ Z2.heap[w2.heap.size]? = some (.cells #[.slice (some ⟨bn, 0, none⟩) n cN, .slice (some ⟨bo, 0, none⟩) n co] 27 (0, 0)) ∧ w2.heap.size < Z2.heap.size) := box_at hZ2
      clear hZ2
      refine Calls.mono (make_ra _ k _ rows outs Z2 (H2.out.2.1.keep HZ2.out.1) H2.out.2.2.1 (by have := H2.out.2.2.2.1; omega) (by omega)) ?_
      rintro e w4 ⟨v4, rows4, outs4, r4, rfl, hR4, hL4, ho4⟩
      have hok4 := hL4.ok
      have hfew := hL4.few
      obtain ⟨bn4, cN4, bo4, co4, rfl, hnx4, hou4⟩ := hR4.nxt hok4
      obtain ⟨n4, hn4⟩ : ∃ m, m = rows4.length := ⟨_, rfl⟩
      rw [← hn4] at hR4 hnx4 hou4 hfew ⊢
      have H4 : Hid (Only (fun _ => False) Z2 w4 ∧ Ra w4 Z2.heap.size (.agg #[.slice (some ⟨bn4, 0, none⟩) n4 cN4, .slice (some ⟨bo4, 0, none⟩) n4 co4]) rows4 outs4 ∧ Hm.Lst rows.length k (Hm.dR rows) (Hm.oR outs) rows4 outs4 r4 ∧ Hm.Ok rows4 outs4 k ∧ rows4.length = n4 ∧ (∀ s, s < n4 → w4.cell? ⟨bo4, 0 + s, none⟩ = some (.int .u32 (Hm.oR outs4 s : Int)))) := ⟨ho4, hR4, hL4, hok4, hn4.symm, hou4⟩
      have hn4n : n4 ≤ n := by have := H2.out.2.2.2.1; omega
      clear hR4 hL4 ho4 hok4 hnx4 hou4 hfew hn4
      go_wp2_with fail
      -- Make of what was made
      obtain ⟨Z4, hZ4⟩ : ∃ Z, Z = w4.alloc (.cells #[.slice (some ⟨bn4, 0, none⟩) n4 cN4, .slice (some ⟨bo4, 0, none⟩) n4 co4] 27) := ⟨_, rfl⟩
      rw [← hZ4]
      have HZ4 : Hid (Only (fun _ => False) w4 Z4 ∧ Z4.heap[w4.heap.size]? = some (.cells #[.slice (some ⟨bn4, 0, none⟩) n4 cN4, .slice (some ⟨bo4, 0, none⟩) n4 co4] 27 (0, 0)) ∧ w4.heap.size < Z4.heap.size) := box_at hZ4
      clear hZ4
      refine Calls.mono (make_ra _ k _ rows4 outs4 Z4 (H4.out.2.1.keep HZ4.out.1) H4.out.2.2.2.1 (by have := H4.out.2.2.2.2.1; omega) (by omega)) ?_
      rintro e w5 ⟨v5, rows5, outs5, r5, rfl, hR5, hL5, ho5⟩
      obtain ⟨e5, e6⟩ := Hm.lst_one hL5 H4.out.2.2.1 H4.out.2.2.1.tells.symm
      rw [e5, e6] at hR5
      clear e5 e6 hL5
      obtain ⟨dX, nX, dO, mO, rfl⟩ := hR5.form
      have H5 : Hid (Only (fun _ => False) Z4 w5 ∧ Ra w5 Z4.heap.size (.agg #[.slice dX rows4.length nX, .slice dO outs4.length mO]) rows4 outs4) := ⟨ho5, hR5⟩
      clear hR5 ho5
      have HK5 : Hid (∀ X, Only (fun _ => False) w5 X → (X.cell? ⟨w2.heap.size, 0, none⟩ = some (.slice (some ⟨bn, 0, none⟩) n cN) ∧ X.cell? ⟨w2.heap.size, 1, none⟩ = some (.slice (some ⟨bo, 0, none⟩) n co)) ∧ (X.cell? ⟨w4.heap.size, 0, none⟩ = some (.slice (some ⟨bn4, 0, none⟩) n4 cN4) ∧ X.cell? ⟨w4.heap.size, 1, none⟩ = some (.slice (some ⟨bo4, 0, none⟩) n4 co4)) ∧ Only (fun _ => False) w2 X ∧ Only (fun _ => False) w4 X ∧ w2.heap.size < X.heap.size ∧ w4.heap.size < X.heap.size) := fun X ho => by
        have a4 := HZ4.out.1.trans (H5.out.1.trans ho)
        have a2 := HZ2.out.1.trans (H4.out.1.trans a4)
        have b2 := ((H4.out.1.trans a4).block _ HZ2.out.2.2 (fun h => h)).trans HZ2.out.2.1
        have b4 := ((H5.out.1.trans ho).block _ HZ4.out.2.2 (fun h => h)).trans HZ4.out.2.1
        exact ⟨⟨cell_blk b2, cell_blk b2⟩, ⟨cell_blk b4, cell_blk b4⟩, a2, a4, (Array.getElem?_eq_some_iff.1 b2).1, (Array.getElem?_eq_some_iff.1 b4).1⟩
      have ht : decide ((n : Int) < (n4 : Int)) = false := decide_eq_false (by omega)
      have htN : decide (n < n4) = false := decide_eq_false (by omega)
      obtain ⟨⟨u0, u1⟩, ⟨u2, u3⟩, _, _, lu2, lu4⟩ := HK5.out w5 (Only.refl _ _)
      go_wp2_with fail
      refine Calls.mono (same_auto _ _ _ _ rows4 outs4 _ (H4.out.2.1.keep (HZ4.out.1.trans (H5.out.1.alloc _))) (H5.out.2.keep ((Only.refl _ _).alloc _)) (Ok_len H4.out.2.2.2.1 (by omega))) ?_
      rintro e w6 ⟨rfl, ho6⟩
      have H6 : Hid (Only (fun _ => False) w5 w6) := ((Only.refl (fun _ => False) w5).alloc _).trans ho6
      clear ho6 u0 u1 u2 u3 lu2 lu4
      go_wp2_with fail
      clear ht htN
      obtain ⟨W0, hW0⟩ : ∃ Z, Z = w6.alloc (.cells #[] 3) := ⟨_, rfl⟩
      rw [← hW0]
      obtain ⟨cB, hcB⟩ : ∃ l, l = w6.heap.size := ⟨_, rfl⟩
      rw [← hcB]
      have HW0 : Hid (W0.ownsRow cB 3 1 (.slice (some ⟨cB, 0, none⟩) 0 0) 0 (natI []) ∧ Only (fun _ => False) w5 W0 ∧ cB = w6.heap.size ∧ cB < W0.heap.size ∧ w5.heap.size ≤ cB) := by
        rw [hW0, hcB]
        exact ⟨own_empty (heap_alloc_new _ _) (Nat.le_refl _), H6.out.alloc _, rfl, by simp, H6.out.size⟩
      clear hW0 hcB
      obtain ⟨i3, g3, g30, g31, g32⟩ := info_parts info3b
      go_loopg [14, 70] nP (fun gh v14 v70 wr => ∃ (j g cap m : Nat) (D : List Nat) (V : World), V = wr ∧ gh = nP - j ∧ j ≤ nP ∧ v14 = .slice (some ⟨g, 0, none⟩) m cap ∧ v70 = .int .i64 (j : Int) ∧ m ≤ j ∧ D.length = m ∧ V.ownsRow cB 3 1 (.slice (some ⟨g, 0, none⟩) m cap) m (natI D) ∧ (∀ c ∈ D, c < k) ∧ Only (fun _ => False) w5 V)
      case atStart => exact ⟨0, cB, 0, 0, [], _, rfl, rfl, Nat.zero_le _, rfl, rfl, Nat.le_refl _, rfl, HW0.out.1, (fun c h => by cases h), HW0.out.2.1⟩
      case round =>
        obtain ⟨j, g, cap, m, D, V, hV, rfl, hj, rfl, rfl, hmj, hDl, hDo, hDk, hoV⟩ := hrel
        subst hV
        have HV : Hid (D.length = m ∧ V.ownsRow cB 3 1 (.slice (some ⟨g, 0, none⟩) m cap) m (natI D) ∧ (∀ c ∈ D, c < k) ∧ Only (fun _ => False) w5 V) := ⟨hDl, hDo, hDk, hoV⟩
        obtain ⟨⟨u0, u1⟩, ⟨u2, u3⟩, o2, o4, lu2, lu4⟩ := HK5.out V hoV
        have HVO : Hid (Only (fun _ => False) w2 V ∧ Only (fun _ => False) w4 V) := ⟨o2, o4⟩
        clear hDl hDo hDk hoV o2 o4
        by_cases hlt : j < nP
        · have t1 : (j : Int) < (nP : Int) := by omega
          obtain ⟨bP, oP, y, eP, hy⟩ := HP.out.cell hlt
          subst eP
          have v1 := keepC (H2.out.1.trans HVO.out.1) hy
          have l1 := World.block_lt_of_cell? V _ v1
          obtain ⟨a0, k0, q0, _⟩ := H2.out.2.2.2.2.2.1 0 (by omega)
          rw [Nat.zero_add] at q0
          have v2 := keepC HVO.out.1 q0
          have l2 := World.block_lt_of_cell? V _ v2
          clear q0 hy
          by_cases hk0 : 0 < k
          · have t2 : (0 : Int) < (k : Int) := by omega
            have p1 : ¬ (k : Int) = 0 := by omega
            have p2 : ((k : Int) == 0) = false := by simpa using p1
            have p3 : IntKind.u64.wrap (k : Int) = (k : Int) := wrap_smallu _ (by omega) (by omega)
            obtain ⟨ux, p4, p5⟩ : ∃ ux : Int, IntKind.u64.wrap y = ux ∧ 0 ≤ ux := ⟨_, rfl, wrap_u64_nn y⟩
            obtain ⟨r, p6, p8⟩ : ∃ r : Nat, ux.tmod (k : Int) = (r : Int) ∧ r < k := by
              have h1 := Int.tmod_nonneg (k : Int) p5
              have h2 := Int.tmod_lt_of_pos ux t2
              exact ⟨(ux.tmod (k : Int)).toNat, by omega, by omega⟩
            have p9 : IntKind.u64.wrap (r : Int) = (r : Int) := wrap_smallu _ (by omega) (by omega)
            have p10 : IntKind.i64.wrap (r : Int) = (r : Int) := by rw [IntKind.wrap_i64]; omega
            have HRN : Hid (r < k) := p8
            clear p5
            have HVA : Hid ((V.alloc (.cells #[.int .i64 (r : Int)] 3)).heap[V.heap.size]? = some (.cells #[.int .i64 (r : Int)] 3 (0, 0)) ∧ (V.alloc (.cells #[.int .i64 (r : Int)] 3)).heap.size = V.heap.size + 1 ∧ (V.alloc (.cells #[.int .i64 (r : Int)] 3)).ownsRow cB 3 1 (.slice (some ⟨g, 0, none⟩) m cap) m (natI D) ∧ cB ≤ V.heap.size) := ⟨heap_alloc_new V _, by simp, HV.out.2.1.alloc _, by obtain ⟨q, c', hv, h1, h2, _⟩ := own_addr HV.out.2.1 (fun e => by cases e); omega⟩
            go_wp2_with (at_builtin; (refine wpList_append_lies _ rfl _ _ 23 rfl cB 3 i3 (.int .i64 0) 1 8 Try.underlying23 g3 g30 g31 g32 rfl (by decide) (.slice (some ⟨g, 0, none⟩) m cap) m (natI D) rfl HVA.out.2.2.1 ⟨V.heap.size, 0, none⟩ 1 1 [.int .i64 (r : Int)] rfl rfl (World.news_of_block (cs := #[.int .i64 (r : Int)]) HVA.out.1) (fun u hu => by simp at hu; rcases hu with rfl; rfl) (by decide) (by unfold maxLen; omega) (by omega) (by rw [HVA.out.2.1]; have := HVA.out.2.2.2; omega) (V.heap.size + 1) HVA.out.2.1 ?_; intro g5 cap5 w9 hown5 hgrow5 hat5 hlt5; have H9 : Hid (w9.ownsRow cB 3 1 (.slice (some ⟨g5, 0, none⟩) (m + 1) cap5) (m + 1) (natI (D ++ [r])) ∧ Only (fun _ => False) w5 w9) := ⟨by rw [natI_snoc]; exact hown5, ((((HV.out.2.2.2.mono (S' := fun b => w5.heap.size ≤ b) (fun _ h => h.elim)).alloc _).grown hgrow5 (fun q hq => by have h1 := (own_own HV.out.2.1 hq).1; have h2 := HW0.out.2.2.2.2; omega)).old (fun q hq => Or.inl hq))⟩; clear hown5 hgrow5 hat5))
            go_roundg (nP - (j + 1))
            case measure => omega
            case rel =>
              refine ⟨j + 1, g5, cap5, m + 1, D ++ [r], _, rfl, rfl, by omega, rfl, by go_num, by omega, by simp [HV.out.1], H9.out.1, fun c hc => ?_, H9.out.2⟩
              rcases List.mem_append.1 hc with h1 | h1
              · exact HV.out.2.2.1 c h1
              · rw [List.mem_singleton] at h1; rw [h1]; exact HRN.out
          · have hkz : k = 0 := by omega
            have t2 : decide ((0 : Int) < (k : Int)) = false := decide_eq_false (by omega)
            go_wp2_with fail
            go_roundg (nP - (j + 1))
            case measure => omega
            case rel => exact ⟨j + 1, g, cap, m, D, _, rfl, rfl, by omega, rfl, by go_num, by omega, HV.out.1, HV.out.2.1, HV.out.2.2.1, HV.out.2.2.2⟩
        · have t1 : decide ((j : Int) < (nP : Int)) = false := decide_eq_false (by omega)
          have HIC : Hid (∀ X, Only (fun _ => False) V X → Iw X (some ⟨g, 0, none⟩) m (castL D)) := fun X ho => by
            have hD := HV.out.1
            obtain ⟨q, c', hv, _, hq, _⟩ := own_addr HV.out.2.1 (fun e => by cases e)
            injection hv with hv
            injection hv with hv
            injection hv with hv
            subst hv
            refine ⟨by simp [castL, hD], g, 0, fun _ => ⟨rfl, Nat.lt_of_lt_of_le hq ho.size⟩, fun i z hz => ?_⟩
            have hi := (List.getElem?_eq_some_iff.1 hz).1
            have hi2 : i < D.length := by simpa [castL] using hi
            unfold castL at hz
            rw [List.getElem?_map, List.getElem?_eq_getElem hi2] at hz
            injection hz with hz
            subst hz
            rw [Nat.zero_add]
            show X.cell? ⟨g, i, none⟩ = some (.int .i64 ((D[i] : Nat) : Int))
            refine keepC ho (row_cell (base := cB) (m := m) (cap := cap) (come := D) ?_ (List.getElem?_eq_getElem hi2))
            rw [hD]
            exact HV.out.2.1
          clear u0 u1 u2 u3 lu2 lu4
          go_wp2_with fail
          have HSS : Hid (∀ X, Only (fun _ => False) V X → (X.cell? ⟨w2.heap.size, 0, none⟩ = some (.slice (some ⟨bn, 0, none⟩) n cN) ∧ X.cell? ⟨w2.heap.size, 1, none⟩ = some (.slice (some ⟨bo, 0, none⟩) n co)) ∧ (X.cell? ⟨w4.heap.size, 0, none⟩ = some (.slice (some ⟨bn4, 0, none⟩) n4 cN4) ∧ X.cell? ⟨w4.heap.size, 1, none⟩ = some (.slice (some ⟨bo4, 0, none⟩) n4 co4))) := fun X ho => ⟨(HK5.out X (HV.out.2.2.2.trans ho)).1, (HK5.out X (HV.out.2.2.2.trans ho)).2.1⟩
          refine wp_region_held_drew (S := (fun X => (X.cell? ⟨w2.heap.size, 0, none⟩ = some (.slice (some ⟨bn, 0, none⟩) n cN) ∧ X.cell? ⟨w2.heap.size, 1, none⟩ = some (.slice (some ⟨bo, 0, none⟩) n co)) ∧ (X.cell? ⟨w4.heap.size, 0, none⟩ = some (.slice (some ⟨bn4, 0, none⟩) n4 cN4) ∧ X.cell? ⟨w4.heap.size, 1, none⟩ = some (.slice (some ⟨bo4, 0, none⟩) n4 co4)))) (by kernel_rfl) (HSS.out _ ((Only.refl (fun _ => False) V).drew)) (fun hHeld => ?_)
          refine wpAnyH_take (i := 0) (oi := { dst := some 91, op := _, type := _, pos := _, after := _, guard := _ }) (v := .agg #[.slice (some ⟨bn, 0, none⟩) n cN, .slice (some ⟨bo, 0, none⟩) n co]) rfl (by kernel_rfl) (by kernel_rfl) (by kernel_rfl) (fun _ _ _ h => h) (Or.inl ⟨by rfl, fun w hSw => by obtain ⟨⟨q0, q1⟩, q2, q3⟩ := hSw; first | (go_simp; done) | go_simp⟩) (by assumption) ?_
          (try simp only [Act.put, List.setIfInBounds_toArray, List.set_cons_zero, List.set_cons_succ])
          refine wpAnyH_take (i := 1) (oi := { dst := some 92, op := _, type := _, pos := _, after := _, guard := _ }) (v := .slice (some ⟨g, 0, none⟩) m cap) rfl (by kernel_rfl) (by kernel_rfl) (by kernel_rfl) (fun _ _ _ h => h) (Or.inl ⟨by rfl, fun w hSw => by first | (go_simp; done) | go_simp⟩) (by assumption) ?_
          (try simp only [Act.put, List.setIfInBounds_toArray, List.set_cons_zero, List.set_cons_succ])
          refine wpAnyH_take (i := 3) (oi := { dst := some 94, op := _, type := _, pos := _, after := _, guard := _ }) (v := .agg #[.slice (some ⟨bn4, 0, none⟩) n4 cN4, .slice (some ⟨bo4, 0, none⟩) n4 co4]) rfl (by kernel_rfl) (by kernel_rfl) (by kernel_rfl) (fun _ _ _ h => h) (Or.inl ⟨by rfl, fun w hSw => by obtain ⟨⟨q0, q1⟩, q2, q3⟩ := hSw; first | (go_simp; done) | go_simp⟩) (by assumption) ?_
          (try simp only [Act.put, List.setIfInBounds_toArray, List.set_cons_zero, List.set_cons_succ])
          refine wpAnyH_take (i := 4) (oi := { dst := some 95, op := _, type := _, pos := _, after := _, guard := _ }) (v := .slice (some ⟨g, 0, none⟩) m cap) rfl (by kernel_rfl) (by kernel_rfl) (by kernel_rfl) (fun _ _ _ h => h) (Or.inl ⟨by rfl, fun w hSw => by first | (go_simp; done) | go_simp⟩) (by assumption) ?_
          (try simp only [Act.put, List.setIfInBounds_toArray, List.set_cons_zero, List.set_cons_succ])
          refine wpAnyH_ready (rs := [2]) (by kernel_rfl) (by simp) ?_
          refine AllReadyH.cons rfl (fun K hK => ?_) AllReadyH.nil
          rw [if_pos (by rfl)]
          go_simp
          refine Calls.mono (run_ra _ _ _ _ _ _ _ k rows outs _ _ _ D _ (H2.out.2.1.keep HVO.out.1.drew) H2.out.2.2.1 (by omega) H2.out.2.2.2.1 (by omega) (HIC.out _ ((Only.refl (fun _ => False) V).drew)) (by omega) HV.out.2.2.1) ?_
          rintro e x1 ⟨gp, cp, rfl, hp, hx1⟩
          have HX1 : Hid (Only (fun _ => False) V x1 ∧ ∀ i x : Nat, (0 :: stL (Hm.dR rows) 0 D)[i]? = some x → x1.cell? ⟨gp, i, none⟩ = some (.int .i64 (x : Int))) := ⟨((Only.refl (fun _ => False) V).drew).trans hx1, hp⟩
          clear hp hx1
          refine hK.out _ _ (HSS.out _ HX1.out.1) (fun hHeld => ?_)
          clear hK
          (try simp only [Act.put, List.setIfInBounds_toArray, List.set_cons_zero, List.set_cons_succ])
          refine wpAnyH_ready (rs := [5]) (by kernel_rfl) (by simp) ?_
          refine AllReadyH.cons rfl (fun K hK => ?_) AllReadyH.nil
          rw [if_pos (by rfl)]
          go_simp
          refine Calls.mono (run_ra _ _ _ _ _ _ _ k rows4 outs4 _ _ _ D _ (H4.out.2.1.keep (HVO.out.2.trans HX1.out.1)) H4.out.2.2.2.1 (by omega) H4.out.2.2.2.2.1 (by omega) (HIC.out _ HX1.out.1) (by omega) HV.out.2.2.1) ?_
          rintro e x2 ⟨gq, cq, rfl, hq, hx2⟩
          have HX2 : Hid (Only (fun _ => False) V x2 ∧ (∀ i x : Nat, (0 :: stL (Hm.dR rows4) 0 D)[i]? = some x → x2.cell? ⟨gq, i, none⟩ = some (.int .i64 (x : Int))) ∧ ∀ i x : Nat, (0 :: stL (Hm.dR rows) 0 D)[i]? = some x → x2.cell? ⟨gp, i, none⟩ = some (.int .i64 (x : Int))) := ⟨HX1.out.1.trans hx2, hq, fun i x h => keepC hx2 (HX1.out.2 i x h)⟩
          clear hq hx2
          refine hK.out _ _ (HSS.out _ HX2.out.1) (fun hHeld => ?_)
          clear hK
          (try simp only [Act.put, List.setIfInBounds_toArray, List.set_cons_zero, List.set_cons_succ])
          refine wpAnyH_take (i := 6) (oi := { dst := some 18, op := _, type := _, pos := _, after := _, guard := _ }) (v := .slice (some ⟨gp, 0, none⟩) (D.length + 1) cp) rfl (by kernel_rfl) (by kernel_rfl) (by kernel_rfl) (fun _ _ _ h => h) (Or.inl ⟨by rfl, fun w hSw => by first | (go_simp; done) | go_simp⟩) (by assumption) ?_
          (try simp only [Act.put, List.setIfInBounds_toArray, List.set_cons_zero, List.set_cons_succ])
          refine wpAnyH_take (i := 7) (oi := { dst := some 19, op := _, type := _, pos := _, after := _, guard := _ }) (v := .slice (some ⟨gq, 0, none⟩) (D.length + 1) cq) rfl (by kernel_rfl) (by kernel_rfl) (by kernel_rfl) (fun _ _ _ h => h) (Or.inl ⟨by rfl, fun w hSw => by first | (go_simp; done) | go_simp⟩) (by assumption) ?_
          (try simp only [Act.put, List.setIfInBounds_toArray, List.set_cons_zero, List.set_cons_succ])
          refine wpAnyH_done (by kernel_rfl) ?_ _
          clear hHeld
          obtain ⟨Ln, hLn⟩ : ∃ L, L = D.length + 1 := ⟨_, rfl⟩
          have HLN : Hid (Ln = D.length + 1) := hLn
          have hLnb : Ln ≤ 400 := by have := HV.out.1; omega
          rw [← hLn]
          clear hLn
          have tl : ((Ln : Int) != (Ln : Int)) = false := by simp
          go_wp2_with fail
          go_loopg [104] Ln (fun gh v wr => ∃ (i : Nat) (X : World), X = wr ∧ gh = Ln - i ∧ i ≤ Ln ∧ v = .int .i64 (i : Int) ∧ Only (fun _ => False) x2 X)
          case atStart => exact ⟨0, _, rfl, rfl, Nat.zero_le _, rfl, Only.refl _ _⟩
          case round =>
            obtain ⟨i, X, hX, rfl, hi, rfl, hoX⟩ := hrel
            subst hX
            have HOX : Hid (Only (fun _ => False) x2 X) := hoX
            clear hoX
            by_cases hli : i < Ln
            · have t5 : (i : Int) < (Ln : Int) := by omega
              have hiD : i ≤ D.length := by have := HLN.out; omega
              have hDt : ∀ c ∈ D.take i, c < k := fun c hc => HV.out.2.2.1 c (List.mem_of_mem_take hc)
              obtain ⟨sp, hsp⟩ : ∃ s, s = (D.take i).foldl (Hm.dR rows) 0 := ⟨_, rfl⟩
              obtain ⟨sq, hsq⟩ : ∃ s, s = (D.take i).foldl (Hm.dR rows4) 0 := ⟨_, rfl⟩
              have z0 : X.cell? ⟨gp, i, none⟩ = some (.int .i64 (sp : Int)) := keepC HOX.out (HX2.out.2.2 i sp (by rw [hsp]; exact stL_at _ _ _ _ hiD))
              have z1 : X.cell? ⟨gq, i, none⟩ = some (.int .i64 (sq : Int)) := keepC HOX.out (HX2.out.2.1 i sq (by rw [hsq]; exact stL_at _ _ _ _ hiD))
              have hspn : sp < n := by rw [hsp, ← H2.out.2.2.2.1]; exact H2.out.2.2.1.fold _ hDt 0 H2.out.2.2.1.pos
              have hsqn : sq < n4 := by rw [hsq, ← H4.out.2.2.2.2.1]; exact H4.out.2.2.2.1.fold _ hDt 0 H4.out.2.2.2.1.pos
              have hsame : Hm.oR outs sp = Hm.oR outs4 sq := by rw [hsp, hsq]; exact H4.out.2.2.1.tells _ hDt
              obtain ⟨oo, hoo⟩ : ∃ oo, oo = Hm.oR outs sp := ⟨_, rfl⟩
              have z2 : X.cell? ⟨bo, sp, none⟩ = some (.int .u32 (oo : Int)) := by
                have := H2.out.2.2.2.2.2.2 sp hspn
                rw [Nat.zero_add, ← hoo] at this
                exact keepC ((HVO.out.1.trans HX2.out.1).trans HOX.out) this
              have z3 : X.cell? ⟨bo4, sq, none⟩ = some (.int .u32 (oo : Int)) := by
                have := H4.out.2.2.2.2.2 sq hsqn
                rw [Nat.zero_add, ← hsame, ← hoo] at this
                exact keepC ((HVO.out.2.trans HX2.out.1).trans HOX.out) this
              obtain ⟨⟨_, z4⟩, _, z5⟩ := HSS.out X (HX2.out.1.trans HOX.out)
              have t6 : (sp : Int) < (n : Int) := by omega
              have t7 : (sq : Int) < (n4 : Int) := by omega
              have lz0 := World.block_lt_of_cell? X _ z0
              have lz1 := World.block_lt_of_cell? X _ z1
              have lz2 := World.block_lt_of_cell? X _ z2
              have lz3 := World.block_lt_of_cell? X _ z3
              have lz4 : w2.heap.size < X.heap.size := World.block_lt_of_cell? X _ z4
              have lz5 : w4.heap.size < X.heap.size := World.block_lt_of_cell? X _ z5
              have tq : ((oo : Int) != (oo : Int)) = false := by simp
              clear hsp hsq hsame hoo hDt
              go_wp2_with fail
              go_quiet (fail)
              go_wp2_with fail
              go_roundg (Ln - (i + 1))
              case measure => omega
              case rel => exact ⟨i + 1, _, rfl, rfl, by omega, by go_num, HOX.out.drewN _⟩
            · have t5 : decide ((i : Int) < (Ln : Int)) = false := decide_eq_false (by omega)
              go_wp2_with fail
              go_ret
              exact ⟨rfl, H2.out.1.trans ((HVO.out.1.trans HX2.out.1).trans HOX.out)⟩
theorem walk (aU : Option Addr) (nU cU : Nat) (U : List Nat) (aC : Option Addr) (nC cC : Nat) (C : List Int) (x : Int) (aP : Option Addr) (nP cP : Nat) (P : List Int) (w : World) (hU : Uw w aU nU U) (hC : Iw w aC nC C) (hnU : nU ≤ maxLen) (hnC : nC ≤ maxLen) (hx : (Lit.int .u8 x).wf = true) (hP : Iw w aP nP P) (hnP : nP ≤ maxLen) :
    Calls Try.prog 5 #[.slice aU nU cU, .slice aC nC cC, .int .u8 x, .slice aP nP cP] w fun e w' => e = .returned (.bool true) ∧ Below w.heap.size w w' := by
  have w1 : (decide (IntKind.u8.min ≤ x) && decide (x ≤ IntKind.u8.max)) = true := hx
  rw [Bool.and_eq_true, decide_eq_true_iff, decide_eq_true_iff] at w1
  have m0 : IntKind.u8.min = 0 := rfl
  have m1 : IntKind.u8.max = 255 := rfl
  rw [m0, m1] at w1
  obtain ⟨q, rfl⟩ : ∃ q : Nat, x = (q : Int) := ⟨x.toNat, by omega⟩
  refine (walk0 aU nU cU U aC nC cC C q aP nP cP P w hU hC hnU hnC (by omega) hP hnP).mono ?_
  rintro e w' ⟨rfl, ho⟩
  exact ⟨rfl, ho.below (Nat.le_refl _) (fun _ h => h.elim)⟩
set_option maxRecDepth 100000 in
theorem contract (H : Type) (enc : TypeId × Value → H) (W : World) (base : Nat) (args : Array Value) (ds gs : List (DataW H)) (before : List MemPlace)
    (hval : ∀ (j : Nat) t v, Try.f5.params[j]? = some t → args[j]? = some v → Value.okWide Try.prog W .any base t v)
    (hW : DataW.Whole enc Try.prog Try.f5.params.toList Rows.leastAlikeSpec.vars false W args.toList ds gs before) :
    Calls Try.prog 5 args W fun e W' => ∃ v, e = .returned v ∧ Rows.leastAlikeSpec.post enc Try.prog Try.f5 false true false false W args v W' := by
  have hW' := hW
  obtain ⟨p, q, hA0, hV, rfl, hfz, hnd⟩ := hW
  have hA : DataW.TrodAll enc Try.prog W 0 (fun _ => true) true Try.f5.params.toList args.toList ds p := hA0
  rw [Try.params5] at hA hval
  obtain ⟨v0, vs0, d0, ds0, p0, q0, hargs, rfl, rfl, h0, r0⟩ := trodAll_cons hA
  obtain ⟨v1, vs1, d1, ds1, p1, q1, rfl, rfl, rfl, h1, r1⟩ := trodAll_cons r0
  obtain ⟨v2, vs2, d2, ds2, p2, q2, rfl, rfl, rfl, h2, r2⟩ := trodAll_cons r1
  obtain ⟨v3, vs3, d3, ds3, p3, q3, rfl, rfl, rfl, h3, r3⟩ := trodAll_cons r2
  obtain ⟨rfl, rfl, rfl⟩ := trodAll_nil r3
  obtain rfl : args = #[v0, v1, v2, v3] := by cases args; simp_all
  obtain ⟨rfl, rfl⟩ := trodVars_none hV
  have k0 := h0
  have lt0 : ∀ x ∈ p0, x.block < W.heap.size := by obtain ⟨m, hm⟩ := k0; exact DataW.trod_lt m _ _ _ hm
  obtain ⟨aU, nU, cU, U, rfl, hU, hnU⟩ := outs_view (hval 0 22 v0 rfl rfl) h0
  have k1 := h1
  have lt1 : ∀ x ∈ p1, x.block < W.heap.size := by obtain ⟨m, hm⟩ := k1; exact DataW.trod_lt m _ _ _ hm
  obtain ⟨aC1, nC1, cC1, C1, rfl, hC1, hnC1, hz1⟩ := ints_view (hval 1 23 v1 rfl rfl) h1
  obtain ⟨a2, rfl, rfl, rfl, w2⟩ := open_int Try.underlying5 (hval 2 5 v2 rfl rfl) h2
  have k3 := h3
  have lt3 : ∀ x ∈ p3, x.block < W.heap.size := by obtain ⟨m, hm⟩ := k3; exact DataW.trod_lt m _ _ _ hm
  obtain ⟨aC3, nC3, cC3, C3, rfl, hC3, hnC3, hz3⟩ := ints_view (hval 3 23 v3 rfl rfl) h3
  clear hA0
  refine (walk aU nU cU U aC1 nC1 cC1 C1 a2 aC3 nC3 cC3 C3 W hU hC1 hnU hnC1 w2 hC3 hnC3).mono fun e W' ⟨he, bel⟩ => ?_
  subst he
  exact ⟨_, rfl, _, _, _, [], _, [], hW', trodAll_mk1 (shut_bool Try.underlying4 _), (trodAll_cons_mk (Below.trod laidOut (by kernel_rfl) (of_decide_eq_true (by kernel_rfl)) k0 bel lt0) (trodAll_cons_mk (Below.trod laidOut (by kernel_rfl) (of_decide_eq_true (by kernel_rfl)) k1 bel lt1) (trodAll_cons_mk (shut_int Try.underlying5 w2) (trodAll_cons_mk (Below.trod laidOut (by kernel_rfl) (of_decide_eq_true (by kernel_rfl)) k3 bel lt3) trodAll_mk0)))), rfl, bel.frame _, fun h => by cases h⟩

set_option maxRecDepth 100000 in
theorem lifted (os : Os) (started : os.Started) (H : Type) (enc : TypeId × Value → H) :
    ReturnsInHanded {} Try.checked os 5 .any (Rows.leastAlikeSpec.pre6 enc Try.prog Try.f5 Rows.leastAlikeRow.domain false) (Rows.leastAlikeSpec.post enc Try.prog Try.f5 false true false false) := by
  refine returnsInHanded_of_change (C := Try.checked) own started (by kernel_rfl) Try.func5
    (ChangeSpec.witness6 (enc := enc) (C := Try.checked) false ⟨#[], #[.slice none 0 0, .slice none 0 0, .int .u8 0, .slice none 0 0], []⟩ 8 (by kernel_rfl) (by kernel_rfl) (by kernel_rfl) (by kernel_rfl)) ?_
  intro W base args ds gs before hval hW _ _
  exact contract H enc W base args ds gs before hval hW

theorem over : Rows.leastAlikeRow.holds Try.pinned (OpenSpec.ofChange Rows.leastAlikeSpec) :=
  OpenClaim.holds_of_wide 5 Try.f5 rfl rfl rfl rfl rfl rfl rfl ⟨rfl, rfl, rfl, rfl, rfl⟩ rfl rfl rfl rfl rfl (by kernel_rfl) Try.func5 (by kernel_rfl)
    (of_decide_eq_true (by kernel_rfl)) (by unfold Func.isWrapper; first | (rw [if_pos (by decide +kernel)]; kernel_rfl) | (rw [if_neg (by decide +kernel)]; exact ⟨rfl, rfl⟩))
    (fun os started H enc _ => lifted os started H enc)
end Go.Proofs.Ytelifjeppegcmaa.leastAlike
namespace Go.Proofs.Ytelifjeppegcmaa
/-- THE STATEMENT. -/
theorem leastAlike_holds : Rows.LeastAlikeSaid := leastAlike.over
#print axioms leastAlike_holds
end Go.Proofs.Ytelifjeppegcmaa
