/-
  stanzalaw05.LeastNumbers returns true at all numbers; no condition.
-/
import Derived.Test.YtelifjeppegcmaaRows
import Derived.Test.YtelifjeppegcmaaLm0
import Derived.Test.YtelifjeppegcmaaVw
import Derived.Test.YtelifjeppegcmaaLn1
import Derived.ChangeMaps5
import Derived.ChangeOld
import Derived.OpenShut
import Derived.ProofKit
import Derived.Deep.CutBlock
import Derived.Deep.DeepCutAuto
namespace Go.Proofs.Ytelifjeppegcmaa.leastNumbers
open Go.ChangeShapes Go.WideShapes Go.ChangeAt Go.RowKit Go.Maps
set_option linter.unusedVariables false
set_option linter.unusedSimpArgs false
theorem own : ownKnob Try.prog.godebug = none := by kernel_rfl
theorem step_C {ops : Array Oper} {o : Oper} {a : Act} {X : World} {K : Act → World → Prop} {Q : Exit → Act → World → Prop} {E : Prop} (hgd : o.guard = none) (s x : Operand) (ho : o.op = .call { callee := .builtin .append, args := #[s, x], argTypes := #[23, 23] }) (B : Nat) (v : Value) (i : Nat) (vs : List Value) (hs : a.eval s = v) (hown : X.ownsRow B 3 1 v i vs) (n0 : Nat) (u : Value) (hx : a.eval x = .slice (some ⟨n0, 0, none⟩) 1 1) (hb : X.heap[n0]? = some (.cells #[u] 3 (0, 0))) (h1 : u.oneCell' = true) (hi : i ≤ 100000) (hB : B ≤ X.heap.size)
    (h : ∀ g cap Y, Y.ownsRow B 3 1 (.slice (some ⟨g, 0, none⟩) (i + 1) cap) (i + 1) (vs ++ [u]) → X.grownBy Y v.ownBlock → (v.ownBlock = some g ∨ g = X.heap.size) → K (a.put o.dst (.slice (some ⟨g, 0, none⟩) (i + 1) cap)) Y) :
    if Region.wanted o (yielded ops a.tmps) = true then Oper.wp Try.prog o a X K Q else E := by
  obtain ⟨i3, g3, g30, g31, g32⟩ := info_parts info3b
  exact step_append_lies _ hgd s x 23 ho B 3 i3 _ 1 8 Try.underlying23 g3 g30 g31 g32 rfl (by decide) v i vs hs hown ⟨n0, 0, none⟩ 1 1 [u] hx rfl (World.news_of_block (cs := #[u]) hb) (one_val h1) (by decide) (by unfold maxLen; omega) (by omega) hB _ rfl (fun g cap Y h1 h2 h3 _ => h g cap Y h1 h2 h3)
theorem _root_.Go.Proofs.Ytelifjeppegcmaa.Bw.ra {W : World} {H n bN bO lo : Nat} {bk : Nat → List Nat} {vs : Nat → Value} {ou : Nat → Nat} (h : Bw W H n bN bk vs) (hO : W.heap[bO]? = some (.cells (rowOf n (fun s => u32V (ou s))) 38 (0, 0))) (h1 : lo ≤ bN) (h2 : lo ≤ bO) (h3 : lo ≤ H) (hn : n ≤ 30) : Ra W lo (.agg #[.slice (some ⟨bN, 0, none⟩) n n, .slice (some ⟨bO, 0, none⟩) n n]) (rowsB n bk) (outsB n ou) := by
  have hmx : n ≤ maxLen := by unfold maxLen; omega
  refine ⟨_, _, (List.range n).map vs, rfl, by simp [rowsB], ?_, fun i r L hr hL => ?_, ?_⟩
  · have : ((List.range n).map vs).length = n := by simp
    rw [this]
    exact ⟨by simp, Or.inr ⟨bN, n, rowOf n vs, rfl, h1, h.blk, Nat.le_refl _, hmx, by rw [rowOf_size, Nat.mul_one], by unfold rowOf; rw [List.take_of_length_le (by simp)]⟩⟩
  · have hi : i < n := by have := (List.getElem?_eq_some_iff.1 hr).1; simpa using this
    rw [rowsB_at bk hi] at hL
    injection hL with hL
    rw [List.getElem?_map, List.getElem?_range hi] at hr
    have hr2 : vs i = r := by injection hr
    subst hL hr2
    exact own_base (h.own i hi) h3
  · have e1 : (outsB n ou).length = n := by simp [outsB]
    have e2 : (outsB n ou).map u32V = (List.range n).map (fun s => u32V (ou s)) := by simp [outsB]
    rw [e1, e2]
    exact ⟨by simp, Or.inr ⟨bO, n, rowOf n (fun s => u32V (ou s)), rfl, h2, hO, Nat.le_refl _, hmx, by rw [rowOf_size, Nat.mul_one], by unfold rowOf; rw [List.take_of_length_le (by simp)]⟩⟩
theorem ordrows_le : ∀ (F : List (List Nat)) (i m M : Nat), Hm.OrdRows F i m M → m ≤ M
  | [], i, m, M, h => by unfold Hm.OrdRows at h; omega
  | r :: F, i, m, M, h => by
    unfold Hm.OrdRows at h
    obtain ⟨_, m', h1, h2⟩ := h
    have := Hm.ord_le _ _ _ h1
    have := ordrows_le F (i + 1) m' M h2
    omega
theorem ordrows_at (rows : List (List Nat)) (i m M : Nat) (hM : M = rows.length) (h : Hm.OrdRows (rows.drop i) i m M) (hi : i < m) : ∃ row mE, rows[i]? = some row ∧ i < M ∧ Hm.Ord row m mE ∧ Hm.OrdRows (rows.drop (i + 1)) (i + 1) mE M := by
  have hle := ordrows_le _ _ _ _ h
  have hl : i < rows.length := by omega
  rw [List.drop_eq_getElem_cons hl] at h
  unfold Hm.OrdRows at h
  obtain ⟨_, m', h1, h2⟩ := h
  exact ⟨_, m', List.getElem?_eq_getElem hl, by omega, h1, h2⟩
theorem ordrows_end (rows : List (List Nat)) (i m M : Nat) (h : Hm.OrdRows (rows.drop i) i m M) (hi : ¬ i < m) : m = M := by
  cases e : rows.drop i with
  | nil => rw [e] at h; unfold Hm.OrdRows at h; exact h.1
  | cons r F => rw [e] at h; unfold Hm.OrdRows at h; exact (hi h.1).elim
theorem natI_range_at {m i : Nat} (h : i < m) : (natI (List.range m))[i]? = some (.int .i64 (i : Int)) := by
  unfold natI
  rw [List.getElem?_map, List.getElem?_range h]
  rfl
theorem same_rng (m B B' : Nat) (a a' : Option Addr) (c c' : Nat) (w : World) (h1 : w.ownsRow B 3 1 (.slice a m c) m (natI (List.range m))) (h2 : w.ownsRow B' 3 1 (.slice a' m c') m (natI (List.range m))) (hl : m ≤ 1000) :
    Calls Try.prog 17 #[.slice a m c, .slice a' m c'] w fun e w' => e = .returned (.bool true) ∧ ∃ n, w' = w.drewN n := by
  have e : (List.range m).length = m := by simp
  have := sameNats_any (List.range m) B B' a a' c c' w (by rw [e]; exact h1) (by rw [e]; exact h2) (by omega)
  rw [e] at this
  exact this
theorem three (w : World) (a b c : Obj) : ((((w.alloc a).alloc b).alloc c).drew.heap[w.heap.size]? = some a ∧ (((w.alloc a).alloc b).alloc c).drew.heap[w.heap.size + 1]? = some b ∧ (((w.alloc a).alloc b).alloc c).drew.heap[w.heap.size + 1 + 1]? = some c ∧ (((w.alloc a).alloc b).alloc c).drew.heap.size = w.heap.size + 3) := by
  have s1 : (w.alloc a).heap.size = w.heap.size + 1 := by simp
  have s2 : ((w.alloc a).alloc b).heap.size = w.heap.size + 1 + 1 := by simp
  have h1 := heap_alloc_new w a
  have h2 := heap_alloc_new (w.alloc a) b
  have h3 := heap_alloc_new ((w.alloc a).alloc b) c
  rw [s1] at h2
  rw [s2] at h3
  refine ⟨?_, ?_, h3, by simp [World.drew]⟩
  · exact (Below.heap_alloc _ _ _ (by omega)).trans ((Below.heap_alloc _ _ _ (by omega)).trans h1)
  · exact (Below.heap_alloc _ _ _ (by omega)).trans h2
theorem made_u32 (n : Nat) : madeCells #[.int .u32 0] n = rowOf n (fun _ => .int .u32 0) := by
  apply Array.ext
  · simp [rowOf, size_madeCells]
  · intro i h1 h2
    simp [madeCells, rowOf, Nat.mod_one]
set_option maxRecDepth 100000 in
set_option maxHeartbeats 8000000 in
theorem walk0 (aU : Option Addr) (nU cU : Nat) (U : List Nat) (aC : Option Addr) (nC cC : Nat) (C : List Int) (x : Nat) (aP : Option Addr) (nP cP : Nat) (P : List Int) (w : World) (hU : Uw w aU nU U) (hC : Iw w aC nC C) (hnU : nU ≤ maxLen) (hnC : nC ≤ maxLen) (hx : x < 256) (hP : Iw w aP nP P) (hnP : nP ≤ maxLen) :
    Calls Try.prog 6 #[.slice aU nU cU, .slice aC nC cC, .int .u8 (x : Int), .slice aP nP cP] w fun e w' => e = .returned (.bool true) ∧ Only (fun _ => False) w w' := by
  have HMD : Hid (∀ W, Only (fun _ => False) w W → Calls Try.prog 9 #[.slice aU nU cU, .slice aC nC cC, .int .u8 (x : Int)] W (mdP (min nU 30) (x % 4) W)) := fun W ho => made_any aU nU cU U aC nC cC C x W (Uw.keep hU ho) (hC.keep ho) hnU hnC hx
  have HP : Hid (Iw w aP nP P) := hP
  unfold maxLen at hnP
  obtain ⟨n, hn⟩ : ∃ n, n = min nU 30 := ⟨_, rfl⟩
  obtain ⟨k, hk⟩ : ∃ k, k = x % 4 := ⟨_, rfl⟩
  have hn30 : n ≤ 30 := by omega
  have hk3 : k ≤ 3 := by omega
  rw [← hn, ← hk] at HMD
  clear hn hk hU hC hnU hnC hx hP
  by_cases h0 : n = 0
  · subst h0
    go_enter Try.func6, Try.ntmps6
    go_wp2_with (first | (go_at_call 8; refine (awake_any _).mono ?_; rintro e w1 ⟨rfl, ho1⟩; have HO1 : Hid (Only (fun _ => False) w w1) := ho1; clear ho1) | (go_at_call 9; refine Calls.mono (HMD.out w1 HO1.out) ?_; rintro e w2 ⟨v, rows, outs, rfl, hRa, h1, h2, hRI, ho2⟩; obtain ⟨aX, kX, aO, kO, rfl⟩ := hRa.form; rw [h1, h2]; have HO2 : Hid (Only (fun _ => False) w w2) := HO1.out.trans ho2; clear hRa h1 h2 hRI ho2))
    go_ret
    exact ⟨rfl, HO2.out.alloc _⟩
  · have e0 : ((n : Int) == 0) = false := by rw [beq_eq_false_iff_ne]; omega
    have e00 : ¬ (n : Int) = 0 := by omega
    have hmk := fun (w : World) => run_make_row' (P := Try.prog) 23 3 (.int .i64 0) 8 Try.underlying23 info3b rfl .i64 .i64 n (by omega) (by omega) w
    go_enter Try.func6, Try.ntmps6
    go_wp2_with (first | (go_at_call 8; refine (awake_any _).mono ?_; rintro e w1 ⟨rfl, ho1⟩; have HO1 : Hid (Only (fun _ => False) w w1) := ho1; clear ho1) | (go_at_call 9; refine Calls.mono (HMD.out w1 HO1.out) ?_; rintro e w2 ⟨v, rows, outs, rfl, hRa, h1, h2, hRI, ho2⟩; have hok : Hm.Ok rows outs k := mk_ok (by omega) h1 h2 hRI; obtain ⟨bn, cN, bo, co, rfl, hnx, hou⟩ := hRa.nxt hok; rw [h1] at hRa hnx hou ⊢; have H2 : Hid (Only (fun _ => False) w w2 ∧ Ra w2 w1.heap.size (.agg #[.slice (some ⟨bn, 0, none⟩) n cN, .slice (some ⟨bo, 0, none⟩) n co]) rows outs ∧ Hm.Ok rows outs k ∧ rows.length = n ∧ outs.length = n ∧ Nxt w2 n k bn 0 (Hm.dR rows) ∧ (∀ s, s < n → w2.cell? ⟨bo, 0 + s, none⟩ = some (.int .u32 (Hm.oR outs s : Int)))) := ⟨HO1.out.trans ho2, hRa, hok, h1, h2, hnx, hou⟩; clear hRa h1 h2 hRI ho2 hok hnx hou) | fail)
    obtain ⟨W0, hW0⟩ : ∃ Z, Z = (w2.alloc (.cells #[.slice (some ⟨bn, 0, none⟩) n cN, .slice (some ⟨bo, 0, none⟩) n co] 27)).alloc (.cells (madeCells #[.int .i64 0] n) 3) := ⟨_, rfl⟩
    rw [← hW0]
    obtain ⟨lB, hlB⟩ : ∃ l, l = w2.heap.size + 1 := ⟨_, rfl⟩
    rw [← hlB]
    have HW0 : Hid (W0.heap[w2.heap.size]? = some (.cells #[.slice (some ⟨bn, 0, none⟩) n cN, .slice (some ⟨bo, 0, none⟩) n co] 27 (0, 0)) ∧ Nb W0 lB (List.replicate n 0) ∧ Only (fun _ => False) w2 W0 ∧ W0.heap.size = lB + 1 ∧ lB = w2.heap.size + 1) := by
      have := two_at w2 (.cells #[.slice (some ⟨bn, 0, none⟩) n cN, .slice (some ⟨bo, 0, none⟩) n co] 27) (.cells (madeCells #[.int .i64 0] n) 3)
      rw [← hW0, ← hlB, made_i64] at this
      exact ⟨this.1, this.2.1, this.2.2.1, by rw [this.2.2.2, hlB], hlB⟩
    have lAB : w2.heap.size < lB := by omega
    clear hW0 hlB hmk
    have HLO : Hid (∀ V, Only (fun b => lB ≤ b) W0 V → Only (fun _ => False) w2 V ∧ V.heap[w2.heap.size]? = some (.cells #[.slice (some ⟨bn, 0, none⟩) n cN, .slice (some ⟨bo, 0, none⟩) n co] 27 (0, 0)) ∧ lB + 1 ≤ V.heap.size) := fun V ho => ⟨low_only HW0.out.2.2.1 ho (by omega), (ho.block _ (by have := HW0.out.2.2.2.1; omega) (by omega)).trans HW0.out.1, by have h1 := ho.size; have h2 := HW0.out.2.2.2.1; omega⟩
    obtain ⟨i3, g3, g30, g31, g32⟩ := info_parts info3b
    go_loopg [46] n (fun gh v wr => ∃ (i : Nat) (W : World), W = wr ∧ gh = n - i ∧ i ≤ n ∧ v = .int .i64 (i : Int) ∧ Nb W lB (upto n i) ∧ Only (fun b => lB ≤ b) W0 W)
    case atStart => exact ⟨0, _, rfl, rfl, Nat.zero_le _, rfl, by rw [upto_zero]; exact HW0.out.2.1, Only.refl _ _⟩
    case round =>
      obtain ⟨i, W, hW, rfl, hi, rfl, hNb, hoW⟩ := hrel
      subst hW
      have HG : Hid (Nb W lB (upto n i) ∧ Only (fun b => lB ≤ b) W0 W) := ⟨hNb, hoW⟩
      by_cases hlt : i < n
      · have t1 : (i : Int) < (n : Int) := by omega
        obtain ⟨x1, hx1⟩ : ∃ x1, (upto n i)[i]? = some x1 := ⟨_, List.getElem?_eq_getElem (by rw [upto_len hi]; exact hlt)⟩
        have c1 := hNb.cell hx1
        have f1 : ∀ x, W.frozen? ⟨lB, x, none⟩ = false := fun x => hNb.fz x
        have l1 := hNb.lt
        clear hNb hoW hx1
        go_wp2_with fail
        go_roundg (n - (i + 1))
        case measure => omega
        case rel => exact ⟨i + 1, _, rfl, rfl, by omega, by go_num, by rw [← upto_set hlt]; exact HG.out.1.set i i, HG.out.2.setCell (p := ⟨lB, i, none⟩) (Nat.le_refl _) _⟩
      · have t1 : decide ((i : Int) < (n : Int)) = false := decide_eq_false (by omega)
        have hin : n = i := by omega
        subst hin
        clear hNb hoW
        have HG1 : Hid (Nb W lB (List.range n) ∧ Only (fun b => lB ≤ b) W0 W) := ⟨by rw [← upto_full]; exact HG.out.1, HG.out.2⟩
        clear HG hi
        go_upto_block 2 with fail
        go_cut [13, 14] (fun v13 v14 wr => ∃ (L : List Nat) (V : World), V = wr ∧ Pl n L ∧ Nb V lB L ∧ Only (fun b => lB ≤ b) W0 V)
        case first =>
          go_wp2_with fail
          go_loopg [13] (n - 1) (fun gh v wr => ∃ (i : Nat) (L : List Nat) (V : World), V = wr ∧ gh = n - i ∧ i ≤ n ∧ 1 ≤ i ∧ v = .int .i64 (i : Int) ∧ Pl n L ∧ Nb V lB L ∧ Only (fun b => lB ≤ b) W0 V)
          case atStart => exact ⟨1, List.range n, _, rfl, rfl, by omega, Nat.le_refl _, rfl, Pl.start (by omega), HG1.out.1, HG1.out.2⟩
          case round =>
            obtain ⟨i, L, V, hV, rfl, hi, hi1, rfl, hPl, hNb, hoV⟩ := hrel
            subst hV
            have HV : Hid (Pl n L ∧ Nb V lB L ∧ Only (fun b => lB ≤ b) W0 V) := ⟨hPl, hNb, hoV⟩
            have HVL : Hid _ := HLO.out V hoV
            have hPn : 1 ≤ i → nP ≤ 9223372036854775807 := fun _ => hnP
            by_cases hlt : i < n ∧ i < nP
            · have s1 : (i : Int) < (n : Int) := by omega
              have s2 : (i : Int) < (nP : Int) := by omega
              obtain ⟨bP, oP, y, eP, hy⟩ := HP.out.cell hlt.2
              subst eP
              have v1 := keepC (H2.out.1.trans HVL.out.1) hy
              have lv1 := World.block_lt_of_cell? V _ v1
              clear hy
              obtain ⟨m, hm⟩ : ∃ m, n = m + 1 := ⟨n - 1, by omega⟩
              have em : (n : Int) - 1 = (m : Int) := by omega
              have p0 : (0 : Int) < (m : Int) := by omega
              have p1 : ¬ (m : Int) = 0 := by omega
              have p2 : ((m : Int) == 0) = false := by simpa using p1
              have p3 : IntKind.u64.wrap (m : Int) = (m : Int) := wrap_smallu _ (by omega) (by omega)
              have p3' : IntKind.i64.wrap (m : Int) = (m : Int) := by rw [IntKind.wrap_i64]; omega
              obtain ⟨ux, p4, p5⟩ : ∃ ux : Int, IntKind.u64.wrap y = ux ∧ 0 ≤ ux := ⟨_, rfl, wrap_u64_nn y⟩
              obtain ⟨r, p6, p8⟩ : ∃ r : Nat, ux.tmod (m : Int) = (r : Int) ∧ r < m := by
                have h1 := Int.tmod_nonneg (m : Int) p5
                have h2 := Int.tmod_lt_of_pos ux p0
                exact ⟨(ux.tmod (m : Int)).toNat, by omega, by omega⟩
              have p9 : IntKind.u64.wrap (r : Int) = (r : Int) := wrap_smallu _ (by omega) (by omega)
              have p10 : IntKind.i64.wrap (r : Int) = (r : Int) := by rw [IntKind.wrap_i64]; omega
              obtain ⟨k1, hk1⟩ : ∃ k1, k1 = 1 + r := ⟨_, rfl⟩
              have p11 : (1 : Int) + (r : Int) = (k1 : Int) := by omega
              have hk1n : k1 < n := by omega
              have s3 : (k1 : Int) < (n : Int) := by omega
              have hk11 : 1 ≤ k1 := by omega
              clear p5 hm hk1
              obtain ⟨a, ha⟩ : ∃ a, L[i]? = some a := ⟨_, hPl.at hlt.1⟩
              obtain ⟨b, hb⟩ : ∃ b, L[k1]? = some b := ⟨_, hPl.at hk1n⟩
              have HSW : Hid (Pl n ((L.set i b).set k1 a)) := hPl.swap ha hb hi1 hk11
              have c0 := hNb.cell ha
              have c1 := hNb.cell hb
              have f1 : ∀ x, V.frozen? ⟨lB, x, none⟩ = false := fun x => hNb.fz x
              have HRM : Hid (∀ m, Nb (V.drewN m) lB L) := fun m => hNb
              have e1 : ∀ m, ((V.drewN m).setCell ⟨lB, i, none⟩ (.int .i64 (b : Int))).cell? ⟨lB, k1, none⟩ = some (.int .i64 (b : Int)) := fun m => ((HRM.out m).set i b).cell (by
                rw [List.getElem?_set]
                split
                · rename_i e
                  rw [if_pos (by have := (List.getElem?_eq_some_iff.1 ha).1; omega)]
                · exact hb)
              have g1 : ∀ m x, ((V.drewN m).setCell ⟨lB, i, none⟩ (.int .i64 (b : Int))).frozen? ⟨lB, x, none⟩ = false := fun m x => ((HRM.out m).set i b).fz x
              have e2 : (V.setCell ⟨lB, i, none⟩ (.int .i64 (b : Int))).cell? ⟨lB, k1, none⟩ = some (.int .i64 (b : Int)) := e1 0
              have g2 : ∀ x, (V.setCell ⟨lB, i, none⟩ (.int .i64 (b : Int))).frozen? ⟨lB, x, none⟩ = false := fun x => g1 0 x
              have l1 := hNb.lt
              clear hPl hNb hoV ha hb
              go_wp2_with fail
              go_region
              all_goals
                go_wp2_with fail
                go_roundg (n - (i + 1))
                case measure => omega
                case rel =>
                  refine ⟨i + 1, (L.set i b).set k1 a, _, rfl, rfl, by omega, by omega, by go_num, HSW.out, ?_, ?_⟩
                  · exact (HV.out.2.1.set i b).set k1 a
                  · exact ((HV.out.2.2.setCell (p := ⟨lB, i, none⟩) (Nat.le_refl _) _).setCell (p := ⟨lB, k1, none⟩) (Nat.le_refl _) _).drew
            · clear hPl hNb hoV
              by_cases hin : i < n
              · have s1 : (i : Int) < (n : Int) := by omega
                have s2 : decide ((i : Int) < (nP : Int)) = false := decide_eq_false (by omega)
                go_wp2_with fail
                go_meet
                exact ⟨L, _, rfl, HV.out⟩
              · have s1 : decide ((i : Int) < (n : Int)) = false := decide_eq_false (by omega)
                go_wp2_with fail
                go_meet
                exact ⟨L, _, rfl, HV.out⟩
        case rest =>
          obtain ⟨L, V, hV, hPl, hNb, hoV⟩ := hcut
          subst hV
          have HV : Hid (Pl n L ∧ Nb V lB L ∧ Only (fun b => lB ≤ b) W0 V) := ⟨hPl, hNb, hoV⟩
          clear hPl hNb hoV HG1
          have hmk1 := fun (w : World) => run_make_row' (P := Try.prog) 25 23 (.slice none 0 0) 24 Try.underlying25 info23b rfl .i64 .i64 n (by omega) (by omega) w
          have hmk2 := fun (w : World) => run_make_row' (P := Try.prog) 22 38 (.int .u32 0) 4 Try.underlying22 info38b rfl .i64 .i64 n (by omega) (by omega) w
          go_wp2_with fail
          go_cut [15] from 90 to 94 (fun v15 wr => ∃ (bA bN bO : Nat) (W2 : World), W2 = wr ∧ v15 = .pointer (some ⟨bA, 0, none⟩) ∧ W2.heap[bA]? = some (.cells #[.slice (some ⟨bN, 0, none⟩) n n, .slice (some ⟨bO, 0, none⟩) n n] 27 (0, 0)) ∧ W2.heap[bN]? = some (.cells (rowOf n (fun _ => .slice none 0 0)) 23 (0, 0)) ∧ W2.heap[bO]? = some (.cells (rowOf n (fun _ => .int .u32 0)) 38 (0, 0)) ∧ bA ≠ bN ∧ bA ≠ bO ∧ bN ≠ bO ∧ (V.heap.size ≤ bA ∧ V.heap.size ≤ bN ∧ V.heap.size ≤ bO) ∧ Only (fun _ => False) V W2)
          case first =>
            go_region
            all_goals
              go_wp2_with fail
              go_meet
              case rel =>
                rw [made_nil, made_u32]
                first | refine ⟨_, _, _, _, rfl, rfl, (three V _ _ _).1, ?_, ?_, by omega, by omega, by omega, by omega, (((((Only.refl _ _).alloc _).alloc _).alloc _).drew)⟩ | refine ⟨_, _, _, _, rfl, rfl, (three V _ _ _).2.1, ?_, ?_, by omega, by omega, by omega, by omega, (((((Only.refl _ _).alloc _).alloc _).alloc _).drew)⟩ | refine ⟨_, _, _, _, rfl, rfl, (three V _ _ _).2.2.1, ?_, ?_, by omega, by omega, by omega, by omega, (((((Only.refl _ _).alloc _).alloc _).alloc _).drew)⟩
                · first | exact (three V _ _ _).1 | exact (three V _ _ _).2.1 | exact (three V _ _ _).2.2.1
                · first | exact (three V _ _ _).1 | exact (three V _ _ _).2.1 | exact (three V _ _ _).2.2.1
          case rest =>
            obtain ⟨bA, bN, bO, W2, hW2, rfl, hA, hN, hO, n1, n2, n3, hlo, ho⟩ := hcut
            subst hW2
            have HW2 : Hid (W2.heap[bA]? = some (.cells #[.slice (some ⟨bN, 0, none⟩) n n, .slice (some ⟨bO, 0, none⟩) n n] 27 (0, 0)) ∧ W2.heap[bN]? = some (.cells (rowOf n (fun _ => .slice none 0 0)) 23 (0, 0)) ∧ W2.heap[bO]? = some (.cells (rowOf n (fun _ => .int .u32 0)) 38 (0, 0)) ∧ Nb W2 lB L ∧ Only (fun b => lB ≤ b) W0 W2) := ⟨hA, hN, hO, HV.out.2.1.only ho (fun h => h), HV.out.2.2.trans (ho.mono (fun _ h => h.elim))⟩
            have hlV := HV.out.2.1.lt
            have hPl := HV.out.1
            have hNb := HW2.out.2.2.2.1
            have hA1 := (Array.getElem?_eq_some_iff.1 hA).1
            have hN1 := (Array.getElem?_eq_some_iff.1 hN).1
            have hO1 := (Array.getElem?_eq_some_iff.1 hO).1
            clear hA hN hO ho hmk1 hmk2 hNb
            obtain ⟨H, hH⟩ : ∃ H, H = W2.heap.size := ⟨_, rfl⟩
            rw [← hH] at hA1 hN1 hO1
            have HK : Hid (∀ Y, Only (fun b => b = bN ∨ b = bO ∨ H ≤ b) W2 Y → Y.heap[bA]? = some (.cells #[.slice (some ⟨bN, 0, none⟩) n n, .slice (some ⟨bO, 0, none⟩) n n] 27 (0, 0)) ∧ Nb Y lB L ∧ Only (fun b => lB ≤ b) W0 Y ∧ H ≤ Y.heap.size) := fun Y ho => ⟨(ho.block _ (by omega) (by omega)).trans HW2.out.1, HW2.out.2.2.2.1.only ho (by omega), HW2.out.2.2.2.2.trans (ho.mono (fun b hb => by omega)), by rw [hH]; exact ho.size⟩
            have lH : lB < H := by omega
            clear hH
            go_wp2_with fail
            go_loopg [96] n (fun gh v wr => ∃ (i : Nat) (bk : Nat → List Nat) (ou : Nat → Nat) (vs : Nat → Value) (Y : World), Y = wr ∧ gh = n - i ∧ i ≤ n ∧ v = .int .i64 (i : Int) ∧ Bw Y H n bN bk vs ∧ Y.heap[bO]? = some (.cells (rowOf n (fun s => u32V (ou s))) 38 (0, 0)) ∧ Rnm n L rows outs i bk ou ∧ Only (fun b => b = bN ∨ b = bO ∨ H ≤ b) W2 Y)
            case atStart => exact ⟨0, fun _ => [], fun _ => 0, _, _, rfl, rfl, Nat.zero_le _, rfl, Bw.start HW2.out.2.1, HW2.out.2.2.1, ⟨fun s hs => by omega, fun s hs => by omega, fun s _ _ => rfl⟩, Only.refl _ _⟩
            case round =>
              obtain ⟨i, bk, ou, vs, Y, hY, rfl, hi, rfl, hBw, hbO, hRn, hoY⟩ := hrel
              subst hY
              have HY : Hid (Bw Y H n bN bk vs ∧ Y.heap[bO]? = some (.cells (rowOf n (fun s => u32V (ou s))) 38 (0, 0)) ∧ Rnm n L rows outs i bk ou ∧ Only (fun b => b = bN ∨ b = bO ∨ H ≤ b) W2 Y) := ⟨hBw, hbO, hRn, hoY⟩
              have HYK : Hid _ := HK.out Y hoY
              have HYL : Hid _ := HLO.out Y HYK.out.2.2.1
              clear hBw hRn hoY
              by_cases hlt : i < n
              · have s1 : (i : Int) < (n : Int) := by omega
                obtain ⟨p, hp⟩ : ∃ p, p = pf L i := ⟨_, rfl⟩
                have hpn : p < n := by rw [hp]; exact hPl.pf_lt hlt
                have s2 : (p : Int) < (n : Int) := by omega
                have HPI : Hid (p = pf L i ∧ L[i]? = some p) := ⟨hp, by rw [hp]; exact hPl.at hlt⟩
                clear hp
                have x0 : Y.cell? ⟨bA, 1, none⟩ = some (.slice (some ⟨bO, 0, none⟩) n n) := cell_blk HYK.out.1
                have x1 := HYK.out.2.1.cell HPI.out.2
                have x2 : Y.cell? ⟨w2.heap.size, 1, none⟩ = some (.slice (some ⟨bo, 0, none⟩) n co) := cell_blk HYL.out.2.1
                obtain ⟨uo, huo⟩ : ∃ uo, uo = Hm.oR outs i := ⟨_, rfl⟩
                have HUO : Hid (uo = Hm.oR outs i) := huo
                have x3 := keepC HYL.out.1 (H2.out.2.2.2.2.2.2 i hlt)
                rw [Nat.zero_add, ← huo] at x3
                have x4 : Y.cell? ⟨bO, p, none⟩ = some (u32V (ou p)) := by rw [cell_blk hbO, rowOf_at _ hpn]
                have f4 : ∀ x, Y.frozen? ⟨bO, x, none⟩ = false := fun x => fz_blk hbO x
                have y0 := World.block_lt_of_cell? Y _ x0
                have y1 := World.block_lt_of_cell? Y _ x1
                have y2 := World.block_lt_of_cell? Y _ x2
                have y3 := World.block_lt_of_cell? Y _ x3
                have y4 := World.block_lt_of_cell? Y _ x4
                clear hbO huo
                go_wp2_with fail
                go_region
                obtain ⟨Z, hZ⟩ : ∃ Z, Z = (Y.setCell ⟨bO, p, none⟩ (.int .u32 (uo : Int))).drew := ⟨_, rfl⟩
                rw [← hZ]
                have hYZ : Only (fun b => b = bO) Y Z := by rw [hZ]; exact ((Only.refl (fun b => b = bO) Y).setCell (p := ⟨bO, p, none⟩) rfl _).drew
                have HZ : Hid (Bw Z H n bN bk vs ∧ Z.heap[bO]? = some (.cells (rowOf n (fun s => u32V (if s = p then uo else ou s))) 38 (0, 0)) ∧ Only (fun b => b = bN ∨ b = bO ∨ H ≤ b) W2 Z) := ⟨HY.out.1.keep hYZ (fun b hb => by omega), by
                  have : Z.heap[bO]? = (Y.setCell ⟨bO, p, none⟩ (.int .u32 (uo : Int))).heap[bO]? := by rw [hZ]; rfl
                  rw [this, heap_setCell_at HY.out.2.1, rowOf_set]
                  congr 3
                  funext s
                  split <;> rfl, HY.out.2.2.2.trans (hYZ.mono (fun b hb => Or.inr (Or.inl hb)))⟩
                clear hZ hYZ x0 x1 x2 x3 x4 f4 y0 y1 y2 y3 y4
                have HZK : Hid _ := HK.out Z HZ.out.2.2
                have HZL : Hid _ := HLO.out Z HZK.out.2.2.1
                obtain ⟨a1, c1, q1, HQ1⟩ := H2.out.2.2.2.2.2.1 i hlt
                have HQ : Hid (∀ c, c < k → ∃ b o, a1 = some ⟨b, o, none⟩ ∧ w2.cell? ⟨b, o + c, none⟩ = some (.int .i64 (Hm.dR rows i c : Int)) ∧ Hm.dR rows i c < n) := HQ1
                rw [Nat.zero_add] at q1
                have x0 := keepC HZL.out.1 q1
                have x1 : Z.cell? ⟨w2.heap.size, 0, none⟩ = some (.slice (some ⟨bn, 0, none⟩) n cN) := cell_blk HZL.out.2.1
                have y0 := World.block_lt_of_cell? Z _ x0
                have y1 := World.block_lt_of_cell? Z _ x1
                clear q1 HQ1
                go_wp2_with fail
                clear x0 x1 y0 y1
                go_loopg [117] k (fun gh v wr => ∃ (j : Nat) (bk2 : Nat → List Nat) (vs2 : Nat → Value) (X : World), X = wr ∧ gh = k - j ∧ j ≤ k ∧ v = .int .i64 (j : Int) ∧ Bw X H n bN bk2 vs2 ∧ X.heap[bO]? = some (.cells (rowOf n (fun s => u32V (if s = p then uo else ou s))) 38 (0, 0)) ∧ (∀ q, q ≠ p → bk2 q = bk q) ∧ bk2 p = (List.range j).map (fun c => pf L (Hm.dR rows i c)) ∧ Only (fun b => b = bN ∨ b = bO ∨ H ≤ b) W2 X)
                case atStart => exact ⟨0, bk, vs, _, rfl, rfl, Nat.zero_le _, rfl, HZ.out.1, HZ.out.2.1, fun _ _ => rfl, by rw [HPI.out.1]; exact HY.out.2.2.1.rest i (Nat.le_refl _) hlt, HZ.out.2.2⟩
                case round =>
                  obtain ⟨j, bk2, vs2, X, hX, rfl, hj, rfl, hBw, hbO, hb1, hb2, hoX⟩ := hrel
                  subst hX
                  have HX : Hid (Bw X H n bN bk2 vs2 ∧ X.heap[bO]? = some (.cells (rowOf n (fun s => u32V (if s = p then uo else ou s))) 38 (0, 0)) ∧ (∀ q, q ≠ p → bk2 q = bk q) ∧ bk2 p = (List.range j).map (fun c => pf L (Hm.dR rows i c)) ∧ Only (fun b => b = bN ∨ b = bO ∨ H ≤ b) W2 X) := ⟨hBw, hbO, hb1, hb2, hoX⟩
                  have HXK : Hid _ := HK.out X hoX
                  have HXL : Hid _ := HLO.out X HXK.out.2.2.1
                  have lX : H ≤ X.heap.size := HXK.out.2.2.2
                  have hbl : (bk2 p).length = j := by rw [hb2]; simp
                  clear hBw hbO hb1 hb2 hoX
                  by_cases hlk : j < k
                  · have t3 : (j : Int) < (k : Int) := by omega
                    obtain ⟨b2, o2, e2, v0, v9⟩ := HQ.out j hlk
                    subst e2
                    obtain ⟨tt, htt⟩ : ∃ tt, tt = Hm.dR rows i j := ⟨_, rfl⟩
                    have HTT : Hid (tt = Hm.dR rows i j) := htt
                    rw [← htt] at v0 v9
                    have t4 : (tt : Int) < (n : Int) := by omega
                    have v4 := keepC HXL.out.1 v0
                    have l4 := World.block_lt_of_cell? X _ v4
                    clear v0 htt
                    obtain ⟨pt, hpt⟩ : ∃ pt, pt = pf L tt := ⟨_, rfl⟩
                    have hptn : pt < n := by rw [hpt]; exact hPl.pf_lt v9
                    have v5 := HXK.out.2.1.cell (hPl.at v9)
                    rw [← hpt] at v5
                    have HPT : Hid (pt = pf L tt) := hpt
                    clear hpt
                    have v6 := HXK.out.2.1.cell HPI.out.2
                    have v7 : X.cell? ⟨bA, 0, none⟩ = some (.slice (some ⟨bN, 0, none⟩) n n) := cell_blk HXK.out.1
                    obtain ⟨av, cv, ev⟩ := own_form (HX.out.1.own p hpn)
                    rw [hbl] at ev
                    have HM : Hid (vs2 p = .slice av j cv) := ev
                    have HOWN : Hid (X.ownsRow H 3 1 (.slice av j cv) j (nums (bk2 p)).toList) := by have := HX.out.1.own p hpn; rw [hbl, ev] at this; exact this
                    have v8 : X.cell? ⟨bN, p, none⟩ = some (.slice av j cv) := by rw [cell_blk HX.out.1.blk, rowOf_at _ hpn, ev]
                    have f8 : ∀ x, X.frozen? ⟨bN, x, none⟩ = false := fun x => fz_blk HX.out.1.blk x
                    have l5 := World.block_lt_of_cell? X _ v5
                    have l7 := World.block_lt_of_cell? X _ v7
                    have l8 := World.block_lt_of_cell? X _ v8
                    clear ev
                    have HCL : Hid (∀ Y, Only (fun b => (Value.slice av j cv).ownBlock = some b) X Y → (Y.cell? ⟨bA, 0, none⟩ = some (.slice (some ⟨bN, 0, none⟩) n n) ∧ Y.cell? ⟨lB, i, none⟩ = some (.int .i64 (p : Int)) ∧ Y.cell? ⟨lB, tt, none⟩ = some (.int .i64 (pt : Int))) ∧ Y.heap[bN]? = some (.cells (rowOf n vs2) 23 (0, 0)) ∧ bN < Y.heap.size) := fun Y ho => by
                      have hsz : ∀ q, (Value.slice av j cv).ownBlock = some q → H ≤ q := fun q hq => (own_own HOWN.out hq).1
                      have e1 : Y.heap[bA]? = X.heap[bA]? := ho.block _ l7 (fun h => by have := hsz _ h; omega)
                      have e2 : Y.heap[bN]? = X.heap[bN]? := ho.block _ l8 (fun h => by have := hsz _ h; omega)
                      have e3 : Y.heap[lB]? = X.heap[lB]? := ho.block _ l5 (fun h => by have := hsz _ h; omega)
                      exact ⟨⟨(World.cell?_of_block (a := ⟨bA, 0, none⟩) e1).trans v7, (World.cell?_of_block (a := ⟨lB, i, none⟩) e3).trans v6, (World.cell?_of_block (a := ⟨lB, tt, none⟩) e3).trans v5⟩, e2.trans HX.out.1.blk, Nat.lt_of_lt_of_le l8 ho.size⟩
                    have HHS : Hid (∀ (Y : World) (v : Value), (Y.cell? ⟨bA, 0, none⟩ = some (.slice (some ⟨bN, 0, none⟩) n n) ∧ Y.cell? ⟨lB, i, none⟩ = some (.int .i64 (p : Int)) ∧ Y.cell? ⟨lB, tt, none⟩ = some (.int .i64 (pt : Int))) → ((Y.setCell ⟨bN, p, none⟩ v).cell? ⟨bA, 0, none⟩ = some (.slice (some ⟨bN, 0, none⟩) n n) ∧ (Y.setCell ⟨bN, p, none⟩ v).cell? ⟨lB, i, none⟩ = some (.int .i64 (p : Int)) ∧ (Y.setCell ⟨bN, p, none⟩ v).cell? ⟨lB, tt, none⟩ = some (.int .i64 (pt : Int)))) := fun Y v h => by
                      exact ⟨(World.cell?_of_block (a := ⟨bA, 0, none⟩) (Below.heap_setCell _ _ _ _ (fun e => by have : bA = bN := e; omega))).trans h.1, (World.cell?_of_block (a := ⟨lB, i, none⟩) (Below.heap_setCell _ _ _ _ (fun e => by have : lB = bN := e; omega))).trans h.2.1, (World.cell?_of_block (a := ⟨lB, tt, none⟩) (Below.heap_setCell _ _ _ _ (fun e => by have : lB = bN := e; omega))).trans h.2.2⟩
                    go_wp2_with fail
                    clear v5 v6 v7 v8 f8 v4 l4 l5 l7 l8
                    refine wp_region_held_drew (S := (fun Y => Y.cell? ⟨bA, 0, none⟩ = some (.slice (some ⟨bN, 0, none⟩) n n) ∧ Y.cell? ⟨lB, i, none⟩ = some (.int .i64 (p : Int)) ∧ Y.cell? ⟨lB, tt, none⟩ = some (.int .i64 (pt : Int)))) (by kernel_rfl) ((HCL.out X (Only.refl _ _)).1) (fun hHeld => ?_)
                    refine wpAnyH_take (i := 0) (oi := { dst := some 121, op := _, type := _, pos := _, after := _, guard := _ }) (v := .pointer (some ⟨bA, 0, none⟩)) rfl (by kernel_rfl) (by kernel_rfl) (by kernel_rfl) (fun _ _ _ h => h) (Or.inl ⟨by rfl, fun w hSw => by first | (go_simp; done) | go_simp⟩) (by assumption) ?_
                    (try simp only [Act.put, List.setIfInBounds_toArray, List.set_cons_zero, List.set_cons_succ])
                    refine wpAnyH_take (i := 1) (oi := { dst := some 122, op := _, type := _, pos := _, after := _, guard := _ }) (v := .slice (some ⟨bN, 0, none⟩) n n) rfl (by kernel_rfl) (by kernel_rfl) (by kernel_rfl) (fun _ _ _ h => h) (Or.inl ⟨by rfl, fun w hSw => by obtain ⟨q0, q1, q2⟩ := hSw; first | (go_simp; done) | go_simp⟩) (by assumption) ?_
                    (try simp only [Act.put, List.setIfInBounds_toArray, List.set_cons_zero, List.set_cons_succ])
                    refine wpAnyH_take (i := 2) (oi := { dst := some 123, op := _, type := _, pos := _, after := _, guard := _ }) (v := .slice (some ⟨lB, 0, none⟩) n n) rfl (by kernel_rfl) (by kernel_rfl) (by kernel_rfl) (fun _ _ _ h => h) (Or.inl ⟨by rfl, fun w hSw => by first | (go_simp; done) | go_simp⟩) (by assumption) ?_
                    (try simp only [Act.put, List.setIfInBounds_toArray, List.set_cons_zero, List.set_cons_succ])
                    refine wpAnyH_take (i := 3) (oi := { dst := some 124, op := _, type := _, pos := _, after := _, guard := _ }) (v := .int .i64 (i : Int)) rfl (by kernel_rfl) (by kernel_rfl) (by kernel_rfl) (fun _ _ _ h => h) (Or.inl ⟨by rfl, fun w hSw => by first | (go_simp; done) | go_simp⟩) (by assumption) ?_
                    (try simp only [Act.put, List.setIfInBounds_toArray, List.set_cons_zero, List.set_cons_succ])
                    refine wpAnyH_take (i := 4) (oi := { dst := some 125, op := _, type := _, pos := _, after := _, guard := _ }) (v := .pointer (some ⟨lB, i, none⟩)) rfl (by kernel_rfl) (by kernel_rfl) (by kernel_rfl) (fun _ _ _ h => h) (Or.inl ⟨by rfl, fun w hSw => by first | (go_simp; done) | go_simp⟩) (by assumption) ?_
                    (try simp only [Act.put, List.setIfInBounds_toArray, List.set_cons_zero, List.set_cons_succ])
                    refine wpAnyH_take (i := 5) (oi := { dst := some 126, op := _, type := _, pos := _, after := _, guard := _ }) (v := .int .i64 (p : Int)) rfl (by kernel_rfl) (by kernel_rfl) (by kernel_rfl) (fun _ _ _ h => h) (Or.inl ⟨by rfl, fun w hSw => by obtain ⟨q0, q1, q2⟩ := hSw; first | (go_simp; done) | go_simp⟩) (by assumption) ?_
                    (try simp only [Act.put, List.setIfInBounds_toArray, List.set_cons_zero, List.set_cons_succ])
                    refine wpAnyH_take (i := 6) (oi := { dst := some 127, op := _, type := _, pos := _, after := _, guard := _ }) (v := .pointer (some ⟨bA, 0, none⟩)) rfl (by kernel_rfl) (by kernel_rfl) (by kernel_rfl) (fun _ _ _ h => h) (Or.inl ⟨by rfl, fun w hSw => by first | (go_simp; done) | go_simp⟩) (by assumption) ?_
                    (try simp only [Act.put, List.setIfInBounds_toArray, List.set_cons_zero, List.set_cons_succ])
                    refine wpAnyH_take (i := 7) (oi := { dst := some 128, op := _, type := _, pos := _, after := _, guard := _ }) (v := .slice (some ⟨bN, 0, none⟩) n n) rfl (by kernel_rfl) (by kernel_rfl) (by kernel_rfl) (fun _ _ _ h => h) (Or.inl ⟨by rfl, fun w hSw => by obtain ⟨q0, q1, q2⟩ := hSw; first | (go_simp; done) | go_simp⟩) (by assumption) ?_
                    (try simp only [Act.put, List.setIfInBounds_toArray, List.set_cons_zero, List.set_cons_succ])
                    refine wpAnyH_take (i := 8) (oi := { dst := some 129, op := _, type := _, pos := _, after := _, guard := _ }) (v := .slice (some ⟨lB, 0, none⟩) n n) rfl (by kernel_rfl) (by kernel_rfl) (by kernel_rfl) (fun _ _ _ h => h) (Or.inl ⟨by rfl, fun w hSw => by first | (go_simp; done) | go_simp⟩) (by assumption) ?_
                    (try simp only [Act.put, List.setIfInBounds_toArray, List.set_cons_zero, List.set_cons_succ])
                    refine wpAnyH_take (i := 9) (oi := { dst := some 130, op := _, type := _, pos := _, after := _, guard := _ }) (v := .int .i64 (i : Int)) rfl (by kernel_rfl) (by kernel_rfl) (by kernel_rfl) (fun _ _ _ h => h) (Or.inl ⟨by rfl, fun w hSw => by first | (go_simp; done) | go_simp⟩) (by assumption) ?_
                    (try simp only [Act.put, List.setIfInBounds_toArray, List.set_cons_zero, List.set_cons_succ])
                    refine wpAnyH_take (i := 10) (oi := { dst := some 131, op := _, type := _, pos := _, after := _, guard := _ }) (v := .pointer (some ⟨lB, i, none⟩)) rfl (by kernel_rfl) (by kernel_rfl) (by kernel_rfl) (fun _ _ _ h => h) (Or.inl ⟨by rfl, fun w hSw => by first | (go_simp; done) | go_simp⟩) (by assumption) ?_
                    (try simp only [Act.put, List.setIfInBounds_toArray, List.set_cons_zero, List.set_cons_succ])
                    refine wpAnyH_take (i := 11) (oi := { dst := some 132, op := _, type := _, pos := _, after := _, guard := _ }) (v := .int .i64 (p : Int)) rfl (by kernel_rfl) (by kernel_rfl) (by kernel_rfl) (fun _ _ _ h => h) (Or.inl ⟨by rfl, fun w hSw => by obtain ⟨q0, q1, q2⟩ := hSw; first | (go_simp; done) | go_simp⟩) (by assumption) ?_
                    (try simp only [Act.put, List.setIfInBounds_toArray, List.set_cons_zero, List.set_cons_succ])
                    refine wpAnyH_take (i := 12) (oi := { dst := some 133, op := _, type := _, pos := _, after := _, guard := _ }) (v := .pointer (some ⟨bN, p, none⟩)) rfl (by kernel_rfl) (by kernel_rfl) (by kernel_rfl) (fun _ _ _ h => h) (Or.inl ⟨by rfl, fun w hSw => by first | (go_simp; done) | go_simp⟩) (by assumption) ?_
                    (try simp only [Act.put, List.setIfInBounds_toArray, List.set_cons_zero, List.set_cons_succ])
                    refine wpAnyH_take (i := 14) (oi := { dst := some 135, op := _, type := _, pos := _, after := _, guard := _ }) (v := .slice (some ⟨lB, 0, none⟩) n n) rfl (by kernel_rfl) (by kernel_rfl) (by kernel_rfl) (fun _ _ _ h => h) (Or.inl ⟨by rfl, fun w hSw => by first | (go_simp; done) | go_simp⟩) (by assumption) ?_
                    (try simp only [Act.put, List.setIfInBounds_toArray, List.set_cons_zero, List.set_cons_succ])
                    refine wpAnyH_take (i := 15) (oi := { dst := some 136, op := _, type := _, pos := _, after := _, guard := _ }) (v := .int .i64 (tt : Int)) rfl (by kernel_rfl) (by kernel_rfl) (by kernel_rfl) (fun _ _ _ h => h) (Or.inl ⟨by rfl, fun w hSw => by first | (go_simp; done) | go_simp⟩) (by assumption) ?_
                    (try simp only [Act.put, List.setIfInBounds_toArray, List.set_cons_zero, List.set_cons_succ])
                    refine wpAnyH_take (i := 16) (oi := { dst := some 137, op := _, type := _, pos := _, after := _, guard := _ }) (v := .pointer (some ⟨lB, tt, none⟩)) rfl (by kernel_rfl) (by kernel_rfl) (by kernel_rfl) (fun _ _ _ h => h) (Or.inl ⟨by rfl, fun w hSw => by first | (go_simp; done) | go_simp⟩) (by assumption) ?_
                    (try simp only [Act.put, List.setIfInBounds_toArray, List.set_cons_zero, List.set_cons_succ])
                    refine wpAnyH_take (i := 17) (oi := { dst := some 138, op := _, type := _, pos := _, after := _, guard := _ }) (v := .int .i64 (pt : Int)) rfl (by kernel_rfl) (by kernel_rfl) (by kernel_rfl) (fun _ _ _ h => h) (Or.inl ⟨by rfl, fun w hSw => by obtain ⟨q0, q1, q2⟩ := hSw; first | (go_simp; done) | go_simp⟩) (by assumption) ?_
                    (try simp only [Act.put, List.setIfInBounds_toArray, List.set_cons_zero, List.set_cons_succ])
                    obtain ⟨X0, hX0⟩ : ∃ X0, X0 = X.drew := ⟨_, rfl⟩
                    have HX0 : Hid (Only (fun b => (Value.slice av j cv).ownBlock = some b) X X0 ∧ X0.ownsRow H 3 1 (.slice av j cv) j (nums (bk2 p)).toList) := by rw [hX0]; exact ⟨(Only.refl _ _).drew, HOWN.out⟩
                    rw [← hX0]
                    clear hX0
                    refine wpAnyH_ready (rs := [13, 18]) (by kernel_rfl) (by simp) ?_
                    refine AllReadyH.cons rfl (fun K hK => ?_) (AllReadyH.cons rfl (fun K hK => ?_) AllReadyH.nil)
                    · have y := HCL.out X0 HX0.out.1
                      have y8 : X0.cell? ⟨bN, p, none⟩ = some (.slice av j cv) := by rw [cell_blk y.2.1, rowOf_at _ hpn, HM.out]
                      have yl := y.2.2
                      rw [if_pos (by rfl)]
                      go_simp
                      refine hK.out _ _ (HCL.out X0 HX0.out.1).1 (fun hHeld => ?_)
                      clear hK
                      (try simp only [Act.put, List.setIfInBounds_toArray, List.set_cons_zero, List.set_cons_succ])
                      clear y y8 yl
                      refine wpAnyH_ready (rs := [18]) (by kernel_rfl) (by simp) ?_
                      refine AllReadyH.cons rfl (fun K hK => ?_) AllReadyH.nil
                      rw [if_pos (by rfl)]
                      go_simp
                      obtain ⟨X1, hX1⟩ : ∃ Y, Y = X0.alloc (.cells #[.int .i64 (pt : Int)] 3) := ⟨_, rfl⟩
                      obtain ⟨nA, hnA⟩ : ∃ n, n = X0.heap.size := ⟨_, rfl⟩
                      have HNA : Hid (X1.heap[nA]? = some (.cells #[.int .i64 (pt : Int)] 3 (0, 0))) := by rw [hX1, hnA]; exact heap_alloc_new _ _
                      have HX1 : Hid (Only (fun b => (Value.slice av j cv).ownBlock = some b) X X1 ∧ X1.ownsRow H 3 1 (.slice av j cv) j (nums (bk2 p)).toList) := by rw [hX1]; exact ⟨HX0.out.1.alloc _, HX0.out.2.alloc _⟩
                      rw [← hX1, ← hnA]
                      clear hX1 hnA
                      refine hK.out _ _ (HCL.out X1 HX1.out.1).1 (fun hHeld => ?_)
                      clear hK
                      (try simp only [Act.put, List.setIfInBounds_toArray, List.set_cons_zero, List.set_cons_succ])
                      refine wpAnyH_ready (rs := [19]) (by kernel_rfl) (by simp) ?_
                      refine AllReadyH.cons rfl (fun K hK => ?_) AllReadyH.nil
                      have yl := HX1.out.1.size
                      refine step_C (by rfl) _ _ (by rfl) H (.slice av j cv) j (nums (bk2 p)).toList (by rfl) HX1.out.2 nA (.int .i64 (pt : Int)) (by rfl) HNA.out rfl (by omega) (by omega) ?_
                      intro g5 cap5 X2 hown hgrow hat
                      have HX2 : Hid (Only (fun b => (Value.slice av j cv).ownBlock = some b) X X2 ∧ X2.ownsRow H 3 1 (.slice (some ⟨g5, 0, none⟩) (j + 1) cap5) (j + 1) ((nums (bk2 p)).toList ++ [.int .i64 (pt : Int)]) ∧ ((Value.slice av j cv).ownBlock = some g5 ∨ g5 = X1.heap.size) ∧ X.heap.size ≤ X1.heap.size) := ⟨HX1.out.1.grown hgrow (fun q hq => hq), hown, hat, yl⟩
                      clear hown hgrow hat yl
                      refine hK.out _ _ (HCL.out X2 HX2.out.1).1 (fun hHeld => ?_)
                      clear hK
                      (try simp only [Act.put, List.setIfInBounds_toArray, List.set_cons_zero, List.set_cons_succ])
                      refine wpAnyH_take (i := 20) (oi := { dst := some 141, op := _, type := _, pos := _, after := _, guard := _ }) (v := .pointer (some ⟨bN, p, none⟩)) rfl (by kernel_rfl) (by kernel_rfl) (by kernel_rfl) (fun _ _ _ h => h) (Or.inl ⟨by rfl, fun w hSw => by first | (go_simp; done) | go_simp⟩) (by assumption) ?_
                      (try simp only [Act.put, List.setIfInBounds_toArray, List.set_cons_zero, List.set_cons_succ])
                      have y := HCL.out X2 HX2.out.1
                      have y8 : X2.cell? ⟨bN, p, none⟩ = some (.slice av j cv) := by rw [cell_blk y.2.1, rowOf_at _ hpn, HM.out]
                      have yf : ∀ q, X2.frozen? ⟨bN, q, none⟩ = false := fun q => fz_blk y.2.1 q
                      have yl := y.2.2
                      have HQ1 : Hid _ := HHS.out X2 (.slice (some ⟨g5, 0, none⟩) (j + 1) cap5) y.1
                      clear y
                      refine wpAnyH_ready (rs := [21]) (by kernel_rfl) (by simp) ?_
                      refine AllReadyH.cons rfl (fun K hK => ?_) AllReadyH.nil
                      rw [if_pos (by rfl)]
                      go_simp
                      refine hK.out _ _ HQ1.out (fun hHeld => ?_)
                      clear hK
                      (try simp only [Act.put, List.setIfInBounds_toArray, List.set_cons_zero, List.set_cons_succ])
                      refine wpAnyH_done (by kernel_rfl) ?_ _
                      clear hHeld y8 yf yl HQ1
                      go_wp2_with fail
                      go_roundg (k - (j + 1))
                      case measure => omega
                      case rel =>
                        obtain ⟨k1, k2, k3, k4⟩ := HX2.out
                        rw [← HM.out] at k1 k3
                        rw [← hbl] at k2
                        obtain ⟨u1, u2⟩ := HX.out.1.step hpn k1 k2 k3 k4
                        rw [hbl] at u1 u2
                        have hqo : ∀ b, ((vs2 p).ownBlock = some b ∨ b = bN) → b = bN ∨ H ≤ b := fun b hb => hb.elim (fun h => Or.inr (own_own (HX.out.1.own p hpn) h).1) Or.inl
                        refine ⟨j + 1, _, _, _, rfl, rfl, by omega, by go_num, u1, ?_, ?_, ?_, ?_⟩
                        · exact (u2.block bO (Array.getElem?_eq_some_iff.1 HX.out.2.1).1 (fun hb => by have := hqo _ hb; omega)).trans HX.out.2.1
                        · intro q hq
                          simp only [if_neg hq]
                          exact HX.out.2.2.1 q hq
                        · simp only [if_true]
                          rw [HX.out.2.2.2.1, List.range_succ, List.map_append, HPT.out, HTT.out]
                          rfl
                        · exact HX.out.2.2.2.2.trans (u2.mono (fun b hb => (hqo b hb).elim Or.inl (fun h => Or.inr (Or.inr h))))
                    · rw [if_pos (by rfl)]
                      go_simp
                      obtain ⟨X1, hX1⟩ : ∃ Y, Y = X0.alloc (.cells #[.int .i64 (pt : Int)] 3) := ⟨_, rfl⟩
                      obtain ⟨nA, hnA⟩ : ∃ n, n = X0.heap.size := ⟨_, rfl⟩
                      have HNA : Hid (X1.heap[nA]? = some (.cells #[.int .i64 (pt : Int)] 3 (0, 0))) := by rw [hX1, hnA]; exact heap_alloc_new _ _
                      have HX1 : Hid (Only (fun b => (Value.slice av j cv).ownBlock = some b) X X1 ∧ X1.ownsRow H 3 1 (.slice av j cv) j (nums (bk2 p)).toList) := by rw [hX1]; exact ⟨HX0.out.1.alloc _, HX0.out.2.alloc _⟩
                      rw [← hX1, ← hnA]
                      clear hX1 hnA
                      refine hK.out _ _ (HCL.out X1 HX1.out.1).1 (fun hHeld => ?_)
                      clear hK
                      (try simp only [Act.put, List.setIfInBounds_toArray, List.set_cons_zero, List.set_cons_succ])
                      refine wpAnyH_ready (rs := [13]) (by kernel_rfl) (by simp) ?_
                      refine AllReadyH.cons rfl (fun K hK => ?_) AllReadyH.nil
                      have y := HCL.out X1 HX1.out.1
                      have y8 : X1.cell? ⟨bN, p, none⟩ = some (.slice av j cv) := by rw [cell_blk y.2.1, rowOf_at _ hpn, HM.out]
                      have yl := y.2.2
                      rw [if_pos (by rfl)]
                      go_simp
                      refine hK.out _ _ (HCL.out X1 HX1.out.1).1 (fun hHeld => ?_)
                      clear hK
                      (try simp only [Act.put, List.setIfInBounds_toArray, List.set_cons_zero, List.set_cons_succ])
                      clear y y8 yl
                      refine wpAnyH_ready (rs := [19]) (by kernel_rfl) (by simp) ?_
                      refine AllReadyH.cons rfl (fun K hK => ?_) AllReadyH.nil
                      have yl := HX1.out.1.size
                      refine step_C (by rfl) _ _ (by rfl) H (.slice av j cv) j (nums (bk2 p)).toList (by rfl) HX1.out.2 nA (.int .i64 (pt : Int)) (by rfl) HNA.out rfl (by omega) (by omega) ?_
                      intro g5 cap5 X2 hown hgrow hat
                      have HX2 : Hid (Only (fun b => (Value.slice av j cv).ownBlock = some b) X X2 ∧ X2.ownsRow H 3 1 (.slice (some ⟨g5, 0, none⟩) (j + 1) cap5) (j + 1) ((nums (bk2 p)).toList ++ [.int .i64 (pt : Int)]) ∧ ((Value.slice av j cv).ownBlock = some g5 ∨ g5 = X1.heap.size) ∧ X.heap.size ≤ X1.heap.size) := ⟨HX1.out.1.grown hgrow (fun q hq => hq), hown, hat, yl⟩
                      clear hown hgrow hat yl
                      refine hK.out _ _ (HCL.out X2 HX2.out.1).1 (fun hHeld => ?_)
                      clear hK
                      (try simp only [Act.put, List.setIfInBounds_toArray, List.set_cons_zero, List.set_cons_succ])
                      refine wpAnyH_take (i := 20) (oi := { dst := some 141, op := _, type := _, pos := _, after := _, guard := _ }) (v := .pointer (some ⟨bN, p, none⟩)) rfl (by kernel_rfl) (by kernel_rfl) (by kernel_rfl) (fun _ _ _ h => h) (Or.inl ⟨by rfl, fun w hSw => by first | (go_simp; done) | go_simp⟩) (by assumption) ?_
                      (try simp only [Act.put, List.setIfInBounds_toArray, List.set_cons_zero, List.set_cons_succ])
                      have y := HCL.out X2 HX2.out.1
                      have y8 : X2.cell? ⟨bN, p, none⟩ = some (.slice av j cv) := by rw [cell_blk y.2.1, rowOf_at _ hpn, HM.out]
                      have yf : ∀ q, X2.frozen? ⟨bN, q, none⟩ = false := fun q => fz_blk y.2.1 q
                      have yl := y.2.2
                      have HQ1 : Hid _ := HHS.out X2 (.slice (some ⟨g5, 0, none⟩) (j + 1) cap5) y.1
                      clear y
                      refine wpAnyH_ready (rs := [21]) (by kernel_rfl) (by simp) ?_
                      refine AllReadyH.cons rfl (fun K hK => ?_) AllReadyH.nil
                      rw [if_pos (by rfl)]
                      go_simp
                      refine hK.out _ _ HQ1.out (fun hHeld => ?_)
                      clear hK
                      (try simp only [Act.put, List.setIfInBounds_toArray, List.set_cons_zero, List.set_cons_succ])
                      refine wpAnyH_done (by kernel_rfl) ?_ _
                      clear hHeld y8 yf yl HQ1
                      go_wp2_with fail
                      go_roundg (k - (j + 1))
                      case measure => omega
                      case rel =>
                        obtain ⟨k1, k2, k3, k4⟩ := HX2.out
                        rw [← HM.out] at k1 k3
                        rw [← hbl] at k2
                        obtain ⟨u1, u2⟩ := HX.out.1.step hpn k1 k2 k3 k4
                        rw [hbl] at u1 u2
                        have hqo : ∀ b, ((vs2 p).ownBlock = some b ∨ b = bN) → b = bN ∨ H ≤ b := fun b hb => hb.elim (fun h => Or.inr (own_own (HX.out.1.own p hpn) h).1) Or.inl
                        refine ⟨j + 1, _, _, _, rfl, rfl, by omega, by go_num, u1, ?_, ?_, ?_, ?_⟩
                        · exact (u2.block bO (Array.getElem?_eq_some_iff.1 HX.out.2.1).1 (fun hb => by have := hqo _ hb; omega)).trans HX.out.2.1
                        · intro q hq
                          simp only [if_neg hq]
                          exact HX.out.2.2.1 q hq
                        · simp only [if_true]
                          rw [HX.out.2.2.2.1, List.range_succ, List.map_append, HPT.out, HTT.out]
                          rfl
                        · exact HX.out.2.2.2.2.trans (u2.mono (fun b hb => (hqo b hb).elim Or.inl (fun h => Or.inr (Or.inr h))))
                  · have t3 : decide ((j : Int) < (k : Int)) = false := decide_eq_false (by omega)
                    have hjk : j = k := by omega
                    go_wp2_with fail
                    go_roundg (n - (i + 1))
                    case measure => omega
                    case rel =>
                      refine ⟨i + 1, bk2, _, vs2, _, rfl, rfl, by omega, by go_num, HX.out.1, HX.out.2.1, ⟨fun s hs row hr => ?_, fun s hs => ?_, fun s hs hsn => ?_⟩, HX.out.2.2.2.2⟩
                      · by_cases e : s = i
                        · subst e
                          rw [← HPI.out.1, HX.out.2.2.2.1, hjk]
                          have hl := H2.out.2.2.1.rlen s row hr
                          apply List.ext_getElem?
                          intro c
                          rw [List.getElem?_map, List.getElem?_map]
                          by_cases hc : c < k
                          · rw [List.getElem?_range hc]
                            have e2 : row[c]? = some (row[c]'(by omega)) := List.getElem?_eq_getElem _
                            have e3 : Hm.dR rows s c = row[c]'(by omega) := by unfold Hm.dR; rw [hr]; show row[c]?.getD 0 = _; rw [e2]; rfl
                            rw [e2]
                            show some (pf L (Hm.dR rows s c)) = some (pf L _)
                            rw [e3]
                          · rw [List.getElem?_eq_none (by rw [List.length_range]; omega), List.getElem?_eq_none (by omega)]
                            rfl
                        · rw [HX.out.2.2.1 _ (fun e2 => e (hPl.pf_inj (by omega) hlt (e2.trans HPI.out.1)))]
                          exact HY.out.2.2.1.row s (by omega) row hr
                      · by_cases e : s = i
                        · subst e
                          rw [← HPI.out.1, if_pos rfl, HUO.out]
                        · rw [if_neg (fun e2 => e (hPl.pf_inj (by omega) hlt (e2.trans HPI.out.1)))]
                          exact HY.out.2.2.1.out s (by omega)
                      · rw [HX.out.2.2.1 _ (fun e2 => by have := hPl.pf_inj hsn hlt (e2.trans HPI.out.1); omega)]
                        exact HY.out.2.2.1.rest s (by omega) hsn
              · have s1 : decide ((i : Int) < (n : Int)) = false := decide_eq_false (by omega)
                have hin : n = i := by omega
                subst hin
                clear hbO
                have HRb : Hid (Ra Y (lB + 1) (.agg #[.slice (some ⟨bN, 0, none⟩) n n, .slice (some ⟨bO, 0, none⟩) n n]) (rowsB n bk) (outsB n ou) ∧ Hm.Ok (rowsB n bk) (outsB n ou) k ∧ (rowsB n bk).length = n ∧ Hm.Eqx k (Hm.dR rows) (Hm.oR outs) (Hm.dR (rowsB n bk)) (Hm.oR (outsB n ou)) 0 0 ∧ Y.heap[bA]? = some (.cells #[.slice (some ⟨bN, 0, none⟩) n n, .slice (some ⟨bO, 0, none⟩) n n] 27 (0, 0))) := ⟨Bw.ra HY.out.1 HY.out.2.1 (by omega) (by omega) (by omega) (by omega), HY.out.2.2.1.ok hPl H2.out.2.2.1 H2.out.2.2.2.1, by simp [rowsB], HY.out.2.2.1.eqx hPl H2.out.2.2.1 H2.out.2.2.2.1, HYK.out.1⟩
                have x0 : Y.cell? ⟨w2.heap.size, 0, none⟩ = some (.slice (some ⟨bn, 0, none⟩) n cN) := cell_blk HYL.out.2.1
                have x1 : Y.cell? ⟨w2.heap.size, 1, none⟩ = some (.slice (some ⟨bo, 0, none⟩) n co) := cell_blk HYL.out.2.1
                have lx0 : w2.heap.size < Y.heap.size := World.block_lt_of_cell? Y _ x0
                have lxB : bA < Y.heap.size := (Array.getElem?_eq_some_iff.1 HRb.out.2.2.2.2).1
                go_wp2_with fail
                refine Calls.mono (make_ra _ k _ rows outs Y (H2.out.2.1.keep HYL.out.1) H2.out.2.2.1 (by have := H2.out.2.2.2.1; omega) (by omega)) ?_
                rintro e w4 ⟨v4, rows4, outs4, r4, rfl, hR4, hL4, ho4⟩
                have hok4 : Hm.Ok rows4 outs4 k := hL4.ok
                obtain ⟨bX, mX, bY, mO, rfl, hnx4, hou4⟩ := hR4.nxt hok4
                have H4 : Hid (Only (fun _ => False) Y w4 ∧ Ra w4 Y.heap.size (.agg #[.slice (some ⟨bX, 0, none⟩) rows4.length mX, .slice (some ⟨bY, 0, none⟩) rows4.length mO]) rows4 outs4 ∧ Hm.Lst rows.length k (Hm.dR rows) (Hm.oR outs) rows4 outs4 r4) := ⟨ho4, hR4, hL4⟩
                have HN4 : Hid (Nxt w4 rows4.length k bX 0 (Hm.dR rows4) ∧ Hm.Ok rows4 outs4 k ∧ Hm.OrdRows rows4 0 1 rows4.length ∧ rows4.length ≤ 30) := ⟨hnx4, hok4, hL4.ord, by have h1 := hL4.few; have h2 := H2.out.2.2.2.1; omega⟩
                clear hnx4 hou4 hok4
                have hb4 := (ho4.block _ lxB (fun h => h)).trans HRb.out.2.2.2.2
                have y0 : w4.cell? ⟨bA, 0, none⟩ = some (.slice (some ⟨bN, 0, none⟩) n n) := cell_blk hb4
                have y1 : w4.cell? ⟨bA, 1, none⟩ = some (.slice (some ⟨bO, 0, none⟩) n n) := cell_blk hb4
                have ly : bA < w4.heap.size := World.block_lt_of_cell? w4 _ y0
                clear hR4 hL4 ho4 hb4 x0 x1
                go_wp2_with fail
                refine Calls.mono (make_ra (lB + 1) k _ (rowsB n bk) (outsB n ou) _ (HRb.out.1.keep (H4.out.1.alloc _)) HRb.out.2.1 (by have := HRb.out.2.2.1; omega) (by omega)) ?_
                rintro e w5 ⟨v5, rows5, outs5, r5, rfl, hR5, hL5, ho5⟩
                obtain ⟨e5, e6⟩ := Hm.lst_one H4.out.2.2 hL5 HRb.out.2.2.2.1
                rw [← e5, ← e6] at hR5
                clear e5 e6 hL5
                obtain ⟨dX, nX, dO, nO, rfl⟩ := hR5.form
                have H5 : Hid (Only (fun _ => False) w4 w5 ∧ Ra w5 lB (.agg #[.slice dX rows4.length nX, .slice dO outs4.length nO]) rows4 outs4 ∧ w5.heap[w4.heap.size]? = some (.cells #[.slice (some ⟨bX, 0, none⟩) rows4.length mX, .slice (some ⟨bY, 0, none⟩) rows4.length mO] 27 (0, 0))) := ⟨((Only.refl (fun _ => False) w4).alloc _).trans ho5, hR5.low (by simp; omega), (ho5.block _ (by simp) (fun h => h)).trans (heap_alloc_new w4 _)⟩
                have z0 : w5.cell? ⟨w4.heap.size, 0, none⟩ = some (.slice (some ⟨bX, 0, none⟩) rows4.length mX) := cell_blk H5.out.2.2
                have z1 : w5.cell? ⟨w4.heap.size, 1, none⟩ = some (.slice (some ⟨bY, 0, none⟩) rows4.length mO) := cell_blk H5.out.2.2
                have lz : w4.heap.size < w5.heap.size := World.block_lt_of_cell? w5 _ z0
                clear hR5 ho5 y0 y1
                go_wp2_with fail
                refine Calls.mono (same_auto _ _ _ _ rows4 outs4 _ (H4.out.2.1.keep (H5.out.1.alloc _)) (H5.out.2.1.keep ((Only.refl _ _).alloc _)) (Lst_len H4.out.2.2 (by omega))) ?_
                rintro e w6 ⟨rfl, ho6⟩
                have H6 : Hid (Only (fun _ => False) w5 w6 ∧ w6.heap[w4.heap.size]? = some (.cells #[.slice (some ⟨bX, 0, none⟩) rows4.length mX, .slice (some ⟨bY, 0, none⟩) rows4.length mO] 27 (0, 0)) ∧ Ra w6 Y.heap.size (.agg #[.slice (some ⟨bX, 0, none⟩) rows4.length mX, .slice (some ⟨bY, 0, none⟩) rows4.length mO]) rows4 outs4 ∧ Only (fun _ => False) w w6) := by
                  have h5 := ((Only.refl (fun _ => False) w5).alloc (.cells #[.slice dX rows4.length nX, .slice dO outs4.length nO] 27)).trans ho6
                  exact ⟨h5, (h5.block _ lz (fun h => h)).trans H5.out.2.2, H4.out.2.1.keep (H5.out.1.trans h5), H2.out.1.trans (HYL.out.1.trans (H4.out.1.trans (H5.out.1.trans h5)))⟩
                clear ho6 z0 z1
                go_wp2_with fail
                obtain ⟨M, hM⟩ : ∃ M, M = rows4.length := ⟨_, rfl⟩
                rw [← hM] at H6 HN4
                have HM0 : Hid (M = rows4.length) := hM
                clear hM
                have hM30 : M ≤ 30 := HN4.out.2.2.2
                obtain ⟨T0, hT0⟩ : ∃ Z, Z = w6.alloc (.cells #[.int .i64 0] 3) := ⟨_, rfl⟩
                rw [← hT0]
                obtain ⟨sB, hsB⟩ : ∃ l, l = w6.heap.size := ⟨_, rfl⟩
                rw [← hsB]
                have HT0 : Hid (T0.ownsRow sB 3 1 (.slice (some ⟨sB, 0, none⟩) 1 1) 1 (natI (List.range 1)) ∧ Only (fun _ => False) w6 T0 ∧ sB = w6.heap.size) := by
                  rw [hT0, hsB]
                  exact ⟨⟨rfl, Or.inr ⟨_, 1, _, rfl, Nat.le_refl _, heap_alloc_new w6 _, Nat.le_refl _, by unfold maxLen; omega, rfl, rfl⟩⟩, (Only.refl _ _).alloc _, rfl⟩
                clear hT0 hsB
                have HLT : Hid (∀ T, Only (fun b => sB ≤ b) T0 T → Only (fun _ => False) w6 T ∧ sB ≤ T.heap.size) := fun T ho => ⟨low_only HT0.out.2.1 ho (by rw [HT0.out.2.2]; exact Nat.le_refl _), by have h1 := ho.size; have h2 := HT0.out.2.1.size; have h3 := HT0.out.2.2; omega⟩
                go_loopg [23, 24] M (fun gh v23 v24 wr => ∃ (i m : Nat) (a : Option Addr) (c : Nat) (T : World), T = wr ∧ gh = M - i ∧ v23 = .slice a m c ∧ v24 = .int .i64 (i : Int) ∧ Hm.OrdRows (rows4.drop i) i m M ∧ T.ownsRow sB 3 1 (.slice a m c) m (natI (List.range m)) ∧ Only (fun b => sB ≤ b) T0 T)
                case atStart => exact ⟨0, 1, _, _, _, rfl, rfl, rfl, rfl, HN4.out.2.2.1, HT0.out.1, Only.refl _ _⟩
                case round =>
                  obtain ⟨i, m, a, c, T, hT, rfl, rfl, rfl, hOr, hown, hoT⟩ := hrel
                  subst hT
                  have hmM := ordrows_le _ _ _ _ hOr
                  have HT : Hid (Hm.OrdRows (rows4.drop i) i m M ∧ T.ownsRow sB 3 1 (.slice a m c) m (natI (List.range m)) ∧ Only (fun b => sB ≤ b) T0 T) := ⟨hOr, hown, hoT⟩
                  have HTL : Hid _ := HLT.out T hoT
                  clear hOr hown hoT
                  have q0 : T.cell? ⟨w4.heap.size, 0, none⟩ = some (.slice (some ⟨bX, 0, none⟩) M mX) := cell_blk ((HTL.out.1.block _ (Array.getElem?_eq_some_iff.1 H6.out.2.1).1 (fun h => h)).trans H6.out.2.1)
                  have q9 : T.cell? ⟨w4.heap.size, 1, none⟩ = some (.slice (some ⟨bY, 0, none⟩) M mO) := cell_blk ((HTL.out.1.block _ (Array.getElem?_eq_some_iff.1 H6.out.2.1).1 (fun h => h)).trans H6.out.2.1)
                  have l0 := World.block_lt_of_cell? T _ q0
                  by_cases hlt : i < m
                  · have s1 : (i : Int) < (m : Int) := by omega
                    obtain ⟨row, mE, hrow, hiM, hOrd, hOrR⟩ := ordrows_at rows4 i m M HM0.out HT.out.1 hlt
                    have s2 : (i : Int) < (M : Int) := by omega
                    have hmE := ordrows_le _ _ _ _ hOrR
                    obtain ⟨g, cap, ev, lg, _, hcell⟩ := own_cells HT.out.2.1 (by omega)
                    injection ev with ev1 ev2 ev3
                    subst ev1 ev3
                    have q1 := hcell i _ (natI_range_at hlt)
                    obtain ⟨a1, c1, q2, HQ1⟩ := HN4.out.1 i hiM
                    have HQ : Hid (∀ c, c < k → ∃ b o, a1 = some ⟨b, o, none⟩ ∧ w4.cell? ⟨b, o + c, none⟩ = some (.int .i64 (Hm.dR rows4 i c : Int)) ∧ Hm.dR rows4 i c < M) := HQ1
                    rw [Nat.zero_add] at q2
                    have q3 := keepC (H5.out.1.trans (H6.out.1.trans HTL.out.1)) q2
                    have l3 := World.block_lt_of_cell? T _ q3
                    have HR : Hid (rows4[i]? = some row ∧ Hm.Ord row m mE ∧ Hm.OrdRows (rows4.drop (i + 1)) (i + 1) mE M ∧ row.length = k) := ⟨hrow, hOrd, hOrR, HN4.out.2.1.rlen i row hrow⟩
                    clear q2 HQ1 hcell hOrd hOrR hrow
                    go_wp2_with fail
                    go_quiet (fail)
                    revert nq
                    intro na
                    go_wp2_with fail
                    clear q0 q1 q3 q9 l3
                    go_loopg [23, 183] k (fun gh v23 v183 wr => ∃ (j m2 : Nat) (a2 : Option Addr) (c2 : Nat) (V2 : World), V2 = wr ∧ gh = k - j ∧ j ≤ k ∧ v23 = .slice a2 m2 c2 ∧ v183 = .int .i64 (j : Int) ∧ 1 ≤ m2 ∧ Hm.Ord (row.drop j) m2 mE ∧ V2.ownsRow sB 3 1 (.slice a2 m2 c2) m2 (natI (List.range m2)) ∧ Only (fun b => sB ≤ b) T0 V2)
                    case atStart => exact ⟨0, m, _, _, _, rfl, rfl, Nat.zero_le _, rfl, rfl, by omega, HR.out.2.1, HT.out.2.1, HT.out.2.2.drewN _⟩
                    case round =>
                      obtain ⟨j, m2, a2, c2, V2, hV2, rfl, hjk, rfl, rfl, hm21, hOr, hown, hoT⟩ := hrel
                      subst hV2
                      have hmm := Hm.ord_le _ _ _ hOr
                      have HV2 : Hid (Hm.Ord (row.drop j) m2 mE ∧ V2.ownsRow sB 3 1 (.slice a2 m2 c2) m2 (natI (List.range m2)) ∧ Only (fun b => sB ≤ b) T0 V2) := ⟨hOr, hown, hoT⟩
                      have HVL2 : Hid _ := HLT.out V2 hoT
                      clear hOr hown hoT
                      by_cases hlk : j < k
                      · have t3 : (j : Int) < (k : Int) := by omega
                        obtain ⟨b2, o2, e2, v0, v9⟩ := HQ.out j hlk
                        subst e2
                        obtain ⟨tt, htt⟩ : ∃ tt, tt = Hm.dR rows4 i j := ⟨_, rfl⟩
                        rw [← htt] at v0 v9
                        have hOr2 : Hm.Ord (tt :: row.drop (j + 1)) m2 mE := by
                          have hl : j < row.length := by rw [HR.out.2.2.2]; exact hlk
                          have h1 := HV2.out.1
                          rw [List.drop_eq_getElem_cons hl] at h1
                          have h2 : tt = row[j] := by
                            rw [htt]
                            unfold Hm.dR
                            rw [HR.out.1]
                            show row[j]?.getD 0 = _
                            rw [List.getElem?_eq_getElem hl]
                            rfl
                          rw [h2]
                          exact h1
                        have HO2 : Hid (Hm.Ord (tt :: row.drop (j + 1)) m2 mE) := hOr2
                        clear htt hOr2
                        have v4 := keepC (H5.out.1.trans (H6.out.1.trans HVL2.out.1)) v0
                        have l4 := World.block_lt_of_cell? V2 _ v4
                        obtain ⟨g2, cap2, ev, lg2, _, hcell⟩ := own_cells HV2.out.2.1 (by omega)
                        injection ev with ev1 ev2 ev3
                        subst ev1 ev3
                        have HC2 : Hid (∀ s, s < m2 → V2.cell? ⟨g2, s, none⟩ = some (.int .i64 (s : Int))) := fun s hs => hcell s _ (natI_range_at hs)
                        clear hcell v0
                        go_wp2_with fail
                        go_loopg [28, 189] m2 (fun gh v28 v189 wr => ∃ (s : Nat) (b : Bool), V2 = wr ∧ gh = m2 - s ∧ s ≤ m2 ∧ v28 = .bool b ∧ v189 = .int .i64 (s : Int) ∧ b = decide (tt < s))
                        case atStart => exact ⟨0, false, rfl, rfl, Nat.zero_le _, rfl, rfl, (decide_eq_false (by omega)).symm⟩
                        case round =>
                          obtain ⟨s, b, hWW, rfl, hs, rfl, rfl, hb⟩ := hrel
                          subst hWW
                          by_cases hls : s < m2
                          · have t5 : (s : Int) < (m2 : Int) := by omega
                            have v5 := HC2.out s hls
                            cases b with
                            | true =>
                              have h1 : Hid (tt < s) := (of_decide_eq_true hb.symm : tt < s)
                              clear hb
                              go_wp2_with fail
                              go_roundg (m2 - (s + 1))
                              case measure => omega
                              case rel => exact ⟨s + 1, true, rfl, rfl, by omega, rfl, by go_num, (decide_eq_true (by have := h1.out; omega)).symm⟩
                            | false =>
                              have h1 : Hid (¬ tt < s) := (of_decide_eq_false hb.symm : ¬ tt < s)
                              clear hb
                              by_cases hst' : s = tt
                              · have t6 : ((s : Int) == (tt : Int)) = true := by rw [beq_iff_eq]; omega
                                have hst : Hid (s = tt) := hst'
                                clear hst'
                                go_wp2_with fail
                                go_roundg (m2 - (s + 1))
                                case measure => omega
                                case rel => exact ⟨s + 1, true, rfl, rfl, by omega, by simp, by go_num, (decide_eq_true (by have := hst.out; omega)).symm⟩
                              · have t6 : ((s : Int) == (tt : Int)) = false := by rw [beq_eq_false_iff_ne]; omega
                                have hst : Hid (¬ s = tt) := hst'
                                clear hst'
                                go_wp2_with fail
                                go_roundg (m2 - (s + 1))
                                case measure => omega
                                case rel => exact ⟨s + 1, false, rfl, rfl, by omega, by simp, by go_num, (decide_eq_false (by have := hst.out; have := h1.out; omega)).symm⟩
                          · have t5 : decide ((s : Int) < (m2 : Int)) = false := decide_eq_false (by omega)
                            have hsm : s = m2 := by omega
                            subst hsm
                            have hO2 := HO2.out
                            unfold Hm.Ord at hO2
                            cases b with
                            | true =>
                              have h1 : Hid (tt < s) := (of_decide_eq_true hb.symm : tt < s)
                              clear hb
                              have HO3 : Hid (Hm.Ord (row.drop (j + 1)) s mE) := by
                                rcases hO2 with h | h
                                · exact h.2
                                · have := h1.out; omega
                              clear hO2
                              go_wp2_with fail
                              go_roundg (k - (j + 1))
                              case measure => omega
                              case rel => exact ⟨j + 1, s, _, _, _, rfl, rfl, by omega, rfl, by go_num, hm21, HO3.out, HV2.out.2.1, HV2.out.2.2⟩
                            | false =>
                              have h1 : Hid (¬ tt < s) := (of_decide_eq_false hb.symm : ¬ tt < s)
                              clear hb
                              have HO3 : Hid (Hm.Ord (row.drop (j + 1)) (s + 1) mE ∧ tt = s) := by
                                rcases hO2 with h | h
                                · have := h1.out; omega
                                · exact ⟨h.2, h.1⟩
                              have e9 : tt = s := HO3.out.2
                              subst e9
                              clear hO2
                              have HVA : Hid ((V2.alloc (.cells #[.int .i64 (tt : Int)] 3)).heap[V2.heap.size]? = some (.cells #[.int .i64 (tt : Int)] 3 (0, 0)) ∧ (V2.alloc (.cells #[.int .i64 (tt : Int)] 3)).heap.size = V2.heap.size + 1) := ⟨heap_alloc_new V2 _, by simp⟩
                              have lsz := HVL2.out.2
                              go_wp2_with (at_builtin; (refine wpList_append_lies _ rfl _ _ 23 rfl sB 3 i3 (.int .i64 0) 1 8 Try.underlying23 g3 g30 g31 g32 rfl (by decide) _ tt (natI (List.range tt)) rfl (HV2.out.2.1.alloc _) ⟨V2.heap.size, 0, none⟩ 1 1 [.int .i64 (tt : Int)] rfl rfl (World.news_of_block (cs := #[.int .i64 (tt : Int)]) HVA.out.1) (fun u hu => by simp at hu; rcases hu with rfl; rfl) (by decide) (by unfold maxLen; omega) (by omega) (by rw [HVA.out.2]; omega) (V2.heap.size + 1) HVA.out.2 ?_; intro g5 cap5 w9 hown5 hgrow5 hat5 hlt5; have hoo : Only (fun b => sB ≤ b) V2 w9 := (((Only.refl (fun b => sB ≤ b) V2).alloc _)).grown hgrow5 (fun k hk => (own_own HV2.out.2.1 hk).1); have H9 : Hid (w9.ownsRow sB 3 1 (.slice (some ⟨g5, 0, none⟩) (tt + 1) cap5) (tt + 1) (natI (List.range (tt + 1))) ∧ Only (fun b => sB ≤ b) T0 w9) := ⟨by rw [List.range_succ, natI_snoc]; exact hown5, HV2.out.2.2.trans hoo⟩; clear hown5 hgrow5 hat5 hoo))
                              go_roundg (k - (j + 1))
                              case measure => omega
                              case rel => exact ⟨j + 1, tt + 1, _, _, _, rfl, rfl, by omega, rfl, by go_num, by omega, HO3.out.1, H9.out.1, H9.out.2⟩
                      · have t3 : decide ((j : Int) < (k : Int)) = false := decide_eq_false (by omega)
                        have hjk2 : k = j := by omega
                        have hm2 : m2 = mE := by
                          have h1 := HV2.out.1
                          rw [List.drop_of_length_le (by rw [HR.out.2.2.2]; omega)] at h1
                          exact h1
                        subst hm2
                        go_wp2_with fail
                        go_roundg (M - (i + 1))
                        case measure => omega
                        case rel => exact ⟨i + 1, m2, _, _, _, rfl, rfl, rfl, by go_num, HR.out.2.2.1, HV2.out.2.1, HV2.out.2.2⟩
                  · have s1 : decide ((i : Int) < (m : Int)) = false := decide_eq_false (by omega)
                    have hmm : m = M := ordrows_end rows4 i m M HT.out.1 hlt
                    subst hmm
                    have e7 : ((m : Int) == (m : Int)) = true := by simp
                    have HTT : Hid (T.ownsRow sB 3 1 (.slice a m c) m (natI (List.range m))) := HT.out.2.1
                    go_wp2_with fail
                    refine Calls.mono (count_any m (by omega) T) ?_
                    rintro e w7 ⟨a7, c7, rfl, ho7, hO7⟩
                    have H7 : Hid (w7.ownsRow T.heap.size 3 1 (.slice a7 m c7) m (natI (List.range m)) ∧ Only (fun _ => False) T w7) := ⟨ho7, hO7⟩
                    clear ho7 hO7 q0 q9 l0
                    go_wp2_with fail
                    refine Calls.mono (same_rng m sB T.heap.size a a7 c c7 w7 (own_stay HTT.out H7.out.2 (fun q _ h => h)) H7.out.1 (by omega)) ?_
                    rintro e w8 ⟨rfl, n8, rfl⟩
                    go_wp2_with fail
                    go_ret
                    exact ⟨rfl, (H6.out.2.2.2.trans (HTL.out.1.trans H7.out.2)).drewN _⟩
end Go.Proofs.Ytelifjeppegcmaa.leastNumbers
