/-
  waysBack: by each class, of each state, which ones lead to it.
-/
import Derived.Test.YtelifjeppegcmaaWb
import Derived.Test.YtelifjeppegcmaaSo2
namespace Go.Proofs.Ytelifjeppegcmaa
open Go.RowKit Go.Maps
set_option linter.unusedVariables false
set_option linter.unusedSimpArgs false
theorem made_nil (n : Nat) : madeCells #[.slice none 0 0] n = rowOf n (fun _ => .slice none 0 0) := by
  apply Array.ext
  · simp [rowOf, size_madeCells]
  · intro i h1 h2
    simp [madeCells, rowOf, Nat.mod_one]
theorem info25b : (Try.prog.info? 25).map (fun i => (i.zero, i.size, i.bytes)) = some (some (.slice none 0 0), 1, 24) := by kernel_rfl
theorem Bw.low {W : World} {base base' n bc : Nat} {bk : Nat → List Nat} {vs : Nat → Value} (h : Bw W base n bc bk vs) (hb : base' ≤ base) : Bw W base' n bc bk vs := ⟨h.blk, fun t ht => own_base (h.own t ht) hb, h.sep⟩
theorem Bw.keepT {S : Nat → Prop} {W W' : World} {base n bc : Nat} {bk : Nat → List Nat} {vs : Nat → Value} (h : Bw W base n bc bk vs) (ho : Only S W W') (hS : ∀ b, S b → ∃ cs, W.heap[b]? = some (.cells cs 25 (0, 0))) : Bw W' base n bc bk vs := by
  refine ⟨(ho.block bc (Array.getElem?_eq_some_iff.1 h.blk).1 (fun hs => ?_)).trans h.blk, fun t ht => own_stay (h.own t ht) ho (fun q hq hs => ?_), h.sep⟩
  · obtain ⟨cs, hc⟩ := hS _ hs
    rw [h.blk] at hc
    injection hc with hc
    injection hc with _ hc
    cases hc
  · obtain ⟨cs, hc⟩ := hS _ hs
    obtain ⟨_, cur, h2⟩ := own_own (h.own t ht) hq
    rw [h2] at hc
    injection hc with hc
    injection hc with _ hc
    cases hc
/-- the ways back by the first k classes. -/
def Bks (W : World) (base n nc k bb : Nat) (vs : Nat → Value) (nx : Nat → Nat → Nat) : Prop :=
  W.heap[bb]? = some (.cells (rowOf nc vs) 25 (0, 0)) ∧ ∀ c, c < k → ∃ bc vt, vs c = .slice (some ⟨bc, 0, none⟩) n n ∧ base ≤ bc ∧ Bw W base n bc (bkTo (fun s => nx s c) n) vt
/-- the ways on, in memory. -/
def Nxt (W : World) (n nc bn on : Nat) (nx : Nat → Nat → Nat) : Prop := ∀ s, s < n → ∃ a c, W.cell? ⟨bn, on + s, none⟩ = some (.slice a nc c) ∧ ∀ k, k < nc → ∃ b o, a = some ⟨b, o, none⟩ ∧ W.cell? ⟨b, o + k, none⟩ = some (.int .i64 (nx s k : Int)) ∧ nx s k < n
theorem Nxt.keep {w W : World} {n nc bn on : Nat} {nx : Nat → Nat → Nat} (h : Nxt w n nc bn on nx) (ho : Only (fun _ => False) w W) : Nxt W n nc bn on nx := fun s hs => by
  obtain ⟨a, c, h1, h2⟩ := h s hs
  have kk : ∀ b i v, w.cell? ⟨b, i, none⟩ = some v → W.cell? ⟨b, i, none⟩ = some v := fun b i v hv => (World.cell?_of_block (a := ⟨b, i, none⟩) (ho.block b (World.block_lt_of_cell? w _ hv) (fun h => h))).trans hv
  refine ⟨a, c, kk _ _ _ h1, fun k hk => ?_⟩
  obtain ⟨b, o, e, e1, e2⟩ := h2 k hk
  exact ⟨b, o, e, kk _ _ _ e1, e2⟩
set_option maxRecDepth 100000 in
set_option maxHeartbeats 8000000 in
theorem waysBack_any (aO : Option Addr) (nO cO n nc bn on cN : Nat) (nx : Nat → Nat → Nat) (w : World) (h0 : 0 < n) (hn : n ≤ 100000) (hc : nc ≤ 100000) (hN : Nxt w n nc bn on nx) :
    Calls Try.prog 27 #[.agg #[.slice (some ⟨bn, on, none⟩) n cN, .slice aO nO cO]] w fun e w' => ∃ bb vs, e = .returned (.slice (some ⟨bb, 0, none⟩) nc nc) ∧ w.heap.size ≤ bb ∧ Bks w' w.heap.size n nc nc bb vs nx ∧ Only (fun _ => False) w w' := by
  have hmk1 := fun (w : World) => run_make_row' (P := Try.prog) 54 25 (.slice none 0 0) 24 Try.underlying54 info25b rfl .i64 .i64 nc (by omega) (by omega) w
  have hmk2 := fun (w : World) => run_make_row' (P := Try.prog) 25 23 (.slice none 0 0) 24 Try.underlying25 info23b rfl .i64 .i64 n (by omega) (by omega) w
  obtain ⟨i3, g3, g30, g31, g32⟩ := info_parts info3b
  have HN : Hid (Nxt w n nc bn on nx) := hN
  obtain ⟨a0, c0, hc0, _⟩ := hN 0 h0
  rw [Nat.add_zero] at hc0
  have lbn := World.block_lt_of_cell? w _ hc0
  have t0 : (0 : Int) < (n : Int) := by omega
  clear hN
  go_enter Try.func27, Try.ntmps27
  go_wp2_with fail
  rw [made_nil]
  obtain ⟨W, hW⟩ : ∃ W, W = (w.alloc (.cells #[.slice (some ⟨bn, on, none⟩) n cN, .slice aO nO cO] 27)).alloc (.cells (rowOf nc (fun _ => .slice none 0 0)) 25) := ⟨_, rfl⟩
  rw [← hW]
  have HW : Hid (W.heap[w.heap.size]? = some (.cells #[.slice (some ⟨bn, on, none⟩) n cN, .slice aO nO cO] 27 (0, 0)) ∧ W.heap[w.heap.size + 1]? = some (.cells (rowOf nc (fun _ => .slice none 0 0)) 25 (0, 0)) ∧ Only (fun _ => False) w W ∧ W.heap.size = w.heap.size + 2) := by
    rw [hW]
    refine ⟨bx_made w _ _, ?_, ((Only.refl _ _).alloc _).alloc _, by simp⟩
    have := heap_alloc_new (w.alloc (.cells #[.slice (some ⟨bn, on, none⟩) n cN, .slice aO nO cO] 27)) (.cells (rowOf nc (fun _ => .slice none 0 0)) 25)
    rw [show (w.alloc (.cells #[.slice (some ⟨bn, on, none⟩) n cN, .slice aO nO cO] 27)).heap.size = w.heap.size + 1 by simp] at this
    exact this
  clear hW hmk1 hc0
  go_loopg [16] nc (fun gh v wr => ∃ (c : Nat) (vs : Nat → Value) (V : World), V = wr ∧ gh = nc - c ∧ c ≤ nc ∧ v = .int .i64 (c : Int) ∧ Bks V w.heap.size n nc c (w.heap.size + 1) vs nx ∧ Only (fun b => b = w.heap.size + 1) W V)
  case atStart => exact ⟨0, _, _, rfl, rfl, Nat.zero_le _, rfl, ⟨HW.out.2.1, fun c h => by omega⟩, Only.refl _ _⟩
  case round =>
    obtain ⟨c, vs, V, hV, rfl, hcl, rfl, hB, hoV⟩ := hrel
    subst hV
    have HV : Hid (Bks V w.heap.size n nc c (w.heap.size + 1) vs nx ∧ Only (fun b => b = w.heap.size + 1) W V) := ⟨hB, hoV⟩
    have lV := hoV.size
    have hWs := HW.out.2.2.2
    rw [hWs] at lV
    clear hB hoV hWs
    by_cases hlt : c < nc
    · have t1 : (c : Int) < (nc : Int) := by omega
      have HP : Hid (V.heap[w.heap.size]? = some (.cells #[.slice (some ⟨bn, on, none⟩) n cN, .slice aO nO cO] 27 (0, 0))) := (HV.out.2.block _ (Array.getElem?_eq_some_iff.1 HW.out.1).1 (by omega)).trans HW.out.1
      have p0 : V.cell? ⟨w.heap.size, 0, none⟩ = some (.slice (some ⟨bn, on, none⟩) n cN) := cell_blk HP.out
      have b0 : V.cell? ⟨w.heap.size + 1, c, none⟩ = some (vs c) := by rw [cell_blk HV.out.1.1, rowOf_at _ hlt]
      have f0 : ∀ x, V.frozen? ⟨w.heap.size + 1, x, none⟩ = false := fun x => fz_blk HV.out.1.1 x
      have lbb : w.heap.size + 1 < V.heap.size := by omega
      have lpp : w.heap.size < V.heap.size := by omega
      have hVA : (V.alloc (.cells (madeCells #[.slice none 0 0] n) 23)).heap[w.heap.size + 1]? = some (.cells (rowOf nc vs) 25 (0, 0)) := (Below.heap_alloc _ _ _ lbb).trans HV.out.1.1
      have f1 : ∀ x, (V.alloc (.cells (madeCells #[.slice none 0 0] n) 23)).frozen? ⟨w.heap.size + 1, x, none⟩ = false := fun x => fz_blk hVA x
      have b1 : (V.alloc (.cells (madeCells #[.slice none 0 0] n) 23)).cell? ⟨w.heap.size + 1, c, none⟩ = some (vs c) := by rw [cell_blk hVA, rowOf_at _ hlt]
      clear hVA
      go_wp2_with fail
      rw [made_nil]
      obtain ⟨U, hU⟩ : ∃ U, U = (V.setCell ⟨w.heap.size + 1, c, none⟩ (.slice (some ⟨V.heap.size, 0, none⟩) n n)).alloc (.cells (rowOf n (fun _ => .slice none 0 0)) 23) := ⟨_, rfl⟩
      rw [← hU]
      have HU : Hid (U.heap[V.heap.size]? = some (.cells (rowOf n (fun _ => .slice none 0 0)) 23 (0, 0)) ∧ U.heap[w.heap.size + 1]? = some (.cells (rowOf nc (fun j => if j = c then .slice (some ⟨V.heap.size, 0, none⟩) n n else vs j)) 25 (0, 0)) ∧ Only (fun b => b = w.heap.size + 1) V U ∧ U.heap.size = V.heap.size + 1) := by
        rw [hU]
        have hsv : (V.setCell ⟨w.heap.size + 1, c, none⟩ (.slice (some ⟨V.heap.size, 0, none⟩) n n)).heap.size = V.heap.size := by simp [World.setCell]
        refine ⟨?_, ?_, ((Only.refl (fun b => b = w.heap.size + 1) V).setCell (p := ⟨w.heap.size + 1, c, none⟩) rfl _).alloc _, by simp [World.setCell]⟩
        · have := heap_alloc_new (V.setCell ⟨w.heap.size + 1, c, none⟩ (.slice (some ⟨V.heap.size, 0, none⟩) n n)) (.cells (rowOf n (fun _ => .slice none 0 0)) 23)
          rw [hsv] at this
          exact this
        · refine (Below.heap_alloc _ _ _ (by rw [hsv]; exact lbb)).trans ?_
          rw [heap_setCell_at HV.out.1.1, rowOf_set]
      have HOU : Hid (Only (fun _ => False) w U) := (((HW.out.2.2.1.mono (S' := fun b => b = w.heap.size + 1) (fun _ h => h.elim)).trans HV.out.2).trans HU.out.2.2.1).old (fun g hg => Or.inl (by omega))
      clear hU hmk2 p0 b0 f0 f1 b1
      go_loopg [29] n (fun gh v wr => ∃ (s : Nat) (vt : Nat → Value) (Y : World), Y = wr ∧ gh = n - s ∧ s ≤ n ∧ v = .int .i64 (s : Int) ∧ Bw Y (V.heap.size + 1) n V.heap.size (bkTo (fun s => nx s c) s) vt ∧ Only (fun b => b = V.heap.size) U Y)
      case atStart => exact ⟨0, _, _, rfl, rfl, Nat.zero_le _, rfl, Bw.start HU.out.1, Only.refl _ _⟩
      case round =>
        obtain ⟨s, vt, Y, hY, rfl, hs, rfl, hBw, hoY⟩ := hrel
        subst hY
        have HY : Hid (Bw Y (V.heap.size + 1) n V.heap.size (bkTo (fun s => nx s c) s) vt ∧ Only (fun b => b = V.heap.size) U Y) := ⟨hBw, hoY⟩
        have HYw : Hid (Only (fun _ => False) w Y) := ((HOU.out.mono (S' := fun b => b = V.heap.size) (fun _ h => h.elim)).trans hoY).old (fun g hg => Or.inl (by omega))
        have lY : V.heap.size + 1 ≤ Y.heap.size := by have h1 := hoY.size; rw [HU.out.2.2.2] at h1; exact h1
        clear hBw hoY
        by_cases hlt2 : s < n
        · have t3 : (s : Int) < (n : Int) := by omega
          obtain ⟨a1, c1, n1, n2⟩ := (HN.out.keep HYw.out) s hlt2
          obtain ⟨b2, o2, rfl, n3, n4⟩ := n2 c hlt
          clear n2
          obtain ⟨tt, htt⟩ : ∃ tt, tt = nx s c := ⟨_, rfl⟩
          have HT : Hid (tt = nx s c) := htt
          rw [← htt] at n3 n4
          clear htt
          have t4 : (tt : Int) < (n : Int) := by omega
          obtain ⟨m, hm⟩ : ∃ m, m = (bkTo (fun s => nx s c) s tt).length := ⟨_, rfl⟩
          have hml : m ≤ s := by rw [hm]; exact bkTo_len _ _ _
          obtain ⟨av, cv, ev⟩ := own_form (HY.out.1.own tt n4)
          rw [← hm] at ev
          have HM : Hid (m = (bkTo (fun s => nx s c) s tt).length ∧ vt tt = .slice av m cv) := ⟨hm, ev⟩
          have HOWN : Hid (Y.ownsRow (V.heap.size + 1) 3 1 (.slice av m cv) m (nums (bkTo (fun s => nx s c) s tt)).toList) := by have := HY.out.1.own tt n4; rw [← hm, ev] at this; exact this
          have HBB : Hid (Y.heap[w.heap.size + 1]? = some (.cells (rowOf nc (fun j => if j = c then .slice (some ⟨V.heap.size, 0, none⟩) n n else vs j)) 25 (0, 0))) := (HY.out.2.block _ (Array.getElem?_eq_some_iff.1 HU.out.2.1).1 (by omega)).trans HU.out.2.1
          have q1 : Y.cell? ⟨w.heap.size + 1, c, none⟩ = some (.slice (some ⟨V.heap.size, 0, none⟩) n n) := by rw [cell_blk HBB.out, rowOf_at _ hlt, if_pos rfl]
          have q2 : Y.cell? ⟨V.heap.size, tt, none⟩ = some (.slice av m cv) := by rw [cell_blk HY.out.1.blk, rowOf_at _ n4, ev]
          have q3 : ∀ x, Y.frozen? ⟨V.heap.size, x, none⟩ = false := fun x => fz_blk HY.out.1.blk x
          have l1 := World.block_lt_of_cell? Y _ n1
          have l2 := World.block_lt_of_cell? Y _ n3
          have l3 := World.block_lt_of_cell? Y _ q1
          have l4 := World.block_lt_of_cell? Y _ q2
          clear hm ev
          go_wp2_with fail
          go_region_law (refine step_append_lies _ (by rfl) _ _ _ (by rfl) (V.heap.size + 1) 3 i3 _ 1 8 Try.underlying23 g3 g30 g31 g32 rfl (by decide) (.slice av m cv) m (nums (bkTo (fun s => nx s c) s tt)).toList (by rfl) (by exact HOWN.out.alloc _) ⟨Y.heap.size, 0, none⟩ 1 1 [.int .i64 (s : Int)] (by rfl) rfl (World.news_of_block (cs := #[.int .i64 (s : Int)]) (heap_alloc_new Y (.cells #[.int .i64 (s : Int)] 3))) (fun u hu => by simp at hu; rcases hu with rfl; rfl) (by decide) (by unfold maxLen; omega) (by omega) (by simp; omega) (Y.heap.size + 1) (by simp) ?_; intro g5 cap5 w5 hown5 hgrow5 hat5 hlt5; have HO5 : Hid (Only (fun b => (Value.slice av m cv).ownBlock = some b) Y w5 ∧ w5.ownsRow (V.heap.size + 1) 3 1 (.slice (some ⟨g5, 0, none⟩) (m + 1) cap5) (m + 1) ((nums (bkTo (fun s => nx s c) s tt)).toList ++ [.int .i64 (s : Int)]) ∧ ((Value.slice av m cv).ownBlock = some g5 ∨ g5 = Y.heap.size + 1)) := ⟨(((Only.refl (fun b => (Value.slice av m cv).ownBlock = some b) Y).alloc _).drew).grown hgrow5 (fun k hk => hk), hown5, hat5⟩; have hsz : ∀ q, (Value.slice av m cv).ownBlock = some q → V.heap.size + 1 ≤ q := (fun q hq => (own_own HOWN.out hq).1); have e1 : w5.heap[w.heap.size + 1]? = Y.heap[w.heap.size + 1]? := HO5.out.1.block _ l3 (fun h => by have := hsz _ h; omega); have e2 : w5.heap[V.heap.size]? = Y.heap[V.heap.size]? := HO5.out.1.block _ l4 (fun h => by have := hsz _ h; omega); have r1 : w5.cell? ⟨w.heap.size + 1, c, none⟩ = some (.slice (some ⟨V.heap.size, 0, none⟩) n n) := (World.cell?_of_block (a := ⟨w.heap.size + 1, c, none⟩) e1).trans q1; have r2 : w5.cell? ⟨V.heap.size, tt, none⟩ = some (.slice av m cv) := (World.cell?_of_block (a := ⟨V.heap.size, tt, none⟩) e2).trans q2; have r3 : ∀ x, w5.frozen? ⟨V.heap.size, x, none⟩ = false := (fun x => fz_blk (e2.trans HY.out.1.blk) x); have l5 : w.heap.size + 1 < w5.heap.size := Nat.lt_of_lt_of_le l3 HO5.out.1.size; have l6 : V.heap.size < w5.heap.size := Nat.lt_of_lt_of_le l4 HO5.out.1.size; clear hown5 hgrow5 hat5 hsz e1 e2)
          all_goals
            go_wp2_with fail
            go_roundg (n - (s + 1))
            case measure => omega
            case rel =>
              obtain ⟨k1, k2, k3⟩ := HO5.out
              obtain ⟨m1, m2⟩ := HM.out
              rw [← m2] at k1 k3
              rw [m1] at k2
              obtain ⟨s1, s2⟩ := HY.out.1.step n4 k1 k2 k3 (Nat.le_succ _)
              rw [← m1] at s1 s2
              refine ⟨s + 1, _, _, rfl, rfl, by omega, by go_num, by rw [bkTo_succ, ← HT.out]; exact s1, ?_⟩
              refine ((HY.out.2.mono (S' := fun b => V.heap.size + 1 ≤ b ∨ b = V.heap.size) (fun _ h => Or.inr h)).trans (s2.mono (fun b hb => hb.elim (fun h => Or.inl (own_own (HY.out.1.own tt n4) h).1) Or.inr))).old (fun g hg => hg.elim (fun h => Or.inl (by rw [HU.out.2.2.2]; exact h)) Or.inr)
        · have t4 : decide ((s : Int) < (n : Int)) = false := decide_eq_false (by omega)
          obtain rfl : s = n := by omega
          go_wp2_with fail
          go_roundg (nc - (c + 1))
          case measure => omega
          case rel =>
            have hbb : Only (fun b => b = w.heap.size + 1 ∨ b = V.heap.size) V Y := (HU.out.2.2.1.mono (fun b h => Or.inl h)).trans (HY.out.2.mono (fun b h => Or.inr h))
            have hbb2 : Only (fun b => b = w.heap.size + 1) V Y := hbb.old (fun g hg => hg.elim Or.inr (fun h => Or.inl (by omega)))
            refine ⟨c + 1, _, _, rfl, rfl, by omega, by go_num, ⟨(HY.out.2.block _ (Array.getElem?_eq_some_iff.1 HU.out.2.1).1 (by omega)).trans HU.out.2.1, fun c' hc' => ?_⟩, HV.out.2.trans hbb2⟩
            by_cases e : c' = c
            · subst e
              exact ⟨V.heap.size, vt, if_pos rfl, by omega, HY.out.1.low (by omega)⟩
            · obtain ⟨bc, vt2, j1, j2, j3⟩ := HV.out.1.2 c' (by omega)
              exact ⟨bc, vt2, (if_neg e).trans j1, j2, j3.keepT hbb2 (fun b hb => by rw [hb]; exact ⟨_, HV.out.1.1⟩)⟩
    · have t2 : decide ((c : Int) < (nc : Int)) = false := decide_eq_false (by omega)
      obtain rfl : c = nc := by omega
      go_wp2_with fail
      go_ret
      refine ⟨w.heap.size + 1, vs, rfl, by omega, HV.out.1, ?_⟩
      exact ((HW.out.2.2.1.mono (S' := fun b => b = w.heap.size + 1) (fun _ h => h.elim)).trans HV.out.2).old (fun g hg => Or.inl (by omega))
end Go.Proofs.Ytelifjeppegcmaa
