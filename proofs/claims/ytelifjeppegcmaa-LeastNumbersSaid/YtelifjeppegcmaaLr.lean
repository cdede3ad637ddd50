/-
  The reference's Least: states told apart until nothing changes; the least automaton.
-/
import Derived.Test.YtelifjeppegcmaaMx
import Derived.Test.YtelifjeppegcmaaNd
import Derived.Test.YtelifjeppegcmaaGr0
import Derived.Test.YtelifjeppegcmaaWv
namespace Go.Proofs.Ytelifjeppegcmaa
open Go.RowKit Go.Maps
set_option linter.unusedVariables false
set_option linter.unusedSimpArgs false
theorem info45b : (Try.prog.info? 45).map (fun i => (i.zero, i.size, i.bytes)) = some (some (.slice none 0 0), 1, 24) := by kernel_rfl
theorem info4b : (Try.prog.info? 4).map (fun i => (i.zero, i.size, i.bytes)) = some (some (.bool false), 1, 1) := by kernel_rfl
/-- by their Out alone. -/
def Ao (O : Nat → Nat) (i k : Nat) : Bool := decide (O i ≠ O k)
theorem ap_start {n k : Nat} {d : Nat → Nat → Nat} {O : Nat → Nat} : Hm.Ap n k d O (Ao O) := ⟨fun i j _ _ h he => by
  unfold Ao at h
  exact (of_decide_eq_true h) he.out, fun i j _ _ h => by
  unfold Ao at h
  have := of_decide_eq_false h
  omega⟩
def Ak (O : Nat → Nat) (i k x y : Nat) : Bool := if x = i then (decide (y < k) && Ao O i y) else Ao O x y
/-- nothing more can be told apart by one class. -/
def Clo (n nc : Nat) (nx : Nat → Nat → Nat) (A : Nat → Nat → Bool) : Prop := ∀ i j c, i < n → j < n → c < nc → A i j = false → A (nx i c) (nx j c) = false
/-- what holds while states are told apart. -/
structure Rf (n nc : Nat) (nx : Nat → Nat → Nat) (O : Nat → Nat) (N : Nat) (A : Nat → Nat → Bool) (ch : Bool) (P : Nat → Nat → Prop) : Prop where
  ap : Hm.Ap n nc nx O A
  le : Hm.cntF n A ≤ N
  lt : ch = true → Hm.cntF n A < N
  cl : ch = false → ∀ i j, P i j → i < n → j < n → ∀ c, c < nc → A i j = false → A (nx i c) (nx j c) = false
theorem Rf.mono {n nc N : Nat} {nx : Nat → Nat → Nat} {O : Nat → Nat} {A : Nat → Nat → Bool} {ch : Bool} {P P' : Nat → Nat → Prop} (h : Rf n nc nx O N A ch P) (hP : ∀ i j, i < n → j < n → P' i j → P i j) : Rf n nc nx O N A ch P' := ⟨h.ap, h.le, h.lt, fun hc i j hp hi hj => h.cl hc i j (hP i j hi hj hp) hi hj⟩
theorem Rf.put {n nc N : Nat} {nx : Nat → Nat → Nat} {O : Nat → Nat} {A : Nat → Nat → Bool} {ch : Bool} {P P' : Nat → Nat → Prop} {i j c : Nat} (h : Rf n nc nx O N A ch P) (hd : ∀ s c, s < n → c < nc → nx s c < n) (hi : i < n) (hj : j < n) (hc : c < nc) (hA : A (nx i c) (nx j c) = true) (h0 : A i j = false) : Rf n nc nx O N (Hm.put A i j) true P' := by
  have := Hm.cntF_lt hi hj h0
  have h2 := h.le
  exact ⟨h.ap.put hd hi hj hc hA, by omega, fun _ => by omega, fun h => by cases h⟩
/-- the first one that is not told apart from x. -/
def Fo (A : Nat → Nat → Bool) (x y : Nat) : Prop := y ≤ x ∧ A x y = false ∧ ∀ k, k ≤ x → A x k = false → y ≤ k
theorem one_set {W : World} {oB n i v : Nat} {f : Nat → Nat} (h : W.heap[oB]? = some (.cells (rowOf n (fun x => .int .i64 ((f x : Nat) : Int))) 3 (0, 0))) : (W.setCell ⟨oB, i, none⟩ (.int .i64 (v : Int))).heap[oB]? = some (.cells (rowOf n (fun x => .int .i64 (((if x = i then v else f x) : Nat) : Int))) 3 (0, 0)) := by
  rw [heap_setCell_at h, rowOf_set]
  congr 2
  refine rowOf_congr (fun x hx => ?_)
  by_cases e : x = i
  · rw [if_pos e, if_pos e]
  · rw [if_neg e, if_neg e]
set_option maxRecDepth 100000 in
set_option maxHeartbeats 16000000 in
theorem refLeast_any (n nc bn on cN bo oo co : Nat) (nx : Nat → Nat → Nat) (O : Nat → Nat) (w : World) (h0 : 0 < n) (hn : n ≤ 100000) (hc : nc ≤ 100000) (hN : Nxt w n nc bn on nx) (hO : ∀ s, s < n → w.cell? ⟨bo, oo + s, none⟩ = some (.int .u32 (O s : Int))) :
    Calls Try.prog 14 #[.agg #[.slice (some ⟨bn, on, none⟩) n cN, .slice (some ⟨bo, oo, none⟩) n co]] w fun e w' => ∃ v rows outs r, e = .returned v ∧ Ra w' w.heap.size v rows outs ∧ Hm.Lst n nc nx O rows outs r ∧ Only (fun _ => False) w w' := by
  have HN : Hid (Nxt w n nc bn on nx) := hN
  have HO : Hid (∀ s, s < n → w.cell? ⟨bo, oo + s, none⟩ = some (.int .u32 (O s : Int))) := hO
  have HD : Hid (∀ s c, s < n → c < nc → nx s c < n) := fun s c hs hcc => by
    obtain ⟨a, c', _, h2⟩ := hN s hs
    obtain ⟨_, _, _, _, h3⟩ := h2 c hcc
    exact h3
  have t00 : (0 : Int) < (n : Int) := by omega
  clear hN hO
  have hmk1 := fun (w : World) => run_make_row' (P := Try.prog) 44 45 (.slice none 0 0) 24 Try.underlying44 info45b rfl .i64 .i64 n (by omega) (by omega) w
  have hmk2 := fun (w : World) => run_make_row' (P := Try.prog) 45 4 (.bool false) 1 Try.underlying45 info4b rfl .i64 .i64 n (by omega) (by omega) w
  have HT : Hid _ := two_at w (.cells #[.slice (some ⟨bn, on, none⟩) n cN, .slice (some ⟨bo, oo, none⟩) n co] 27) (.cells #[.slice none 0 0, .slice none 0 0] 27)
  go_enter Try.func14, Try.ntmps14
  go_wp2_with fail
  rw [made_nil]
  obtain ⟨W0, hW0⟩ : ∃ W0, W0 = ((w.alloc (.cells #[.slice (some ⟨bn, on, none⟩) n cN, .slice (some ⟨bo, oo, none⟩) n co] 27)).alloc (.cells #[.slice none 0 0, .slice none 0 0] 27)).alloc (.cells (rowOf n (fun _ => .slice none 0 0)) 45) := ⟨_, rfl⟩
  rw [← hW0]
  have HW0 : Hid (W0.heap.size = w.heap.size + 2 + 1 ∧ W0.heap[w.heap.size]? = some (.cells #[.slice (some ⟨bn, on, none⟩) n cN, .slice (some ⟨bo, oo, none⟩) n co] 27 (0, 0)) ∧ W0.heap[w.heap.size + 1]? = some (.cells #[.slice none 0 0, .slice none 0 0] 27 (0, 0)) ∧ Mx W0 (w.heap.size + 2) n 0 (Ao O) ∧ Only (fun _ => False) w W0) := by
    rw [hW0]
    obtain ⟨q1, q2, q3, q4⟩ := HT.out
    refine ⟨by simp, (Below.heap_alloc _ _ _ (by rw [q4]; omega)).trans q1, (Below.heap_alloc _ _ _ (by rw [q4]; omega)).trans q2, ⟨?_, fun i hi => by omega⟩, q3.alloc _⟩
    have := heap_alloc_new ((w.alloc (.cells #[.slice (some ⟨bn, on, none⟩) n cN, .slice (some ⟨bo, oo, none⟩) n co] 27)).alloc (.cells #[.slice none 0 0, .slice none 0 0] 27)) (.cells (rowOf n (fun _ => .slice none 0 0)) 45)
    rw [q4] at this
    exact this
  clear hW0 hmk1
  have HLO : Hid (∀ V, Only (fun b => w.heap.size + 2 ≤ b) W0 V → Only (fun _ => False) w V ∧ V.heap[w.heap.size]? = some (.cells #[.slice (some ⟨bn, on, none⟩) n cN, .slice (some ⟨bo, oo, none⟩) n co] 27 (0, 0)) ∧ V.heap[w.heap.size + 1]? = some (.cells #[.slice none 0 0, .slice none 0 0] 27 (0, 0))) := fun V ho => ⟨low_only HW0.out.2.2.2.2 ho (by omega), (ho.block _ (Array.getElem?_eq_some_iff.1 HW0.out.2.1).1 (by omega)).trans HW0.out.2.1, (ho.block _ (Array.getElem?_eq_some_iff.1 HW0.out.2.2.1).1 (by omega)).trans HW0.out.2.2.1⟩
  go_loopg [5] n (fun gh v wr => ∃ (i : Nat) (V : World), V = wr ∧ gh = n - i ∧ i ≤ n ∧ v = .int .i64 (i : Int) ∧ Mx V (w.heap.size + 2) n i (Ao O) ∧ V.heap.size = w.heap.size + 2 + 1 + i ∧ Only (fun b => w.heap.size + 2 ≤ b) W0 V)
  case atStart => exact ⟨0, _, rfl, rfl, Nat.zero_le _, rfl, HW0.out.2.2.2.1, HW0.out.1, Only.refl _ _⟩
  case round =>
    obtain ⟨i, V, hV, rfl, hi, rfl, hMx, hVs, hoV⟩ := hrel
    subst hV
    have HV : Hid (Mx V (w.heap.size + 2) n i (Ao O) ∧ V.heap.size = w.heap.size + 2 + 1 + i ∧ Only (fun b => w.heap.size + 2 ≤ b) W0 V) := ⟨hMx, hVs, hoV⟩
    clear hMx hoV
    by_cases hlt : i < n
    · have t1 : (i : Int) < (n : Int) := by omega
      have lB : w.heap.size + 2 < V.heap.size := by omega
      have hVA : (V.alloc (.cells (madeCells #[.bool false] n) 4)).heap[w.heap.size + 2]? = some (.cells (rowOf n (mxV (w.heap.size + 2) n i)) 45 (0, 0)) := (Below.heap_alloc _ _ _ lB).trans HV.out.1.top
      have f1 : ∀ x, (V.alloc (.cells (madeCells #[.bool false] n) 4)).frozen? ⟨w.heap.size + 2, x, none⟩ = false := fun x => fz_blk hVA x
      have b1 : (V.alloc (.cells (madeCells #[.bool false] n) 4)).cell? ⟨w.heap.size + 2, i, none⟩ = some (.slice none 0 0) := by
        rw [cell_blk hVA, rowOf_at _ hlt]
        unfold mxV
        rw [if_neg (Nat.lt_irrefl _)]
      have f0 : ∀ x, V.frozen? ⟨w.heap.size + 2, x, none⟩ = false := fun x => fz_blk HV.out.1.top x
      have b0 : V.cell? ⟨w.heap.size + 2, i, none⟩ = some (.slice none 0 0) := by
        rw [cell_blk HV.out.1.top, rowOf_at _ hlt]
        unfold mxV
        rw [if_neg (Nat.lt_irrefl _)]
      clear hVA hVs
      go_wp2_with fail
      rw [made_bools]
      obtain ⟨U, hU⟩ : ∃ U, U = (V.setCell ⟨w.heap.size + 2, i, none⟩ (.slice (some ⟨V.heap.size, 0, none⟩) n n)).alloc (.cells (rowOf n (fun _ => .bool false)) 4) := ⟨_, rfl⟩
      rw [← hU]
      have HU : Hid (Mx U (w.heap.size + 2) n (i + 1) (Ak O i 0) ∧ U.heap.size = w.heap.size + 2 + 1 + i + 1 ∧ Only (fun b => w.heap.size + 2 ≤ b) W0 U) := by
        have hsv : (V.setCell ⟨w.heap.size + 2, i, none⟩ (.slice (some ⟨V.heap.size, 0, none⟩) n n)).heap.size = V.heap.size := by simp [World.setCell]
        have hvs := HV.out.2.1
        rw [hU]
        refine ⟨⟨?_, fun j hj => ?_⟩, by rw [← hvs, ← hsv]; simp, ((HV.out.2.2.setCell (p := ⟨w.heap.size + 2, i, none⟩) (Nat.le_refl _) _).alloc _)⟩
        · refine (Below.heap_alloc _ _ _ (by rw [hsv]; exact lB)).trans ?_
          rw [heap_setCell_at HV.out.1.top, rowOf_set]
          congr 2
          refine rowOf_congr (fun y hy => ?_)
          unfold mxV
          by_cases e : y = i
          · subst e
            rw [if_pos rfl, if_pos (by omega), hvs]
          · rw [if_neg e]
            by_cases e2 : y < i
            · rw [if_pos e2, if_pos (by omega)]
            · rw [if_neg e2, if_neg (by omega)]
        · by_cases e : j = i
          · subst e
            have := heap_alloc_new (V.setCell ⟨w.heap.size + 2, j, none⟩ (.slice (some ⟨V.heap.size, 0, none⟩) n n)) (.cells (rowOf n (fun _ => .bool false)) 4)
            rw [hsv, hvs] at this
            rw [hvs, this]
            congr 2
            refine rowOf_congr (fun y hy => ?_)
            unfold Ak
            simp
          · have hji : j < i := by omega
            have e1 : (V.setCell ⟨w.heap.size + 2, i, none⟩ (.slice (some ⟨V.heap.size, 0, none⟩) n n)).heap[w.heap.size + 2 + 1 + j]? = V.heap[w.heap.size + 2 + 1 + j]? := Below.heap_setCell _ _ _ _ (by show w.heap.size + 2 + 1 + j ≠ w.heap.size + 2; omega)
            refine (Below.heap_alloc _ _ _ (by rw [hsv]; omega)).trans (e1.trans ((HV.out.1.row j hji).trans ?_))
            congr 2
            refine rowOf_congr (fun y hy => ?_)
            unfold Ak
            rw [if_neg e]
      clear hU f0 b0 f1 b1
      go_loopg [6] n (fun gh v wr => ∃ (k : Nat) (Y : World), Y = wr ∧ gh = n - k ∧ k ≤ n ∧ v = .int .i64 (k : Int) ∧ Mx Y (w.heap.size + 2) n (i + 1) (Ak O i k) ∧ Y.heap.size = w.heap.size + 2 + 1 + i + 1 ∧ Only (fun b => w.heap.size + 2 ≤ b) W0 Y)
      case atStart => exact ⟨0, _, rfl, rfl, Nat.zero_le _, rfl, HU.out.1, HU.out.2.1, HU.out.2.2⟩
      case round =>
        obtain ⟨k, Y, hY, rfl, hk, rfl, hMx, hYs, hoY⟩ := hrel
        subst hY
        have HY : Hid (Mx Y (w.heap.size + 2) n (i + 1) (Ak O i k) ∧ Y.heap.size = w.heap.size + 2 + 1 + i + 1 ∧ Only (fun b => w.heap.size + 2 ≤ b) W0 Y) := ⟨hMx, hYs, hoY⟩
        have HYL : Hid _ := HLO.out Y hoY
        clear hMx hoY
        by_cases hltk : k < n
        · have t3 : (k : Int) < (n : Int) := by omega
          have y0 : Y.cell? ⟨w.heap.size + 2, i, none⟩ = some (.slice (some ⟨w.heap.size + 2 + 1 + i, 0, none⟩) n n) := HY.out.1.at (by omega) (by omega)
          have y1 : Y.cell? ⟨w.heap.size, 1, none⟩ = some (.slice (some ⟨bo, oo, none⟩) n co) := cell_blk HYL.out.2.1
          have y2 : Y.cell? ⟨bo, oo + i, none⟩ = some (.int .u32 (O i : Int)) := keepC HYL.out.1 (HO.out i hlt)
          have y3 : Y.cell? ⟨bo, oo + k, none⟩ = some (.int .u32 (O k : Int)) := keepC HYL.out.1 (HO.out k hltk)
          have y4 : Y.cell? ⟨w.heap.size + 2 + 1 + i, k, none⟩ = some (.bool (Ak O i k i k)) := HY.out.1.cell (by omega) hltk
          have fy : ∀ x, Y.frozen? ⟨w.heap.size + 2 + 1 + i, x, none⟩ = false := fun x => HY.out.1.fz (by omega) x
          have l0 : w.heap.size + 2 < Y.heap.size := by omega
          have l1 : w.heap.size < Y.heap.size := by omega
          have l2 := World.block_lt_of_cell? Y _ y2
          have l4 : w.heap.size + 2 + 1 + i < Y.heap.size := by omega
          have HSet : Hid (∀ b : Bool, b = Ao O i k → Mx (Y.drew.setCell ⟨w.heap.size + 2 + 1 + i, k, none⟩ (.bool b)) (w.heap.size + 2) n (i + 1) (Ak O i (k + 1))) := fun b hb => by
            have hM : Mx Y.drew (w.heap.size + 2) n (i + 1) (Ak O i k) := HY.out.1.keep ((Only.refl (fun _ => False) Y).drew) (fun _ h => h.elim)
            refine (hM.set (i := i) (k := k) (by omega) b).congr (fun x y hx hy => ?_)
            unfold Ak
            by_cases e : x = i
            · subst e
              by_cases e2 : y = k
              · subst e2
                simp [hb]
              · simp only [if_pos, e2, and_false, if_false]
                by_cases e3 : y < k
                · simp [e3, show y < k + 1 by omega]
                · simp [e3, show ¬ y < k + 1 by omega]
            · rw [if_neg (fun h => e h.1), if_neg e, if_neg e]
          clear hYs
          by_cases hio : O i = O k
          · have tq : ((O i : Int) != (O k : Int)) = false := by simp [hio]
            have hb : false = Ao O i k := by unfold Ao; simp [hio]
            have HIO : Hid (false = Ao O i k) := hb
            clear hio hb
            go_wp2_with fail
            go_region
            go_wp2_with fail
            go_roundg (n - (k + 1))
            case measure => omega
            case rel => exact ⟨k + 1, _, rfl, rfl, by omega, by go_num, HSet.out false HIO.out, by simp [World.setCell]; exact HY.out.2.1, (HY.out.2.2.drew).setCell (p := ⟨w.heap.size + 2 + 1 + i, k, none⟩) (by show w.heap.size + 2 ≤ w.heap.size + 2 + 1 + i; omega) _⟩
          · have tq : ((O i : Int) != (O k : Int)) = true := by simp; omega
            have hb : true = Ao O i k := by unfold Ao; simp [hio]
            have HIO : Hid (true = Ao O i k) := hb
            clear hio hb
            go_wp2_with fail
            go_region
            go_wp2_with fail
            go_roundg (n - (k + 1))
            case measure => omega
            case rel => exact ⟨k + 1, _, rfl, rfl, by omega, by go_num, HSet.out true HIO.out, by simp [World.setCell]; exact HY.out.2.1, (HY.out.2.2.drew).setCell (p := ⟨w.heap.size + 2 + 1 + i, k, none⟩) (by show w.heap.size + 2 ≤ w.heap.size + 2 + 1 + i; omega) _⟩
        · have t3 : decide ((k : Int) < (n : Int)) = false := decide_eq_false (by omega)
          have hkn : k = n := by omega
          go_wp2_with fail
          go_roundg (n - (i + 1))
          case measure => omega
          case rel =>
            refine ⟨i + 1, _, rfl, rfl, by omega, by go_num, HY.out.1.congr (fun x y hx hy => ?_), by have := HY.out.2.1; omega, HY.out.2.2⟩
            unfold Ak
            by_cases e : x = i
            · subst e
              simp [hkn, hy]
            · rw [if_neg e]
    · have t1 : decide ((i : Int) < (n : Int)) = false := decide_eq_false (by omega)
      have hin : n = i := by omega
      subst hin
      have HSt : Hid (Rf n nc nx O (Hm.cntF n (Ao O)) (Ao O) false (fun _ _ => False)) := ⟨ap_start, Nat.le_refl _, (fun h => by cases h), fun _ _ _ h => h.elim⟩
      clear hmk2
      go_wp2_with fail
      go_loopg [7] (Hm.cntF n (Ao O) + 1) (fun gh v wr => ∃ (ch : Bool) (A : Nat → Nat → Bool) (X : World), X = wr ∧ gh = Hm.cntF n A + (if ch then 1 else 0) ∧ v = .bool ch ∧ Mx X (w.heap.size + 2) n n A ∧ Hm.Ap n nc nx O A ∧ (ch = false → Clo n nc nx A) ∧ Only (fun b => w.heap.size + 2 ≤ b) W0 X)
      case atStart => exact ⟨true, Ao O, _, rfl, rfl, rfl, HV.out.1, ap_start, (fun h => by cases h), HV.out.2.2⟩
      case round =>
        obtain ⟨ch, A, X, hX, rfl, rfl, hMx, hAp, hCl, hoX⟩ := hrel
        subst hX
        have HX : Hid (Mx X (w.heap.size + 2) n n A ∧ Hm.Ap n nc nx O A ∧ (ch = false → Clo n nc nx A) ∧ Only (fun b => w.heap.size + 2 ≤ b) W0 X) := ⟨hMx, hAp, hCl, hoX⟩
        clear hMx hAp hCl hoX
        cases ch with
        | true =>
          obtain ⟨N, hNN⟩ : ∃ N, N = Hm.cntF n A := ⟨_, rfl⟩
          have HNN : Hid (N = Hm.cntF n A) := hNN
          clear hNN
          go_wp2_with fail
          go_loopg [7, 8] n (fun gh v7 v8 wr => ∃ (ch : Bool) (i : Nat) (A : Nat → Nat → Bool) (Y : World), Y = wr ∧ gh = n - i ∧ i ≤ n ∧ v7 = .bool ch ∧ v8 = .int .i64 (i : Int) ∧ Mx Y (w.heap.size + 2) n n A ∧ Rf n nc nx O N A ch (fun x _ => x < i) ∧ Only (fun b => w.heap.size + 2 ≤ b) W0 Y)
          case atStart => exact ⟨false, 0, A, _, rfl, rfl, Nat.zero_le _, rfl, rfl, HX.out.1, ⟨HX.out.2.1, by have := HNN.out; omega, (fun h => by cases h), (fun _ i j h => by omega)⟩, HX.out.2.2.2⟩
          case round =>
            obtain ⟨ch, i, A1, Y, hY, rfl, hi, rfl, rfl, hMx, hRf, hoY⟩ := hrel
            subst hY
            have HY : Hid (Mx Y (w.heap.size + 2) n n A1 ∧ Rf n nc nx O N A1 ch (fun x _ => x < i) ∧ Only (fun b => w.heap.size + 2 ≤ b) W0 Y) := ⟨hMx, hRf, hoY⟩
            clear hMx hRf hoY
            by_cases hlti : i < n
            · have t2 : (i : Int) < (n : Int) := by omega
              go_wp2_with fail
              go_loopg [7, 9] n (fun gh v7 v9 wr => ∃ (ch : Bool) (j : Nat) (A : Nat → Nat → Bool) (Z : World), Z = wr ∧ gh = n - j ∧ j ≤ n ∧ v7 = .bool ch ∧ v9 = .int .i64 (j : Int) ∧ Mx Z (w.heap.size + 2) n n A ∧ Rf n nc nx O N A ch (fun x y => x < i ∨ x = i ∧ y < j) ∧ Only (fun b => w.heap.size + 2 ≤ b) W0 Z)
              case atStart => exact ⟨ch, 0, A1, _, rfl, rfl, Nat.zero_le _, rfl, rfl, HY.out.1, HY.out.2.1.mono (fun x y _ _ h => h.elim (fun h => h) (fun h => by omega)), HY.out.2.2⟩
              case round =>
                obtain ⟨ch2, j, A2, Z, hZ, rfl, hj, rfl, rfl, hMx, hRf, hoZ⟩ := hrel
                subst hZ
                have HZ : Hid (Mx Z (w.heap.size + 2) n n A2 ∧ Rf n nc nx O N A2 ch2 (fun x y => x < i ∨ x = i ∧ y < j) ∧ Only (fun b => w.heap.size + 2 ≤ b) W0 Z) := ⟨hMx, hRf, hoZ⟩
                clear hMx hRf hoZ
                by_cases hltj : j < n
                · have t3 : (j : Int) < (n : Int) := by omega
                  go_wp2_with fail
                  go_loopg [7, 10] nc (fun gh v7 v10 wr => ∃ (ch : Bool) (c : Nat) (A : Nat → Nat → Bool) (T : World), T = wr ∧ gh = nc - c ∧ c ≤ nc ∧ v7 = .bool ch ∧ v10 = .int .i64 (c : Int) ∧ Mx T (w.heap.size + 2) n n A ∧ Rf n nc nx O N A ch (fun x y => x < i ∨ x = i ∧ y < j) ∧ (ch = false → A i j = false → ∀ c', c' < c → A (nx i c') (nx j c') = false) ∧ Only (fun b => w.heap.size + 2 ≤ b) W0 T)
                  case atStart => exact ⟨ch2, 0, A2, _, rfl, rfl, Nat.zero_le _, rfl, rfl, HZ.out.1, HZ.out.2.1, (fun _ _ c' h => by omega), HZ.out.2.2⟩
                  case round =>
                    obtain ⟨ch3, c, A3, T, hT, rfl, hcl, rfl, rfl, hMx, hRf, hCc, hoT⟩ := hrel
                    subst hT
                    have HTL : Hid _ := HLO.out T hoT
                    have HTT : Hid (Mx T (w.heap.size + 2) n n A3 ∧ Rf n nc nx O N A3 ch3 (fun x y => x < i ∨ x = i ∧ y < j) ∧ (ch3 = false → A3 i j = false → ∀ c', c' < c → A3 (nx i c') (nx j c') = false) ∧ Only (fun b => w.heap.size + 2 ≤ b) W0 T) := ⟨hMx, hRf, hCc, hoT⟩
                    clear hMx hRf hCc hoT
                    have y0 : T.cell? ⟨w.heap.size, 0, none⟩ = some (.slice (some ⟨bn, on, none⟩) n cN) := cell_blk HTL.out.2.1
                    obtain ⟨ai, ki, qi, Qi⟩ := HN.out i hlti
                    obtain ⟨aj, kj, qj, Qj⟩ := HN.out j hltj
                    have y1 := keepC HTL.out.1 qi
                    have y2 := keepC HTL.out.1 qj
                    have y3 : T.cell? ⟨w.heap.size + 2, i, none⟩ = some (.slice (some ⟨w.heap.size + 2 + 1 + i, 0, none⟩) n n) := HTT.out.1.at hlti (Nat.le_refl _)
                    have y4 : T.cell? ⟨w.heap.size + 2 + 1 + i, j, none⟩ = some (.bool (A3 i j)) := HTT.out.1.cell hlti hltj
                    have l0 : w.heap.size < T.heap.size := World.block_lt_of_cell? T _ y0
                    have l1 := World.block_lt_of_cell? T _ y1
                    have l3 : w.heap.size + 2 < T.heap.size := World.block_lt_of_cell? T _ y3
                    have l4 : w.heap.size + 2 + 1 + i < T.heap.size := World.block_lt_of_cell? T _ y4
                    have HQi : Hid (∀ k, k < nc → ∃ b o, ai = some ⟨b, o, none⟩ ∧ w.cell? ⟨b, o + k, none⟩ = some (.int .i64 (nx i k : Int)) ∧ nx i k < n) := Qi
                    have HQj : Hid (∀ k, k < nc → ∃ b o, aj = some ⟨b, o, none⟩ ∧ w.cell? ⟨b, o + k, none⟩ = some (.int .i64 (nx j k : Int)) ∧ nx j k < n) := Qj
                    clear qi qj Qi Qj
                    by_cases hltc : c < nc
                    · have t4 : (c : Int) < (nc : Int) := by omega
                      cases hA : A3 i j with
                      | true =>
                        rw [hA] at y4
                        have HA : Hid (A3 i j = true) := hA
                        clear hA
                        go_wp2_with fail
                        go_roundg (n - (j + 1))
                        case measure => omega
                        case rel =>
                          refine ⟨ch3, j + 1, A3, _, rfl, rfl, by omega, rfl, by go_num, HTT.out.1, ⟨HTT.out.2.1.ap, HTT.out.2.1.le, HTT.out.2.1.lt, fun hch x y hp hx hy c' hc' hf => ?_⟩, HTT.out.2.2.2⟩
                          by_cases e : x < i ∨ x = i ∧ y < j
                          · exact HTT.out.2.1.cl hch x y e hx hy c' hc' hf
                          · obtain ⟨rfl, rfl⟩ : x = i ∧ y = j := by omega
                            rw [HA.out] at hf
                            cases hf
                      | false =>
                        rw [hA] at y4
                        have HA : Hid (A3 i j = false) := hA
                        clear hA
                        obtain ⟨bi, oi, ei, zi, hzi⟩ := HQi.out c hltc
                        obtain ⟨bj, oj, ej, zj, hzj⟩ := HQj.out c hltc
                        subst ei
                        subst ej
                        obtain ⟨p, hp⟩ : ∃ p, p = nx i c := ⟨_, rfl⟩
                        obtain ⟨q, hq⟩ : ∃ q, q = nx j c := ⟨_, rfl⟩
                        have HPQ : Hid (p = nx i c ∧ q = nx j c) := ⟨hp, hq⟩
                        rw [← hp] at zi hzi
                        rw [← hq] at zj hzj
                        clear hp hq
                        have y5 := keepC HTL.out.1 zi
                        have y6 := keepC HTL.out.1 zj
                        have l5 := World.block_lt_of_cell? T _ y5
                        have l6 := World.block_lt_of_cell? T _ y6
                        have y7 : T.cell? ⟨w.heap.size + 2, p, none⟩ = some (.slice (some ⟨w.heap.size + 2 + 1 + p, 0, none⟩) n n) := HTT.out.1.at hzi (Nat.le_refl _)
                        have y8 : T.cell? ⟨w.heap.size + 2 + 1 + p, q, none⟩ = some (.bool (A3 p q)) := HTT.out.1.cell hzi hzj
                        have l8 : w.heap.size + 2 + 1 + p < T.heap.size := World.block_lt_of_cell? T _ y8
                        have fy : ∀ x, T.frozen? ⟨w.heap.size + 2 + 1 + i, x, none⟩ = false := fun x => HTT.out.1.fz hlti x
                        have t5 : (p : Int) < (n : Int) := by omega
                        have t6 : (q : Int) < (n : Int) := by omega
                        clear zi zj
                        cases hB : A3 p q with
                        | true =>
                          rw [hB] at y8
                          have HB : Hid (A3 p q = true) := hB
                          clear hB
                          go_wp2_with fail
                          go_quiet (fail)
                          go_wp2_with fail
                          go_roundg (nc - (c + 1))
                          case measure => omega
                          case rel =>
                            obtain ⟨rfl, rfl⟩ := HPQ.out
                            refine ⟨true, c + 1, Hm.put A3 i j, _, rfl, rfl, by omega, rfl, by go_num, ?_, HTT.out.2.1.put HD.out hlti hltj hltc HB.out HA.out, (fun h => by cases h), ?_⟩
                            · refine Mx.set (A := A3) (HTT.out.1.keep ((Only.refl (fun _ => False) T).drewN _) (fun _ h => h.elim)) hlti true
                            · exact (HTT.out.2.2.2.drewN _).setCell (p := ⟨w.heap.size + 2 + 1 + i, j, none⟩) (by show w.heap.size + 2 ≤ w.heap.size + 2 + 1 + i; omega) _
                        | false =>
                          rw [hB] at y8
                          have HB : Hid (A3 p q = false) := hB
                          clear hB
                          go_wp2_with fail
                          go_quiet (fail)
                          go_wp2_with fail
                          go_roundg (nc - (c + 1))
                          case measure => omega
                          case rel =>
                            obtain ⟨rfl, rfl⟩ := HPQ.out
                            refine ⟨ch3, c + 1, A3, _, rfl, rfl, by omega, rfl, by go_num, HTT.out.1.keep ((Only.refl (fun _ => False) T).drewN _) (fun _ h => h.elim), HTT.out.2.1, fun hch hf c' hc' => ?_, HTT.out.2.2.2.drewN _⟩
                            by_cases e : c' = c
                            · subst e; exact HB.out
                            · exact HTT.out.2.2.1 hch hf c' (by omega)
                    · have t4 : decide ((c : Int) < (nc : Int)) = false := decide_eq_false (by omega)
                      go_wp2_with fail
                      go_roundg (n - (j + 1))
                      case measure => omega
                      case rel =>
                        refine ⟨ch3, j + 1, A3, _, rfl, rfl, by omega, rfl, by go_num, HTT.out.1, ⟨HTT.out.2.1.ap, HTT.out.2.1.le, HTT.out.2.1.lt, fun hch x y hp hx hy c' hc' hf => ?_⟩, HTT.out.2.2.2⟩
                        by_cases e : x < i ∨ x = i ∧ y < j
                        · exact HTT.out.2.1.cl hch x y e hx hy c' hc' hf
                        · obtain ⟨rfl, rfl⟩ : x = i ∧ y = j := by omega
                          exact HTT.out.2.2.1 hch hf c' (by omega)
                · have t3 : decide ((j : Int) < (n : Int)) = false := decide_eq_false (by omega)
                  go_wp2_with fail
                  go_roundg (n - (i + 1))
                  case measure => omega
                  case rel => exact ⟨ch2, i + 1, A2, _, rfl, rfl, by omega, rfl, by go_num, HZ.out.1, HZ.out.2.1.mono (fun x y hx hy h => by omega), HZ.out.2.2⟩
            · have t2 : decide ((i : Int) < (n : Int)) = false := decide_eq_false (by omega)
              go_wp2_with fail
              go_roundg (Hm.cntF n A1 + (if ch then 1 else 0))
              case measure =>
                have h1 := HY.out.2.1.le
                have h2 := HY.out.2.1.lt
                have h3 := HNN.out
                cases ch with
                | true => have := h2 rfl; simp; omega
                | false => simp; omega
              case rel => exact ⟨ch, A1, _, rfl, rfl, rfl, HY.out.1, HY.out.2.1.ap, fun hch x y c hx hy hc' hf => HY.out.2.1.cl hch x y (by omega) hx hy c hc' hf, HY.out.2.2⟩
        | false =>
          have HE : Hid (∀ i j, i < n → j < n → (A i j = false ↔ Hm.Eqv nc nx O i j)) := HX.out.2.1.done HD.out (fun i j c hi hj hc' => HX.out.2.2.1 rfl i j c hi hj hc')
          have hmk3 := fun (w : World) => run_make_row' (P := Try.prog) 23 3 (.int .i64 0) 8 Try.underlying23 info3b rfl .i64 .i64 n (by omega) (by omega) w
          have lXr : w.heap.size + 2 + n < X.heap.size := by
            have := (Array.getElem?_eq_some_iff.1 (HX.out.1.row (n - 1) (by omega))).1
            omega
          go_wp2_with fail
          rw [made_ints]
          obtain ⟨W1, hW1⟩ : ∃ W1, W1 = X.alloc (.cells (rowOf n (fun _ => .int .i64 0)) 3) := ⟨_, rfl⟩
          rw [← hW1]
          obtain ⟨oB, hoB⟩ : ∃ oB, oB = X.heap.size := ⟨_, rfl⟩
          have HW1 : Hid (W1.heap[oB]? = some (.cells (rowOf n (fun _ => .int .i64 0)) 3 (0, 0)) ∧ Mx W1 (w.heap.size + 2) n n A ∧ Only (fun b => w.heap.size + 2 ≤ b) W0 W1) := by
            rw [hW1, hoB]
            exact ⟨heap_alloc_new _ _, HX.out.1.keep ((Only.refl (fun _ => False) X).alloc _) (fun _ h => h.elim), HX.out.2.2.2.alloc _⟩
          rw [← hoB]
          have loB : w.heap.size + 2 + n < oB := by omega
          have lW1 : oB < W1.heap.size := (Array.getElem?_eq_some_iff.1 HW1.out.1).1
          clear hW1 hoB hmk3
          have HMO : Hid (∀ Y, Only (fun b => oB ≤ b) W1 Y → Mx Y (w.heap.size + 2) n n A ∧ Only (fun b => w.heap.size + 2 ≤ b) W0 Y) := fun Y ho => ⟨HW1.out.2.1.keep ho (fun b hb => by omega), HW1.out.2.2.trans (ho.mono (fun b hb => by omega))⟩
          go_loopg [12] n (fun gh v wr => ∃ (i : Nat) (f : Nat → Nat) (Y : World), Y = wr ∧ gh = n - i ∧ i ≤ n ∧ v = .int .i64 (i : Int) ∧ Y.heap[oB]? = some (.cells (rowOf n (fun x => .int .i64 ((f x : Nat) : Int))) 3 (0, 0)) ∧ (∀ x, x < i → Fo A x (f x)) ∧ Only (fun b => oB ≤ b) W1 Y)
          case atStart => exact ⟨0, fun _ => 0, _, rfl, rfl, Nat.zero_le _, rfl, HW1.out.1, (fun x h => by omega), Only.refl _ _⟩
          case round =>
            obtain ⟨i, f, Y, hY, rfl, hi, rfl, hb, hFo, hoY⟩ := hrel
            subst hY
            have HY : Hid (Y.heap[oB]? = some (.cells (rowOf n (fun x => .int .i64 ((f x : Nat) : Int))) 3 (0, 0)) ∧ (∀ x, x < i → Fo A x (f x)) ∧ Only (fun b => oB ≤ b) W1 Y) := ⟨hb, hFo, hoY⟩
            clear hb hFo hoY
            by_cases hlti : i < n
            · have t2 : (i : Int) < (n : Int) := by omega
              have y0 : Y.cell? ⟨oB, i, none⟩ = some (.int .i64 ((f i : Nat) : Int)) := by rw [cell_blk HY.out.1, rowOf_at _ hlti]
              have fy : ∀ x, Y.frozen? ⟨oB, x, none⟩ = false := fun x => fz_blk HY.out.1 x
              have ly : oB < Y.heap.size := World.block_lt_of_cell? Y _ y0
              have HY1 : Hid ((Y.setCell ⟨oB, i, none⟩ (.int .i64 (i : Int))).heap[oB]? = some (.cells (rowOf n (fun x => .int .i64 (((if x = i then i else f x) : Nat) : Int))) 3 (0, 0)) ∧ Only (fun b => oB ≤ b) W1 (Y.setCell ⟨oB, i, none⟩ (.int .i64 (i : Int)))) := ⟨one_set HY.out.1, HY.out.2.2.setCell (p := ⟨oB, i, none⟩) (Nat.le_refl _) _⟩
              go_wp2_with fail
              go_loopg [13] (i + 1) (fun gh v wr => ∃ (kk cur : Nat) (Z : World), Z = wr ∧ kk = gh ∧ kk ≤ i + 1 ∧ v = .int .i64 ((kk : Int) - 1) ∧ Z.heap[oB]? = some (.cells (rowOf n (fun x => .int .i64 (((if x = i then cur else f x) : Nat) : Int))) 3 (0, 0)) ∧ cur ≤ i ∧ (cur = i ∨ A i cur = false) ∧ (∀ k, kk ≤ k → k ≤ i → A i k = false → cur ≤ k) ∧ Only (fun b => oB ≤ b) W1 Z)
              case atStart => exact ⟨i + 1, i, _, rfl, rfl, Nat.le_refl _, (by congr 1; omega), HY1.out.1, Nat.le_refl _, Or.inl rfl, (fun k h1 h2 => by omega), HY1.out.2⟩
              case round =>
                obtain ⟨kk, cur, Z, hZ, rfl, hkk, rfl, hb, hcu, hco, hcl, hoZ⟩ := hrel
                subst hZ
                have HZ : Hid (Z.heap[oB]? = some (.cells (rowOf n (fun x => .int .i64 (((if x = i then cur else f x) : Nat) : Int))) 3 (0, 0)) ∧ (cur = i ∨ A i cur = false) ∧ (∀ k, kk ≤ k → k ≤ i → A i k = false → cur ≤ k) ∧ Only (fun b => oB ≤ b) W1 Z) := ⟨hb, hco, hcl, hoZ⟩
                clear hb hco hcl hoZ
                by_cases hk0 : 0 < kk
                · obtain ⟨q, rfl⟩ : ∃ q, kk = q + 1 := ⟨kk - 1, by omega⟩
                  have ev : (((q + 1 : Nat) : Int) - 1) = (q : Int) := by omega
                  rw [ev]
                  have hqn : q < n := by omega
                  have t3 : (q : Int) < (n : Int) := by omega
                  have t5 : (0 : Int) ≤ (q : Int) := by omega
                  have z0 : Z.cell? ⟨w.heap.size + 2, i, none⟩ = some (.slice (some ⟨w.heap.size + 2 + 1 + i, 0, none⟩) n n) := (HMO.out Z HZ.out.2.2.2).1.at hlti (Nat.le_refl _)
                  have z1 : Z.cell? ⟨w.heap.size + 2 + 1 + i, q, none⟩ = some (.bool (A i q)) := (HMO.out Z HZ.out.2.2.2).1.cell hlti hqn
                  have z2 : Z.cell? ⟨oB, i, none⟩ = some (.int .i64 (cur : Int)) := by rw [cell_blk HZ.out.1, rowOf_at _ hlti, if_pos rfl]
                  have fz : ∀ x, Z.frozen? ⟨oB, x, none⟩ = false := fun x => fz_blk HZ.out.1 x
                  have lz0 : w.heap.size + 2 < Z.heap.size := World.block_lt_of_cell? Z _ z0
                  have lz1 : w.heap.size + 2 + 1 + i < Z.heap.size := World.block_lt_of_cell? Z _ z1
                  have lz2 : oB < Z.heap.size := World.block_lt_of_cell? Z _ z2
                  clear ev
                  cases hA : A i q with
                  | true =>
                    rw [hA] at z1
                    have HA : Hid (A i q = true) := hA
                    clear hA
                    go_wp2_with fail
                    go_roundg q
                    case measure => omega
                    case rel =>
                      refine ⟨q, cur, _, rfl, rfl, by omega, by go_num, HZ.out.1, hcu, HZ.out.2.1, fun k h1 h2 h3 => ?_, HZ.out.2.2.2⟩
                      by_cases e : k = q
                      · subst e; rw [HA.out] at h3; cases h3
                      · exact HZ.out.2.2.1 k (by omega) h2 h3
                  | false =>
                    rw [hA] at z1
                    have HA : Hid (A i q = false) := hA
                    clear hA
                    go_wp2_with fail
                    go_roundg q
                    case measure => omega
                    case rel =>
                      refine ⟨q, q, _, rfl, rfl, by omega, by go_num, ?_, by omega, Or.inr HA.out, fun k h1 h2 h3 => by omega, HZ.out.2.2.2.setCell (p := ⟨oB, i, none⟩) (Nat.le_refl _) _⟩
                      have := one_set (i := i) (v := q) HZ.out.1
                      rw [this]
                      congr 2
                      refine rowOf_congr (fun x hx => ?_)
                      by_cases e : x = i
                      · rw [if_pos e, if_pos e]
                      · rw [if_neg e, if_neg e, if_neg e]
                · obtain rfl : kk = 0 := by omega
                  have ev : (((0 : Nat) : Int) - 1) = -1 := by omega
                  rw [ev]
                  clear ev
                  go_wp2_with fail
                  go_roundg (n - (i + 1))
                  case measure => omega
                  case rel =>
                    refine ⟨i + 1, fun x => if x = i then cur else f x, _, rfl, rfl, by omega, by go_num, HZ.out.1, fun x hx => ?_, HZ.out.2.2.2⟩
                    by_cases e : x = i
                    · subst e
                      show Fo A x (if x = x then cur else f x)
                      rw [if_pos rfl]
                      refine ⟨hcu, ?_, fun k hk hA => HZ.out.2.2.1 k (Nat.zero_le _) hk hA⟩
                      rcases HZ.out.2.1 with e | e
                      · rw [e]; exact (HE.out x x hlti hlti).2 (Hm.Eqx.refl _)
                      · exact e
                    · show Fo A x (if x = i then cur else f x)
                      rw [if_neg e]
                      exact HY.out.2.1 x (by omega)
            · have t2 : decide ((i : Int) < (n : Int)) = false := decide_eq_false (by omega)
              have hin : n = i := by omega
              subst hin
              have HF : Hid (Hm.Fst n nc nx O f) := ⟨fun x hx => (HY.out.2.1 x hx).1, fun x hx => (HE.out x _ hx (Nat.lt_of_le_of_lt (HY.out.2.1 x hx).1 hx)).1 (HY.out.2.1 x hx).2.1, fun x y hx hy he => by
                by_cases hyx : y ≤ x
                · exact (HY.out.2.1 x hx).2.2 y hyx ((HE.out x y hx hy).2 he)
                · have := (HY.out.2.1 x hx).1; omega⟩
              have hf0 : f 0 = 0 := by have := HF.out.le 0 h0; omega
              have y0 : Y.cell? ⟨oB, 0, none⟩ = some (.int .i64 0) := by rw [cell_blk HY.out.1, rowOf_at _ h0, hf0]; rfl
              have ly : oB < Y.heap.size := World.block_lt_of_cell? Y _ y0
              clear hf0
              go_wp2_with fail
              obtain ⟨W2, hW2⟩ : ∃ W2, W2 = (Y.alloc (.cells #[.int .i64 0] 3)).alloc (.cells #[.slice none 0 0, .slice none 0 0] 27) := ⟨_, rfl⟩
              rw [← hW2]
              have HSL : Hid (Lo W1 W2 n nc oB (Y.heap.size + 1) nx O f Y.heap.size 1 1 0) := by
                have hT2 := two_at Y (.cells #[.int .i64 0] 3) (.cells #[.slice none 0 0, .slice none 0 0] 27)
                rw [← hW2] at hT2
                obtain ⟨e1, e2, e3, e4⟩ := hT2
                refine ⟨[0], [], [], [], .slice none 0 0, .slice none 0 0, ⟨(e3.block _ ly (fun h => h)).trans HY.out.1, ?_, by omega, e2, rfl, ⟨rfl, Or.inl ⟨rfl, rfl⟩⟩, (fun i r L h => by cases h), (fun r h => by cases h), ⟨rfl, Or.inl ⟨rfl, rfl⟩⟩⟩, Hm.Nu.start h0, fun i t ht => ?_, rfl, rfl, HY.out.2.2.trans (e3.mono (fun _ h => h.elim))⟩
                · exact ⟨rfl, Or.inr ⟨Y.heap.size, 1, #[.int .i64 0], rfl, by omega, e1, Nat.le_refl _, by unfold maxLen; omega, rfl, rfl⟩⟩
                · have hi := (List.getElem?_eq_some_iff.1 ht).1
                  obtain rfl : i = 0 := by simpa using hi
                  injection ht with ht
                  subst ht
                  have := HF.out.le 0 h0; omega
              clear hW2 y0
              obtain ⟨lB, hlB⟩ : ∃ lB, lB = Y.heap.size + 1 := ⟨_, rfl⟩
              have lBo : oB < lB := by omega
              rw [← hlB] at HSL ⊢
              obtain ⟨gS, hgS⟩ : ∃ gS, gS = Y.heap.size := ⟨_, rfl⟩
              rw [← hgS] at HSL ⊢
              clear hlB hgS HY ly
              obtain ⟨i3, g3, g30, g31, g32⟩ := info_parts info3b
              obtain ⟨i23, g23, g230, g231, g232⟩ := info_parts info23b
              obtain ⟨i38, g38, g380, g381, g382⟩ := info_parts info38b
              go_loopg [14, 16] n (fun gh v14 v16 wr => ∃ (gC cap m i : Nat) (W : World), W = wr ∧ gh = n - i ∧ v14 = .slice (some ⟨gC, 0, none⟩) m cap ∧ v16 = .int .i64 (i : Int) ∧ Lo W1 W n nc oB lB nx O f gC cap m i)
              case atStart => exact ⟨gS, 1, 1, 0, _, rfl, rfl, rfl, rfl, HSL.out⟩
              case round =>
                obtain ⟨gC, cap, m, i, W, hW, rfl, rfl, rfl, hLo⟩ := hrel
                subst hW
                obtain ⟨come, rows, outs, vs, vN, vO, hNm, hNu, hRe, hri, hml, hoW⟩ := hLo
                have HNm : Hid (Nm W oB lB n (fun x => ((f x : Nat) : Int)) come (.slice (some ⟨gC, 0, none⟩) m cap) vN vO rows outs vs ∧ Hm.Nu n nc nx O come rows outs ∧ (∀ i t : Nat, come[i]? = some t → f t = t) ∧ rows.length = i ∧ come.length = m ∧ Only (fun b => oB ≤ b) W1 W) := ⟨hNm, hNu, hRe, hri, hml, hoW⟩
                have hmn : m ≤ n := by rw [← hml]; exact hNu.cm.len
                have him : i ≤ m := by rw [← hri, ← hml]; exact hNu.le
                have hri2 := hNm.vl
                clear hNm hNu hRe hoW
                by_cases hlt : i < m
                · have t7 : (i : Int) < (m : Int) := by omega
                  obtain ⟨s, hs⟩ : ∃ s, come[i]? = some s := ⟨_, List.getElem?_eq_getElem (by omega)⟩
                  have hsn : s < n := HNm.out.2.1.cm.lt i s hs
                  have t8 : (s : Int) < (n : Int) := by omega
                  have HS : Hid (come[i]? = some s) := hs
                  obtain ⟨a1, k1, q1w, HQ1⟩ := HN.out s hsn
                  have HQ : Hid (w.cell? ⟨bn, on + s, none⟩ = some (.slice a1 nc k1) ∧ ∀ k, k < nc → ∃ b o, a1 = some ⟨b, o, none⟩ ∧ w.cell? ⟨b, o + k, none⟩ = some (.int .i64 (nx s k : Int)) ∧ nx s k < n) := ⟨q1w, HQ1⟩
                  clear hs HQ1 q1w hri hml hri2
                  have HLi : Hid (Li W1 W n nc oB lB nx O f come s vN vO rows outs vs gC cap m none 0 0) := ⟨come, [], HNm.out.1, Wv.start _ _ _ _, Hm.Nr.start s HNm.out.2.1.cm, HNm.out.2.2.1, rfl, HNm.out.2.2.2.2.1, HNm.out.2.2.2.2.2⟩
                  go_wp2_with fail
                  go_loopg [14, 17, 18] nc (fun gh v14 v17 v18 wr => ∃ (gD cap' m' : Nat) (aW : Option Addr) (kW c : Nat) (V : World), V = wr ∧ gh = nc - c ∧ c ≤ nc ∧ v14 = .slice (some ⟨gD, 0, none⟩) m' cap' ∧ v17 = .slice aW c kW ∧ v18 = .int .i64 (c : Int) ∧ Li W1 V n nc oB lB nx O f come s vN vO rows outs vs gD cap' m' aW kW c)
                  case atStart => exact ⟨gC, cap, m, none, 0, 0, _, rfl, rfl, Nat.zero_le _, rfl, rfl, rfl, HLi.out⟩
                  case round =>
                    obtain ⟨gD, cap', m', aW, kW, c, V, hV, rfl, hcl, rfl, rfl, rfl, hLi⟩ := hrel
                    subst hV
                    obtain ⟨comV, F, hNm, hWv, hNr, hRe, hF, hml, hoV⟩ := hLi
                    have HV : Hid (Nm V oB lB n (fun x => ((f x : Nat) : Int)) comV (.slice (some ⟨gD, 0, none⟩) m' cap') vN vO rows outs vs ∧ Wv V oB (.slice (some ⟨gD, 0, none⟩) m' cap') vs (.slice aW c kW) F ∧ Hm.Nr n nc nx O come s comV F ∧ (∀ i t : Nat, comV[i]? = some t → f t = t) ∧ F.length = c ∧ comV.length = m' ∧ Only (fun b => oB ≤ b) W1 V) := ⟨hNm, hWv, hNr, hRe, hF, hml, hoV⟩
                    have hmn' : m' ≤ n := by rw [← hml]; exact hNr.cm.len
                    have HVL : Hid _ := HLO.out V (HMO.out V hoV).2
                    have hs' : comV[i]? = some s := hNr.pre i s HS.out
                    have him' : i < m' := by have h1 := (List.getElem?_eq_some_iff.1 hs').1; omega
                    have t9 : (i : Int) < (m' : Int) := by omega
                    have v1 : V.cell? ⟨w.heap.size, 0, none⟩ = some (.slice (some ⟨bn, on, none⟩) n cN) := cell_blk HVL.out.2.1
                    have v2 : V.cell? ⟨gD, i, none⟩ = some (.int .i64 (s : Int)) := row_cell hNm.com hs'
                    have v3 := keepC HVL.out.1 HQ.out.1
                    have l1 : w.heap.size < V.heap.size := World.block_lt_of_cell? V _ v1
                    have l2 := World.block_lt_of_cell? V _ v2
                    have l3 := World.block_lt_of_cell? V _ v3
                    have lVo : oB < V.heap.size := (Array.getElem?_eq_some_iff.1 hNm.num).1
                    clear hNm hWv hNr hRe hF hml hoV
                    by_cases hlc : c < nc
                    · have t10 : (c : Int) < (nc : Int) := by omega
                      obtain ⟨b2, o2, e2, v0, v9⟩ := HQ.out.2 c hlc
                      obtain ⟨tt, htt⟩ : ∃ tt, tt = nx s c := ⟨_, rfl⟩
                      have HTT : Hid (tt = nx s c) := htt
                      rw [← htt] at v0 v9
                      have v4 := keepC HVL.out.1 v0
                      have l4 := World.block_lt_of_cell? V _ v4
                      have t11 : (tt : Int) < (n : Int) := by omega
                      obtain ⟨tv, htv⟩ : ∃ tv, tv = f tt := ⟨_, rfl⟩
                      have HTV : Hid (tv = f tt) := htv
                      have htvn : tv < n := by rw [htv]; exact Nat.lt_of_le_of_lt (HF.out.le tt v9) v9
                      have v5 : V.cell? ⟨oB, tt, none⟩ = some (.int .i64 (tv : Int)) := by rw [cell_blk HV.out.1.num, rowOf_at _ v9, htv]
                      clear v0 htt htv hs'
                      subst e2
                      go_wp2_with fail
                      go_quiet (fail)
                      revert nq
                      intro na
                      go_wp2_with fail
                      go_quiet (fail)
                      go_wp2_with fail
                      obtain ⟨V1, hV1⟩ : ∃ V1, V1 = (V.drewN na).drewN nq := ⟨_, rfl⟩
                      rw [← hV1]
                      have HV1 : Hid (Nm V1 oB lB n (fun x => ((f x : Nat) : Int)) comV (.slice (some ⟨gD, 0, none⟩) m' cap') vN vO rows outs vs ∧ Wv V1 oB (.slice (some ⟨gD, 0, none⟩) m' cap') vs (.slice aW c kW) F ∧ Only (fun b => oB ≤ b) W1 V1) := by
                        rw [hV1]
                        have o := ((Only.refl (fun _ => False) V).drewN na).drewN nq
                        exact ⟨HV.out.1.idle o, HV.out.2.1.idle o, HV.out.2.2.2.2.2.2.trans (o.mono (fun _ h => h.elim))⟩
                      have lV1 : oB < V1.heap.size := (Array.getElem?_eq_some_iff.1 HV1.out.1.num).1
                      clear hV1 v1 v2 v3 v4 v5 l1 l2 l3 l4 lVo
                      go_loopg [20] m' (fun gh v20 wr => ∃ (k : Nat), V1 = wr ∧ gh = m' - k ∧ k ≤ m' ∧ v20 = .int .i64 (k : Int) ∧ (∀ k' u : Nat, k' < k → comV[k']? = some u → u ≠ tv))
                      case atStart => exact ⟨0, rfl, rfl, Nat.zero_le _, rfl, fun k' u h => by omega⟩
                      case round =>
                        obtain ⟨k, hY, rfl, hk, rfl, hne⟩ := hrel
                        subst hY
                        have HNE : Hid (∀ k' u : Nat, k' < k → comV[k']? = some u → u ≠ tv) := hne
                        clear hne
                        by_cases hltk : k < m'
                        · have t12 : (k : Int) < (m' : Int) := by omega
                          obtain ⟨u, hu⟩ : ∃ u, comV[k]? = some u := ⟨_, List.getElem?_eq_getElem (by have := HV.out.2.2.2.2.2.1; omega)⟩
                          have HU : Hid (comV[k]? = some u) := hu
                          have z1 : V1.cell? ⟨gD, k, none⟩ = some (.int .i64 (u : Int)) := row_cell HV1.out.1.com hu
                          have lz1 := World.block_lt_of_cell? V1 _ z1
                          clear hu
                          by_cases hut : u = tv
                          · have tq : ((u : Int) != (tv : Int)) = false := by simp [hut]
                            have tm : ((k : Int) == (m' : Int)) = false := by rw [beq_eq_false_iff_ne]; omega
                            have HUT : Hid (u = tv) := hut
                            clear hut
                            have HWA : Hid ((V1.alloc (.cells #[.int .i64 (k : Int)] 3)).heap[V1.heap.size]? = some (.cells #[.int .i64 (k : Int)] 3 (0, 0)) ∧ (V1.alloc (.cells #[.int .i64 (k : Int)] 3)).heap.size = V1.heap.size + 1) := ⟨heap_alloc_new V1 _, by simp⟩
                            have HOWW : Hid ((V1.alloc (.cells #[.int .i64 (k : Int)] 3)).ownsRow (oB + 1) 3 1 (.slice aW c kW) c (natI F)) := by
                              have := HV1.out.2.1.own
                              rw [HV.out.2.2.2.2.1] at this
                              exact this.alloc _
                            go_wp2_with (at_builtin; (refine wpList_append_lies _ rfl _ _ 23 rfl (oB + 1) 3 i3 (.int .i64 0) 1 8 Try.underlying23 g3 g30 g31 g32 rfl (by decide) (.slice aW c kW) c (natI F) rfl HOWW.out ⟨V1.heap.size, 0, none⟩ 1 1 [.int .i64 (k : Int)] rfl rfl (World.news_of_block (cs := #[.int .i64 (k : Int)]) HWA.out.1) (fun u hu => by simp at hu; rcases hu with rfl; rfl) (by decide) (by unfold maxLen; omega) (by omega) (by rw [HWA.out.2]; omega) (V1.heap.size + 1) HWA.out.2 ?_; intro g6 cap6 w6 hown6 hgrow6 hat6 hlt6; have hoo : Only (fun b => (Value.slice aW c kW).ownBlock = some b) V1 w6 := (((Only.refl (fun b => (Value.slice aW c kW).ownBlock = some b) V1).alloc _)).grown hgrow6 (fun k hk => hk); have H6 : Hid ((Nm w6 oB lB n (fun x => ((f x : Nat) : Int)) comV (.slice (some ⟨gD, 0, none⟩) m' cap') vN vO rows outs vs ∧ Wv w6 oB (.slice (some ⟨gD, 0, none⟩) m' cap') vs (.slice (some ⟨g6, 0, none⟩) (c + 1) cap6) (F ++ [k])) ∧ Only (fun b => oB ≤ b) W1 w6) := (by have hF := HV.out.2.2.2.2.1; have k1 := HV1.out.2.1.add (g := g6) (cap := cap6) (j := k) HV1.out.1 hoo (by rw [hF]; exact hown6) hat6 (Nat.le_succ _); rw [hF] at k1; exact ⟨k1, HV1.out.2.2.trans (hoo.mono (fun b hb => own_big HV1.out.2.1.own b hb))⟩); clear hown6 hgrow6 hat6 hoo))
                            go_roundg (nc - (c + 1))
                            case measure => omega
                            case rel =>
                              obtain ⟨_, _, hNr, hRe, hF, hml, _⟩ := HV.out
                              have hu := HU.out
                              rw [HUT.out] at hu
                              exact ⟨gD, cap', m', some ⟨g6, 0, none⟩, cap6, c + 1, _, rfl, rfl, by omega, rfl, rfl, by go_num, comV, F ++ [k], H6.out.1.1, H6.out.1.2, hNr.old hu (by rw [hF, ← HTT.out, HTV.out]; exact (HF.out.eq tt v9).symm), hRe, by simp [hF], hml, H6.out.2⟩
                          · have tq : ((u : Int) != (tv : Int)) = true := by simp; omega
                            have HUT : Hid (u ≠ tv) := hut
                            clear hut
                            go_wp2_with fail
                            go_roundg (m' - (k + 1))
                            case measure => omega
                            case rel =>
                              refine ⟨k + 1, rfl, rfl, by omega, by go_num, fun k' u' hk' hu' => ?_⟩
                              by_cases e : k' = k
                              · subst e
                                have := HU.out
                                rw [hu'] at this
                                injection this with this
                                rw [this]; exact HUT.out
                              · exact HNE.out k' u' (by omega) hu'
                        · have t12 : decide ((k : Int) < (m' : Int)) = false := decide_eq_false (by omega)
                          have hkm : m' = k := by omega
                          subst hkm
                          have tm : ((m' : Int) == (m' : Int)) = true := by simp
                          have HCA : Hid ((V1.alloc (.cells #[.int .i64 (tv : Int)] 3)).heap[V1.heap.size]? = some (.cells #[.int .i64 (tv : Int)] 3 (0, 0)) ∧ (V1.alloc (.cells #[.int .i64 (tv : Int)] 3)).heap.size = V1.heap.size + 1) := ⟨heap_alloc_new V1 _, by simp⟩
                          have HOWC : Hid ((V1.alloc (.cells #[.int .i64 (tv : Int)] 3)).ownsRow (oB + 1) 3 1 (.slice (some ⟨gD, 0, none⟩) m' cap') m' (natI comV)) := by
                            have := HV1.out.1.com
                            rw [HV.out.2.2.2.2.2.1] at this
                            exact this.alloc _
                          go_wp2_with (first | (at_builtin; (refine wpList_append_lies _ rfl _ _ 23 rfl (oB + 1) 3 i3 (.int .i64 0) 1 8 Try.underlying23 g3 g30 g31 g32 rfl (by decide) (.slice aW c kW) c (natI F) rfl HOWW.out ⟨w5.heap.size, 0, none⟩ 1 1 [.int .i64 (m' : Int)] rfl rfl (World.news_of_block (cs := #[.int .i64 (m' : Int)]) HWA.out.1) (fun u hu => by simp at hu; rcases hu with rfl; rfl) (by decide) (by unfold maxLen; omega) (by omega) (by rw [HWA.out.2]; omega) (w5.heap.size + 1) HWA.out.2 ?_; intro g6 cap6 w6 hown6 hgrow6 hat6 hlt6; have hoo : Only (fun b => (Value.slice aW c kW).ownBlock = some b) w5 w6 := (((Only.refl (fun b => (Value.slice aW c kW).ownBlock = some b) w5).alloc _)).grown hgrow6 (fun k hk => hk); have H6 : Hid ((Nm w6 oB lB n (fun x => ((f x : Nat) : Int)) (comV ++ [tv]) (.slice (some ⟨g5, 0, none⟩) (m' + 1) cap5) vN vO rows outs vs ∧ Wv w6 oB (.slice (some ⟨g5, 0, none⟩) (m' + 1) cap5) vs (.slice (some ⟨g6, 0, none⟩) (c + 1) cap6) (F ++ [m'])) ∧ Only (fun b => oB ≤ b) W1 w6) := (by have hF := HV.out.2.2.2.2.1; have k1 := H5.out.2.1.add (g := g6) (cap := cap6) (j := m') H5.out.1 hoo (by rw [hF]; exact hown6) hat6 (Nat.le_succ _); rw [hF] at k1; exact ⟨k1, H5.out.2.2.trans (hoo.mono (fun b hb => own_big H5.out.2.1.own b hb))⟩); clear hown6 hgrow6 hat6 hoo)) | (at_builtin; (refine wpList_append_lies _ rfl _ _ 23 rfl (oB + 1) 3 i3 (.int .i64 0) 1 8 Try.underlying23 g3 g30 g31 g32 rfl (by decide) (.slice (some ⟨gD, 0, none⟩) m' cap') m' (natI comV) rfl HOWC.out ⟨V1.heap.size, 0, none⟩ 1 1 [.int .i64 (tv : Int)] rfl rfl (World.news_of_block (cs := #[.int .i64 (tv : Int)]) HCA.out.1) (fun u hu => by simp at hu; rcases hu with rfl; rfl) (by decide) (by unfold maxLen; omega) (by omega) (by rw [HCA.out.2]; omega) (V1.heap.size + 1) HCA.out.2 ?_; intro g5 cap5 w5 hown5 hgrow5 hat5 hlt5; have hoo : Only (fun b => (Value.slice (some ⟨gD, 0, none⟩) m' cap').ownBlock = some b) V1 w5 := (((Only.refl (fun b => (Value.slice (some ⟨gD, 0, none⟩) m' cap').ownBlock = some b) V1).alloc _)).grown hgrow5 (fun k hk => hk); have H5 : Hid (Nm w5 oB lB n (fun x => ((f x : Nat) : Int)) (comV ++ [tv]) (.slice (some ⟨g5, 0, none⟩) (m' + 1) cap5) vN vO rows outs vs ∧ Wv w5 oB (.slice (some ⟨g5, 0, none⟩) (m' + 1) cap5) vs (.slice aW c kW) F ∧ Only (fun b => oB ≤ b) W1 w5) := (by have hml := HV.out.2.2.2.2.2.1; have k1 := HV1.out.1.addCome (t := tv) (g := g5) (cap := cap5) hoo (by rw [hml]; exact hown5) hat5 (Nat.le_succ _); rw [hml] at k1; exact ⟨k1, HV1.out.2.1.addCome hoo hat5 (Nat.le_succ _), HV1.out.2.2.trans (hoo.mono (fun b hb => own_big HV1.out.1.com b hb))⟩); have HWA : Hid ((w5.alloc (.cells #[.int .i64 (m' : Int)] 3)).heap[w5.heap.size]? = some (.cells #[.int .i64 (m' : Int)] 3 (0, 0)) ∧ (w5.alloc (.cells #[.int .i64 (m' : Int)] 3)).heap.size = w5.heap.size + 1) := ⟨heap_alloc_new w5 _, by simp⟩; have HOWW : Hid ((w5.alloc (.cells #[.int .i64 (m' : Int)] 3)).ownsRow (oB + 1) 3 1 (.slice aW c kW) c (natI F)) := (by have := H5.out.2.1.own; rw [HV.out.2.2.2.2.1] at this; exact this.alloc _); have lw5 : oB < w5.heap.size := (Array.getElem?_eq_some_iff.1 H5.out.1.num).1; clear hown5 hgrow5 hat5 hoo)))
                          go_roundg (nc - (c + 1))
                          case measure => omega
                          case rel =>
                            obtain ⟨_, _, hNr, hRe, hF, hml, _⟩ := HV.out
                            have hnew := hNr.new (u := tv) htvn (fun i t ht he => by
                              have h1 := HF.out.apart (i := t) (j := tt) (hNr.cm.lt i t ht) v9 (by rw [hRe i t ht, ← HTV.out]; exact HNE.out i t (by have := (List.getElem?_eq_some_iff.1 ht).1; omega) ht)
                              rw [hRe i t ht, ← HTV.out] at h1
                              exact h1 he) (by rw [hF, ← HTT.out, HTV.out]; exact (HF.out.eq tt v9).symm)
                            rw [hml] at hnew
                            refine ⟨g5, cap5, m' + 1, some ⟨g6, 0, none⟩, cap6, c + 1, _, rfl, rfl, by omega, rfl, rfl, by go_num, comV ++ [tv], F ++ [m'], H6.out.1.1, H6.out.1.2, hnew, fun i t ht => ?_, by simp [hF], by simp [hml], H6.out.2⟩
                            rcases Hm.snoc_at ht with h1 | ⟨_, rfl⟩
                            · exact hRe i t h1
                            · rw [HTV.out]; exact HF.out.idem v9
                    · have t10 : decide ((c : Int) < (nc : Int)) = false := decide_eq_false (by omega)
                      have hcn : c = nc := by omega
                      obtain ⟨aN, kN, eN⟩ := own_form HV.out.1.nx
                      obtain ⟨aO, kO, eO⟩ := own_form HV.out.1.out
                      have hri := HNm.out.2.2.2.1
                      have hro : outs.length = i := by rw [← hri]; exact HNm.out.2.1.olen
                      rw [hri] at eN
                      rw [hro] at eO
                      subst eN
                      subst eO
                      have HFF : Hid (F.length = nc ∧ rows.length = i ∧ outs.length = i ∧ c = nc) := by
                        obtain ⟨_, _, _, _, hF, _⟩ := HV.out
                        exact ⟨by omega, hri, hro, hcn⟩
                      clear hri hro hcn
                      go_wp2_with fail
                      go_quiet (fail)
                      obtain ⟨V1, hV1⟩ : ∃ V1, V1 = V.drewN nq := ⟨_, rfl⟩
                      rw [← hV1]
                      have HV1 : Hid (Nm V1 oB lB n (fun x => ((f x : Nat) : Int)) comV (.slice (some ⟨gD, 0, none⟩) m' cap') (.slice aN i kN) (.slice aO i kO) rows outs vs ∧ Wv V1 oB (.slice (some ⟨gD, 0, none⟩) m' cap') vs (.slice aW c kW) F ∧ Only (fun b => oB ≤ b) W1 V1) := by
                        rw [hV1]
                        have o := (Only.refl (fun _ => False) V).drewN nq
                        exact ⟨HV.out.1.idle o, HV.out.2.1.idle o, HV.out.2.2.2.2.2.2.trans (o.mono (fun _ h => h.elim))⟩
                      clear hV1 v1 v2 v3 l1 l2 l3 lVo
                      have lVn : oB < V1.heap.size := (Array.getElem?_eq_some_iff.1 HV1.out.1.num).1
                      have lVl : lB < V1.heap.size := (Array.getElem?_eq_some_iff.1 HV1.out.1.lst).1
                      have v1 : V1.cell? ⟨lB, 0, none⟩ = some (.slice aN i kN) := cell_blk HV1.out.1.lst
                      have HVA : Hid ((V1.alloc (.cells #[.slice aW c kW] 23)).heap[V1.heap.size]? = some (.cells #[.slice aW c kW] 23 (0, 0)) ∧ (V1.alloc (.cells #[.slice aW c kW] 23)).heap.size = V1.heap.size + 1) := ⟨heap_alloc_new V1 _, by simp⟩
                      have HOWN : Hid ((V1.alloc (.cells #[.slice aW c kW] 23)).ownsRow (oB + 1) 23 1 (.slice aN i kN) i vs) := by
                        have := HV1.out.1.nx
                        rw [HFF.out.2.1] at this
                        exact this.alloc _
                      go_wp2_with (at_builtin; (refine wpList_append_lies _ rfl _ _ 25 rfl (oB + 1) 23 i23 (.slice none 0 0) 1 24 Try.underlying25 g23 g230 g231 g232 rfl (by decide) (.slice aN i kN) i vs rfl HOWN.out ⟨V1.heap.size, 0, none⟩ 1 1 [.slice aW c kW] rfl rfl (World.news_of_block (cs := #[.slice aW c kW]) HVA.out.1) (fun u hu => by simp at hu; rcases hu with rfl; rfl) (by decide) (by unfold maxLen; omega) (by omega) (by rw [HVA.out.2]; omega) (V1.heap.size + 1) HVA.out.2 ?_; intro g6 cap6 w6 hown6 hgrow6 hat6 hlt6; have hoo : Only (fun b => (Value.slice aN i kN).ownBlock = some b) V1 w6 := (((Only.refl (fun b => (Value.slice aN i kN).ownBlock = some b) V1).alloc _)).grown hgrow6 (fun k hk => hk); have H6 : Hid (Nm (w6.setCell ⟨lB, 0, none⟩ (.slice (some ⟨g6, 0, none⟩) (i + 1) cap6)) oB lB n (fun x => ((f x : Nat) : Int)) comV (.slice (some ⟨gD, 0, none⟩) m' cap') (.slice (some ⟨g6, 0, none⟩) (i + 1) cap6) (.slice aO i kO) (rows ++ [F]) outs (vs ++ [.slice aW c kW]) ∧ Only (fun b => oB ≤ b) W1 (w6.setCell ⟨lB, 0, none⟩ (.slice (some ⟨g6, 0, none⟩) (i + 1) cap6))) := (by obtain ⟨hF, hri, hro, hcn⟩ := HFF.out; have k1 := HV1.out.1.addRow (F := F) (g := g6) (cap := cap6) (vW := .slice aW c kW) HV1.out.2.1.own HV1.out.2.1.far hoo (by rw [hri]; exact hown6); rw [hri] at k1; exact ⟨k1, (HV1.out.2.2.trans (hoo.mono (fun b hb => own_big HV1.out.1.nx b hb))).setCell (p := ⟨lB, 0, none⟩) (by show oB ≤ lB; omega) _⟩); have b6 := (hoo.block _ lVl (own_ne HV1.out.1.nx HV1.out.1.lst (by decide))).trans HV1.out.1.lst; have d6 : w6.cell? ⟨lB, 0, none⟩ = some (.slice aN i kN) := cell_blk b6; have f6 : ∀ y, w6.frozen? ⟨lB, y, none⟩ = false := (fun y => fz_blk b6 y); have l6 : lB < w6.heap.size := World.block_lt_of_cell? w6 _ d6; clear hown6 hgrow6 hat6 hoo b6))
                      obtain ⟨Y, hY⟩ : ∃ Y, Y = w6.setCell ⟨lB, 0, none⟩ (.slice (some ⟨g6, 0, none⟩) (i + 1) cap6) := ⟨_, rfl⟩
                      rw [← hY] at H6 ⊢
                      clear hY d6 f6 l6 v1 HVA HOWN
                      have HYL : Hid _ := HLO.out Y (HMO.out Y H6.out.2).2
                      have y1 : Y.cell? ⟨lB, 1, none⟩ = some (.slice aO i kO) := cell_blk H6.out.1.lst
                      have fy : ∀ x, Y.frozen? ⟨lB, x, none⟩ = false := fun x => fz_blk H6.out.1.lst x
                      have y2 : Y.cell? ⟨w.heap.size, 1, none⟩ = some (.slice (some ⟨bo, oo, none⟩) n co) := cell_blk HYL.out.2.1
                      have y3 : Y.cell? ⟨gD, i, none⟩ = some (.int .i64 (s : Int)) := row_cell H6.out.1.com hs'
                      have y4 : Y.cell? ⟨bo, oo + s, none⟩ = some (.int .u32 (O s : Int)) := keepC HYL.out.1 (HO.out s hsn)
                      have ly1 : lB < Y.heap.size := World.block_lt_of_cell? Y _ y1
                      have ly2 : w.heap.size < Y.heap.size := World.block_lt_of_cell? Y _ y2
                      have ly3 := World.block_lt_of_cell? Y _ y3
                      have ly4 := World.block_lt_of_cell? Y _ y4
                      have HOWO : Hid (Y.ownsRow (oB + 1) 38 1 (.slice aO i kO) i (outs.map u32V)) := by
                        have := H6.out.1.out
                        rw [HFF.out.2.2.1] at this
                        exact this
                      clear hs'
                      go_region_law (refine step_append_lies _ (by rfl) _ _ _ (by rfl) (oB + 1) 38 i38 _ 1 4 Try.underlying22 g38 g380 g381 g382 rfl (by decide) (.slice aO i kO) i (outs.map u32V) (by rfl) (by exact HOWO.out.alloc _) ⟨Y.heap.size, 0, none⟩ 1 1 [.int .u32 (O s : Int)] (by rfl) rfl (World.news_of_block (cs := #[.int .u32 (O s : Int)]) (heap_alloc_new Y (.cells #[.int .u32 (O s : Int)] 38))) (fun u hu => by simp at hu; rcases hu with rfl; rfl) (by decide) (by unfold maxLen; omega) (by omega) (by simp; omega) (Y.heap.size + 1) (by simp) ?_; intro g7 cap7 w7 hown7 hgrow7 hat7 hlt7; have hoo : Only (fun b => (Value.slice aO i kO).ownBlock = some b) Y w7 := (((Only.refl (fun b => (Value.slice aO i kO).ownBlock = some b) Y).alloc _).drew).grown hgrow7 (fun k hk => hk); have H7 : Hid (Nm (w7.setCell ⟨lB, 1, none⟩ (.slice (some ⟨g7, 0, none⟩) (i + 1) cap7)) oB lB n (fun x => ((f x : Nat) : Int)) comV (.slice (some ⟨gD, 0, none⟩) m' cap') (.slice (some ⟨g6, 0, none⟩) (i + 1) cap6) (.slice (some ⟨g7, 0, none⟩) (i + 1) cap7) (rows ++ [F]) (outs ++ [O s]) (vs ++ [.slice aW c kW]) ∧ Only (fun b => oB ≤ b) W1 (w7.setCell ⟨lB, 1, none⟩ (.slice (some ⟨g7, 0, none⟩) (i + 1) cap7))) := (by obtain ⟨hF, hri, hro, hcn⟩ := HFF.out; have k1 := H6.out.1.addOut (o := O s) (g := g7) (cap := cap7) hoo (by rw [hro]; exact hown7); rw [hro] at k1; exact ⟨k1, (H6.out.2.trans (hoo.mono (fun b hb => own_big H6.out.1.out b hb))).setCell (p := ⟨lB, 1, none⟩) (by show oB ≤ lB; omega) _⟩); have b7 := (hoo.block _ ly1 (own_ne H6.out.1.out H6.out.1.lst (by decide))).trans H6.out.1.lst; have d7 : w7.cell? ⟨lB, 1, none⟩ = some (.slice aO i kO) := cell_blk b7; have f7 : ∀ y, w7.frozen? ⟨lB, y, none⟩ = false := (fun y => fz_blk b7 y); have l7 : lB < w7.heap.size := World.block_lt_of_cell? w7 _ d7; clear hown7 hgrow7 hat7 hoo b7)
                      all_goals
                        go_wp2_with fail
                        go_roundg (n - (i + 1))
                        case measure => omega
                        case rel =>
                          obtain ⟨k1, k2⟩ := H7.out
                          obtain ⟨hF, hri, hro, hcn⟩ := HFF.out
                          refine ⟨gD, cap', m', i + 1, _, rfl, rfl, rfl, by go_num, comV, rows ++ [F], outs ++ [O s], _, _, _, k1, HNm.out.2.1.next (by rw [hri]; exact HS.out) HV.out.2.2.1 hF, HV.out.2.2.2.1, by simp [hri], HV.out.2.2.2.2.2.1, k2⟩
                · have t7 : decide ((i : Int) < (m : Int)) = false := decide_eq_false (by omega)
                  have him2 : i = m := by omega
                  obtain ⟨aN, kN, eN⟩ := own_form HNm.out.1.nx
                  obtain ⟨aO, kO, eO⟩ := own_form HNm.out.1.out
                  subst eN
                  subst eO
                  have HWL : Hid _ := HLO.out W (HMO.out W HNm.out.2.2.2.2.2).2
                  have HRW : Hid (W.heap[w.heap.size + 1]? = some (.cells #[.slice none 0 0, .slice none 0 0] 27 (0, 0))) := HWL.out.2.2
                  have x1 : W.cell? ⟨lB, 0, none⟩ = some (.slice aN rows.length kN) := cell_blk HNm.out.1.lst
                  have x2 : W.cell? ⟨lB, 1, none⟩ = some (.slice aO outs.length kO) := cell_blk HNm.out.1.lst
                  have x3 : W.cell? ⟨w.heap.size + 1, 0, none⟩ = some (.slice none 0 0) := cell_blk HRW.out
                  have x4 : W.cell? ⟨w.heap.size + 1, 1, none⟩ = some (.slice none 0 0) := cell_blk HRW.out
                  have fx : ∀ y, W.frozen? ⟨w.heap.size + 1, y, none⟩ = false := fun y => fz_blk HRW.out y
                  have lx1 : lB < W.heap.size := World.block_lt_of_cell? W _ x1
                  have lx3 : w.heap.size + 1 < W.heap.size := World.block_lt_of_cell? W _ x3
                  clear hri hml hri2
                  go_wp2_with fail
                  refine bodyPost_ret (v := .agg #[.slice aN rows.length kN, .slice aO outs.length kO]) (results_cell_row rfl _ _ (w.heap.size + 1) 27 #[.slice aN rows.length kN, .slice aO outs.length kO] (0, 0) _ rfl (heap_setCell_at (heap_setCell_at HRW.out _) _) Try.underlying27 rfl sz27c) rfl ?_
                  obtain ⟨hNm, hNu, hNk, hri, hml, hoW⟩ := HNm.out
                  have o1 := ((Only.refl (fun b => b = w.heap.size + 1) W).setCell (p := ⟨w.heap.size + 1, 0, none⟩) rfl (.slice aN rows.length kN)).setCell (p := ⟨w.heap.size + 1, 1, none⟩) rfl (.slice aO outs.length kO)
                  refine ⟨_, rows, outs, come, rfl, ⟨_, _, vs, rfl, hNm.vl, ?_, fun i r L hr hL => ?_, ?_⟩, hNu.done (by omega), ?_⟩
                  · rw [hNm.vl]
                    exact own_base (own_stay hNm.nx o1 (fun q hq e => by have := (own_own hNm.nx hq).1; omega)) (by omega)
                  · exact own_base (own_stay (hNm.each i r L hr hL) o1 (fun q hq e => by have := (own_own (hNm.each i r L hr hL) hq).1; omega)) (by omega)
                  · exact own_base (own_stay hNm.out o1 (fun q hq e => by have := (own_own hNm.out hq).1; omega)) (by omega)
                  · exact ((HWL.out.1).mono (S' := fun b => b = w.heap.size + 1) (fun _ h => h.elim)).trans o1 |>.old (fun g hg => Or.inl (by omega))



end Go.Proofs.Ytelifjeppegcmaa
