/-
  pats.valued; slices.ContainsFunc of numbers, asked for digits.
-/
import Derived.Test.YtjgbfpemkjpikaaDoorL3
import Derived.Deep.OwnRows
namespace Go.Proofs.YtjgbfpemkjpikaaDoor
open Go.RowKit Go.Maps
set_option linter.unusedVariables false
set_option linter.unusedSimpArgs false
theorem any_step {L : List Nat} {i x : Nat} (h : L.drop i = x :: L.drop (i + 1)) (p : Nat → Bool) : (L.drop i).any p = (p x || (L.drop (i + 1)).any p) := by rw [h, List.any_cons]
set_option maxRecDepth 100000 in
set_option maxHeartbeats 2000000 in
theorem indexDg_any (L : List Nat) (a : Option Addr) (n c : Nat) (w : World) (hL : Nl w a n L) (hn : n ≤ 1000000) :
    Calls Tryd.prog 49 #[.slice a n c, .func (.func 33) #[] #[]] w fun e w' => (∃ i : Int, e = .returned (.int .i64 i) ∧ (0 ≤ i ↔ L.any Pt.isDg = true)) ∧ w' = w := by
  have HL : Hid (Nl w a n L) := hL
  clear hL
  go_enter Tryd.func49, Tryd.ntmps49
  go_wp2_with fail
  go_loopg [8] n (fun gh v wr => ∃ (i : Nat), gh = n - i ∧ i ≤ n ∧ v = .int .i64 (i : Int) ∧ wr = w ∧ (L.any Pt.isDg = (L.drop i).any Pt.isDg))
  case atStart => exact ⟨0, rfl, Nat.zero_le _, rfl, rfl, by simp⟩
  case round =>
    obtain ⟨i, rfl, hi, rfl, rfl, hm⟩ := hrel
    have HM : Hid (L.any Pt.isDg = (L.drop i).any Pt.isDg) := hm
    clear hm
    by_cases hlt : i < n
    · have t1 : (i : Int) < (n : Int) := by omega
      obtain ⟨b, off, x, rfl, hb, hx, hc⟩ := HL.out.at hlt
      have HX : Hid ((L.drop i).any Pt.isDg = (Pt.isDg x || (L.drop (i + 1)).any Pt.isDg)) := any_step (drop_step hx) _
      clear hx
      cases hd : Pt.isDg x with
      | true =>
        have HD : Hid (Pt.isDg x = true) := hd
        clear hd
        go_wp2_with (go_at_call 33; refine Calls.mono (isDigit_any x _) ?_; rintro e w1 ⟨rfl, hw1⟩; obtain rfl := hw1.symm; rw [HD.out])
        go_ret
        refine ⟨⟨(i : Int), rfl, ?_⟩, rfl⟩
        rw [HM.out, HX.out, HD.out]
        simp
      | false =>
        have HD : Hid (Pt.isDg x = false) := hd
        clear hd
        go_wp2_with (go_at_call 33; refine Calls.mono (isDigit_any x _) ?_; rintro e w1 ⟨rfl, hw1⟩; obtain rfl := hw1.symm; rw [HD.out])
        go_roundg (n - (i + 1))
        case measure => omega
        case rel =>
          refine ⟨i + 1, rfl, by omega, by go_num, rfl, ?_⟩
          rw [HM.out, HX.out, HD.out, Bool.false_or]
    · have t2 : decide ((i : Int) < (n : Int)) = false := decide_eq_false (by omega)
      go_wp2_with fail
      go_ret
      refine ⟨⟨-1, rfl, ?_⟩, rfl⟩
      rw [HM.out, List.drop_eq_nil_of_le (by have := HL.out.1; omega)]
      simp
set_option maxRecDepth 100000 in
set_option maxHeartbeats 2000000 in
theorem containsDg_any (L : List Nat) (a : Option Addr) (n c : Nat) (w : World) (hL : Nl w a n L) (hn : n ≤ 1000000) :
    Calls Tryd.prog 38 #[.slice a n c, .func (.func 33) #[] #[]] w fun e w' => e = .returned (.bool (L.any Pt.isDg)) ∧ w' = w := by
  have HI : Hid (Calls Tryd.prog 49 #[.slice a n c, .func (.func 33) #[] #[]] w fun e w' => (∃ i : Int, e = .returned (.int .i64 i) ∧ (0 ≤ i ↔ L.any Pt.isDg = true)) ∧ w' = w) := indexDg_any L a n c w hL hn
  go_enter Tryd.func38, Tryd.ntmps38
  go_wp2_with (go_at_call 49; refine Calls.mono HI.out ?_; rintro e w1 ⟨⟨i, rfl, hi⟩, hw1⟩; obtain rfl := hw1.symm; have HII : Hid (0 ≤ i ↔ L.any Pt.isDg = true) := hi; clear hi)
  go_ret
  refine ⟨?_, rfl⟩
  have : L.any Pt.isDg = decide (0 ≤ i) := by
    rw [Bool.eq_iff_iff, decide_eq_true_eq]
    exact HII.out.symm
  rw [this]
  first | rfl | simp
/-- small numbers as cells. -/
def u8s (l : List Nat) : List Value := l.map (fun (x : Nat) => Value.int .u8 (x : Int))
/-- so many values, the rest still 0. -/
def vrow (f : Nat → Nat) (M : List Nat) (i : Nat) : List Nat := (M.take i).map f ++ List.replicate (M.length - i) 0
theorem vrow_len (f : Nat → Nat) (M : List Nat) (i : Nat) (h : i ≤ M.length) : (vrow f M i).length = M.length := by
  unfold vrow
  simp
  omega
theorem vrow_zero (f : Nat → Nat) (M : List Nat) : vrow f M 0 = List.replicate M.length 0 := by simp [vrow]
theorem vrow_done (f : Nat → Nat) (M : List Nat) : vrow f M M.length = M.map f := by simp [vrow]
theorem vrow_set (f : Nat → Nat) (M : List Nat) (i m : Nat) (h : M[i]? = some m) : (u8s (vrow f M i)).toArray.setIfInBounds i (.int .u8 ((f m : Nat) : Int)) = (u8s (vrow f M (i + 1))).toArray := by
  have hi := (List.getElem?_eq_some_iff.1 h).1
  apply Array.ext'
  rw [Array.toList_setIfInBounds]
  simp only [List.toList_toArray]
  unfold u8s vrow
  rw [List.take_succ_eq_append_getElem hi, (List.getElem?_eq_some_iff.1 h).2, show M.length - i = (M.length - (i + 1)) + 1 by omega, List.replicate_succ]
  rw [List.map_append, List.map_cons, List.map_append, List.map_append, List.map_append, List.append_assoc]
  have hl : (List.map (fun (x : Nat) => Value.int .u8 (x : Int)) (List.map f (M.take i))).length = i := by simp; omega
  rw [List.set_append_right _ _ (by omega), hl, Nat.sub_self]
  simp
theorem vrow_skip (f : Nat → Nat) (M : List Nat) (i m : Nat) (h : M[i]? = some m) (hf : f m = 0) : vrow f M i = vrow f M (i + 1) := by
  have hi := (List.getElem?_eq_some_iff.1 h).1
  unfold vrow
  rw [List.take_succ_eq_append_getElem hi, (List.getElem?_eq_some_iff.1 h).2, show M.length - i = (M.length - (i + 1)) + 1 by omega, List.replicate_succ]
  simp [hf]
theorem info5b : (Tryd.prog.info? 5).map (fun i => (i.zero, i.size, i.bytes)) = some (some (.int .u8 0), 1, 1) := by kernel_rfl
theorem made_u8 (n : Nat) : madeCells #[.int .u8 0] n = (u8s (List.replicate n 0)).toArray := by
  apply Array.ext
  · simp [u8s, size_madeCells]
  · intro i h1 h2
    simp [madeCells, u8s, Nat.mod_one]
set_option maxRecDepth 100000 in
set_option maxHeartbeats 4000000 in
theorem valued_dg (M : List Nat) (a : Option Addr) (n c : Nat) (w : World) (hM : Nl w a n M) (hn : n ≤ 1000) (hd : ∀ m ∈ M, m = 0 ∨ Pt.isDg m = true) :
    Calls Tryd.prog 35 #[.slice a n c, .func (.func 36) #[] #[]] w fun e w' => e = .returned (.slice (some ⟨w.heap.size, 0, none⟩) n n) ∧ w'.heap[w.heap.size]? = some (.cells (u8s (M.map Pt.dval)).toArray 5 (0, 0)) ∧ Only (fun _ => False) w w' := by
  have HM : Hid (Nl w a n M) := hM
  have HML : Hid (M.length = n) := hM.1
  have HDD : Hid (∀ m ∈ M, m = 0 ∨ Pt.isDg m = true) := hd
  clear hd
  clear hM
  have hmk := fun (w : World) => run_make_row' (P := Tryd.prog) 35 5 (.int .u8 0) 1 Tryd.underlying35 info5b rfl .i64 .i64 n (by omega) (by omega) w
  have HA : Hid ((w.alloc (.cells (madeCells #[.int .u8 0] n) 5)).heap[w.heap.size]? = some (.cells (u8s (vrow Pt.dval M 0)).toArray 5 (0, 0))) := by
    show _ = _
    rw [vrow_zero, HML.out, ← made_u8]
    exact heap_alloc_new _ _
  go_enter Tryd.func35, Tryd.ntmps35
  go_wp2_with fail
  clear hmk
  go_loopg [13] n (fun gh v wr => ∃ (i : Nat) (W : World), W = wr ∧ gh = n - i ∧ i ≤ n ∧ v = .int .i64 (i : Int) ∧ W.heap[w.heap.size]? = some (.cells (u8s (vrow Pt.dval M i)).toArray 5 (0, 0)) ∧ Only (fun _ => False) w W)
  case atStart => exact ⟨0, _, rfl, rfl, Nat.zero_le _, rfl, HA.out, (Only.refl _ _).alloc _⟩
  case round =>
    obtain ⟨i, W, hW, rfl, hi, rfl, hb, ho⟩ := hrel
    subst hW
    have HB : Hid (W.heap[w.heap.size]? = some (.cells (u8s (vrow Pt.dval M i)).toArray 5 (0, 0))) := hb
    have HO : Hid (Only (fun _ => False) w W) := ho
    have hl : w.heap.size < W.heap.size := (Array.getElem?_eq_some_iff.1 hb).1
    clear hb ho
    by_cases hlt : i < n
    · have t1 : (i : Int) < (n : Int) := by omega
      obtain ⟨b, off, m, rfl, hbl, hx, hc⟩ := (HM.out.keep HO.out).at hlt
      have HX : Hid (M[i]? = some m) := hx
      by_cases hm : m = 0
      · subst hm
        clear hx
        go_wp2_with fail
        go_roundg (n - (i + 1))
        case measure => omega
        case rel => exact ⟨i + 1, _, rfl, rfl, by omega, by go_num, by rw [← vrow_skip Pt.dval M i 0 HX.out rfl]; exact HB.out, HO.out⟩
      · have q1 : ((m : Int) == 0) = false := by simp; omega
        have q2 : ¬ (m : Int) = 0 := by omega
        obtain ⟨vv, hvv⟩ : ∃ vv, vv = Pt.dval m := ⟨_, rfl⟩
        have HVV : Hid (vv = Pt.dval m) := hvv
        have HCL : Hid (∀ W, Calls Tryd.prog 36 #[.int .i32 (m : Int)] W fun e w' => e = .returned (.int .u8 (vv : Int)) ∧ w' = W) := fun W => by
          rw [hvv]
          have hd2 : Pt.isDg m = true := (HDD.out m (List.mem_of_getElem? hx)).resolve_left hm
          unfold Pt.isDg at hd2
          simp at hd2
          have e : Pt.dval m = m - 48 := by unfold Pt.dval; rw [if_pos hm]
          rw [e]
          exact digitValue_any m W hd2.1 hd2.2
        have HFZ := fz_blk HB.out i
        obtain ⟨old, hold⟩ : ∃ old, W.cell? ⟨w.heap.size, i, none⟩ = some old := by
          rw [cell_blk HB.out]
          exact ⟨_, Array.getElem?_eq_getElem (by simp [u8s, vrow_len _ _ _ (show i ≤ M.length by have := HML.out; omega)]; have := HML.out; omega)⟩
        clear hx hvv
        go_wp2_with (go_at_call 36; refine Calls.mono (HCL.out _) ?_; rintro e w1 ⟨rfl, hw1⟩; obtain rfl := hw1.symm)
        go_roundg (n - (i + 1))
        case measure => omega
        case rel =>
          refine ⟨i + 1, _, rfl, rfl, by omega, by go_num, ?_, HO.out.setNew (Nat.le_refl _) _⟩
          rw [← vrow_set Pt.dval M i m HX.out, ← HVV.out]
          exact heap_setCell_at HB.out _
    · have t2 : decide ((i : Int) < (n : Int)) = false := decide_eq_false (by omega)
      obtain rfl : n = i := by omega
      go_wp2_with fail
      go_ret
      refine ⟨rfl, ?_, HO.out⟩
      rw [← vrow_done, HML.out]
      exact HB.out
set_option maxRecDepth 100000 in
set_option maxHeartbeats 4000000 in
theorem valued_hy (M : List Nat) (a : Option Addr) (n c : Nat) (w : World) (hM : Nl w a n M) (hn : n ≤ 1000) :
    Calls Tryd.prog 35 #[.slice a n c, .func (.func 40) #[] #[]] w fun e w' => e = .returned (.slice (some ⟨w.heap.size, 0, none⟩) n n) ∧ w'.heap[w.heap.size]? = some (.cells (u8s (M.map Pt.hval)).toArray 5 (0, 0)) ∧ Only (fun _ => False) w w' := by
  have HM : Hid (Nl w a n M) := hM
  have HML : Hid (M.length = n) := hM.1
  clear hM
  have hmk := fun (w : World) => run_make_row' (P := Tryd.prog) 35 5 (.int .u8 0) 1 Tryd.underlying35 info5b rfl .i64 .i64 n (by omega) (by omega) w
  have HA : Hid ((w.alloc (.cells (madeCells #[.int .u8 0] n) 5)).heap[w.heap.size]? = some (.cells (u8s (vrow Pt.hval M 0)).toArray 5 (0, 0))) := by
    show _ = _
    rw [vrow_zero, HML.out, ← made_u8]
    exact heap_alloc_new _ _
  go_enter Tryd.func35, Tryd.ntmps35
  go_wp2_with fail
  clear hmk
  go_loopg [13] n (fun gh v wr => ∃ (i : Nat) (W : World), W = wr ∧ gh = n - i ∧ i ≤ n ∧ v = .int .i64 (i : Int) ∧ W.heap[w.heap.size]? = some (.cells (u8s (vrow Pt.hval M i)).toArray 5 (0, 0)) ∧ Only (fun _ => False) w W)
  case atStart => exact ⟨0, _, rfl, rfl, Nat.zero_le _, rfl, HA.out, (Only.refl _ _).alloc _⟩
  case round =>
    obtain ⟨i, W, hW, rfl, hi, rfl, hb, ho⟩ := hrel
    subst hW
    have HB : Hid (W.heap[w.heap.size]? = some (.cells (u8s (vrow Pt.hval M i)).toArray 5 (0, 0))) := hb
    have HO : Hid (Only (fun _ => False) w W) := ho
    have hl : w.heap.size < W.heap.size := (Array.getElem?_eq_some_iff.1 hb).1
    clear hb ho
    by_cases hlt : i < n
    · have t1 : (i : Int) < (n : Int) := by omega
      obtain ⟨b, off, m, rfl, hbl, hx, hc⟩ := (HM.out.keep HO.out).at hlt
      have HX : Hid (M[i]? = some m) := hx
      by_cases hm : m = 0
      · subst hm
        clear hx
        go_wp2_with fail
        go_roundg (n - (i + 1))
        case measure => omega
        case rel => exact ⟨i + 1, _, rfl, rfl, by omega, by go_num, by rw [← vrow_skip Pt.hval M i 0 HX.out rfl]; exact HB.out, HO.out⟩
      · have q1 : ((m : Int) == 0) = false := by simp; omega
        have q2 : ¬ (m : Int) = 0 := by omega
        obtain ⟨vv, hvv⟩ : ∃ vv, vv = Pt.hval m := ⟨_, rfl⟩
        have HVV : Hid (vv = Pt.hval m) := hvv
        have HCL : Hid (∀ W, Calls Tryd.prog 40 #[.int .i32 (m : Int)] W fun e w' => e = .returned (.int .u8 (vv : Int)) ∧ w' = W) := fun W => by
          rw [hvv]
          have e : Pt.hval m = 1 := by unfold Pt.hval; rw [if_pos hm]
          rw [e]
          exact hyphenValue_any _ W
        have HFZ := fz_blk HB.out i
        obtain ⟨old, hold⟩ : ∃ old, W.cell? ⟨w.heap.size, i, none⟩ = some old := by
          rw [cell_blk HB.out]
          exact ⟨_, Array.getElem?_eq_getElem (by simp [u8s, vrow_len _ _ _ (show i ≤ M.length by have := HML.out; omega)]; have := HML.out; omega)⟩
        clear hx hvv
        go_wp2_with (go_at_call 40; refine Calls.mono (HCL.out _) ?_; rintro e w1 ⟨rfl, hw1⟩; obtain rfl := hw1.symm)
        go_roundg (n - (i + 1))
        case measure => omega
        case rel =>
          refine ⟨i + 1, _, rfl, rfl, by omega, by go_num, ?_, HO.out.setNew (Nat.le_refl _) _⟩
          rw [← vrow_set Pt.hval M i m HX.out, ← HVV.out]
          exact heap_setCell_at HB.out _
    · have t2 : decide ((i : Int) < (n : Int)) = false := decide_eq_false (by omega)
      obtain rfl : n = i := by omega
      go_wp2_with fail
      go_ret
      refine ⟨rfl, ?_, HO.out⟩
      rw [← vrow_done, HML.out]
      exact HB.out
end Go.Proofs.YtjgbfpemkjpikaaDoor
