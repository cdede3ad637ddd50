/-
  copy of a row of bools; stanzaref04.more; Ends of an expression, kind by kind.
-/
import Derived.Test.YtfbcijnacbfjpaaEn0z
import Derived.Test.YtfbcijnacbfjpaaMchz
import Derived.Test.YtfbcijnacbfjpaaSts0z
import Derived.Test.YtfbcijnacbfjpaaRbz
import Derived.Laws.CopyOwn
import Derived.Deep.RegionHeld3
namespace Go.Proofs.Ytfbcijnacbfjpaa
open Go.RowKit Go.Maps
set_option linter.unusedVariables false
set_option linter.unusedSimpArgs false
open Rl (Ex)
theorem size4 : (Try.prog.info? 4).map (·.size) = some 1 := by kernel_rfl
theorem wpList_copy_bk {w : World} {ops : Array Oper} {rest : List Oper} {o : Oper} {a : Act} {Q : Exit → Act → World → Prop} (hgd : o.guard = none) (d s : Operand)
    (ho : o.op = .call { callee := .builtin .copy, args := #[d, s], argTypes := #[86, 86] }) (g n dc x b sc t : Nat) (hd : a.eval d = .slice (some ⟨g, 0, none⟩) n dc) (hs : a.eval s = .slice (some ⟨b, 0, none⟩) n sc) (hg : Bk w g n x) (hb : Bn w b n t)
    (h : ∀ w', Bk w' g n t → Only (· = g) w w' → wpList Try.prog ops Q rest (a.put o.dst (goInt n)) w') : wpList Try.prog ops Q (o :: rest) a w := by
  refine wpList_copy_own hgd d s 86 86 ho 4 Try.underlying86 size4 g 0 n dc ⟨b, 0, none⟩ n sc hd hs (bA n x) 4 hg (blL n t) (by rw [blL_len]; simp) hb.news (by rw [blL_len, bA_size]; omega) (blL_cell n t) ?_
  rw [blL_len]
  have e : ((bA n x).toList.take 0 ++ (blL n t ++ (bA n x).toList.drop (0 + n))).toArray = bA n t := by
    rw [List.take_zero, List.nil_append, Nat.zero_add, List.drop_eq_nil_of_le (by rw [Array.length_toList, bA_size]; exact Nat.le_refl _), List.append_nil]
    unfold blL
    rw [Array.toArray_toList]
  rw [e]
  refine h _ (setRow_heap w g _ _ 4 _ hg) ?_
  exact ⟨rfl, rfl, rfl, by simp [World.setRow], fun k hk hn => Go.setRow_other w g k _ hn⟩
set_option maxRecDepth 100000 in
set_option maxHeartbeats 4000000 in
theorem more_any (b1 b2 n c1 c2 s t : Nat) (w : World) (h1 : Bn w b1 n s) (h2 : Bn w b2 n t) (hn : n ≤ 200) :
    Calls Try.prog 48 #[.slice (some ⟨b1, 0, none⟩) n c1, .slice (some ⟨b2, 0, none⟩) n c2] w fun e w' => ∃ b, e = .returned (.bool b) ∧ (b = true ↔ ∃ j, j < n ∧ t.testBit j = true ∧ s.testBit j = false) ∧ Only (fun _ => False) w w' := by
  have H1 : Hid (Bn w b1 n s) := h1
  have H2 : Hid (Bn w b2 n t) := h2
  have l1 := h1.1
  have l2 := h2.1
  clear h1 h2
  go_enter Try.func48, Try.ntmps48
  go_wp2_with fail
  go_loopg [5] n (fun gh v wr => ∃ (i : Nat), w = wr ∧ gh = n - i ∧ i ≤ n ∧ v = .int .i64 (i : Int) ∧ ∀ j, j < i → t.testBit j = true → s.testBit j = true)
  case atStart => exact ⟨0, rfl, rfl, by omega, rfl, fun j hj => absurd hj (Nat.not_lt_zero _)⟩
  case round =>
    obtain ⟨i, rfl, rfl, hi, rfl, hb⟩ := hrel
    have HB : Hid (∀ j, j < i → t.testBit j = true → s.testBit j = true) := hb
    clear hb
    by_cases hlt : i < n
    · have t1 : (i : Int) < (n : Int) := by omega
      have k1 := H1.out.2 i hlt
      have k2 := H2.out.2 i hlt
      cases ht : t.testBit i with
      | false =>
        rw [ht] at k2
        have HT : Hid (t.testBit i = false) := ht
        clear ht k1
        go_wp2_with fail
        go_roundg (n - (i + 1))
        case measure => omega
        case rel =>
          refine ⟨i + 1, rfl, rfl, by omega, by go_num, fun j hj hx => ?_⟩
          by_cases e : j = i
          · subst e; rw [HT.out] at hx; cases hx
          · exact HB.out j (by omega) hx
      | true =>
        rw [ht] at k2
        cases hs : s.testBit i with
        | false =>
          rw [hs] at k1
          have HT : Hid (t.testBit i = true ∧ s.testBit i = false) := ⟨ht, hs⟩
          clear ht hs
          go_wp2_with fail
          go_ret
          exact ⟨true, rfl, ⟨fun _ => ⟨i, hlt, HT.out.1, HT.out.2⟩, fun _ => rfl⟩, Only.refl _ _⟩
        | true =>
          rw [hs] at k1
          have HT : Hid (s.testBit i = true) := hs
          clear ht hs
          go_wp2_with fail
          go_roundg (n - (i + 1))
          case measure => omega
          case rel =>
            refine ⟨i + 1, rfl, rfl, by omega, by go_num, fun j hj hx => ?_⟩
            by_cases e : j = i
            · subst e; exact HT.out
            · exact HB.out j (by omega) hx
    · have t2 : decide ((i : Int) < (n : Int)) = false := decide_eq_false (by omega)
      go_wp2_with fail
      go_ret
      refine ⟨false, rfl, ⟨fun h => (by cases h), fun ⟨j, a, b, c⟩ => ?_⟩, Only.refl _ _⟩
      rw [HB.out j (by omega) b] at c
      cases c
end Go.Proofs.Ytfbcijnacbfjpaa
namespace Go.Proofs.Ytfbcijnacbfjpaa
open Go.RowKit Go.Maps
set_option linter.unusedVariables false
set_option linter.unusedSimpArgs false
open Rl (Ex)
def EndOk (C : List Int) (e : Ex) : Prop := ∀ (F : Nat → Prop) (v : Value) (w : World) (aC : Option Addr) (L cC n fb fc s : Nat), Te w F e v → Nn e → Iw w aC L C → n = L + 1 → n ≤ 200 → Bn w fb n s → s < 2 ^ n →
    Calls Try.prog 33 #[v, .slice aC L cC, .slice (some ⟨fb, 0, none⟩) n fc] w fun e' w' => ∃ rb R, e' = .returned (.slice (some ⟨rb, 0, none⟩) n n) ∧ Bk w' rb n R ∧ R < 2 ^ n ∧ Au.Img (Au.mt C e) s R ∧ w.heap.size ≤ rb ∧ Only (fun _ => False) w w'
theorem bk_made (w : World) (o : Obj) (n : Nat) : Bk ((w.alloc o).alloc (.cells (madeCells #[.bool false] n) 4)) (w.heap.size + 1) n 0 := by
  rw [bA_made]
  have := heap_alloc_new (w.alloc o) (.cells (bA n 0) 4)
  rw [show (w.alloc o).heap.size = w.heap.size + 1 by simp] at this
  exact this
theorem bx_made (w : World) (o p : Obj) : ((w.alloc o).alloc p).heap[w.heap.size]? = some o := 
  ((((Only.refl (fun _ => False) (w.alloc o)).alloc p).block w.heap.size (by simp) (fun h => h))).trans (heap_alloc_new _ _)
theorem only_copied {w W : World} {o p : Obj} (h : Only (· = w.heap.size + 1) ((w.alloc o).alloc p) W) : Only (fun _ => False) w W := by
  have h0 : Only (fun _ => False) w ((w.alloc o).alloc p) := ((Only.refl _ _).alloc _).alloc _
  exact ⟨h.1.trans h0.1, h.2.trans h0.2, h.3.trans h0.3, Nat.le_trans h0.size h.size, fun k hk hn => (h.block k (Nat.lt_of_lt_of_le hk h0.size) (by omega)).trans (h0.block k hk hn)⟩
/-- out := make(..); copy(out, from). -/
theorem copied (w : World) (o : Obj) (n fb fc s : Nat) (hB : Bn w fb n s) : ∃ W, (Builtin.copy_ #[86, 86] 3 #[.slice (some ⟨w.heap.size + 1, 0, none⟩) n n, .slice (some ⟨fb, 0, none⟩) n fc]).run Try.prog ((w.alloc o).alloc (.cells (madeCells #[.bool false] n) 4)) = .ok (.int .i64 (n : Int)) W ∧
    Bk W (w.heap.size + 1) n s ∧ Only (fun _ => False) w W ∧ W.heap[w.heap.size]? = some o ∧ w.heap.size + 2 ≤ W.heap.size := by
  have hg := bk_made w o n
  have hb : Bn ((w.alloc o).alloc (.cells (madeCells #[.bool false] n) 4)) fb n s := hB.keep (((Only.refl _ _).alloc _).alloc _)
  have h := run_copy_row (P := Try.prog) ((w.alloc o).alloc (.cells (madeCells #[.bool false] n) 4)) 86 86 3 4 (w.heap.size + 1) 0 n n ⟨fb, 0, none⟩ n fc (bA n 0) 4 (blL n s) Try.underlying86 size4 hg (by rw [blL_len]; simp) hb.news (by rw [blL_len, bA_size]; omega) (blL_cell n s)
  rw [blL_len] at h
  have e : ((bA n 0).toList.take 0 ++ blL n s ++ (bA n 0).toList.drop (0 + n)).toArray = bA n s := by
    rw [List.take_zero, List.nil_append, Nat.zero_add, List.drop_eq_nil_of_le (by rw [Array.length_toList, bA_size]; exact Nat.le_refl _), List.append_nil]
    unfold blL
    rw [Array.toArray_toList]
  rw [e] at h
  have ho : Only (· = w.heap.size + 1) ((w.alloc o).alloc (.cells (madeCells #[.bool false] n) 4)) (((w.alloc o).alloc (.cells (madeCells #[.bool false] n) 4)).setRow (w.heap.size + 1) (bA n s)) := ⟨rfl, rfl, rfl, by simp [World.setRow], fun k hk hn => Go.setRow_other _ _ _ _ hn⟩
  refine ⟨_, h, setRow_heap _ _ _ _ 4 _ hg, only_copied ho, ?_, ?_⟩
  · exact (ho.block _ (by simp; omega) (by omega)).trans (bx_made _ _ _)
  · have := ho.size
    simp at this ⊢
set_option maxRecDepth 100000 in
set_option maxHeartbeats 4000000 in
theorem end_other (op set : Int) (K : Nat) (a : Option Addr) (c : Nat) (w : World) (aC : Option Addr) (L cC n fb fc s : Nat) (hn : n ≤ 200) (hB : Bn w fb n s) (ho : op = 0 ∨ 6 < op) :
    Calls Try.prog 33 #[.agg #[.int .u8 op, .int .u32 set, .slice a K c], .slice aC L cC, .slice (some ⟨fb, 0, none⟩) n fc] w fun e' w' => ∃ rb, e' = .returned (.slice (some ⟨rb, 0, none⟩) n n) ∧ Bk w' rb n s ∧ w.heap.size ≤ rb ∧ Only (fun _ => False) w w' := by
  have HB : Hid (Bn w fb n s) := hB
  have hfl := hB.1
  clear hB
  have q1 : (op == 1) = false := by simp; omega
  have q2 : (op == 2) = false := by simp; omega
  have q3 : (op == 3) = false := by simp; omega
  have q4 : (op == 4) = false := by simp; omega
  have q5 : (op == 5) = false := by simp; omega
  have q6 : (op == 6) = false := by simp; omega
  clear ho
  have hmk := fun (w : World) => run_make_row' (P := Try.prog) 86 4 (.bool false) 1 Try.underlying86 info4 rfl .i64 .i64 n (by omega) (by omega) w
  obtain ⟨W, hcp, hg, hO, hbx, hsz⟩ := copied w (.cells #[.int .u8 op, .int .u32 set, .slice a K c] 49) n fb fc s HB.out
  have HG : Hid (Bk W (w.heap.size + 1) n s) := hg
  have HO : Hid (Only (fun _ => False) w W) := hO
  clear hg hO hbx
  go_enter Try.func33, Try.ntmps33
  go_wp2_with fail
  go_ret
  exact ⟨w.heap.size + 1, rfl, HG.out, by omega, HO.out⟩
end Go.Proofs.Ytfbcijnacbfjpaa
