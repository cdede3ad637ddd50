/-
  Sets of places as rows of bools and as texts; no program in it.
-/
import Derived.Test.YtfbcijnacbfjpaaMathz
import Derived.Laws.MakeOwn
import Derived.OwnWalk
import Derived.Deep.OwnRows
import Derived.Laws.BytesArg
import Derived.Laws.BytesString
namespace Go.Proofs.Ytfbcijnacbfjpaa
open Go.RowKit
set_option linter.unusedVariables false
set_option linter.unusedSimpArgs false
/-- a set as n bools. -/
def bA (n s : Nat) : Array Value := Array.ofFn (n := n) fun j => .bool (s.testBit j.val)
theorem bA_size (n s : Nat) : (bA n s).size = n := by simp [bA]
theorem bA_at (n s j : Nat) (h : j < n) : (bA n s)[j]? = some (.bool (s.testBit j)) := by
  rw [Array.getElem?_eq_getElem (by rw [bA_size]; exact h)]
  simp [bA]
theorem bA_none (n s j : Nat) (h : n ≤ j) : (bA n s)[j]? = none := Array.getElem?_eq_none (by rw [bA_size]; exact h)
theorem bA_ext {n s t : Nat} (h : ∀ j, j < n → s.testBit j = t.testBit j) : bA n s = bA n t := by
  apply Array.ext_getElem?
  intro j
  by_cases hj : j < n
  · rw [bA_at _ _ _ hj, bA_at _ _ _ hj, h j hj]
  · rw [bA_none _ _ _ (by omega), bA_none _ _ _ (by omega)]
theorem bA_setb {n s s' i : Nat} (b : Bool) (h : ∀ j, j < n → j ≠ i → s.testBit j = s'.testBit j) (hb : i < n → s'.testBit i = b) : (bA n s).setIfInBounds i (.bool b) = bA n s' := by
  apply Array.ext_getElem?
  intro j
  rw [Array.getElem?_setIfInBounds, bA_size]
  by_cases hj : j < n
  · rw [bA_at _ _ _ hj, bA_at _ _ _ hj]
    by_cases e : i = j
    · subst e
      rw [if_pos rfl, if_pos hj, hb hj]
    · rw [if_neg e, h j hj (fun h => e h.symm)]
  · rw [bA_none _ _ _ (by omega), bA_none _ _ _ (by omega)]
    split
    · rw [if_neg (by omega)]
    · rfl
theorem bA_or (n s i : Nat) : (bA n s).setIfInBounds i (.bool true) = bA n (s ||| 2 ^ i) := by
  apply bA_setb
  · intro j hj hn
    rw [Nat.testBit_or, Nat.testBit_two_pow]
    simp [show ¬ i = j from fun h => hn h.symm]
  · intro _
    rw [Nat.testBit_or, Nat.testBit_two_pow]
    simp
theorem low_bit (x i j : Nat) : (x % 2 ^ i).testBit j = (decide (j < i) && x.testBit j) := Nat.testBit_mod_two_pow x i j
theorem bA_low (n x i : Nat) : (bA n (x % 2 ^ i)).setIfInBounds i (.bool (x.testBit i)) = bA n (x % 2 ^ (i + 1)) := by
  apply bA_setb
  · intro j hj hn
    rw [low_bit, low_bit]
    by_cases h : j < i
    · simp [h, show j < i + 1 by omega]
    · simp [h, show ¬ j < i + 1 by omega]
  · intro _
    rw [low_bit]
    simp
theorem bA_full (n x : Nat) : bA n (x % 2 ^ n) = bA n x := bA_ext fun j hj => by rw [low_bit]; simp [hj]
theorem bA_made (n : Nat) : madeCells #[.bool false] n = bA n 0 := by
  apply Array.ext_getElem?
  intro j
  by_cases hj : j < n
  · rw [bA_at _ _ _ hj]
    unfold madeCells
    rw [Array.getElem?_map, Array.getElem?_range, if_pos hj]
    simp [Nat.mod_one]
  · rw [bA_none _ _ _ (by omega), Array.getElem?_eq_none (by rw [size_madeCells]; omega)]
/-- a set as n bytes. -/
def nb (x : Nat) (j : Nat) : UInt8 := if x.testBit j = true then 1 else 0
def nl (n x : Nat) : List UInt8 := (List.range n).map (nb x)
def nm (n x : Nat) : ByteArray := ⟨(nl n x).toArray⟩
def nA (n x : Nat) : Array Value := Array.ofFn (n := n) fun j => .int .u8 ((nb x j.val).toNat : Int)
theorem nl_len (n x : Nat) : (nl n x).length = n := by simp [nl]
theorem nm_size (n x : Nat) : (nm n x).size = n := by unfold nm ByteArray.size; simp [nl_len]
theorem nl_get (n x j : Nat) (h : j < n) : (nl n x)[j]? = some (nb x j) := by
  unfold nl
  rw [List.getElem?_map, List.getElem?_range h]
  rfl
theorem nm_inj {n s t : Nat} (hs : s < 2 ^ n) (ht : t < 2 ^ n) (h : nm n s = nm n t) : s = t := by
  have h1 : nl n s = nl n t := by
    have := congrArg (fun x : ByteArray => x.data.toList) h
    simpa [nm] using this
  apply Nat.eq_of_testBit_eq
  intro j
  by_cases hj : j < n
  · have h2 : (nl n s)[j]? = (nl n t)[j]? := by rw [h1]
    rw [nl_get _ _ _ hj, nl_get _ _ _ hj] at h2
    injection h2 with h2
    unfold nb at h2
    cases hA : s.testBit j <;> cases hB : t.testBit j <;> simp_all
  · rw [Nat.testBit_lt_two_pow (Nat.lt_of_lt_of_le hs (Nat.pow_le_pow_right (by decide) (by omega))), Nat.testBit_lt_two_pow (Nat.lt_of_lt_of_le ht (Nat.pow_le_pow_right (by decide) (by omega)))]
theorem nA_size (n x : Nat) : (nA n x).size = n := by simp [nA]
theorem nA_at (n x j : Nat) (h : j < n) : (nA n x)[j]? = some (.int .u8 ((nb x j).toNat : Int)) := by
  rw [Array.getElem?_eq_getElem (by rw [nA_size]; exact h)]
  simp [nA]
theorem nA_none (n x j : Nat) (h : n ≤ j) : (nA n x)[j]? = none := Array.getElem?_eq_none (by rw [nA_size]; exact h)
theorem nb_low (x i j : Nat) : nb (x % 2 ^ i) j = if j < i then nb x j else 0 := by
  unfold nb
  rw [low_bit]
  by_cases h : j < i <;> simp [h]
theorem nA_low1 (n x i : Nat) (hb : x.testBit i = true) : (nA n (x % 2 ^ i)).setIfInBounds i (.int .u8 1) = nA n (x % 2 ^ (i + 1)) := by
  apply Array.ext_getElem?
  intro j
  rw [Array.getElem?_setIfInBounds, nA_size]
  by_cases hj : j < n
  · rw [nA_at _ _ _ hj, nA_at _ _ _ hj, nb_low, nb_low]
    by_cases e : i = j
    · subst e
      rw [if_pos rfl, if_pos hj, if_pos (by omega)]
      unfold nb
      rw [if_pos hb]
      rfl
    · rw [if_neg e]
      by_cases h : j < i
      · rw [if_pos h, if_pos (by omega)]
      · rw [if_neg h, if_neg (by omega)]
  · rw [nA_none _ _ _ (by omega), nA_none _ _ _ (by omega)]
    split
    · rw [if_neg (by omega)]
    · rfl
theorem nA_low0 (n x i : Nat) (hb : x.testBit i = false) : nA n (x % 2 ^ i) = nA n (x % 2 ^ (i + 1)) := by
  apply Array.ext_getElem?
  intro j
  by_cases hj : j < n
  · rw [nA_at _ _ _ hj, nA_at _ _ _ hj, nb_low, nb_low]
    by_cases e : i = j
    · subst e
      rw [if_neg (by omega), if_pos (by omega)]
      unfold nb
      rw [if_neg (by rw [hb]; decide)]
    · by_cases h : j < i
      · rw [if_pos h, if_pos (by omega)]
      · rw [if_neg h, if_neg (by omega)]
  · rw [nA_none _ _ _ (by omega), nA_none _ _ _ (by omega)]
theorem nA_full (n x : Nat) : nA n (x % 2 ^ n) = nA n x := by
  apply Array.ext_getElem?
  intro j
  by_cases hj : j < n
  · rw [nA_at _ _ _ hj, nA_at _ _ _ hj, nb_low, if_pos hj]
  · rw [nA_none _ _ _ (by omega), nA_none _ _ _ (by omega)]
theorem nA_made (n : Nat) : madeCells #[.int .u8 0] n = nA n 0 := by
  apply Array.ext_getElem?
  intro j
  by_cases hj : j < n
  · rw [nA_at _ _ _ hj]
    unfold madeCells nb
    rw [Array.getElem?_map, Array.getElem?_range, if_pos hj]
    simp [Nat.mod_one]
  · rw [nA_none _ _ _ (by omega), Array.getElem?_eq_none (by rw [size_madeCells]; omega)]
/-- a row of bools in a block of its own. -/
def Bk (w : World) (b n s : Nat) : Prop := w.heap[b]? = some (.cells (bA n s) 4 (0, 0))
theorem Bk.lt {w : World} {b n s : Nat} (h : Bk w b n s) : b < w.heap.size := (Array.getElem?_eq_some_iff.1 h).1
theorem Bk.cell {w : World} {b n s : Nat} (h : Bk w b n s) (j : Nat) (hj : j < n) : w.cell? ⟨b, j, none⟩ = some (.bool (s.testBit j)) := (cell_of_row _ _ _ _ _ _ h).trans (bA_at _ _ _ hj)
theorem Bk.fz {w : World} {b n s : Nat} (h : Bk w b n s) (j : Nat) : w.frozen? ⟨b, j, none⟩ = false := by simp [World.frozen?, show w.heap[b]? = _ from h]
theorem Bk.only {w w' : World} {b n s : Nat} {P : Nat → Prop} (h : Bk w b n s) (ho : Only P w w') (hn : ¬ P b) : Bk w' b n s := (ho.block b h.lt hn).trans h
theorem Bk.keep {w w' : World} {b n s : Nat} (h : Bk w b n s) (ho : Only (fun _ => False) w w') : Bk w' b n s := h.only ho (fun h => h)
theorem Bk.setb {w : World} {b n s s' i : Nat} (h : Bk w b n s) (v : Bool) (e : (bA n s).setIfInBounds i (.bool v) = bA n s') : Bk (w.setCell ⟨b, i, none⟩ (.bool v)) b n s' := by
  have := heap_setCell_at (k := i) h (.bool v)
  rw [e] at this
  exact this
theorem Bk.other {w : World} {b n s : Nat} (h : Bk w b n s) {p : Addr} (hp : p.block ≠ b) (v : Value) : Bk (w.setCell p v) b n s := (Below.heap_setCell _ _ _ _ (fun e => hp e.symm)).trans h
/-- bools that can be read. -/
def Bn (w : World) (b n s : Nat) : Prop := b < w.heap.size ∧ ∀ j, j < n → w.cell? ⟨b, j, none⟩ = some (.bool (s.testBit j))
theorem Bk.bn {w : World} {b n s : Nat} (h : Bk w b n s) : Bn w b n s := ⟨h.lt, fun j hj => h.cell j hj⟩
theorem Bn.only {w w' : World} {b n s : Nat} {P : Nat → Prop} (h : Bn w b n s) (ho : Only P w w') (hn : ¬ P b) : Bn w' b n s := ⟨Nat.lt_of_lt_of_le h.1 ho.size, fun j hj => (World.cell?_of_block (a := ⟨b, j, none⟩) (ho.block b h.1 hn)).trans (h.2 j hj)⟩
theorem Bn.keep {w w' : World} {b n s : Nat} (h : Bn w b n s) (ho : Only (fun _ => False) w w') : Bn w' b n s := h.only ho (fun h => h)
end Go.Proofs.Ytfbcijnacbfjpaa
namespace Go.Proofs.Ytfbcijnacbfjpaa
open Go.RowKit Go.Maps
set_option linter.unusedVariables false
set_option linter.unusedSimpArgs false
theorem info4 : (Try.prog.info? 4).map (fun i => (i.zero, i.size, i.bytes)) = some (some (.bool false), 1, 1) := by kernel_rfl
theorem info5' : (Try.prog.info? 5).map (fun i => (i.zero, i.size, i.bytes)) = some (some (.int .u8 0), 1, 1) := by kernel_rfl
set_option maxRecDepth 100000 in
set_option maxHeartbeats 4000000 in
theorem rboth_any (b1 b2 n c1 c2 s t : Nat) (w : World) (h1 : Bn w b1 n s) (h2 : Bn w b2 n t) (hn : n ≤ 200) :
    Calls Try.prog 29 #[.slice (some ⟨b1, 0, none⟩) n c1, .slice (some ⟨b2, 0, none⟩) n c2] w fun e w' => e = .returned (.slice (some ⟨w.heap.size, 0, none⟩) n n) ∧ Bk w' w.heap.size n (s ||| t) ∧ Only (fun _ => False) w w' := by
  have H1 : Hid (Bn w b1 n s) := h1
  have H2 : Hid (Bn w b2 n t) := h2
  clear h1 h2
  obtain ⟨i4, g4, g40, g41, g42⟩ := info_parts info4
  go_enter Try.func29, Try.ntmps29
  go_wp2_with (at_make; refine wpList_make_row _ rfl _ _ 86 rfl 4 i4 (.bool false) Try.underlying86 g4 g40 g41 rfl .i64 .i64 n rfl rfl (by rw [g42]; omega) (by omega) ?_)
  go_loopg [6] n (fun gh v wr => ∃ (i : Nat) (W : World), W = wr ∧ gh = n - i ∧ i ≤ n ∧ v = .int .i64 (i : Int) ∧ Bk W w.heap.size n ((s ||| t) % 2 ^ i) ∧ Only (fun _ => False) w W)
  case atStart =>
    refine ⟨0, _, rfl, rfl, by omega, rfl, ?_, (Only.refl _ _).alloc _⟩
    rw [bA_made, Nat.pow_zero, Nat.mod_one]
    exact heap_alloc_new _ _
  case round =>
    obtain ⟨i, W, hW, rfl, hi, rfl, hB, hO⟩ := hrel
    subst hW
    have HB : Hid (Bk W w.heap.size n ((s ||| t) % 2 ^ i)) := hB
    have HO : Hid (Only (fun _ => False) w W) := hO
    have hf := hB.fz i
    have hlw := hB.lt
    clear hB hO
    by_cases hlt : i < n
    · have t1 : (i : Int) < (n : Int) := by omega
      have k1 := (H1.out.keep HO.out).2 i hlt
      have k2 := (H2.out.keep HO.out).2 i hlt
      have l1 := (H1.out.keep HO.out).1
      have l2 := (H2.out.keep HO.out).1
      have k3 := HB.out.cell i hlt
      have HX : Hid ((s ||| t).testBit i = (s.testBit i || t.testBit i)) := Nat.testBit_or s t i
      cases hx : s.testBit i with
      | true =>
        rw [hx] at k1 HX
        clear k2 hx
        go_wp2_with fail
        go_roundg (n - (i + 1))
        case measure => omega
        case rel => exact ⟨i + 1, _, rfl, rfl, by omega, by go_num, HB.out.setb true (by rw [← bA_low, HX.out]; rfl), HO.out.setNew (Nat.le_refl _) _⟩
      | false =>
        rw [hx] at k1 HX
        obtain ⟨y, hy⟩ : ∃ y, t.testBit i = y := ⟨_, rfl⟩
        rw [hy] at k2 HX
        clear hx hy
        go_wp2_with fail
        go_roundg (n - (i + 1))
        case measure => omega
        case rel => exact ⟨i + 1, _, rfl, rfl, by omega, by go_num, HB.out.setb y (by rw [← bA_low, HX.out]; rfl), HO.out.setNew (Nat.le_refl _) _⟩
    · have t2 : decide ((i : Int) < (n : Int)) = false := decide_eq_false (by omega)
      obtain rfl : i = n := by omega
      go_wp2_with fail
      go_ret
      refine ⟨rfl, ?_, HO.out⟩
      have := HB.out
      unfold Bk at this ⊢
      rw [bA_full] at this
      exact this
/-- bytes in a block of their own. -/
def Nk (w : World) (b n x : Nat) : Prop := w.heap[b]? = some (.cells (nA n x) 5 (0, 0))
theorem conv_nm (w : World) (b n x : Nat) (h : Nk w b n x) : (convert 22 9 (.slice (some ⟨b, 0, none⟩) n n)).run Try.prog w = .ok (.string (nm n x)) w := by
  have e : nm n x = strOfNums ((nl n x).map fun b => (b.toNat : Int)) := by
    unfold nm strOfNums
    simp [Function.comp_def]
  rw [e]
  refine run_convert_bytes_arg w 22 5 Try.underlying22 Try.underlying5 b 0 n n _ (by rw [List.length_map, nl_len]) (fun i hi => ?_) 9 Try.underlying9
  rw [cell_of_row _ _ _ _ _ _ h, Nat.zero_add, nA_at _ _ _ hi]
  have h2 : ((nl n x).map fun b => (b.toNat : Int))[i]? = some ((nb x i).toNat : Int) := by rw [List.getElem?_map, nl_get _ _ _ hi]; rfl
  simp [h2]
set_option maxRecDepth 100000 in
set_option maxHeartbeats 4000000 in
theorem rtext_any (b n c x : Nat) (w : World) (h : Bn w b n x) (hn : n ≤ 200) :
    Calls Try.prog 30 #[.slice (some ⟨b, 0, none⟩) n c] w fun e w' => e = .returned (.string (nm n x)) ∧ Only (fun _ => False) w w' := by
  have H1 : Hid (Bn w b n x) := h
  clear h
  obtain ⟨i4, g4, g40, g41, g42⟩ := info_parts info5'
  go_enter Try.func30, Try.ntmps30
  go_wp2_with (at_make; refine wpList_make_row _ rfl _ _ 22 rfl 5 i4 (.int .u8 0) Try.underlying22 g4 g40 g41 rfl .i64 .i64 n rfl rfl (by rw [g42]; omega) (by omega) ?_)
  go_loopg [4] n (fun gh v wr => ∃ (i : Nat) (W : World), W = wr ∧ gh = n - i ∧ i ≤ n ∧ v = .int .i64 (i : Int) ∧ Nk W w.heap.size n (x % 2 ^ i) ∧ Only (fun _ => False) w W)
  case atStart =>
    refine ⟨0, _, rfl, rfl, by omega, rfl, ?_, (Only.refl _ _).alloc _⟩
    rw [nA_made, Nat.pow_zero, Nat.mod_one]
    exact heap_alloc_new _ _
  case round =>
    obtain ⟨i, W, hW, rfl, hi, rfl, hB, hO⟩ := hrel
    subst hW
    have HB : Hid (Nk W w.heap.size n (x % 2 ^ i)) := hB
    have HO : Hid (Only (fun _ => False) w W) := hO
    have hf : W.frozen? ⟨w.heap.size, i, none⟩ = false := by simp [World.frozen?, show W.heap[w.heap.size]? = _ from hB]
    have hlw : w.heap.size < W.heap.size := (Array.getElem?_eq_some_iff.1 hB).1
    clear hB hO
    by_cases hlt : i < n
    · have t1 : (i : Int) < (n : Int) := by omega
      have k1 := (H1.out.keep HO.out).2 i hlt
      have l1 := (H1.out.keep HO.out).1
      have hw : W.cell? ⟨w.heap.size, i, none⟩ = some (.int .u8 ((nb (x % 2 ^ i) i).toNat : Int)) := (cell_of_row _ _ _ _ _ _ HB.out).trans (nA_at _ _ _ hlt)
      cases hx : x.testBit i with
      | true =>
        rw [hx] at k1
        have HX : Hid (x.testBit i = true) := hx
        clear hx
        go_wp2_with fail
        go_roundg (n - (i + 1))
        case measure => omega
        case rel =>
          refine ⟨i + 1, _, rfl, rfl, by omega, by go_num, ?_, HO.out.setNew (Nat.le_refl _) _⟩
          have := heap_setCell_at (k := i) HB.out (.int .u8 1)
          rw [nA_low1 _ _ _ HX.out] at this
          exact this
      | false =>
        rw [hx] at k1
        have HX : Hid (x.testBit i = false) := hx
        clear hx
        go_wp2_with fail
        go_roundg (n - (i + 1))
        case measure => omega
        case rel =>
          refine ⟨i + 1, _, rfl, rfl, by omega, by go_num, ?_, HO.out⟩
          have := HB.out
          unfold Nk at this ⊢
          rw [nA_low0 _ _ _ HX.out] at this
          exact this
    · have t2 : decide ((i : Int) < (n : Int)) = false := decide_eq_false (by omega)
      obtain rfl : i = n := by omega
      have hN : Nk W w.heap.size i x := by
        have := HB.out
        unfold Nk at this ⊢
        rw [nA_full] at this
        exact this
      have hcv := conv_nm W w.heap.size i x hN
      clear hN
      go_wp2_with fail
      go_ret
      exact ⟨rfl, HO.out⟩
end Go.Proofs.Ytfbcijnacbfjpaa
namespace Go.Proofs.Ytfbcijnacbfjpaa
open Go.RowKit Go.Maps
set_option linter.unusedVariables false
set_option linter.unusedSimpArgs false
open Rl (Ex)
def blL (n s : Nat) : List Value := (bA n s).toList
theorem blL_len (n s : Nat) : (blL n s).length = n := by unfold blL; rw [Array.length_toList, bA_size]
theorem blL_at (n s j : Nat) : (blL n s)[j]? = (bA n s)[j]? := by unfold blL; rw [Array.getElem?_toList]
theorem blL_cell (n s : Nat) : ∀ u ∈ blL n s, u.oneCell' = true := by
  intro u hu
  obtain ⟨j, hj⟩ := List.mem_iff_getElem?.1 hu
  rw [blL_at] at hj
  by_cases h : j < n
  · rw [bA_at _ _ _ h] at hj
    injection hj with hj
    subst hj
    rfl
  · rw [bA_none _ _ _ (by omega)] at hj
    cases hj
theorem Bn.news {w : World} {b n s : Nat} (h : Bn w b n s) : ∀ j u, (blL n s)[j]? = some u → w.cell? ((⟨b, 0, none⟩ : Addr).add j) = some u := by
  intro j u hj
  rw [blL_at] at hj
  by_cases hl : j < n
  · rw [bA_at _ _ _ hl] at hj
    injection hj with hj
    subst hj
    rw [Addr.add_mid, Nat.zero_add]
    exact h.2 j hl
  · rw [bA_none _ _ _ (by omega)] at hj
    cases hj
end Go.Proofs.Ytfbcijnacbfjpaa
