/-
  Sets of places as rows of bools and as texts; no program in it.
-/
import Derived.Test.YtfbcijnacbfjpaaMathx
import Derived.Laws.MakeOwn
import Derived.OwnWalk
import Derived.Deep.OwnRows
import Derived.Laws.BytesArg
import Derived.Laws.BytesString
import Derived.Laws.BitsAllLaws
import Derived.BigRegion
import Derived.BigQuiet
import Derived.Deep.QuietTactic
namespace Go.Proofs.Ytfbcijnacbfjpaa
open Go.RowKit
set_option linter.unusedVariables false
set_option linter.unusedSimpArgs false
/-- a set as n bools. -/
def bA (n s : Nat) : Array Value := Array.ofFn (n := n) fun j => .bool (s.testBit j.val)
theorem bA_size (n s : Nat) : (bA n s).size = n := by simp [bA]
theorem bA_at (n s j : Nat) (h : j < n) : (bA n s)[j]? = some (.bool (s.testBit j)) := by
  rw [Array.getElem?_eq_getElem (by rw [bA_size]; exact h)]
  simp [bA]
theorem bA_none (n s j : Nat) (h : n ≤ j) : (bA n s)[j]? = none := Array.getElem?_eq_none (by rw [bA_size]; exact h)
theorem bA_ext {n s t : Nat} (h : ∀ j, j < n → s.testBit j = t.testBit j) : bA n s = bA n t := by
  apply Array.ext_getElem?
  intro j
  by_cases hj : j < n
  · rw [bA_at _ _ _ hj, bA_at _ _ _ hj, h j hj]
  · rw [bA_none _ _ _ (by omega), bA_none _ _ _ (by omega)]
theorem bA_setb {n s s' i : Nat} (b : Bool) (h : ∀ j, j < n → j ≠ i → s.testBit j = s'.testBit j) (hb : i < n → s'.testBit i = b) : (bA n s).setIfInBounds i (.bool b) = bA n s' := by
  apply Array.ext_getElem?
  intro j
  rw [Array.getElem?_setIfInBounds, bA_size]
  by_cases hj : j < n
  · rw [bA_at _ _ _ hj, bA_at _ _ _ hj]
    by_cases e : i = j
    · subst e
      rw [if_pos rfl, if_pos hj, hb hj]
    · rw [if_neg e, h j hj (fun h => e h.symm)]
  · rw [bA_none _ _ _ (by omega), bA_none _ _ _ (by omega)]
    split
    · rw [if_neg (by omega)]
    · rfl
theorem bA_or (n s i : Nat) : (bA n s).setIfInBounds i (.bool true) = bA n (s ||| 2 ^ i) := by
  apply bA_setb
  · intro j hj hn
    rw [Nat.testBit_or, Nat.testBit_two_pow]
    simp [show ¬ i = j from fun h => hn h.symm]
  · intro _
    rw [Nat.testBit_or, Nat.testBit_two_pow]
    simp
theorem low_bit (x i j : Nat) : (x % 2 ^ i).testBit j = (decide (j < i) && x.testBit j) := Nat.testBit_mod_two_pow x i j
theorem bA_low (n x i : Nat) : (bA n (x % 2 ^ i)).setIfInBounds i (.bool (x.testBit i)) = bA n (x % 2 ^ (i + 1)) := by
  apply bA_setb
  · intro j hj hn
    rw [low_bit, low_bit]
    by_cases h : j < i
    · simp [h, show j < i + 1 by omega]
    · simp [h, show ¬ j < i + 1 by omega]
  · intro _
    rw [low_bit]
    simp
theorem bA_full (n x : Nat) : bA n (x % 2 ^ n) = bA n x := bA_ext fun j hj => by rw [low_bit]; simp [hj]
theorem bA_made (n : Nat) : madeCells #[.bool false] n = bA n 0 := by
  apply Array.ext_getElem?
  intro j
  by_cases hj : j < n
  · rw [bA_at _ _ _ hj]
    unfold madeCells
    rw [Array.getElem?_map, Array.getElem?_range, if_pos hj]
    simp [Nat.mod_one]
  · rw [bA_none _ _ _ (by omega), Array.getElem?_eq_none (by rw [size_madeCells]; omega)]
/-- a set as n bytes. -/
def nb (x : Nat) (j : Nat) : UInt8 := if x.testBit j = true then 1 else 0
def nl (n x : Nat) : List UInt8 := (List.range n).map (nb x)
def nm (n x : Nat) : ByteArray := ⟨(nl n x).toArray⟩
def nA (n x : Nat) : Array Value := Array.ofFn (n := n) fun j => .int .u8 ((nb x j.val).toNat : Int)
theorem nl_len (n x : Nat) : (nl n x).length = n := by simp [nl]
theorem nm_size (n x : Nat) : (nm n x).size = n := by unfold nm ByteArray.size; simp [nl_len]
theorem nl_get (n x j : Nat) (h : j < n) : (nl n x)[j]? = some (nb x j) := by
  unfold nl
  rw [List.getElem?_map, List.getElem?_range h]
  rfl
theorem nm_inj {n s t : Nat} (hs : s < 2 ^ n) (ht : t < 2 ^ n) (h : nm n s = nm n t) : s = t := by
  have h1 : nl n s = nl n t := by
    have := congrArg (fun x : ByteArray => x.data.toList) h
    simpa [nm] using this
  apply Nat.eq_of_testBit_eq
  intro j
  by_cases hj : j < n
  · have h2 : (nl n s)[j]? = (nl n t)[j]? := by rw [h1]
    rw [nl_get _ _ _ hj, nl_get _ _ _ hj] at h2
    injection h2 with h2
    unfold nb at h2
    cases hA : s.testBit j <;> cases hB : t.testBit j <;> simp_all
  · rw [Nat.testBit_lt_two_pow (Nat.lt_of_lt_of_le hs (Nat.pow_le_pow_right (by decide) (by omega))), Nat.testBit_lt_two_pow (Nat.lt_of_lt_of_le ht (Nat.pow_le_pow_right (by decide) (by omega)))]
theorem nA_size (n x : Nat) : (nA n x).size = n := by simp [nA]
theorem nA_at (n x j : Nat) (h : j < n) : (nA n x)[j]? = some (.int .u8 ((nb x j).toNat : Int)) := by
  rw [Array.getElem?_eq_getElem (by rw [nA_size]; exact h)]
  simp [nA]
theorem nA_none (n x j : Nat) (h : n ≤ j) : (nA n x)[j]? = none := Array.getElem?_eq_none (by rw [nA_size]; exact h)
theorem nb_low (x i j : Nat) : nb (x % 2 ^ i) j = if j < i then nb x j else 0 := by
  unfold nb
  rw [low_bit]
  by_cases h : j < i <;> simp [h]
theorem nA_low1 (n x i : Nat) (hb : x.testBit i = true) : (nA n (x % 2 ^ i)).setIfInBounds i (.int .u8 1) = nA n (x % 2 ^ (i + 1)) := by
  apply Array.ext_getElem?
  intro j
  rw [Array.getElem?_setIfInBounds, nA_size]
  by_cases hj : j < n
  · rw [nA_at _ _ _ hj, nA_at _ _ _ hj, nb_low, nb_low]
    by_cases e : i = j
    · subst e
      rw [if_pos rfl, if_pos hj, if_pos (by omega)]
      unfold nb
      rw [if_pos hb]
      rfl
    · rw [if_neg e]
      by_cases h : j < i
      · rw [if_pos h, if_pos (by omega)]
      · rw [if_neg h, if_neg (by omega)]
  · rw [nA_none _ _ _ (by omega), nA_none _ _ _ (by omega)]
    split
    · rw [if_neg (by omega)]
    · rfl
theorem nA_low0 (n x i : Nat) (hb : x.testBit i = false) : nA n (x % 2 ^ i) = nA n (x % 2 ^ (i + 1)) := by
  apply Array.ext_getElem?
  intro j
  by_cases hj : j < n
  · rw [nA_at _ _ _ hj, nA_at _ _ _ hj, nb_low, nb_low]
    by_cases e : i = j
    · subst e
      rw [if_neg (by omega), if_pos (by omega)]
      unfold nb
      rw [if_neg (by rw [hb]; decide)]
    · by_cases h : j < i
      · rw [if_pos h, if_pos (by omega)]
      · rw [if_neg h, if_neg (by omega)]
  · rw [nA_none _ _ _ (by omega), nA_none _ _ _ (by omega)]
theorem nA_full (n x : Nat) : nA n (x % 2 ^ n) = nA n x := by
  apply Array.ext_getElem?
  intro j
  by_cases hj : j < n
  · rw [nA_at _ _ _ hj, nA_at _ _ _ hj, nb_low, if_pos hj]
  · rw [nA_none _ _ _ (by omega), nA_none _ _ _ (by omega)]
theorem nA_made (n : Nat) : madeCells #[.int .u8 0] n = nA n 0 := by
  apply Array.ext_getElem?
  intro j
  by_cases hj : j < n
  · rw [nA_at _ _ _ hj]
    unfold madeCells nb
    rw [Array.getElem?_map, Array.getElem?_range, if_pos hj]
    simp [Nat.mod_one]
  · rw [nA_none _ _ _ (by omega), Array.getElem?_eq_none (by rw [size_madeCells]; omega)]
/-- a row of bools in a block of its own. -/
def Bk (w : World) (b n s : Nat) : Prop := w.heap[b]? = some (.cells (bA n s) 4 (0, 0))
theorem Bk.lt {w : World} {b n s : Nat} (h : Bk w b n s) : b < w.heap.size := (Array.getElem?_eq_some_iff.1 h).1
theorem Bk.cell {w : World} {b n s : Nat} (h : Bk w b n s) (j : Nat) (hj : j < n) : w.cell? ⟨b, j, none⟩ = some (.bool (s.testBit j)) := (cell_of_row _ _ _ _ _ _ h).trans (bA_at _ _ _ hj)
theorem Bk.fz {w : World} {b n s : Nat} (h : Bk w b n s) (j : Nat) : w.frozen? ⟨b, j, none⟩ = false := by simp [World.frozen?, show w.heap[b]? = _ from h]
theorem Bk.only {w w' : World} {b n s : Nat} {P : Nat → Prop} (h : Bk w b n s) (ho : Only P w w') (hn : ¬ P b) : Bk w' b n s := (ho.block b h.lt hn).trans h
theorem Bk.keep {w w' : World} {b n s : Nat} (h : Bk w b n s) (ho : Only (fun _ => False) w w') : Bk w' b n s := h.only ho (fun h => h)
theorem Bk.setb {w : World} {b n s s' i : Nat} (h : Bk w b n s) (v : Bool) (e : (bA n s).setIfInBounds i (.bool v) = bA n s') : Bk (w.setCell ⟨b, i, none⟩ (.bool v)) b n s' := by
  have := heap_setCell_at (k := i) h (.bool v)
  rw [e] at this
  exact this
theorem Bk.other {w : World} {b n s : Nat} (h : Bk w b n s) {p : Addr} (hp : p.block ≠ b) (v : Value) : Bk (w.setCell p v) b n s := (Below.heap_setCell _ _ _ _ (fun e => hp e.symm)).trans h
/-- bools that can be read. -/
def Bn (w : World) (b n s : Nat) : Prop := b < w.heap.size ∧ ∀ j, j < n → w.cell? ⟨b, j, none⟩ = some (.bool (s.testBit j))
theorem Bk.bn {w : World} {b n s : Nat} (h : Bk w b n s) : Bn w b n s := ⟨h.lt, fun j hj => h.cell j hj⟩
theorem Bn.only {w w' : World} {b n s : Nat} {P : Nat → Prop} (h : Bn w b n s) (ho : Only P w w') (hn : ¬ P b) : Bn w' b n s := ⟨Nat.lt_of_lt_of_le h.1 ho.size, fun j hj => (World.cell?_of_block (a := ⟨b, j, none⟩) (ho.block b h.1 hn)).trans (h.2 j hj)⟩
theorem Bn.keep {w w' : World} {b n s : Nat} (h : Bn w b n s) (ho : Only (fun _ => False) w w') : Bn w' b n s := h.only ho (fun h => h)
end Go.Proofs.Ytfbcijnacbfjpaa
namespace Go.Proofs.Ytfbcijnacbfjpaa
open Go.RowKit Go.Maps
set_option linter.unusedVariables false
set_option linter.unusedSimpArgs false
theorem info4 : (Try.prog.info? 4).map (fun i => (i.zero, i.size, i.bytes)) = some (some (.bool false), 1, 1) := by kernel_rfl
theorem info5' : (Try.prog.info? 5).map (fun i => (i.zero, i.size, i.bytes)) = some (some (.int .u8 0), 1, 1) := by kernel_rfl
set_option maxRecDepth 100000 in
set_option maxHeartbeats 4000000 in
theorem rboth_any (b1 b2 n c1 c2 s t : Nat) (w : World) (h1 : Bn w b1 n s) (h2 : Bn w b2 n t) (hn : n ≤ 200) :
    Calls Try.prog 29 #[.slice (some ⟨b1, 0, none⟩) n c1, .slice (some ⟨b2, 0, none⟩) n c2] w fun e w' => e = .returned (.slice (some ⟨w.heap.size, 0, none⟩) n n) ∧ Bk w' w.heap.size n (s ||| t) ∧ Only (fun _ => False) w w' := by
  have H1 : Hid (Bn w b1 n s) := h1
  have H2 : Hid (Bn w b2 n t) := h2
  clear h1 h2
  obtain ⟨i4, g4, g40, g41, g42⟩ := info_parts info4
  go_enter Try.func29, Try.ntmps29
  go_wp2_with (at_make; refine wpList_make_row _ rfl _ _ 86 rfl 4 i4 (.bool false) Try.underlying86 g4 g40 g41 rfl .i64 .i64 n rfl rfl (by rw [g42]; omega) (by omega) ?_)
  go_loopg [6] n (fun gh v wr => ∃ (i : Nat) (W : World), W = wr ∧ gh = n - i ∧ i ≤ n ∧ v = .int .i64 (i : Int) ∧ Bk W w.heap.size n ((s ||| t) % 2 ^ i) ∧ Only (fun _ => False) w W)
  case atStart =>
    refine ⟨0, _, rfl, rfl, by omega, rfl, ?_, (Only.refl _ _).alloc _⟩
    rw [bA_made, Nat.pow_zero, Nat.mod_one]
    exact heap_alloc_new _ _
  case round =>
    obtain ⟨i, W, hW, rfl, hi, rfl, hB, hO⟩ := hrel
    subst hW
    have HB : Hid (Bk W w.heap.size n ((s ||| t) % 2 ^ i)) := hB
    have HO : Hid (Only (fun _ => False) w W) := hO
    have hf := hB.fz i
    have hlw := hB.lt
    clear hB hO
    by_cases hlt : i < n
    · have t1 : (i : Int) < (n : Int) := by omega
      have k1 := (H1.out.keep HO.out).2 i hlt
      have k2 := (H2.out.keep HO.out).2 i hlt
      have l1 := (H1.out.keep HO.out).1
      have l2 := (H2.out.keep HO.out).1
      have k3 := HB.out.cell i hlt
      have HX : Hid ((s ||| t).testBit i = (s.testBit i || t.testBit i)) := Nat.testBit_or s t i
      cases hx : s.testBit i with
      | true =>
        rw [hx] at k1 HX
        clear k2 hx
        go_wp2_with fail
        go_roundg (n - (i + 1))
        case measure => omega
        case rel => exact ⟨i + 1, _, rfl, rfl, by omega, by go_num, HB.out.setb true (by rw [← bA_low, HX.out]; rfl), HO.out.setNew (Nat.le_refl _) _⟩
      | false =>
        rw [hx] at k1 HX
        obtain ⟨y, hy⟩ : ∃ y, t.testBit i = y := ⟨_, rfl⟩
        rw [hy] at k2 HX
        clear hx hy
        go_wp2_with fail
        go_roundg (n - (i + 1))
        case measure => omega
        case rel => exact ⟨i + 1, _, rfl, rfl, by omega, by go_num, HB.out.setb y (by rw [← bA_low, HX.out]; rfl), HO.out.setNew (Nat.le_refl _) _⟩
    · have t2 : decide ((i : Int) < (n : Int)) = false := decide_eq_false (by omega)
      obtain rfl : i = n := by omega
      go_wp2_with fail
      go_ret
      refine ⟨rfl, ?_, HO.out⟩
      have := HB.out
      unfold Bk at this ⊢
      rw [bA_full] at this
      exact this
/-- bytes in a block of their own. -/
def Nk (w : World) (b n x : Nat) : Prop := w.heap[b]? = some (.cells (nA n x) 5 (0, 0))
theorem conv_nm (w : World) (b n x : Nat) (h : Nk w b n x) : (convert 22 9 (.slice (some ⟨b, 0, none⟩) n n)).run Try.prog w = .ok (.string (nm n x)) w := by
  have e : nm n x = strOfNums ((nl n x).map fun b => (b.toNat : Int)) := by
    unfold nm strOfNums
    simp [Function.comp_def]
  rw [e]
  refine run_convert_bytes_arg w 22 5 Try.underlying22 Try.underlying5 b 0 n n _ (by rw [List.length_map, nl_len]) (fun i hi => ?_) 9 Try.underlying9
  rw [cell_of_row _ _ _ _ _ _ h, Nat.zero_add, nA_at _ _ _ hi]
  have h2 : ((nl n x).map fun b => (b.toNat : Int))[i]? = some ((nb x i).toNat : Int) := by rw [List.getElem?_map, nl_get _ _ _ hi]; rfl
  simp [h2]
set_option maxRecDepth 100000 in
set_option maxHeartbeats 4000000 in
theorem rtext_any (b n c x : Nat) (w : World) (h : Bn w b n x) (hn : n ≤ 200) :
    Calls Try.prog 30 #[.slice (some ⟨b, 0, none⟩) n c] w fun e w' => e = .returned (.string (nm n x)) ∧ Only (fun _ => False) w w' := by
  have H1 : Hid (Bn w b n x) := h
  clear h
  obtain ⟨i4, g4, g40, g41, g42⟩ := info_parts info5'
  go_enter Try.func30, Try.ntmps30
  go_wp2_with (at_make; refine wpList_make_row _ rfl _ _ 22 rfl 5 i4 (.int .u8 0) Try.underlying22 g4 g40 g41 rfl .i64 .i64 n rfl rfl (by rw [g42]; omega) (by omega) ?_)
  go_loopg [4] n (fun gh v wr => ∃ (i : Nat) (W : World), W = wr ∧ gh = n - i ∧ i ≤ n ∧ v = .int .i64 (i : Int) ∧ Nk W w.heap.size n (x % 2 ^ i) ∧ Only (fun _ => False) w W)
  case atStart =>
    refine ⟨0, _, rfl, rfl, by omega, rfl, ?_, (Only.refl _ _).alloc _⟩
    rw [nA_made, Nat.pow_zero, Nat.mod_one]
    exact heap_alloc_new _ _
  case round =>
    obtain ⟨i, W, hW, rfl, hi, rfl, hB, hO⟩ := hrel
    subst hW
    have HB : Hid (Nk W w.heap.size n (x % 2 ^ i)) := hB
    have HO : Hid (Only (fun _ => False) w W) := hO
    have hf : W.frozen? ⟨w.heap.size, i, none⟩ = false := by simp [World.frozen?, show W.heap[w.heap.size]? = _ from hB]
    have hlw : w.heap.size < W.heap.size := (Array.getElem?_eq_some_iff.1 hB).1
    clear hB hO
    by_cases hlt : i < n
    · have t1 : (i : Int) < (n : Int) := by omega
      have k1 := (H1.out.keep HO.out).2 i hlt
      have l1 := (H1.out.keep HO.out).1
      have hw : W.cell? ⟨w.heap.size, i, none⟩ = some (.int .u8 ((nb (x % 2 ^ i) i).toNat : Int)) := (cell_of_row _ _ _ _ _ _ HB.out).trans (nA_at _ _ _ hlt)
      cases hx : x.testBit i with
      | true =>
        rw [hx] at k1
        have HX : Hid (x.testBit i = true) := hx
        clear hx
        go_wp2_with fail
        go_roundg (n - (i + 1))
        case measure => omega
        case rel =>
          refine ⟨i + 1, _, rfl, rfl, by omega, by go_num, ?_, HO.out.setNew (Nat.le_refl _) _⟩
          have := heap_setCell_at (k := i) HB.out (.int .u8 1)
          rw [nA_low1 _ _ _ HX.out] at this
          exact this
      | false =>
        rw [hx] at k1
        have HX : Hid (x.testBit i = false) := hx
        clear hx
        go_wp2_with fail
        go_roundg (n - (i + 1))
        case measure => omega
        case rel =>
          refine ⟨i + 1, _, rfl, rfl, by omega, by go_num, ?_, HO.out⟩
          have := HB.out
          unfold Nk at this ⊢
          rw [nA_low0 _ _ _ HX.out] at this
          exact this
    · have t2 : decide ((i : Int) < (n : Int)) = false := decide_eq_false (by omega)
      obtain rfl : i = n := by omega
      have hN : Nk W w.heap.size i x := by
        have := HB.out
        unfold Nk at this ⊢
        rw [nA_full] at this
        exact this
      have hcv := conv_nm W w.heap.size i x hN
      clear hN
      go_wp2_with fail
      go_ret
      exact ⟨rfl, HO.out⟩
end Go.Proofs.Ytfbcijnacbfjpaa
namespace Go.Proofs.Ytfbcijnacbfjpaa
set_option linter.unusedVariables false
set_option linter.unusedSimpArgs false
/-- the j-th word of a set. -/
def wd (S j : Nat) : Nat := S / 2 ^ (64 * j) % 18446744073709551616
theorem wd_lt (S j : Nat) : wd S j < 18446744073709551616 := Nat.mod_lt _ (by decide)
theorem wd_bit (S j i : Nat) : (wd S j).testBit i = (decide (i < 64) && S.testBit (64 * j + i)) := by
  unfold wd
  rw [show (18446744073709551616 : Nat) = 2 ^ 64 from rfl, Nat.testBit_mod_two_pow, Nat.testBit_div_two_pow, Nat.add_comm i]
theorem wd_or (A B j : Nat) : wd (A ||| B) j = wd A j ||| wd B j := by
  apply Nat.eq_of_testBit_eq
  intro i
  rw [Nat.testBit_or, wd_bit, wd_bit, wd_bit, Nat.testBit_or]
  cases decide (i < 64) <;> simp
theorem wd_and (A B j : Nat) : wd (A &&& B) j = wd A j &&& wd B j := by
  apply Nat.eq_of_testBit_eq
  intro i
  rw [Nat.testBit_and, wd_bit, wd_bit, wd_bit, Nat.testBit_and]
  cases decide (i < 64) <;> simp
theorem wd_pow (q r j : Nat) (hr : r < 64) : wd (2 ^ (64 * q + r)) j = if q = j then 2 ^ r else 0 := by
  apply Nat.eq_of_testBit_eq
  intro i
  rw [wd_bit, Nat.testBit_two_pow]
  by_cases h : q = j
  · subst h
    rw [if_pos rfl, Nat.testBit_two_pow]
    by_cases e : r = i
    · subst e; simp [hr]
    · have : ¬ (64 * q + r = 64 * q + i) := by omega
      simp [e, this]
  · rw [if_neg h]
    by_cases e : i < 64
    · have : ¬ (64 * q + r = 64 * j + i) := by omega
      simp [this]
    · simp [e]
theorem wd_zero (j : Nat) : wd 0 j = 0 := by simp [wd]
theorem wd_ext {A B : Nat} (ha : A < 2 ^ 256) (hb : B < 2 ^ 256) (h : ∀ j, j < 4 → wd A j = wd B j) : A = B := by
  apply Nat.eq_of_testBit_eq
  intro i
  by_cases hi : i < 256
  · have := congrArg (fun x => Nat.testBit x (i % 64)) (h (i / 64) (by omega))
    simp only [wd_bit] at this
    rw [decide_eq_true (by omega), Bool.true_and, Bool.true_and, show 64 * (i / 64) + i % 64 = i by omega] at this
    exact this
  · rw [Nat.testBit_lt_two_pow (Nat.lt_of_lt_of_le ha (Nat.pow_le_pow_right (by decide) (by omega))), Nat.testBit_lt_two_pow (Nat.lt_of_lt_of_le hb (Nat.pow_le_pow_right (by decide) (by omega)))]
theorem or_wd (A B j : Nat) : bits .or .u64 (wd A j : Int) (wd B j : Int) = (wd (A ||| B) j : Int) := by
  rw [u64_or_nat _ _ (wd_lt _ _) (wd_lt _ _), wd_or]
theorem and_wd (A B j : Nat) : bits .and .u64 (wd A j : Int) (wd B j : Int) = (wd (A &&& B) j : Int) := by
  rw [u64_and_nat _ _ (wd_lt _ _) (wd_lt _ _), wd_and]
/-- is a place in the set, by its word. -/
theorem bit_wd (S q r : Nat) (hr : r < 64) : wd S q / 2 ^ r % 2 = if S.testBit (64 * q + r) = true then 1 else 0 := by
  have h := wd_bit S q r
  rw [decide_eq_true hr, Bool.true_and] at h
  rw [← h, Nat.testBit_eq_decide_div_mod_eq]
  have : wd S q / 2 ^ r % 2 < 2 := Nat.mod_lt _ (by decide)
  by_cases e : wd S q / 2 ^ r % 2 = 1
  · simp [e]
  · simp [e]; omega
end Go.Proofs.Ytfbcijnacbfjpaa
namespace Go.Proofs.Ytfbcijnacbfjpaa
open Go.RowKit Go.Maps
set_option linter.unusedVariables false
set_option linter.unusedSimpArgs false
/-- a set as cells, as a value. -/
def sC (S : Nat) : Array Value := #[.int .u64 (wd S 0 : Int), .int .u64 (wd S 1 : Int), .int .u64 (wd S 2 : Int), .int .u64 (wd S 3 : Int)]
def sV (S : Nat) : Value := .agg (sC S)
theorem and1 {S q r i : Nat} (h : wd S q / 2 ^ r % 2 = if S.testBit i = true then 1 else 0) : (bits .and .u64 ((wd S q : Int) / 2 ^ r) 1 == 1) = S.testBit i := by
  have e : ((wd S q : Int) / 2 ^ r) = ((wd S q / 2 ^ r : Nat) : Int) := by push_cast; rfl
  have hl : wd S q / 2 ^ r < 18446744073709551616 := Nat.lt_of_le_of_lt (Nat.div_le_self _ _) (wd_lt S q)
  rw [e, show (1 : Int) = ((1 : Nat) : Int) from rfl, u64_and_nat _ _ hl (by decide), nat_mask1, h]
  cases S.testBit i <;> rfl
set_option maxRecDepth 100000 in
set_option maxHeartbeats 4000000 in
theorem has_any (S i : Nat) (hi : i < 256) (w : World) : Calls Try.prog 59 #[sV S, .int .i64 (i : Int)] w fun e w' => e = .returned (.bool (S.testBit i)) ∧ Only (fun _ => False) w w' := by
  obtain ⟨q, r, hq, hr, rfl⟩ : ∃ q r, q < 4 ∧ r < 64 ∧ i = 64 * q + r := ⟨i / 64, i % 64, by omega, by omega, by omega⟩
  obtain ⟨i, hii⟩ : ∃ i : Nat, i = 64 * q + r := ⟨_, rfl⟩
  have hb := bit_wd S q r hr
  rw [← hii] at hb ⊢
  have hm : (i : Int) % 64 = (r : Int) := by omega
  have hd : (i : Int) / 64 = (q : Int) := by omega
  have hl : (i : Int) < 256 := by omega
  have HB : Hid ((bits .and .u64 ((wd S q : Int) / 2 ^ r) 1 == 1) = S.testBit i) := and1 hb
  clear hii hi hb
  unfold sV sC
  have w0 := wd_lt S 0
  have w1 := wd_lt S 1
  have w2 := wd_lt S 2
  have w3 := wd_lt S 3
  rcases (show q = 0 ∨ q = 1 ∨ q = 2 ∨ q = 3 by omega) with rfl | rfl | rfl | rfl
  · have hd0 : (i : Int) / 64 = 0 := hd
    clear hd
    go_enter Try.func59, Try.ntmps59
    go_wp2_with fail
    go_ret
    exact ⟨by rw [HB.out]; rfl, (Only.refl _ _).alloc _⟩
  · have hd0 : (i : Int) / 64 = 1 := hd
    clear hd
    go_enter Try.func59, Try.ntmps59
    go_wp2_with fail
    go_ret
    exact ⟨by rw [HB.out]; rfl, (Only.refl _ _).alloc _⟩
  · have hd0 : (i : Int) / 64 = 2 := hd
    clear hd
    go_enter Try.func59, Try.ntmps59
    go_wp2_with fail
    go_ret
    exact ⟨by rw [HB.out]; rfl, (Only.refl _ _).alloc _⟩
  · have hd0 : (i : Int) / 64 = 3 := hd
    clear hd
    go_enter Try.func59, Try.ntmps59
    go_wp2_with fail
    go_ret
    exact ⟨by rw [HB.out]; rfl, (Only.refl _ _).alloc _⟩
theorem sC_at (S k : Nat) (hk : k < 4) : (sC S)[k]? = some (.int .u64 (wd S k : Int)) := by
  rcases (show k = 0 ∨ k = 1 ∨ k = 2 ∨ k = 3 by omega) with rfl | rfl | rfl | rfl <;> rfl
theorem index_sV (S k : Nat) (hk : k < 4) (w : World) : (Instr.index 73 (sV S) (.int .i64 (k : Int))).run Try.prog w = .ok (.int .u64 (wd S k : Int)) w := by
  unfold sV sC
  rcases (show k = 0 ∨ k = 1 ∨ k = 2 ∨ k = 3 by omega) with rfl | rfl | rfl | rfl <;> kernel_rfl
/-- the first k words of a set put into cells. -/
def inC (cs : Array Value) (o S : Nat) : Nat → Array Value
  | 0 => cs
  | k + 1 => (inC cs o S k).setIfInBounds (o + k) (.int .u64 (wd S k : Int))
theorem inC_size (cs : Array Value) (o S : Nat) : ∀ k, (inC cs o S k).size = cs.size
  | 0 => rfl
  | k + 1 => by rw [inC, Array.size_setIfInBounds, inC_size cs o S k]
theorem inC_at (cs : Array Value) (o S : Nat) : ∀ (k j : Nat), o + k ≤ cs.size → (inC cs o S k)[j]? = if o ≤ j ∧ j < o + k then some (.int .u64 (wd S (j - o) : Int)) else cs[j]?
  | 0, j, _ => by rw [inC, if_neg (by omega)]
  | k + 1, j, h => by
    rw [inC, Array.getElem?_setIfInBounds, inC_at cs o S k j (by omega), inC_size]
    by_cases e : o + k = j
    · subst e
      rw [if_pos rfl, if_pos (by omega), if_pos (by omega), show o + k - o = k by omega]
    · rw [if_neg e]
      by_cases h1 : o ≤ j ∧ j < o + k
      · rw [if_pos h1, if_pos (by omega)]
      · rw [if_neg h1, if_neg (by omega)]
/-- these cells hold a set, from o on. -/
def HasS (cs : Array Value) (o A : Nat) : Prop := ∀ k, k < 4 → cs[o + k]? = some (.int .u64 (wd A k : Int))
theorem HasS.size {cs : Array Value} {o A : Nat} (h : HasS cs o A) : o + 4 ≤ cs.size := by
  have := (Array.getElem?_eq_some_iff.1 (h 3 (by decide))).1
  omega
theorem cell_blk {w : World} {b k : Nat} {cs : Array Value} {t : TypeId} (h : w.heap[b]? = some (.cells cs t (0, 0))) : w.cell? ⟨b, k, none⟩ = cs[k]? := cell_of_row _ _ _ _ _ _ h
theorem fz_blk {w : World} {b : Nat} {cs : Array Value} {t : TypeId} (h : w.heap[b]? = some (.cells cs t (0, 0))) (k : Nat) : w.frozen? ⟨b, k, none⟩ = false := by simp [World.frozen?, h]
set_option maxRecDepth 100000 in
set_option maxHeartbeats 4000000 in
theorem add_any (b o A B : Nat) (cs : Array Value) (t : TypeId) (w : World) (hb : w.heap[b]? = some (.cells cs t (0, 0))) (hA : HasS cs o A) :
    Calls Try.prog 42 #[.pointer (some ⟨b, o, none⟩), sV B] w fun e w' => e = .returned (.tuple #[]) ∧ w'.heap[b]? = some (.cells (inC cs o (A ||| B) 4) t (0, 0)) ∧ Only (· = b) w w' := by
  have HBk : Hid (w.heap[b]? = some (.cells cs t (0, 0))) := hb
  have HA : Hid (HasS cs o A) := hA
  have hlt : b < w.heap.size := (Array.getElem?_eq_some_iff.1 hb).1
  clear hb hA
  unfold sV sC
  have HOr : Hid (Only (· = b) w (w.alloc (.cells #[.int .u64 (wd B 0 : Int), .int .u64 (wd B 1 : Int), .int .u64 (wd B 2 : Int), .int .u64 (wd B 3 : Int)] 73))) := (Only.refl _ _).alloc _
  have HB0 : Hid ((w.alloc (.cells #[.int .u64 (wd B 0 : Int), .int .u64 (wd B 1 : Int), .int .u64 (wd B 2 : Int), .int .u64 (wd B 3 : Int)] 73)).heap[b]? = some (.cells cs t (0, 0))) := (Below.heap_alloc _ _ _ hlt).trans HBk.out
  go_enter Try.func42, Try.ntmps42
  go_wp2_with fail
  go_loopg [7] 4 (fun gh v wr => ∃ (k : Nat) (W : World), W = wr ∧ gh = 4 - k ∧ k ≤ 4 ∧ v = .int .i64 (k : Int) ∧ W.heap[b]? = some (.cells (inC cs o (A ||| B) k) t (0, 0)) ∧ Only (· = b) w W)
  case atStart => exact ⟨0, _, rfl, rfl, by omega, rfl, HB0.out, HOr.out⟩
  case round =>
    obtain ⟨k, W, hW, rfl, hk, rfl, hbk, hO⟩ := hrel
    subst hW
    have HBK : Hid (W.heap[b]? = some (.cells (inC cs o (A ||| B) k) t (0, 0))) := hbk
    have HO : Hid (Only (· = b) w W) := hO
    clear hbk hO
    by_cases hlt4 : k < 4
    · have t1 : (k : Int) < 4 := by omega
      have hx := index_sV B k hlt4
      unfold sV sC at hx
      have c1 : W.cell? ⟨b, o + k, none⟩ = some (.int .u64 (wd A k : Int)) := by
        rw [cell_blk HBK.out, inC_at _ _ _ _ _ (by have := HA.out.size; omega), if_neg (by omega)]
        exact HA.out k hlt4
      have f1 := fz_blk HBK.out (o + k)
      have hor := or_wd A B k
      go_wp2_with fail
      go_region
      go_wp2_with fail
      go_roundg (4 - (k + 1))
      case measure => omega
      case rel => exact ⟨k + 1, _, rfl, rfl, by omega, by go_num, heap_setCell_at HBK.out _, (HO.out.setCell (p := ⟨b, o + k, none⟩) rfl _).drew⟩
    · have t2 : decide ((k : Int) < 4) = false := decide_eq_false (by omega)
      obtain rfl : k = 4 := by omega
      go_wp2_with fail
      go_end0
      exact ⟨rfl, HBK.out, HO.out⟩
theorem info73 : (Try.prog.info? 73).map (fun i => (i.zero, i.size)) = some (some (.agg #[.int .u64 0, .int .u64 0, .int .u64 0, .int .u64 0]), 4) := by kernel_rfl
theorem sz73 : (Try.prog.info? 73).map (·.size) = some 4 := by kernel_rfl
theorem inC_all (A S : Nat) : inC (sC A) 0 S 4 = sC S := rfl
/-- a set written into four cells. -/
def put4 (w : World) (g o S : Nat) : World := (((w.setCell ⟨g, o, none⟩ (.int .u64 (wd S 0 : Int))).setCell ⟨g, o + 1, none⟩ (.int .u64 (wd S 1 : Int))).setCell ⟨g, o + 2, none⟩ (.int .u64 (wd S 2 : Int))).setCell ⟨g, o + 3, none⟩ (.int .u64 (wd S 3 : Int))
theorem put4_at {w : World} {g o S : Nat} {cs : Array Value} {t : TypeId} {z : Nat × Nat} (h : w.heap[g]? = some (.cells cs t z)) : (put4 w g o S).heap[g]? = some (.cells (inC cs o S 4) t z) := heap_setCell_at (heap_setCell_at (heap_setCell_at (heap_setCell_at h _) _) _) _
theorem put4_only {P : Nat → Prop} {w0 w : World} (h : Only P w0 w) {g : Nat} (o S : Nat) (hg : P g) : Only P w0 (put4 w g o S) := (((h.setCell (p := ⟨g, o, none⟩) hg _).setCell (p := ⟨g, o + 1, none⟩) hg _).setCell (p := ⟨g, o + 2, none⟩) hg _).setCell (p := ⟨g, o + 3, none⟩) hg _
theorem put4_size (w : World) (g o S : Nat) : (put4 w g o S).heap.size = w.heap.size := by simp [put4, World.setCell]
theorem put4_other (w : World) {g h : Nat} (o S : Nat) (hn : h ≠ g) : (put4 w g o S).heap[h]? = w.heap[h]? := by
  by_cases hl : h < w.heap.size
  · exact (put4_only (Only.refl (· = g) w) o S rfl).block h hl hn
  · rw [Array.getElem?_eq_none (by rw [put4_size]; omega), Array.getElem?_eq_none (by omega)]
theorem results_s {fn : Func} {p : Tmp} (h : fn.results = #[.cell p 73]) (tmps : Array Value) {w : World} {g S : Nat} (hp : tmps.getD p undef = .pointer (some ⟨g, 0, none⟩)) (hg : w.heap[g]? = some (.cells (sC S) 73 (0, 0))) : (results fn tmps).run Try.prog w = .ok (sV S) w :=
  results_cell_row h tmps w g 73 _ (0, 0) _ hp hg Try.underlying73 rfl sz73
/-- nothing that was there has turned. -/
theorem Only.old {P Q : Nat → Prop} {w0 w : World} (h : Only P w0 w) (hP : ∀ g, P g → w0.heap.size ≤ g ∨ Q g) : Only Q w0 w := ⟨h.os, h.tape, h.output, h.size, fun g hg hn => h.block g hg (fun hp => (hP g hp).elim (fun h => by omega) hn)⟩
set_option maxRecDepth 100000 in
set_option maxHeartbeats 4000000 in
theorem both_any (A B : Nat) (w : World) : Calls Try.prog 44 #[sV A, sV B] w fun e w' => e = .returned (sV (A &&& B)) ∧ Only (fun _ => False) w w' := by
  have hsv : ∀ S, sV S = .agg #[.int .u64 (wd S 0 : Int), .int .u64 (wd S 1 : Int), .int .u64 (wd S 2 : Int), .int .u64 (wd S 3 : Int)] := fun _ => rfl
  rw [hsv A, hsv B]
  clear hsv
  have HB0 : Hid ((((w.alloc (.cells #[.int .u64 (wd A 0 : Int), .int .u64 (wd A 1 : Int), .int .u64 (wd A 2 : Int), .int .u64 (wd A 3 : Int)] 73)).alloc (.cells #[.int .u64 (wd B 0 : Int), .int .u64 (wd B 1 : Int), .int .u64 (wd B 2 : Int), .int .u64 (wd B 3 : Int)] 73)).alloc (.cells #[.int .u64 0, .int .u64 0, .int .u64 0, .int .u64 0] 73)).heap[w.heap.size]? = some (.cells (sC A) 73 (0, 0))) := by
    rw [Below.heap_alloc _ _ _ (by simp; omega), Below.heap_alloc _ _ _ (by simp)]
    exact heap_alloc_new _ _
  have HR0 : Hid ((((w.alloc (.cells #[.int .u64 (wd A 0 : Int), .int .u64 (wd A 1 : Int), .int .u64 (wd A 2 : Int), .int .u64 (wd A 3 : Int)] 73)).alloc (.cells #[.int .u64 (wd B 0 : Int), .int .u64 (wd B 1 : Int), .int .u64 (wd B 2 : Int), .int .u64 (wd B 3 : Int)] 73)).alloc (.cells #[.int .u64 0, .int .u64 0, .int .u64 0, .int .u64 0] 73)).heap[w.heap.size + 2]? = some (.cells (sC 0) 73 (0, 0))) := by
    have e : w.heap.size + 2 = ((w.alloc (.cells #[.int .u64 (wd A 0 : Int), .int .u64 (wd A 1 : Int), .int .u64 (wd A 2 : Int), .int .u64 (wd A 3 : Int)] 73)).alloc (.cells #[.int .u64 (wd B 0 : Int), .int .u64 (wd B 1 : Int), .int .u64 (wd B 2 : Int), .int .u64 (wd B 3 : Int)] 73)).heap.size := by simp
    rw [e]
    exact heap_alloc_new _ _
  have HO0 : Hid (Only (fun g => w.heap.size ≤ g) w (((w.alloc (.cells #[.int .u64 (wd A 0 : Int), .int .u64 (wd A 1 : Int), .int .u64 (wd A 2 : Int), .int .u64 (wd A 3 : Int)] 73)).alloc (.cells #[.int .u64 (wd B 0 : Int), .int .u64 (wd B 1 : Int), .int .u64 (wd B 2 : Int), .int .u64 (wd B 3 : Int)] 73)).alloc (.cells #[.int .u64 0, .int .u64 0, .int .u64 0, .int .u64 0] 73))) := (((Only.refl _ _).alloc _).alloc _).alloc _
  go_enter Try.func44, Try.ntmps44
  go_wp2_with fail
  go_loopg [8] 4 (fun gh v wr => ∃ (k : Nat) (W : World), W = wr ∧ gh = 4 - k ∧ k ≤ 4 ∧ v = .int .i64 (k : Int) ∧ W.heap[w.heap.size]? = some (.cells (inC (sC A) 0 (A &&& B) k) 73 (0, 0)) ∧ W.heap[w.heap.size + 2]? = some (.cells (sC 0) 73 (0, 0)) ∧ Only (fun g => w.heap.size ≤ g) w W)
  case atStart => exact ⟨0, _, rfl, rfl, by omega, rfl, HB0.out, HR0.out, HO0.out⟩
  case round =>
    obtain ⟨k, W, hW, rfl, hk, rfl, hbk, hrk, hO⟩ := hrel
    subst hW
    have HBK : Hid (W.heap[w.heap.size]? = some (.cells (inC (sC A) 0 (A &&& B) k) 73 (0, 0))) := hbk
    have HRK : Hid (W.heap[w.heap.size + 2]? = some (.cells (sC 0) 73 (0, 0))) := hrk
    have HO : Hid (Only (fun g => w.heap.size ≤ g) w W) := hO
    clear hbk hO hrk
    by_cases hlt4 : k < 4
    · have t1 : (k : Int) < 4 := by omega
      have hx := index_sV B k hlt4
      unfold sV sC at hx
      have c1 : W.cell? ⟨w.heap.size, k, none⟩ = some (.int .u64 (wd A k : Int)) := by
        rw [cell_blk HBK.out, inC_at _ _ _ _ _ (by show 0 + k ≤ 4; omega), if_neg (by omega)]
        exact sC_at A k hlt4
      have f1 := fz_blk HBK.out k
      have hor := and_wd A B k
      go_wp2_with fail
      go_roundg (4 - (k + 1))
      case measure => omega
      case rel => exact ⟨k + 1, _, rfl, rfl, by omega, by go_num, by rw [inC, Nat.zero_add]; exact heap_setCell_at HBK.out _, (Below.heap_setCell _ _ _ _ (by simp)).trans HRK.out, (HO.out.setCell (p := ⟨w.heap.size, k, none⟩) (Nat.le_refl _) _)⟩
    · have t2 : decide ((k : Int) < 4) = false := decide_eq_false (by omega)
      obtain rfl : k = 4 := by omega
      have hb4 := HBK.out
      rw [inC_all] at hb4
      have c0 : W.cell? ⟨w.heap.size, 0, none⟩ = some (.int .u64 (wd (A &&& B) 0 : Int)) := cell_blk hb4
      have c1 : W.cell? ⟨w.heap.size, 1, none⟩ = some (.int .u64 (wd (A &&& B) 1 : Int)) := cell_blk hb4
      have c2 : W.cell? ⟨w.heap.size, 2, none⟩ = some (.int .u64 (wd (A &&& B) 2 : Int)) := cell_blk hb4
      have c3 : W.cell? ⟨w.heap.size, 3, none⟩ = some (.int .u64 (wd (A &&& B) 3 : Int)) := cell_blk hb4
      clear hb4
      have d0 : W.cell? ⟨w.heap.size + 2, 0, none⟩ = some (.int .u64 0) := cell_blk HRK.out
      have d1 : W.cell? ⟨w.heap.size + 2, 1, none⟩ = some (.int .u64 0) := cell_blk HRK.out
      have d2 : W.cell? ⟨w.heap.size + 2, 2, none⟩ = some (.int .u64 0) := cell_blk HRK.out
      have d3 : W.cell? ⟨w.heap.size + 2, 3, none⟩ = some (.int .u64 0) := cell_blk HRK.out
      have f0 := fz_blk HRK.out 0
      have f1 := fz_blk HRK.out 1
      have f2 := fz_blk HRK.out 2
      have f3 := fz_blk HRK.out 3
      go_wp2_with fail
      refine bodyPost_ret (v := sV (A &&& B)) (results_s (w := put4 W (w.heap.size + 2) 0 (A &&& B)) (g := w.heap.size + 2) rfl _ rfl (put4_at HRK.out)) rfl ⟨rfl, ?_⟩
      exact (put4_only HO.out 0 _ (by omega)).old (fun g h => Or.inl h)
theorem shl64 (r : Nat) (hr : r < 64) : IntKind.u64.wrap (2 ^ r) = ((2 ^ r : Nat) : Int) := by
  rw [IntKind.wrap_u64]
  have h : (2 : Nat) ^ r < 18446744073709551616 := by
    have := Nat.pow_lt_pow_right (a := 2) (by decide) hr
    simpa using this
  have : ((2 : Int) ^ r) = ((2 ^ r : Nat) : Int) := by push_cast; rfl
  rw [this]
  generalize 2 ^ r = m at h
  omega
theorem sC_put {q r i : Nat} (hq : q < 4) (hr : r < 64) (hw : ∀ j, wd (2 ^ i) j = if q = j then 2 ^ r else 0) : (sC 0).setIfInBounds q (.int .u64 (bits .or .u64 0 (IntKind.u64.wrap (2 ^ r)))) = sC (2 ^ i) := by
  have h : (2 : Nat) ^ r < 18446744073709551616 := by
    have := Nat.pow_lt_pow_right (a := 2) (by decide) hr
    simpa using this
  have e : bits .or .u64 0 (IntKind.u64.wrap (2 ^ r)) = ((2 ^ r : Nat) : Int) := by
    rw [shl64 r hr]
    have := u64_or_nat 0 (2 ^ r) (by decide) h
    rw [Nat.zero_or] at this
    exact this
  rw [e]
  unfold sC
  rw [hw 0, hw 1, hw 2, hw 3, wd_zero, wd_zero, wd_zero, wd_zero]
  rcases (show q = 0 ∨ q = 1 ∨ q = 2 ∨ q = 3 by omega) with rfl | rfl | rfl | rfl <;> rfl
set_option maxRecDepth 100000 in
set_option maxHeartbeats 4000000 in
theorem put_new (b i : Nat) (hi : i < 256) (w : World) (hb : w.heap[b]? = some (.cells (sC 0) 73 (0, 0))) :
    Calls Try.prog 83 #[.pointer (some ⟨b, 0, none⟩), .int .i64 (i : Int)] w fun e w' => e = .returned (.tuple #[]) ∧ w'.heap[b]? = some (.cells (sC (2 ^ i)) 73 (0, 0)) ∧ Only (· = b) w w' := by
  obtain ⟨q, r, hq, hr, rfl⟩ : ∃ q r, q < 4 ∧ r < 64 ∧ i = 64 * q + r := ⟨i / 64, i % 64, by omega, by omega, by omega⟩
  obtain ⟨i, hii⟩ : ∃ i : Nat, i = 64 * q + r := ⟨_, rfl⟩
  have hw : ∀ j, wd (2 ^ i) j = if q = j then 2 ^ r else 0 := fun j => by rw [hii]; exact wd_pow q r j hr
  rw [← hii] at ⊢
  have hP := sC_put hq hr hw
  have HW : Hid ((sC 0).setIfInBounds q (.int .u64 (bits .or .u64 0 (IntKind.u64.wrap (2 ^ r)))) = sC (2 ^ i)) := hP
  have hm : (i : Int) % 64 = (r : Int) := by omega
  have hd : (i : Int) / 64 = (q : Int) := by omega
  have hl : (i : Int) < 256 := by omega
  have HB : Hid (w.heap[b]? = some (.cells (sC 0) 73 (0, 0))) := hb
  clear hii hi hb hw hP
  have e0 : ∀ j, j < 4 → w.cell? ⟨b, j, none⟩ = some (.int .u64 0) := fun j hj => by
    rw [cell_blk HB.out, sC_at 0 j hj, wd_zero]; rfl
  have HE : Hid (∀ j, j < 4 → w.cell? ⟨b, j, none⟩ = some (.int .u64 0)) := e0
  clear e0
  rcases (show q = 0 ∨ q = 1 ∨ q = 2 ∨ q = 3 by omega) with rfl | rfl | rfl | rfl
  · have hd0 : (i : Int) / 64 = 0 := hd
    clear hd
    have d0 := HE.out 0 (by decide)
    have f0 := fz_blk HB.out 0
    go_enter Try.func83, Try.ntmps83
    go_wp2_with fail
    go_region
    go_end0
    exact ⟨rfl, by rw [← HW.out]; exact heap_setCell_at HB.out _, ((Only.refl (· = b) _).setCell (p := ⟨b, 0, none⟩) rfl _).drew⟩
  · have hd0 : (i : Int) / 64 = 1 := hd
    clear hd
    have d0 := HE.out 1 (by decide)
    have f0 := fz_blk HB.out 1
    go_enter Try.func83, Try.ntmps83
    go_wp2_with fail
    go_region
    go_end0
    exact ⟨rfl, by rw [← HW.out]; exact heap_setCell_at HB.out _, ((Only.refl (· = b) _).setCell (p := ⟨b, 1, none⟩) rfl _).drew⟩
  · have hd0 : (i : Int) / 64 = 2 := hd
    clear hd
    have d0 := HE.out 2 (by decide)
    have f0 := fz_blk HB.out 2
    go_enter Try.func83, Try.ntmps83
    go_wp2_with fail
    go_region
    go_end0
    exact ⟨rfl, by rw [← HW.out]; exact heap_setCell_at HB.out _, ((Only.refl (· = b) _).setCell (p := ⟨b, 2, none⟩) rfl _).drew⟩
  · have hd0 : (i : Int) / 64 = 3 := hd
    clear hd
    have d0 := HE.out 3 (by decide)
    have f0 := fz_blk HB.out 3
    go_enter Try.func83, Try.ntmps83
    go_wp2_with fail
    go_region
    go_end0
    exact ⟨rfl, by rw [← HW.out]; exact heap_setCell_at HB.out _, ((Only.refl (· = b) _).setCell (p := ⟨b, 3, none⟩) rfl _).drew⟩
end Go.Proofs.Ytfbcijnacbfjpaa
