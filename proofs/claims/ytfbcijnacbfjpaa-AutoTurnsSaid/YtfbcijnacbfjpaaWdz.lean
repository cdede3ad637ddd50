/-
  Sets of places as four words of 64 bits; no program in it.
-/
import Derived.Test.YtfbcijnacbfjpaaMathz
import Derived.Laws.BitsAllLaws
import Derived.BigRegion
import Derived.BigQuiet
import Derived.Deep.QuietTactic
namespace Go.Proofs.Ytfbcijnacbfjpaa
set_option linter.unusedVariables false
set_option linter.unusedSimpArgs false
/-- the j-th word of a set. -/
def wd (S j : Nat) : Nat := S / 2 ^ (64 * j) % 18446744073709551616
theorem wd_lt (S j : Nat) : wd S j < 18446744073709551616 := Nat.mod_lt _ (by decide)
theorem wd_bit (S j i : Nat) : (wd S j).testBit i = (decide (i < 64) && S.testBit (64 * j + i)) := by
  unfold wd
  rw [show (18446744073709551616 : Nat) = 2 ^ 64 from rfl, Nat.testBit_mod_two_pow, Nat.testBit_div_two_pow, Nat.add_comm i]
theorem wd_or (A B j : Nat) : wd (A ||| B) j = wd A j ||| wd B j := by
  apply Nat.eq_of_testBit_eq
  intro i
  rw [Nat.testBit_or, wd_bit, wd_bit, wd_bit, Nat.testBit_or]
  cases decide (i < 64) <;> simp
theorem wd_and (A B j : Nat) : wd (A &&& B) j = wd A j &&& wd B j := by
  apply Nat.eq_of_testBit_eq
  intro i
  rw [Nat.testBit_and, wd_bit, wd_bit, wd_bit, Nat.testBit_and]
  cases decide (i < 64) <;> simp
theorem wd_pow (q r j : Nat) (hr : r < 64) : wd (2 ^ (64 * q + r)) j = if q = j then 2 ^ r else 0 := by
  apply Nat.eq_of_testBit_eq
  intro i
  rw [wd_bit, Nat.testBit_two_pow]
  by_cases h : q = j
  · subst h
    rw [if_pos rfl, Nat.testBit_two_pow]
    by_cases e : r = i
    · subst e; simp [hr]
    · have : ¬ (64 * q + r = 64 * q + i) := by omega
      simp [e, this]
  · rw [if_neg h]
    by_cases e : i < 64
    · have : ¬ (64 * q + r = 64 * j + i) := by omega
      simp [this]
    · simp [e]
theorem wd_zero (j : Nat) : wd 0 j = 0 := by simp [wd]
theorem wd_ext {A B : Nat} (ha : A < 2 ^ 256) (hb : B < 2 ^ 256) (h : ∀ j, j < 4 → wd A j = wd B j) : A = B := by
  apply Nat.eq_of_testBit_eq
  intro i
  by_cases hi : i < 256
  · have := congrArg (fun x => Nat.testBit x (i % 64)) (h (i / 64) (by omega))
    simp only [wd_bit] at this
    rw [decide_eq_true (by omega), Bool.true_and, Bool.true_and, show 64 * (i / 64) + i % 64 = i by omega] at this
    exact this
  · rw [Nat.testBit_lt_two_pow (Nat.lt_of_lt_of_le ha (Nat.pow_le_pow_right (by decide) (by omega))), Nat.testBit_lt_two_pow (Nat.lt_of_lt_of_le hb (Nat.pow_le_pow_right (by decide) (by omega)))]
theorem or_wd (A B j : Nat) : bits .or .u64 (wd A j : Int) (wd B j : Int) = (wd (A ||| B) j : Int) := by
  rw [u64_or_nat _ _ (wd_lt _ _) (wd_lt _ _), wd_or]
theorem and_wd (A B j : Nat) : bits .and .u64 (wd A j : Int) (wd B j : Int) = (wd (A &&& B) j : Int) := by
  rw [u64_and_nat _ _ (wd_lt _ _) (wd_lt _ _), wd_and]
/-- is a place in the set, by its word. -/
theorem bit_wd (S q r : Nat) (hr : r < 64) : wd S q / 2 ^ r % 2 = if S.testBit (64 * q + r) = true then 1 else 0 := by
  have h := wd_bit S q r
  rw [decide_eq_true hr, Bool.true_and] at h
  rw [← h, Nat.testBit_eq_decide_div_mod_eq]
  have : wd S q / 2 ^ r % 2 < 2 := Nat.mod_lt _ (by decide)
  by_cases e : wd S q / 2 ^ r % 2 = 1
  · simp [e]
  · simp [e]; omega
end Go.Proofs.Ytfbcijnacbfjpaa
namespace Go.Proofs.Ytfbcijnacbfjpaa
open Go.RowKit Go.Maps
set_option linter.unusedVariables false
set_option linter.unusedSimpArgs false
/-- a set as cells, as a value. -/
def sC (S : Nat) : Array Value := #[.int .u64 (wd S 0 : Int), .int .u64 (wd S 1 : Int), .int .u64 (wd S 2 : Int), .int .u64 (wd S 3 : Int)]
def sV (S : Nat) : Value := .agg (sC S)
theorem and1 {S q r i : Nat} (h : wd S q / 2 ^ r % 2 = if S.testBit i = true then 1 else 0) : (bits .and .u64 ((wd S q : Int) / 2 ^ r) 1 == 1) = S.testBit i := by
  have e : ((wd S q : Int) / 2 ^ r) = ((wd S q / 2 ^ r : Nat) : Int) := by push_cast; rfl
  have hl : wd S q / 2 ^ r < 18446744073709551616 := Nat.lt_of_le_of_lt (Nat.div_le_self _ _) (wd_lt S q)
  rw [e, show (1 : Int) = ((1 : Nat) : Int) from rfl, u64_and_nat _ _ hl (by decide), nat_mask1, h]
  cases S.testBit i <;> rfl
set_option maxRecDepth 100000 in
set_option maxHeartbeats 4000000 in
theorem has_any (S i : Nat) (hi : i < 256) (w : World) : Calls Try.prog 59 #[sV S, .int .i64 (i : Int)] w fun e w' => e = .returned (.bool (S.testBit i)) ∧ Only (fun _ => False) w w' := by
  obtain ⟨q, r, hq, hr, rfl⟩ : ∃ q r, q < 4 ∧ r < 64 ∧ i = 64 * q + r := ⟨i / 64, i % 64, by omega, by omega, by omega⟩
  obtain ⟨i, hii⟩ : ∃ i : Nat, i = 64 * q + r := ⟨_, rfl⟩
  have hb := bit_wd S q r hr
  rw [← hii] at hb ⊢
  have hm : (i : Int) % 64 = (r : Int) := by omega
  have hd : (i : Int) / 64 = (q : Int) := by omega
  have hl : (i : Int) < 256 := by omega
  have HB : Hid ((bits .and .u64 ((wd S q : Int) / 2 ^ r) 1 == 1) = S.testBit i) := and1 hb
  clear hii hi hb
  unfold sV sC
  have w0 := wd_lt S 0
  have w1 := wd_lt S 1
  have w2 := wd_lt S 2
  have w3 := wd_lt S 3
  rcases (show q = 0 ∨ q = 1 ∨ q = 2 ∨ q = 3 by omega) with rfl | rfl | rfl | rfl
  · have hd0 : (i : Int) / 64 = 0 := hd
    clear hd
    go_enter Try.func59, Try.ntmps59
    go_wp2_with fail
    go_ret
    exact ⟨by rw [HB.out]; rfl, (Only.refl _ _).alloc _⟩
  · have hd0 : (i : Int) / 64 = 1 := hd
    clear hd
    go_enter Try.func59, Try.ntmps59
    go_wp2_with fail
    go_ret
    exact ⟨by rw [HB.out]; rfl, (Only.refl _ _).alloc _⟩
  · have hd0 : (i : Int) / 64 = 2 := hd
    clear hd
    go_enter Try.func59, Try.ntmps59
    go_wp2_with fail
    go_ret
    exact ⟨by rw [HB.out]; rfl, (Only.refl _ _).alloc _⟩
  · have hd0 : (i : Int) / 64 = 3 := hd
    clear hd
    go_enter Try.func59, Try.ntmps59
    go_wp2_with fail
    go_ret
    exact ⟨by rw [HB.out]; rfl, (Only.refl _ _).alloc _⟩
theorem sC_at (S k : Nat) (hk : k < 4) : (sC S)[k]? = some (.int .u64 (wd S k : Int)) := by
  rcases (show k = 0 ∨ k = 1 ∨ k = 2 ∨ k = 3 by omega) with rfl | rfl | rfl | rfl <;> rfl
theorem index_sV (S k : Nat) (hk : k < 4) (w : World) : (Instr.index 73 (sV S) (.int .i64 (k : Int))).run Try.prog w = .ok (.int .u64 (wd S k : Int)) w := by
  unfold sV sC
  rcases (show k = 0 ∨ k = 1 ∨ k = 2 ∨ k = 3 by omega) with rfl | rfl | rfl | rfl <;> kernel_rfl
/-- the first k words of a set put into cells. -/
def inC (cs : Array Value) (o S : Nat) : Nat → Array Value
  | 0 => cs
  | k + 1 => (inC cs o S k).setIfInBounds (o + k) (.int .u64 (wd S k : Int))
theorem inC_size (cs : Array Value) (o S : Nat) : ∀ k, (inC cs o S k).size = cs.size
  | 0 => rfl
  | k + 1 => by rw [inC, Array.size_setIfInBounds, inC_size cs o S k]
theorem inC_at (cs : Array Value) (o S : Nat) : ∀ (k j : Nat), o + k ≤ cs.size → (inC cs o S k)[j]? = if o ≤ j ∧ j < o + k then some (.int .u64 (wd S (j - o) : Int)) else cs[j]?
  | 0, j, _ => by rw [inC, if_neg (by omega)]
  | k + 1, j, h => by
    rw [inC, Array.getElem?_setIfInBounds, inC_at cs o S k j (by omega), inC_size]
    by_cases e : o + k = j
    · subst e
      rw [if_pos rfl, if_pos (by omega), if_pos (by omega), show o + k - o = k by omega]
    · rw [if_neg e]
      by_cases h1 : o ≤ j ∧ j < o + k
      · rw [if_pos h1, if_pos (by omega)]
      · rw [if_neg h1, if_neg (by omega)]
/-- these cells hold a set, from o on. -/
def HasS (cs : Array Value) (o A : Nat) : Prop := ∀ k, k < 4 → cs[o + k]? = some (.int .u64 (wd A k : Int))
theorem HasS.size {cs : Array Value} {o A : Nat} (h : HasS cs o A) : o + 4 ≤ cs.size := by
  have := (Array.getElem?_eq_some_iff.1 (h 3 (by decide))).1
  omega
theorem cell_blk {w : World} {b k : Nat} {cs : Array Value} {t : TypeId} (h : w.heap[b]? = some (.cells cs t (0, 0))) : w.cell? ⟨b, k, none⟩ = cs[k]? := cell_of_row _ _ _ _ _ _ h
theorem fz_blk {w : World} {b : Nat} {cs : Array Value} {t : TypeId} (h : w.heap[b]? = some (.cells cs t (0, 0))) (k : Nat) : w.frozen? ⟨b, k, none⟩ = false := by simp [World.frozen?, h]
set_option maxRecDepth 100000 in
set_option maxHeartbeats 4000000 in
theorem add_any (b o A B : Nat) (cs : Array Value) (t : TypeId) (w : World) (hb : w.heap[b]? = some (.cells cs t (0, 0))) (hA : HasS cs o A) :
    Calls Try.prog 42 #[.pointer (some ⟨b, o, none⟩), sV B] w fun e w' => e = .returned (.tuple #[]) ∧ w'.heap[b]? = some (.cells (inC cs o (A ||| B) 4) t (0, 0)) ∧ Only (· = b) w w' := by
  have HBk : Hid (w.heap[b]? = some (.cells cs t (0, 0))) := hb
  have HA : Hid (HasS cs o A) := hA
  have hlt : b < w.heap.size := (Array.getElem?_eq_some_iff.1 hb).1
  clear hb hA
  unfold sV sC
  have HOr : Hid (Only (· = b) w (w.alloc (.cells #[.int .u64 (wd B 0 : Int), .int .u64 (wd B 1 : Int), .int .u64 (wd B 2 : Int), .int .u64 (wd B 3 : Int)] 73))) := (Only.refl _ _).alloc _
  have HB0 : Hid ((w.alloc (.cells #[.int .u64 (wd B 0 : Int), .int .u64 (wd B 1 : Int), .int .u64 (wd B 2 : Int), .int .u64 (wd B 3 : Int)] 73)).heap[b]? = some (.cells cs t (0, 0))) := (Below.heap_alloc _ _ _ hlt).trans HBk.out
  go_enter Try.func42, Try.ntmps42
  go_wp2_with fail
  go_loopg [7] 4 (fun gh v wr => ∃ (k : Nat) (W : World), W = wr ∧ gh = 4 - k ∧ k ≤ 4 ∧ v = .int .i64 (k : Int) ∧ W.heap[b]? = some (.cells (inC cs o (A ||| B) k) t (0, 0)) ∧ Only (· = b) w W)
  case atStart => exact ⟨0, _, rfl, rfl, by omega, rfl, HB0.out, HOr.out⟩
  case round =>
    obtain ⟨k, W, hW, rfl, hk, rfl, hbk, hO⟩ := hrel
    subst hW
    have HBK : Hid (W.heap[b]? = some (.cells (inC cs o (A ||| B) k) t (0, 0))) := hbk
    have HO : Hid (Only (· = b) w W) := hO
    clear hbk hO
    by_cases hlt4 : k < 4
    · have t1 : (k : Int) < 4 := by omega
      have hx := index_sV B k hlt4
      unfold sV sC at hx
      have c1 : W.cell? ⟨b, o + k, none⟩ = some (.int .u64 (wd A k : Int)) := by
        rw [cell_blk HBK.out, inC_at _ _ _ _ _ (by have := HA.out.size; omega), if_neg (by omega)]
        exact HA.out k hlt4
      have f1 := fz_blk HBK.out (o + k)
      have hor := or_wd A B k
      go_wp2_with fail
      go_region
      go_wp2_with fail
      go_roundg (4 - (k + 1))
      case measure => omega
      case rel => exact ⟨k + 1, _, rfl, rfl, by omega, by go_num, heap_setCell_at HBK.out _, (HO.out.setCell (p := ⟨b, o + k, none⟩) rfl _).drew⟩
    · have t2 : decide ((k : Int) < 4) = false := decide_eq_false (by omega)
      obtain rfl : k = 4 := by omega
      go_wp2_with fail
      go_end0
      exact ⟨rfl, HBK.out, HO.out⟩
theorem info73 : (Try.prog.info? 73).map (fun i => (i.zero, i.size)) = some (some (.agg #[.int .u64 0, .int .u64 0, .int .u64 0, .int .u64 0]), 4) := by kernel_rfl
theorem sz73 : (Try.prog.info? 73).map (·.size) = some 4 := by kernel_rfl
theorem inC_all (A S : Nat) : inC (sC A) 0 S 4 = sC S := rfl
/-- a set written into four cells. -/
def put4 (w : World) (g o S : Nat) : World := (((w.setCell ⟨g, o, none⟩ (.int .u64 (wd S 0 : Int))).setCell ⟨g, o + 1, none⟩ (.int .u64 (wd S 1 : Int))).setCell ⟨g, o + 2, none⟩ (.int .u64 (wd S 2 : Int))).setCell ⟨g, o + 3, none⟩ (.int .u64 (wd S 3 : Int))
theorem put4_at {w : World} {g o S : Nat} {cs : Array Value} {t : TypeId} {z : Nat × Nat} (h : w.heap[g]? = some (.cells cs t z)) : (put4 w g o S).heap[g]? = some (.cells (inC cs o S 4) t z) := heap_setCell_at (heap_setCell_at (heap_setCell_at (heap_setCell_at h _) _) _) _
theorem put4_only {P : Nat → Prop} {w0 w : World} (h : Only P w0 w) {g : Nat} (o S : Nat) (hg : P g) : Only P w0 (put4 w g o S) := (((h.setCell (p := ⟨g, o, none⟩) hg _).setCell (p := ⟨g, o + 1, none⟩) hg _).setCell (p := ⟨g, o + 2, none⟩) hg _).setCell (p := ⟨g, o + 3, none⟩) hg _
theorem put4_size (w : World) (g o S : Nat) : (put4 w g o S).heap.size = w.heap.size := by simp [put4, World.setCell]
theorem put4_other (w : World) {g h : Nat} (o S : Nat) (hn : h ≠ g) : (put4 w g o S).heap[h]? = w.heap[h]? := by
  by_cases hl : h < w.heap.size
  · exact (put4_only (Only.refl (· = g) w) o S rfl).block h hl hn
  · rw [Array.getElem?_eq_none (by rw [put4_size]; omega), Array.getElem?_eq_none (by omega)]
theorem results_s {fn : Func} {p : Tmp} (h : fn.results = #[.cell p 73]) (tmps : Array Value) {w : World} {g S : Nat} (hp : tmps.getD p undef = .pointer (some ⟨g, 0, none⟩)) (hg : w.heap[g]? = some (.cells (sC S) 73 (0, 0))) : (results fn tmps).run Try.prog w = .ok (sV S) w :=
  results_cell_row h tmps w g 73 _ (0, 0) _ hp hg Try.underlying73 rfl sz73
/-- nothing that was there has turned. -/
theorem Only.old {P Q : Nat → Prop} {w0 w : World} (h : Only P w0 w) (hP : ∀ g, P g → w0.heap.size ≤ g ∨ Q g) : Only Q w0 w := ⟨h.os, h.tape, h.output, h.size, fun g hg hn => h.block g hg (fun hp => (hP g hp).elim (fun h => by omega) hn)⟩
set_option maxRecDepth 100000 in
set_option maxHeartbeats 4000000 in
theorem both_any (A B : Nat) (w : World) : Calls Try.prog 44 #[sV A, sV B] w fun e w' => e = .returned (sV (A &&& B)) ∧ Only (fun _ => False) w w' := by
  have hsv : ∀ S, sV S = .agg #[.int .u64 (wd S 0 : Int), .int .u64 (wd S 1 : Int), .int .u64 (wd S 2 : Int), .int .u64 (wd S 3 : Int)] := fun _ => rfl
  rw [hsv A, hsv B]
  clear hsv
  have HB0 : Hid ((((w.alloc (.cells #[.int .u64 (wd A 0 : Int), .int .u64 (wd A 1 : Int), .int .u64 (wd A 2 : Int), .int .u64 (wd A 3 : Int)] 73)).alloc (.cells #[.int .u64 (wd B 0 : Int), .int .u64 (wd B 1 : Int), .int .u64 (wd B 2 : Int), .int .u64 (wd B 3 : Int)] 73)).alloc (.cells #[.int .u64 0, .int .u64 0, .int .u64 0, .int .u64 0] 73)).heap[w.heap.size]? = some (.cells (sC A) 73 (0, 0))) := by
    rw [Below.heap_alloc _ _ _ (by simp; omega), Below.heap_alloc _ _ _ (by simp)]
    exact heap_alloc_new _ _
  have HR0 : Hid ((((w.alloc (.cells #[.int .u64 (wd A 0 : Int), .int .u64 (wd A 1 : Int), .int .u64 (wd A 2 : Int), .int .u64 (wd A 3 : Int)] 73)).alloc (.cells #[.int .u64 (wd B 0 : Int), .int .u64 (wd B 1 : Int), .int .u64 (wd B 2 : Int), .int .u64 (wd B 3 : Int)] 73)).alloc (.cells #[.int .u64 0, .int .u64 0, .int .u64 0, .int .u64 0] 73)).heap[w.heap.size + 2]? = some (.cells (sC 0) 73 (0, 0))) := by
    have e : w.heap.size + 2 = ((w.alloc (.cells #[.int .u64 (wd A 0 : Int), .int .u64 (wd A 1 : Int), .int .u64 (wd A 2 : Int), .int .u64 (wd A 3 : Int)] 73)).alloc (.cells #[.int .u64 (wd B 0 : Int), .int .u64 (wd B 1 : Int), .int .u64 (wd B 2 : Int), .int .u64 (wd B 3 : Int)] 73)).heap.size := by simp
    rw [e]
    exact heap_alloc_new _ _
  have HO0 : Hid (Only (fun g => w.heap.size ≤ g) w (((w.alloc (.cells #[.int .u64 (wd A 0 : Int), .int .u64 (wd A 1 : Int), .int .u64 (wd A 2 : Int), .int .u64 (wd A 3 : Int)] 73)).alloc (.cells #[.int .u64 (wd B 0 : Int), .int .u64 (wd B 1 : Int), .int .u64 (wd B 2 : Int), .int .u64 (wd B 3 : Int)] 73)).alloc (.cells #[.int .u64 0, .int .u64 0, .int .u64 0, .int .u64 0] 73))) := (((Only.refl _ _).alloc _).alloc _).alloc _
  go_enter Try.func44, Try.ntmps44
  go_wp2_with fail
  go_loopg [8] 4 (fun gh v wr => ∃ (k : Nat) (W : World), W = wr ∧ gh = 4 - k ∧ k ≤ 4 ∧ v = .int .i64 (k : Int) ∧ W.heap[w.heap.size]? = some (.cells (inC (sC A) 0 (A &&& B) k) 73 (0, 0)) ∧ W.heap[w.heap.size + 2]? = some (.cells (sC 0) 73 (0, 0)) ∧ Only (fun g => w.heap.size ≤ g) w W)
  case atStart => exact ⟨0, _, rfl, rfl, by omega, rfl, HB0.out, HR0.out, HO0.out⟩
  case round =>
    obtain ⟨k, W, hW, rfl, hk, rfl, hbk, hrk, hO⟩ := hrel
    subst hW
    have HBK : Hid (W.heap[w.heap.size]? = some (.cells (inC (sC A) 0 (A &&& B) k) 73 (0, 0))) := hbk
    have HRK : Hid (W.heap[w.heap.size + 2]? = some (.cells (sC 0) 73 (0, 0))) := hrk
    have HO : Hid (Only (fun g => w.heap.size ≤ g) w W) := hO
    clear hbk hO hrk
    by_cases hlt4 : k < 4
    · have t1 : (k : Int) < 4 := by omega
      have hx := index_sV B k hlt4
      unfold sV sC at hx
      have c1 : W.cell? ⟨w.heap.size, k, none⟩ = some (.int .u64 (wd A k : Int)) := by
        rw [cell_blk HBK.out, inC_at _ _ _ _ _ (by show 0 + k ≤ 4; omega), if_neg (by omega)]
        exact sC_at A k hlt4
      have f1 := fz_blk HBK.out k
      have hor := and_wd A B k
      go_wp2_with fail
      go_roundg (4 - (k + 1))
      case measure => omega
      case rel => exact ⟨k + 1, _, rfl, rfl, by omega, by go_num, by rw [inC, Nat.zero_add]; exact heap_setCell_at HBK.out _, (Below.heap_setCell _ _ _ _ (by simp)).trans HRK.out, (HO.out.setCell (p := ⟨w.heap.size, k, none⟩) (Nat.le_refl _) _)⟩
    · have t2 : decide ((k : Int) < 4) = false := decide_eq_false (by omega)
      obtain rfl : k = 4 := by omega
      have hb4 := HBK.out
      rw [inC_all] at hb4
      have c0 : W.cell? ⟨w.heap.size, 0, none⟩ = some (.int .u64 (wd (A &&& B) 0 : Int)) := cell_blk hb4
      have c1 : W.cell? ⟨w.heap.size, 1, none⟩ = some (.int .u64 (wd (A &&& B) 1 : Int)) := cell_blk hb4
      have c2 : W.cell? ⟨w.heap.size, 2, none⟩ = some (.int .u64 (wd (A &&& B) 2 : Int)) := cell_blk hb4
      have c3 : W.cell? ⟨w.heap.size, 3, none⟩ = some (.int .u64 (wd (A &&& B) 3 : Int)) := cell_blk hb4
      clear hb4
      have d0 : W.cell? ⟨w.heap.size + 2, 0, none⟩ = some (.int .u64 0) := cell_blk HRK.out
      have d1 : W.cell? ⟨w.heap.size + 2, 1, none⟩ = some (.int .u64 0) := cell_blk HRK.out
      have d2 : W.cell? ⟨w.heap.size + 2, 2, none⟩ = some (.int .u64 0) := cell_blk HRK.out
      have d3 : W.cell? ⟨w.heap.size + 2, 3, none⟩ = some (.int .u64 0) := cell_blk HRK.out
      have f0 := fz_blk HRK.out 0
      have f1 := fz_blk HRK.out 1
      have f2 := fz_blk HRK.out 2
      have f3 := fz_blk HRK.out 3
      go_wp2_with fail
      refine bodyPost_ret (v := sV (A &&& B)) (results_s (w := put4 W (w.heap.size + 2) 0 (A &&& B)) (g := w.heap.size + 2) rfl _ rfl (put4_at HRK.out)) rfl ⟨rfl, ?_⟩
      exact (put4_only HO.out 0 _ (by omega)).old (fun g h => Or.inl h)
theorem shl64 (r : Nat) (hr : r < 64) : IntKind.u64.wrap (2 ^ r) = ((2 ^ r : Nat) : Int) := by
  rw [IntKind.wrap_u64]
  have h : (2 : Nat) ^ r < 18446744073709551616 := by
    have := Nat.pow_lt_pow_right (a := 2) (by decide) hr
    simpa using this
  have : ((2 : Int) ^ r) = ((2 ^ r : Nat) : Int) := by push_cast; rfl
  rw [this]
  generalize 2 ^ r = m at h
  omega
theorem sC_put {q r i : Nat} (hq : q < 4) (hr : r < 64) (hw : ∀ j, wd (2 ^ i) j = if q = j then 2 ^ r else 0) : (sC 0).setIfInBounds q (.int .u64 (bits .or .u64 0 (IntKind.u64.wrap (2 ^ r)))) = sC (2 ^ i) := by
  have h : (2 : Nat) ^ r < 18446744073709551616 := by
    have := Nat.pow_lt_pow_right (a := 2) (by decide) hr
    simpa using this
  have e : bits .or .u64 0 (IntKind.u64.wrap (2 ^ r)) = ((2 ^ r : Nat) : Int) := by
    rw [shl64 r hr]
    have := u64_or_nat 0 (2 ^ r) (by decide) h
    rw [Nat.zero_or] at this
    exact this
  rw [e]
  unfold sC
  rw [hw 0, hw 1, hw 2, hw 3, wd_zero, wd_zero, wd_zero, wd_zero]
  rcases (show q = 0 ∨ q = 1 ∨ q = 2 ∨ q = 3 by omega) with rfl | rfl | rfl | rfl <;> rfl
set_option maxRecDepth 100000 in
set_option maxHeartbeats 4000000 in
theorem put_new (b i : Nat) (hi : i < 256) (w : World) (hb : w.heap[b]? = some (.cells (sC 0) 73 (0, 0))) :
    Calls Try.prog 83 #[.pointer (some ⟨b, 0, none⟩), .int .i64 (i : Int)] w fun e w' => e = .returned (.tuple #[]) ∧ w'.heap[b]? = some (.cells (sC (2 ^ i)) 73 (0, 0)) ∧ Only (· = b) w w' := by
  obtain ⟨q, r, hq, hr, rfl⟩ : ∃ q r, q < 4 ∧ r < 64 ∧ i = 64 * q + r := ⟨i / 64, i % 64, by omega, by omega, by omega⟩
  obtain ⟨i, hii⟩ : ∃ i : Nat, i = 64 * q + r := ⟨_, rfl⟩
  have hw : ∀ j, wd (2 ^ i) j = if q = j then 2 ^ r else 0 := fun j => by rw [hii]; exact wd_pow q r j hr
  rw [← hii] at ⊢
  have hP := sC_put hq hr hw
  have HW : Hid ((sC 0).setIfInBounds q (.int .u64 (bits .or .u64 0 (IntKind.u64.wrap (2 ^ r)))) = sC (2 ^ i)) := hP
  have hm : (i : Int) % 64 = (r : Int) := by omega
  have hd : (i : Int) / 64 = (q : Int) := by omega
  have hl : (i : Int) < 256 := by omega
  have HB : Hid (w.heap[b]? = some (.cells (sC 0) 73 (0, 0))) := hb
  clear hii hi hb hw hP
  have e0 : ∀ j, j < 4 → w.cell? ⟨b, j, none⟩ = some (.int .u64 0) := fun j hj => by
    rw [cell_blk HB.out, sC_at 0 j hj, wd_zero]; rfl
  have HE : Hid (∀ j, j < 4 → w.cell? ⟨b, j, none⟩ = some (.int .u64 0)) := e0
  clear e0
  rcases (show q = 0 ∨ q = 1 ∨ q = 2 ∨ q = 3 by omega) with rfl | rfl | rfl | rfl
  · have hd0 : (i : Int) / 64 = 0 := hd
    clear hd
    have d0 := HE.out 0 (by decide)
    have f0 := fz_blk HB.out 0
    go_enter Try.func83, Try.ntmps83
    go_wp2_with fail
    go_region
    go_end0
    exact ⟨rfl, by rw [← HW.out]; exact heap_setCell_at HB.out _, ((Only.refl (· = b) _).setCell (p := ⟨b, 0, none⟩) rfl _).drew⟩
  · have hd0 : (i : Int) / 64 = 1 := hd
    clear hd
    have d0 := HE.out 1 (by decide)
    have f0 := fz_blk HB.out 1
    go_enter Try.func83, Try.ntmps83
    go_wp2_with fail
    go_region
    go_end0
    exact ⟨rfl, by rw [← HW.out]; exact heap_setCell_at HB.out _, ((Only.refl (· = b) _).setCell (p := ⟨b, 1, none⟩) rfl _).drew⟩
  · have hd0 : (i : Int) / 64 = 2 := hd
    clear hd
    have d0 := HE.out 2 (by decide)
    have f0 := fz_blk HB.out 2
    go_enter Try.func83, Try.ntmps83
    go_wp2_with fail
    go_region
    go_end0
    exact ⟨rfl, by rw [← HW.out]; exact heap_setCell_at HB.out _, ((Only.refl (· = b) _).setCell (p := ⟨b, 2, none⟩) rfl _).drew⟩
  · have hd0 : (i : Int) / 64 = 3 := hd
    clear hd
    have d0 := HE.out 3 (by decide)
    have f0 := fz_blk HB.out 3
    go_enter Try.func83, Try.ntmps83
    go_wp2_with fail
    go_region
    go_end0
    exact ⟨rfl, by rw [← HW.out]; exact heap_setCell_at HB.out _, ((Only.refl (· = b) _).setCell (p := ⟨b, 3, none⟩) rfl _).drew⟩
end Go.Proofs.Ytfbcijnacbfjpaa
