/-
  What (*prop.Table).Each and the reference's Each and SameInts return; nothing that was there turns.
-/
import Derived.Test.YtagkdboobfkmmaaRight
namespace Go.Proofs.Ytagkdboobfkmmaa
open Go.RowKit Go.Maps Go.ChangeShapes
set_option linter.unusedVariables false
set_option linter.unusedSimpArgs false

theorem info3 : (Try.prog.info? 3).map (fun i => (i.zero, i.size, i.bytes)) = some (some (.int .i64 0), 1, 8) := by kernel_rfl
theorem info38 : (Try.prog.info? 38).map (fun i => (i.zero, i.size, i.bytes)) = some (some (.agg #[.int .i32 0, .int .i64 0, .int .i64 0]), 3, 24) := by kernel_rfl
/-- signs as cells. -/
def scCells (n : Nat) (X : Nat → Int) : List Value := (List.range n).flatMap fun j : Nat => [.int .i32 (X j), .int .i64 j, .int .i64 1]
/-- a slice of n signs with these numbers. -/
structure SeesS (w : World) (n : Nat) (X : Nat → Int) (a : Option Addr) (g cap : Nat) : Prop where
  cap : n ≤ cap
  adr : 0 < n → a = some ⟨g, 0, none⟩
  blk : 0 < n → g < w.heap.size
  c0 : ∀ j, j < n → w.cell? ⟨g, j * 3, none⟩ = some (.int .i32 (X j))
  c1 : ∀ j, j < n → w.cell? ⟨g, j * 3 + 1, none⟩ = some (.int .i64 j)
  c2 : ∀ j, j < n → w.cell? ⟨g, j * 3 + 2, none⟩ = some (.int .i64 1)
theorem SeesS.kept {w w' : World} {n : Nat} {X : Nat → Int} {a : Option Addr} {g cap : Nat} (h : SeesS w n X a g cap) (hb : Below w.heap.size w w') : SeesS w' n X a g cap :=
  ⟨h.cap, h.adr, fun h0 => Nat.lt_of_lt_of_le (h.blk h0) hb.size,
    fun j hj => (hb.cell (p := ⟨g, j * 3, none⟩) (h.blk (by omega))).trans (h.c0 j hj),
    fun j hj => (hb.cell (p := ⟨g, j * 3 + 1, none⟩) (h.blk (by omega))).trans (h.c1 j hj),
    fun j hj => (hb.cell (p := ⟨g, j * 3 + 2, none⟩) (h.blk (by omega))).trans (h.c2 j hj)⟩
theorem scCells_succ (n : Nat) (X : Nat → Int) : scCells (n + 1) X = scCells n X ++ [.int .i32 (X n), .int .i64 n, .int .i64 1] := by
  unfold scCells
  rw [List.range_succ, List.flatMap_append]
  simp
theorem scCells_len : ∀ (n : Nat) (X : Nat → Int), (scCells n X).length = n * 3
  | 0, _ => rfl
  | n + 1, X => by
    rw [scCells_succ, List.length_append, scCells_len n X]
    simp
    omega
theorem scCells_at : ∀ (n : Nat) (X : Nat → Int) (j : Nat), j < n → (scCells n X)[j * 3]? = some (.int .i32 (X j)) ∧ (scCells n X)[j * 3 + 1]? = some (.int .i64 j) ∧ (scCells n X)[j * 3 + 2]? = some (.int .i64 1)
  | 0, _, _, h => by omega
  | n + 1, X, j, h => by
    rw [scCells_succ]
    have hl := scCells_len n X
    by_cases e : j = n
    · subst e
      rw [List.getElem?_append_right (by omega), List.getElem?_append_right (by omega), List.getElem?_append_right (by omega), hl]
      have e0 : j * 3 - j * 3 = 0 := by omega
      have e1 : j * 3 + 1 - j * 3 = 1 := by omega
      have e2 : j * 3 + 2 - j * 3 = 2 := by omega
      rw [e0, e1, e2]
      exact ⟨rfl, rfl, rfl⟩
    · have := scCells_at n X j (by omega)
      rw [List.getElem?_append_left (by omega), List.getElem?_append_left (by omega), List.getElem?_append_left (by omega)]
      exact this
theorem row_signs {w : World} {base : Nat} {v : Value} {n : Nat} {X : Nat → Int} (h : w.ownsRow base 38 3 v n (scCells n X)) : ∃ (a : Option Addr) (g cap : Nat), v = .slice a n cap ∧ SeesS w n X a g cap := by
  obtain ⟨a, g, cap, rfl, h1, h2, h3, h4, h5⟩ := row_view h
  refine ⟨a, g, cap, rfl, h1, h2, h3, fun j hj => ?_, fun j hj => ?_, fun j hj => ?_⟩
  · rw [h5 _ (by omega)]; exact (scCells_at n X j hj).1
  · rw [h5 _ (by omega)]; exact (scCells_at n X j hj).2.1
  · rw [h5 _ (by omega)]; exact (scCells_at n X j hj).2.2
/-- n numbers, the first k told. -/
def mixI (n k : Nat) (f : Nat → Int) : List Value := (List.range n).map fun j : Nat => .int .i64 (if j < k then f j else 0)
theorem mixI_at {n k : Nat} {f : Nat → Int} {j : Nat} (h : j < n) : (mixI n k f)[j]? = some (.int .i64 (if j < k then f j else 0)) := by
  unfold mixI
  rw [List.getElem?_map, List.getElem?_range h]
  rfl
theorem mixI_len (n k : Nat) (f : Nat → Int) : (mixI n k f).length = n := by simp [mixI]
theorem mixI_step {n k : Nat} (f : Nat → Int) (h : k < n) : (mixI n k f).set k (.int .i64 (f k)) = mixI n (k + 1) f := by
  apply List.ext_getElem?
  intro i
  rw [List.getElem?_set]
  by_cases e : k = i
  · subst e
    rw [if_pos rfl, if_pos (by rw [mixI_len]; exact h), mixI_at h, if_pos (by omega)]
  · rw [if_neg e]
    by_cases hi : i < n
    · rw [mixI_at hi, mixI_at hi]
      by_cases hk : i < k
      · rw [if_pos hk, if_pos (by omega)]
      · rw [if_neg hk, if_neg (by omega)]
    · rw [List.getElem?_eq_none (by rw [mixI_len]; omega), List.getElem?_eq_none (by rw [mixI_len]; omega)]
theorem made_zero (n : Nat) (f : Nat → Int) : (madeCells (Value.int .i64 0).cells (n * 1)).toList = mixI n 0 f := by
  rw [Nat.mul_one]
  apply List.ext_getElem?
  intro j
  by_cases hj : j < n
  · rw [mixI_at hj, if_neg (by omega)]
    unfold madeCells
    rw [Array.getElem?_toList, Array.getElem?_map, Array.getElem?_range, if_pos hj]
    show some ((Value.int .i64 0).cells[j % (Value.int .i64 0).cells.size]!) = _
    have e : (Value.int .i64 0).cells.size = 1 := rfl
    rw [e, Nat.mod_one]
    rfl
  · rw [List.getElem?_eq_none (by rw [Array.length_toList, size_madeCells]; omega), List.getElem?_eq_none (by rw [mixI_len]; omega)]
theorem own_cell {w : World} {base g n k : Nat} {f : Nat → Int} (h : w.ownsRow base 3 1 (.slice (some ⟨g, 0, none⟩) n n) n (mixI n k f)) {j : Nat} (hj : j < n) : w.cell? ⟨g, j, none⟩ = some (.int .i64 (if j < k then f j else 0)) := by
  obtain ⟨g', cap, hv, _, _, _, h4⟩ := row_form h (by omega)
  injection hv with h1 h2 h3
  injection h1 with h1
  injection h1 with h1
  subst h1
  rw [h4 j (by omega)]
  exact mixI_at hj

set_option maxRecDepth 100000 in
set_option maxHeartbeats 2000000 in
theorem each_any (tv : Value) (F : Int → Int) (n : Nat) (X : Nat → Int) (a : Option Addr) (g cap : Nat) (w : World) (hS : SeesS w n X a g cap) (hn : n ≤ 1000) (hX : ∀ j, -2147483648 ≤ X j ∧ X j ≤ 2147483647)
    (hO : ∀ w', Below w.heap.size w w' → ∀ r, -2147483648 ≤ r → r ≤ 2147483647 → Calls Try.prog 14 #[tv, .int .i32 r] w' fun e w'' => e = .returned (.int .i64 (F r)) ∧ w'' = w') :
    Calls Try.prog 16 #[tv, .slice a n cap] w fun e w' => ∃ v, e = .returned v ∧ w'.ownsRow w.heap.size 3 1 v n (mixI n n fun j => F (X j)) ∧ Below w.heap.size w w' := by
  obtain ⟨i0, hi, hz0, hz1, hz2⟩ := info_parts info3
  have hOH : Hid (∀ w', Below w.heap.size w w' → ∀ r, -2147483648 ≤ r → r ≤ 2147483647 → Calls Try.prog 14 #[tv, .int .i32 r] w' fun e w'' => e = .returned (.int .i64 (F r)) ∧ w'' = w') := hO
  have hXH : Hid (∀ j, -2147483648 ≤ X j ∧ X j ≤ 2147483647) := hX
  clear hO hX
  go_enter Try.func16, Try.ntmps16
  go_wp2_with (at_make; refine wpList_make_full _ rfl _ _ 39 rfl w.heap.size 3 i0 (.int .i64 0) 1 Try.underlying39 hi hz0 hz1 .i64 .i64 _ _ n rfl rfl rfl rfl (by rw [hz2]; omega) (by unfold maxLen; omega) (Nat.le_refl _) ?_; intro w1 hown1 hg1)
  rw [made_zero n (fun j => F (X j))] at hown1
  have hb1 : Below w.heap.size w w1 := (Below.refl _ _).grown hg1 (Nat.le_refl _) (fun k hk => by cases hk)
  have hs1 : w.heap.size + 1 ≤ w1.heap.size := by
    obtain ⟨_, ⟨hv, _⟩ | ⟨g', cap', cur, hv, _, hh, _⟩⟩ := hown1
    · cases hv
    · injection hv with h1
      injection h1 with h1
      injection h1 with h1
      subst h1
      exact (Array.getElem?_eq_some_iff.1 hh).1
  go_loopw [13] (fun i wr => ∃ (k : Nat), k ≤ n ∧ i = .int .i64 k ∧ wr.ownsRow w.heap.size 3 1 (.slice (some ⟨w.heap.size, 0, none⟩) n n) n (mixI n k fun j => F (X j)) ∧ w.heap.size + 1 ≤ wr.heap.size ∧ Below w.heap.size w wr) (fun i _ => n - (intOf i).toNat)
  case atStart => exact ⟨0, Nat.zero_le _, rfl, hown1, hs1, hb1⟩
  case round =>
    obtain ⟨k, hk, rfl, hown, hsz, hbel⟩ := hrel
    by_cases hlt : k < n
    · have hltI : (k : Int) < (n : Int) := by omega
      obtain rfl := hS.adr (by omega)
      have hS' := hS.kept hbel
      have d0 := hS'.c0 k hlt
      have d1 := hS'.c1 k hlt
      have d2 := hS'.c2 k hlt
      obtain ⟨x, hx⟩ : ∃ x, x = X k := ⟨_, rfl⟩
      have hXk := hXH.out k
      rw [← hx] at d0 hXk
      have HX : Hid (x = X k) := hx
      have hoH : Hid (wr.ownsRow w.heap.size 3 1 (.slice (some ⟨w.heap.size, 0, none⟩) n n) n (mixI n k fun j => F (X j))) := hown
      have hbH : Hid (Below w.heap.size w wr) := hbel
      have hcl := hOH.out (wr.alloc (.cells #[.int .i32 x, .int .i64 k, .int .i64 1] 38)) (hbel.alloc (by omega) _) x hXk.1 hXk.2
      clear hx hXk hown hbel hS' hown1 hg1 hb1 hs1
      go_wp2_with fail
      refine hcl.mono ?_
      rintro e w3 ⟨rfl, rfl⟩
      have ho3 := hoH.out.alloc (.cells #[.int .i32 x, .int .i64 k, .int .i64 1] 38)
      have e3 := own_cell ho3 hlt
      rw [if_neg (by omega)] at e3
      have e4 := ho3.frozenAt k
      have hst := (ho3.stored k (.int .i64 (F x))).1
      rw [HX.out, mixI_step _ hlt, ← HX.out] at hst
      have hstH : Hid (((wr.alloc (.cells #[.int .i32 x, .int .i64 k, .int .i64 1] 38)).setCell ⟨w.heap.size, k, none⟩ (.int .i64 (F x))).ownsRow w.heap.size 3 1 (.slice (some ⟨w.heap.size, 0, none⟩) n n) n (mixI n (k + 1) fun j => F (X j))) := hst
      clear hst ho3 hcl
      go_wp2
      go_roundw
      case rel => exact ⟨k + 1, by omega, by go_num, hstH.out, by simp [World.setCell]; omega, (hbH.out.alloc (by omega) _).setCell (by show w.heap.size ≤ w.heap.size; omega) _⟩
      case measure => simp [intOf]; omega
    · have hkn : k = n := by omega
      subst hkn
      have hoH : Hid (wr.ownsRow w.heap.size 3 1 (.slice (some ⟨w.heap.size, 0, none⟩) k k) k (mixI k k fun j => F (X j))) := hown
      have hbH : Hid (Below w.heap.size w wr) := hbel
      clear hown hbel hown1 hg1 hb1 hs1
      go_wp2
      go_ret
      exact ⟨_, rfl, hoH.out, hbH.out⟩

set_option maxRecDepth 100000 in
set_option maxHeartbeats 2000000 in
theorem refEach_any (L : List Rg) (la : Option Addr) (lb loff lcap : Nat) (n : Nat) (X : Nat → Int) (a : Option Addr) (g cap : Nat) (w : World) (hL : Sees w L la lb loff lcap) (hl : L.length ≤ 1000000) (hS : SeesS w n X a g cap) (hn : n ≤ 1000) :
    Calls Try.prog 18 #[.slice la L.length lcap, .slice a n cap] w fun e w' => ∃ v, e = .returned v ∧ w'.ownsRow w.heap.size 3 1 v n (mixI n n fun j => Pr.of L (X j)) ∧ Below w.heap.size w w' := by
  obtain ⟨i0, hi, hz0, hz1, hz2⟩ := info_parts info3
  obtain ⟨m, hm'⟩ : ∃ m, m = L.length := ⟨_, rfl⟩
  have HM : Hid (m = L.length) := hm'
  rw [← hm']
  have hlH : Hid (L.length ≤ 1000000) := hl
  clear hm' hl
  go_enter Try.func18, Try.ntmps18
  go_wp2_with (at_make; refine wpList_make_full _ rfl _ _ 39 rfl w.heap.size 3 i0 (.int .i64 0) 1 Try.underlying39 hi hz0 hz1 .i64 .i64 _ _ n rfl rfl rfl rfl (by rw [hz2]; omega) (by unfold maxLen; omega) (Nat.le_refl _) ?_; intro w1 hown1 hg1)
  rw [made_zero n (fun j => Pr.of L (X j))] at hown1
  have hb1 : Below w.heap.size w w1 := (Below.refl _ _).grown hg1 (Nat.le_refl _) (fun k hk => by cases hk)
  have hs1 : w.heap.size + 1 ≤ w1.heap.size := by
    obtain ⟨_, ⟨hv, _⟩ | ⟨g', cap', cur, hv, _, hh, _⟩⟩ := hown1
    · cases hv
    · injection hv with h1
      injection h1 with h1
      injection h1 with h1
      subst h1
      exact (Array.getElem?_eq_some_iff.1 hh).1
  go_loopw [6] (fun i wr => ∃ (k : Nat), k ≤ n ∧ i = .int .i64 k ∧ wr.ownsRow w.heap.size 3 1 (.slice (some ⟨w.heap.size, 0, none⟩) n n) n (mixI n k fun j => Pr.of L (X j)) ∧ w.heap.size + 1 ≤ wr.heap.size ∧ Below w.heap.size w wr) (fun i _ => n - (intOf i).toNat)
  case atStart => exact ⟨0, Nat.zero_le _, rfl, hown1, hs1, hb1⟩
  case round =>
    obtain ⟨k, hk, rfl, hown, hsz, hbel⟩ := hrel
    by_cases hlt : k < n
    · have hltI : (k : Int) < (n : Int) := by omega
      obtain rfl := hS.adr (by omega)
      have hS' := hS.kept hbel
      have d0 := hS'.c0 k hlt
      obtain ⟨x, hx⟩ : ∃ x, x = X k := ⟨_, rfl⟩
      rw [← hx] at d0
      have HX : Hid (x = X k) := hx
      have hoH : Hid (wr.ownsRow w.heap.size 3 1 (.slice (some ⟨w.heap.size, 0, none⟩) n n) n (mixI n k fun j => Pr.of L (X j))) := hown
      have hbH : Hid (Below w.heap.size w wr) := hbel
      have hcl := refOf_any L x la lb loff lcap wr (hL.kept hbel) hlH.out
      rw [← HM.out] at hcl
      clear hx hown hbel hS' hown1 hg1 hb1 hs1
      go_wp2_with fail
      refine hcl.mono ?_
      rintro e w3 ⟨rfl, hb3⟩
      have ho3 := ownsRow_below hoH.out hb3
      have e3 := own_cell ho3 hlt
      rw [if_neg (by omega)] at e3
      have e4 := ho3.frozenAt k
      have hs3 := hb3.size
      have hst := (ho3.stored k (.int .i64 (Pr.of L x))).1
      rw [HX.out, mixI_step _ hlt, ← HX.out] at hst
      have hstH : Hid ((w3.setCell ⟨w.heap.size, k, none⟩ (.int .i64 (Pr.of L x))).ownsRow w.heap.size 3 1 (.slice (some ⟨w.heap.size, 0, none⟩) n n) n (mixI n (k + 1) fun j => Pr.of L (X j))) := hst
      have hB3 : Hid (Below w.heap.size w w3) := hbH.out.trans (hb3.mono (by omega))
      clear hst ho3 hcl hb3
      go_wp2
      go_roundw
      case rel => exact ⟨k + 1, by omega, by go_num, hstH.out, by simp [World.setCell]; omega, hB3.out.setCell (by show w.heap.size ≤ w.heap.size; omega) _⟩
      case measure => simp [intOf]; omega
    · have hkn : k = n := by omega
      subst hkn
      have hoH : Hid (wr.ownsRow w.heap.size 3 1 (.slice (some ⟨w.heap.size, 0, none⟩) k k) k (mixI k k fun j => Pr.of L (X j))) := hown
      have hbH : Hid (Below w.heap.size w wr) := hbel
      clear hown hbel hown1 hg1 hb1 hs1
      go_wp2
      go_ret
      exact ⟨_, rfl, hoH.out, hbH.out⟩

set_option maxRecDepth 100000 in
set_option maxHeartbeats 2000000 in
theorem same_any (n : Nat) (f : Nat → Int) (a1 a2 : Option Addr) (g1 g2 c1 c2 : Nat) (w : World) (h1 : 0 < n → a1 = some ⟨g1, 0, none⟩) (h2 : 0 < n → a2 = some ⟨g2, 0, none⟩) (hn : n ≤ 1000)
    (hc1 : ∀ j, j < n → w.cell? ⟨g1, j, none⟩ = some (.int .i64 (f j))) (hc2 : ∀ j, j < n → w.cell? ⟨g2, j, none⟩ = some (.int .i64 (f j))) :
    Calls Try.prog 17 #[.slice a1 n c1, .slice a2 n c2] w fun e w' => e = .returned (.bool true) ∧ Below w.heap.size w w' := by
  have hc1H : Hid (∀ j, j < n → w.cell? ⟨g1, j, none⟩ = some (.int .i64 (f j))) := hc1
  have hc2H : Hid (∀ j, j < n → w.cell? ⟨g2, j, none⟩ = some (.int .i64 (f j))) := hc2
  clear hc1 hc2
  go_enter Try.func17, Try.ntmps17
  go_wp2
  go_loopw [5] (fun i wr => ∃ k : Nat, k ≤ n ∧ i = .int .i64 k ∧ Below w.heap.size w wr ∧ Hid (∀ p, wr.cell? p = w.cell? p)) (fun i _ => n - (intOf i).toNat)
  case atStart => exact ⟨0, by omega, rfl, Below.refl _ _, fun _ => rfl⟩
  case round =>
    obtain ⟨k, hk, rfl, hbel, hcw⟩ := hrel
    by_cases hlt : k < n
    · obtain rfl := h1 (by omega)
      obtain rfl := h2 (by omega)
      have d0 : wr.cell? ⟨g1, k, none⟩ = some (.int .i64 (f k)) := (hcw.out _).trans (hc1H.out k hlt)
      have d1 : wr.cell? ⟨g2, k, none⟩ = some (.int .i64 (f k)) := (hcw.out _).trans (hc2H.out k hlt)
      have hltI : (k : Int) < (n : Int) := by omega
      have hBH : Hid (Below w.heap.size w wr) := hbel
      clear hbel
      go_wp2_with fail
      go_quiet (fail)
      clear d0 d1
      go_wp2
      go_roundw
      case rel => exact ⟨k + 1, by omega, by go_num, below_drewN hBH.out _, fun p => hcw.out p⟩
      case measure => simp [intOf]; omega
    · have hBH : Hid (Below w.heap.size w wr) := hbel
      clear hbel
      go_wp2
      go_ret
      exact ⟨rfl, hBH.out⟩
theorem ints_row {w : World} {base : Nat} {v : Value} {n : Nat} {f : Nat → Int} (h : w.ownsRow base 3 1 v n (mixI n n f)) : ∃ (a : Option Addr) (g cap : Nat), v = .slice a n cap ∧ (0 < n → a = some ⟨g, 0, none⟩) ∧ ∀ j, j < n → w.cell? ⟨g, j, none⟩ = some (.int .i64 (f j)) := by
  obtain ⟨a, g, cap, rfl, h1, h2, h3, h4, h5⟩ := row_view h
  refine ⟨a, g, cap, rfl, h2, fun j hj => ?_⟩
  rw [h5 j (by omega), mixI_at hj, if_pos hj]
theorem ints_view {H : Type} {enc : TypeId × Value → H} {W : World} {a : Option Addr} {len cap : Nat} {d : DataW H} {p : List MemPlace}
    (h : DataW.Trod enc Try.prog W 0 (fun _ => true) true 34 (Value.slice a len cap) d p) :
    ∃ (R : Nat → Int) (b off : Nat), len ≤ cap ∧ cap ≤ maxLen ∧ (0 < len → a = some ⟨b, off, none⟩) ∧ (0 < len → b < W.heap.size) ∧ (∀ j, -2147483648 ≤ R j ∧ R j ≤ 2147483647) ∧ ∀ j, j < len → W.cell? ⟨b, off + j, none⟩ = some (.int .i32 (R j)) := by
  obtain ⟨fuel, hf⟩ := h
  rcases open_ints Try.underlying34 Try.underlying21 (by kernel_rfl) hf with ⟨hcs, _⟩ | ⟨y, l, c, zs, hcs, _, hl, hm, hz, _, hcell, hwz⟩
  · simp [Value.cells] at hcs
    obtain ⟨rfl, rfl, rfl⟩ := hcs
    exact ⟨fun _ => 0, 0, 0, by omega, by simp [maxLen], fun h => by omega, fun h => by omega, fun _ => ⟨show (-2147483648 : Int) ≤ 0 by decide, show (0 : Int) ≤ 2147483647 by decide⟩, fun j hj => by omega⟩
  · simp [Value.cells] at hcs
    obtain ⟨rfl, rfl, rfl⟩ := hcs
    have hz' : zs.length = cap := by simpa using hz
    have hb : ∀ j : Nat, -2147483648 ≤ zs[j]?.getD 0 ∧ zs[j]?.getD 0 ≤ 2147483647 := fun j => by
      cases hj : zs[j]? with
      | none => simp
      | some v => exact wf_i32 (hwz v (List.mem_of_getElem? hj))
    by_cases h0 : 0 < len
    · obtain ⟨b, off, rfl, hcc⟩ := ints_at hcell (by omega)
      refine ⟨fun j => zs[j]?.getD 0, b, off, hl, hm, fun _ => rfl, fun _ => World.block_lt_of_cell? W ⟨b, off + 0, none⟩ (hcc 0 (by omega)), fun j => hb j, fun j hj => ?_⟩
      rw [hcc j (by omega), List.getD_eq_getElem?_getD]
    · exact ⟨fun _ => 0, 0, 0, hl, hm, fun h => absurd h h0, fun h => absurd h h0, fun _ => ⟨show (-2147483648 : Int) ≤ 0 by decide, show (0 : Int) ≤ 2147483647 by decide⟩, fun j hj => by omega⟩
end Go.Proofs.Ytagkdboobfkmmaa
