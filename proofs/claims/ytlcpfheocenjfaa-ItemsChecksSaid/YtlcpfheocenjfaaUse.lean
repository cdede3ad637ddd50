/-
  What (*prop.Table).Of and Blocks return of a table of ranges; nothing in memory turns.
-/
import Derived.Test.YtlcpfheocenjfaaMake
namespace Go.Proofs.Ytlcpfheocenjfaa
open Go.RowKit Go.Maps
set_option linter.unusedVariables false
set_option linter.unusedSimpArgs false

theorem flat_at : ∀ {B : List (List Int)} {q j : Nat} {f : List Int}, (∀ g ∈ B, g.length = 256) → B[q]? = some f → j < 256 → (flat B)[q * 256 + j]? = some (.int .u8 (f.getD j 0))
  | [], q, j, f, _, h, _ => by simp at h
  | g :: B, q, j, f, hl, h, hj => by
    have hg := hl g (by simp)
    show (g.map (Value.int .u8) ++ flat B)[q * 256 + j]? = _
    cases q with
    | zero =>
      simp at h
      subst h
      rw [List.getElem?_append_left (by simp; omega)]
      simp [List.getElem?_eq_getElem (show j < g.length by omega)]
    | succ q =>
      rw [List.getElem?_append_right (by simp; omega)]
      have := flat_at (B := B) (q := q) (j := j) (f := f) (fun x hx => hl x (by simp [hx])) (by simpa using h) hj
      rw [← this]
      congr 1
      simp [hg]
      omega
theorem idx_at {f : List Int} {B : List (List Int)} (h : f ∈ B) : ∃ q : Nat, idx f B = (q : Int) + 1 ∧ B[q]? = some f := by
  refine ⟨B.idxOf f, by unfold idx; rw [if_pos h], ?_⟩
  rw [List.getElem?_eq_getElem (List.idxOf_lt_length_of_mem h)]
  simp
theorem row_view {w : World} {base e size n : Nat} {v : Value} {xs : List Value} (h : w.ownsRow base e size v n xs) :
    ∃ (a : Option Addr) (g cap : Nat), v = .slice a n cap ∧ n ≤ cap ∧ (0 < n → a = some ⟨g, 0, none⟩) ∧ (0 < n → g < w.heap.size) ∧ (0 < n → base ≤ g) ∧ ∀ j, j < n * size → w.cell? ⟨g, j, none⟩ = xs[j]? := by
  by_cases hn : 0 < n
  · obtain ⟨g, cap, hv, h1, h2, h3, h4⟩ := row_form h hn
    exact ⟨_, g, cap, hv, h3, fun _ => rfl, fun _ => h2, fun _ => h1, h4⟩
  · obtain rfl : n = 0 := by omega
    obtain ⟨hl, ⟨hv, _⟩ | ⟨g, cap, cur, hv, _⟩⟩ := h
    · exact ⟨none, 0, 0, hv, Nat.le_refl _, fun h => absurd h hn, fun h => absurd h hn, fun h => absurd h hn, fun j hj => by omega⟩
    · exact ⟨_, g, cap, hv, Nat.zero_le _, fun h => absurd h hn, fun h => absurd h hn, fun h => absurd h hn, fun j hj => by omega⟩
theorem Tab.kept {w w' : World} {base T : Nat} {L : List Rg} (h : Tab w base T L) (hb : Below w.heap.size w w') : Tab w' base T L := by
  obtain ⟨R, v, B, ht, hv, hi, hT⟩ := h
  refine ⟨R, v, B, ?_, ?_, hi, hT⟩
  · rw [hb.block T (Array.getElem?_eq_some_iff.1 ht).1]
    exact ht
  · obtain ⟨hl, h' | ⟨g, cap, cur, hv, hg, hh, h1⟩⟩ := hv
    · exact ⟨hl, Or.inl h'⟩
    · refine ⟨hl, Or.inr ⟨g, cap, cur, hv, hg, ?_, h1⟩⟩
      rw [hb.block g (Array.getElem?_eq_some_iff.1 hh).1]
      exact hh
/-- a number's row and its place in it. -/
theorem of_row {L : List Rg} {i j : Nat} (h : j < 256) : (Pr.blk L i).getD j 0 = Pr.of L (256 * i + j) := by
  rw [List.getD_eq_getElem?_getD, Pr.blk_at L i j h]
  rfl

set_option maxRecDepth 100000 in
set_option maxHeartbeats 2000000 in
theorem of_any (most : Int) (L : List Rg) (r : Int) (base T : Nat) (w : World) (hT : Tab w base T L) (hok : Pr.okFrom most (-1) L = true) (hr0 : -2147483648 ≤ r) (hr1 : r ≤ 2147483647) :
    Calls Try.prog 23 #[.pointer (some ⟨T, 0, none⟩), .int .i32 r] w fun e w' => e = .returned (.int .i64 (Pr.of L r)) ∧ w' = w := by
  by_cases h0 : r < 0
  · have t0 : decide (r < 0) = true := by simp; omega
    have HE : Hid (0 = Pr.of L r) := (Pr.of_ahead hok (by omega)).symm
    clear hT hok
    go_enter Try.func23, Try.ntmps23
    go_wp2
    go_ret
    exact ⟨ret_i64 HE.out, rfl⟩
  · have t0 : decide (r < 0) = false := by simp; omega
    by_cases h1 : 1114111 < r
    · have t1 : decide (1114111 < r) = true := by simp; omega
      have HE : Hid (0 = Pr.of L r) := (Pr.of_above hok (by omega)).symm
      clear hT hok
      go_enter Try.func23, Try.ntmps23
      go_wp2
      go_ret
      exact ⟨ret_i64 HE.out, rfl⟩
    · have t1 : decide (1114111 < r) = false := by simp; omega
      obtain ⟨i, j, hi, hj, hij⟩ : ∃ i j : Nat, i < 4352 ∧ j < 256 ∧ r = 256 * i + j := ⟨(r / 256).toNat, (r % 256).toNat, by omega, by omega, by omega⟩
      have e1 : r.tdiv 256 = (i : Int) := by rw [Int.tdiv_eq_ediv_of_nonneg (by omega)]; omega
      have e2 : r.tmod 256 = (j : Int) := by rw [Int.tmod_eq_emod_of_nonneg (by omega)]; omega
      obtain ⟨R, v, B, ht, hv, hinv, hb⟩ := hT
      have HI : Hid (r = 256 * i + j) := hij
      have hiI : (i : Int) < 4352 := by omega
      have hjI : (j : Int) < 256 := by omega
      have htH : Hid (w.heap[T]? = some (.cells (tC R v) 82 (0, 0))) := ht
      have c0 : w.cell? ⟨T, i, none⟩ = some (.int .u16 (num (Pr.blk L i) B)) := (cell_of_row _ _ _ _ _ _ ht).trans (tC_at (hinv.rows i hi))
      by_cases hz : Pr.blk L i = Pr.zeros
      · have en : num (Pr.blk L i) B = 0 := by unfold num; rw [if_pos hz]
        rw [en] at c0
        have HE : Hid (0 = Pr.of L r) := (by
          rw [hij, ← of_row hj, hz]
          unfold Pr.zeros
          simp [hj] : 0 = Pr.of L r)
        clear hok ht hinv hv hij hz en h0 h1
        go_enter Try.func23, Try.ntmps23
        go_wp2
        go_ret
        exact ⟨ret_i64 HE.out, rfl⟩
      · have hmem : Pr.blk L i ∈ B := (hinv.mem _).2 ⟨hz, i, hi, rfl⟩
        obtain ⟨q, hq, hBq⟩ := idx_at hmem
        have en : num (Pr.blk L i) B = (q : Int) + 1 := by unfold num; rw [if_neg hz, hq]
        rw [en] at c0
        have hql : q < B.length := (List.getElem?_eq_some_iff.1 hBq).1
        have hbl := hinv.bl
        obtain ⟨g, cap, rfl, hg1, hg2, hg3, hcell⟩ := row_form hv (by omega)
        have c1 : w.cell? ⟨T, 4352, none⟩ = some (.slice (some ⟨g, 0, none⟩) B.length cap) := (cell_of_row _ _ _ _ _ _ ht).trans (tC_last _ _ hinv.len)
        have hx := Pr.of_range (r := r) hok
        have c2 : w.cell? ⟨g, q * 256 + j, none⟩ = some (.int .u8 (Pr.of L r)) := by
          rw [hcell (q * 256 + j) (by omega), flat_at (fun x hx => by obtain ⟨_, i', _, rfl⟩ := (hinv.mem x).1 hx; exact Pr.blk_len L i') hBq hj, of_row hj, ← hij]
        have hx0 := hx.1
        have hx1 := hx.2
        have hqI : (q : Int) < (B.length : Int) := by omega
        have hqI2 : (q : Int) < 4352 := by omega
        obtain ⟨y, hy⟩ : ∃ y, y = Pr.of L r := ⟨_, rfl⟩
        have HY : Hid (y = Pr.of L r) := hy
        rw [← hy] at c2 hx0 hx1
        clear hok ht hinv hv hij hz en h0 h1 hy hx hcell hmem hq hBq
        go_enter Try.func23, Try.ntmps23
        go_wp2
        go_ret
        exact ⟨ret_i64 HY.out, rfl⟩

set_option maxRecDepth 100000 in
set_option maxHeartbeats 2000000 in
theorem of_nil (r : Int) (w : World) : Calls Try.prog 23 #[.pointer none, .int .i32 r] w fun e w' => e = .returned (.int .i64 0) ∧ w' = w := by
  go_enter Try.func23, Try.ntmps23
  go_wp2
  go_ret
  exact ⟨rfl, rfl⟩
end Go.Proofs.Ytlcpfheocenjfaa
