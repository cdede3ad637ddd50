/-
  What the laws' own Right returns: a new list of at most 200 ranges that are a table's; nothing that was there turns.
-/
import Derived.Test.YtlcpfheocenjfaaLists
namespace Go.Proofs.Ytlcpfheocenjfaa
open Go.RowKit Go.Maps
set_option linter.unusedVariables false
set_option linter.unusedSimpArgs false

/-- the last number of the last range; -1: none. -/
def lastHi : Int → List Rg → Int
  | a, [] => a
  | _, x :: L => lastHi x.hi L
theorem lastHi_snoc : ∀ (L : List Rg) (a : Int) (x : Rg), lastHi a (L ++ [x]) = x.hi
  | [], _, _ => rfl
  | y :: L, _, x => lastHi_snoc L y.hi x
theorem ok_snoc {most : Int} : ∀ {L : List Rg} {a : Int} {x : Rg}, Pr.okFrom most a L = true → Pr.fits most (lastHi a L) x → Pr.okFrom most a (L ++ [x]) = true
  | [], a, x, _, h => Pr.ok_cons.2 ⟨h, rfl⟩
  | y :: L, a, x, h, hx => by
    obtain ⟨h1, h2⟩ := Pr.ok_cons.1 h
    exact Pr.ok_cons.2 ⟨h1, ok_snoc h2 hx⟩

theorem one_news (wr : World) (A Z t : Int) : ∀ j u, [Value.int .i32 A, Value.int .i32 Z, Value.int .i64 t][j]? = some u → (wr.alloc (.cells #[.int .i32 A, .int .i32 Z, .int .i64 t] 45)).cell? ((⟨wr.heap.size, 0, none⟩ : Addr).add j) = some u := by
  intro j u hj
  rw [Addr.add_mid, Nat.zero_add, cell_of_row _ _ _ _ _ _ (heap_alloc_new _ _)]
  simpa using hj
theorem one_cells (A Z t : Int) : ∀ u ∈ [Value.int .i32 A, Value.int .i32 Z, Value.int .i64 t], u.oneCell' = true := by
  intro u hu
  simp at hu
  rcases hu with rfl | rfl | rfl <;> rfl
theorem to_range (x : Int) {most : Int} (h0 : 1 ≤ most) (h1 : most ≤ 256) : 0 ≤ wrap64 ((IntKind.u64.wrap x).tmod most) ∧ wrap64 ((IntKind.u64.wrap x).tmod most) < most := by
  rw [IntKind.wrap_u64]
  have e0 : 0 ≤ x % 18446744073709551616 := Int.emod_nonneg _ (by omega)
  rw [Int.tmod_eq_emod_of_nonneg e0]
  have e1 := Int.emod_nonneg (x % 18446744073709551616) (b := most) (by omega)
  have e2 := Int.emod_lt_of_pos (x % 18446744073709551616) (b := most) (by omega)
  have e3 : wrap64 (x % 18446744073709551616 % most) = x % 18446744073709551616 % most := by
    generalize x % 18446744073709551616 % most = y at e1 e2 ⊢
    unfold wrap64
    omega
  rw [e3]
  exact ⟨e1, e2⟩

set_option maxRecDepth 100000 in
set_option maxHeartbeats 4000000 in
theorem right_any (L : List Rg) (most : Int) (a : Option Addr) (b off cap : Nat) (w : World) (hS : Sees w L a b off cap) (hF : Fit L) (hm0 : 1 ≤ most) (hm1 : most ≤ 256) :
    Calls Try.prog 14 #[.slice a L.length cap, .int .i64 most] w fun e w' => ∃ (M : List Rg) (v : Value), e = .returned v ∧ w'.ownsRow w.heap.size 45 3 v M.length (rgCells M) ∧ M.length ≤ 200 ∧ Pr.okFrom most (-1) M = true ∧ Below w.heap.size w w' := by
  obtain ⟨i0, hi, hz0, hz1, hz2⟩ := info_parts info33
  obtain ⟨n, hn'⟩ : ∃ n, n = L.length := ⟨_, rfl⟩
  have HN : Hid (n = L.length) := hn'
  rw [← hn']
  clear hn'
  have HF : Hid (Fit L) := hF
  clear hF
  go_enter Try.func14, Try.ntmps14
  go_wp2_with fail
  go_loopw [5, 6, 7] (fun v l i wr => ∃ (k : Nat) (M : List Rg) (vv : Value) (la : Int), vv = v ∧ k ≤ n ∧ k ≤ 200 ∧ i = .int .i64 k ∧ l = .int .i64 la ∧ Hid (la = lastHi (-1) M) ∧ -1 ≤ la ∧ la ≤ 1114111 ∧ wr.ownsRow w.heap.size 45 3 v M.length (rgCells M) ∧ M.length ≤ k ∧ Hid (Pr.okFrom most (-1) M = true) ∧ Below w.heap.size w wr) (fun _ _ i _ => 200 - (intOf i).toNat)
  case atStart => exact ⟨0, [], _, -1, rfl, Nat.zero_le _, Nat.zero_le _, rfl, rfl, rfl, by omega, by omega, World.ownsRow_nil _ _ _ _, Nat.le_refl _, rfl, Below.refl _ _⟩
  case round =>
    obtain ⟨k, M, v, la, rfl, hk, hk2, rfl, rfl, hla, hla0, hla1, hown, hMk, hok, hbel⟩ := hrel
    by_cases hlt : k < n ∧ k < 200
    · obtain ⟨hlt1, hlt2⟩ := hlt
      have t1 : (k : Int) < (n : Int) := by omega
      have t2 : (k : Int) < 200 := by omega
      obtain rfl := hS.adr (by rw [← HN.out]; omega)
      obtain ⟨x, hx⟩ : ∃ x, L[k]? = some x := ⟨L[k]'(by rw [← HN.out]; omega), List.getElem?_eq_getElem _⟩
      have hS' := hS.kept hbel
      have d0 := hS'.c0 k x hx
      have d1 := hS'.c1 k x hx
      have d2 := hS'.c2 k x hx
      have hfx := HF.out x (List.mem_of_getElem? hx)
      obtain ⟨xlo, xhi, xto⟩ := x
      simp only at d0 d1 d2 hfx
      have hsz := hbel.size
      have hOH : Hid (wr.ownsRow w.heap.size 45 3 v M.length (rgCells M)) := hown
      have hBH : Hid (Below w.heap.size w wr) := hbel
      obtain ⟨f0, f1, f2, f3, f4, f5⟩ := hfx
      clear hx hS' hown hbel
      obtain ⟨A, hA⟩ : ∃ A, A = la + 1 + xlo % 4294967296 % 3000 := ⟨_, rfl⟩
      obtain ⟨Z, hZ⟩ : ∃ Z, Z = la + 1 + xlo % 4294967296 % 3000 + xhi % 4294967296 % 600 := ⟨_, rfl⟩
      have hto := to_range xto hm0 hm1
      have HT : Hid (0 ≤ wrap64 ((IntKind.u64.wrap xto).tmod most) ∧ wrap64 ((IntKind.u64.wrap xto).tmod most) < most) := hto
      have HA : Hid (A = la + 1 + xlo % 4294967296 % 3000) := hA
      have HZ : Hid (Z = la + 1 + xlo % 4294967296 % 3000 + xhi % 4294967296 % 600) := hZ
      have hZA : Hid (la < A ∧ A ≤ Z) := (by omega : la < A ∧ A ≤ Z)
      clear hA hZ hto
      by_cases hend : 1114111 < la + 1 + xlo % 4294967296 % 3000 + xhi % 4294967296 % 600
      · have t3 : decide (1114111 < la + 1 + xlo % 4294967296 % 3000 + xhi % 4294967296 % 600) = true := decide_eq_true hend
        go_wp2
        go_ret
        exact ⟨M, v, rfl, hOH.out, by omega, hok.out, hBH.out⟩
      · have t3 : decide (1114111 < la + 1 + xlo % 4294967296 % 3000 + xhi % 4294967296 % 600) = false := decide_eq_false hend
        go_wp2_with (at_builtin; refine wpList_append_own _ rfl _ _ 23 rfl w.heap.size 45 i0 (.agg #[.int .i32 0, .int .i32 0, .int .i64 0]) 3 16 Try.underlying23 hi hz0 hz1 hz2 rfl (by decide) _ _ _ rfl (hOH.out.alloc _) ⟨wr.heap.size, 0, none⟩ 1 1 [.int .i32 (la + 1 + xlo % 4294967296 % 3000), .int .i32 (la + 1 + xlo % 4294967296 % 3000 + xhi % 4294967296 % 600), .int .i64 (wrap64 ((IntKind.u64.wrap xto).tmod most))] rfl rfl (one_news _ _ _ _) (one_cells _ _ _) (by unfold maxLen; omega) (by omega) (by simp; omega) ?_; intro v' w2 hown2 hg _)
        have hB2 : Hid (Below w.heap.size w w2) := (hBH.out.alloc hsz _).grown hg (by simp; omega) (fun g e => (hOH.out.lt g e).1)
        have hO2 : Hid (w2.ownsRow w.heap.size 45 3 v' (M ++ [Rg.mk A Z (wrap64 ((IntKind.u64.wrap xto).tmod most))]).length (rgCells (M ++ [Rg.mk A Z (wrap64 ((IntKind.u64.wrap xto).tmod most))]))) := (by rw [rgCells_append, List.length_append, HA.out, HZ.out]; exact hown2 : w2.ownsRow w.heap.size 45 3 v' (M ++ [Rg.mk A Z (wrap64 ((IntKind.u64.wrap xto).tmod most))]).length (rgCells (M ++ [Rg.mk A Z (wrap64 ((IntKind.u64.wrap xto).tmod most))])))
        have hZ1 : Hid (Z ≤ 1114111) := (by have := HZ.out; omega : Z ≤ 1114111)
        have hok2 : Hid (Pr.okFrom most (-1) (M ++ [Rg.mk A Z (wrap64 ((IntKind.u64.wrap xto).tmod most))]) = true) := ok_snoc hok.out ⟨by rw [← hla.out]; exact hZA.out.1, hZA.out.2, hZ1.out, HT.out.1, HT.out.2, by have := HT.out.2; show wrap64 ((IntKind.u64.wrap xto).tmod most) ≤ 255; omega⟩
        clear hown2 hg hend d0 d1 d2
        go_wp2
        go_roundw
        case rel => exact ⟨k + 1, M ++ [Rg.mk A Z (wrap64 ((IntKind.u64.wrap xto).tmod most))], v', Z, rfl, by omega, by omega, by go_num, by rw [HZ.out], (lastHi_snoc M (-1) (Rg.mk A Z (wrap64 ((IntKind.u64.wrap xto).tmod most)))).symm, by have := hZA.out; omega, hZ1.out, hO2.out, by simp; omega, hok2.out, hB2.out⟩
        case measure => simp [intOf]; omega
    · have hOH : Hid (wr.ownsRow w.heap.size 45 3 v M.length (rgCells M)) := hown
      have hBH : Hid (Below w.heap.size w wr) := hbel
      clear hown hbel
      go_wp2
      all_goals
        first
          | (exfalso; omega)
          | (go_ret; exact ⟨M, v, rfl, hOH.out, by omega, hok.out, hBH.out⟩)
end Go.Proofs.Ytlcpfheocenjfaa
