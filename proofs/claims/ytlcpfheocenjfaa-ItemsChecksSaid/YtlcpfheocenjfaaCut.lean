/-
  What prop.from and prop.cut return; nothing that was there turns.
-/
import Derived.Test.YtlcpfheocenjfaaMem
namespace Go.Proofs.Ytlcpfheocenjfaa
open Go.RowKit Go.Maps
set_option linter.unusedVariables false

theorem Sees.tail {w : World} {L : List Rg} {b off cap k m : Nat} (h : Sees w (L.drop k) (some ⟨b, off, none⟩) b off cap) (hm : (L.drop k).length = m) :
    Sees w (L.drop (k + 1)) (if cap = 1 then some ⟨b, off, none⟩ else some ⟨b, off + 3, none⟩) b (off + 3) (cap - 1) := by
  have hl : (L.drop (k + 1)).length = m - 1 := by rw [List.length_drop] at hm ⊢; omega
  have hc := h.cap
  have hg : ∀ j x, (L.drop (k + 1))[j]? = some x → (L.drop k)[j + 1]? = some x := fun j x hj => by
    rw [List.getElem?_drop] at hj ⊢
    rw [← hj]
    congr 1
    omega
  refine ⟨by omega, fun h0 => ?_, fun h0 => h.blk (by omega), fun j x hj => ?_, fun j x hj => ?_, fun j x hj => ?_⟩
  · rw [if_neg (by omega)]
  · rw [show off + 3 + j * 3 = off + (j + 1) * 3 by omega]; exact h.c0 _ _ (hg j x hj)
  · rw [show off + 3 + j * 3 = off + (j + 1) * 3 by omega]; exact h.c1 _ _ (hg j x hj)
  · rw [show off + 3 + j * 3 = off + (j + 1) * 3 by omega]; exact h.c2 _ _ (hg j x hj)
theorem take_next {L : List Rg} {k : Nat} {x : Rg} {lo : Int} (h : ∀ y ∈ L.take k, y.hi < lo) (hx : L[k]? = some x) (hl : x.hi < lo) : ∀ y ∈ L.take (k + 1), y.hi < lo := by
  intro y hy
  rw [List.take_add_one, hx] at hy
  rcases List.mem_append.1 hy with hy | hy
  · exact h y hy
  · simp at hy
    rw [hy]
    exact hl
theorem ret_sl {a : Option Addr} {m m' c : Nat} (h : m = m') : Ending.returned (.slice a m c) = .returned (.slice a m' c) := by rw [h]

set_option maxRecDepth 100000 in
set_option maxHeartbeats 2000000 in
theorem from_any (L : List Rg) (lo : Int) (a : Option Addr) (b off cap : Nat) (w : World) (hS : Sees w L a b off cap) (hn : L.length ≤ 1000000) :
    Calls Try.prog 36 #[.slice a L.length cap, .int .i32 lo] w fun e w' => ∃ k a' off' cap', e = .returned (.slice a' (L.drop k).length cap') ∧ Sees w' (L.drop k) a' b off' cap' ∧ (∀ x ∈ L.take k, x.hi < lo) ∧ (∀ x, L[k]? = some x → lo ≤ x.hi) ∧ w' = w := by
  obtain ⟨n, hn'⟩ : ∃ n, n = L.length := ⟨_, rfl⟩
  rw [← hn'] at hn ⊢
  have HN : Hid (n = L.length) := hn'
  clear hn'
  go_enter Try.func36, Try.ntmps36
  go_wp2_with fail
  go_loopw [0] (fun l wr => ∃ (k : Nat) (a' : Option Addr) (off' cap' m : Nat), k ≤ n ∧ m = n - k ∧ l = .slice a' m cap' ∧ Sees w (L.drop k) a' b off' cap' ∧ Hid (∀ x ∈ L.take k, x.hi < lo) ∧ wr = w) (fun l _ => (match l with | .slice _ m _ => m | _ => 0))
  case atStart => exact ⟨0, a, off, cap, n, Nat.zero_le _, rfl, rfl, hS, fun x hx => by simp at hx, rfl⟩
  case round =>
    obtain ⟨k, a', off', cap', m, hk, hm, rfl, hS', hdone, rfl⟩ := hrel
    have HM : Hid (m = n - k) := hm
    have HL : Hid ((L.drop k).length = m) := (by rw [List.length_drop, ← HN.out, hm] : (L.drop k).length = m)
    clear hm
    by_cases hlt : 0 < m
    · obtain rfl := hS'.adr (by rw [HL.out]; exact hlt)
      obtain ⟨x, hx⟩ : ∃ x, L[k]? = some x := ⟨L[k]'(by have := HM.out; have := HN.out; omega), List.getElem?_eq_getElem _⟩
      have hx' : (L.drop k)[0]? = some x := by rw [List.getElem?_drop]; simpa using hx
      have d1 := hS'.c1 0 x hx'
      simp only [Nat.zero_mul, Nat.add_zero] at d1
      have hcap := hS'.cap
      rw [HL.out] at hcap
      obtain ⟨xlo, xhi, xto⟩ := x
      simp only at d1
      have hX : Hid (L[k]? = some ⟨xlo, xhi, xto⟩) := hx
      clear hx hx'
      have hltI : (0 : Int) < (m : Int) := by omega
      by_cases ht : xhi < lo
      · have t1 : decide (xhi < lo) = true := by simp; omega
        have HT : Hid (xhi < lo) := ht
        clear ht
        go_wp2
        refine ⟨⟨k + 1, _, off' + 3, _, m - 1, by have := HM.out; omega, by have := HM.out; omega, rfl, hS'.tail HL.out, take_next hdone.out hX.out HT.out, trivial⟩, ?_⟩
        show m - 1 < m
        omega
      · have t1 : decide (xhi < lo) = false := by simp; omega
        go_wp2
        go_ret
        refine ⟨k, _, off', cap', ret_sl (by have := HM.out; have := HN.out; omega), hS', hdone.out, fun x hx => ?_, rfl⟩
        have hx2 := hX.out
        rw [hx] at hx2
        cases hx2
        exact ht
    · have hm0 : m = 0 := by omega
      subst hm0
      go_wp2
      go_ret
      refine ⟨k, _, off', cap', ret_sl HL.out.symm, hS', hdone.out, fun x hx => ?_, rfl⟩
      have hx2 := (List.getElem?_eq_some_iff.1 hx).1
      have := HM.out
      have := HN.out
      omega

/-- what 256 numbers from lo on are. -/
def fO (L : List Rg) (lo : Int) : List Int := (List.range 256).map fun j : Nat => Pr.of L (lo + j)
theorem fO_byt {most a : Int} {L : List Rg} (h : Pr.okFrom most a L = true) (lo : Int) : Byt (fO L lo) := by
  refine ⟨by simp [fO], fun x hx => ?_⟩
  unfold fO at hx
  simp only [List.mem_map] at hx
  obtain ⟨_, _, rfl⟩ := hx
  exact Pr.of_range h
theorem fO_nil (lo : Int) : fO [] lo = Pr.zeros := rfl

theorem heap_setRow (w : World) (g : Nat) (t : TypeId) (c c' : Array Value) (fr : Nat × Nat) (h : w.heap[g]? = some (.cells c t fr)) : (w.setRow g c').heap[g]? = some (.cells c' t fr) := by
  simp only [World.setRow, Array.getElem?_modify, h, if_true]
  rfl
theorem below_setRow {B : Nat} {a w : World} (h : Below B a w) {g : Nat} (hg : B ≤ g) (c : Array Value) : Below B a (w.setRow g c) :=
  h.trans ⟨rfl, rfl, rfl, by simp [World.setRow], fun k hk => by simp only [World.setRow, Array.getElem?_modify]; rw [if_neg (by omega)]⟩
theorem heap_setCell_row (w : World) (g j : Nat) (t : TypeId) (c : Array Value) (fr : Nat × Nat) (u : Value) (h : w.heap[g]? = some (.cells c t fr)) : (w.setCell ⟨g, j, none⟩ u).heap[g]? = some (.cells (c.setIfInBounds j u) t fr) := by
  simp only [World.setCell, Array.getElem?_modify, h, if_true]
  rfl
theorem bC_set (f : List Int) (j : Nat) (x : Int) : (bC f).setIfInBounds j (.int .u8 x) = bC (f.set j x) := by
  unfold bC
  simp [List.map_set]
theorem frozen_row (w : World) (g j : Nat) (c : Array Value) (t : TypeId) (h : w.heap[g]? = some (.cells c t (0, 0))) : w.frozen? ⟨g, j, none⟩ = false := by
  simp [World.frozen?, h]
theorem bC_at {f : List Int} {j : Nat} (h : f.length = 256) (hj : j < 256) : (bC f)[j]? = some (.int .u8 (f.getD j 0)) := by
  unfold bC
  simp [List.getElem?_map, List.getElem?_eq_getElem (show j < f.length by omega)]
/-- the numbers from a up to below R turned. -/
def mix (f : List Int) (lo a R to : Int) : List Int := (List.range 256).map fun j : Nat => if a ≤ lo + j ∧ lo + j < R then to else f.getD j 0
theorem mix_len (f : List Int) (lo a R to : Int) : (mix f lo a R to).length = 256 := by simp [mix]
theorem mix_at (f : List Int) (lo a R to : Int) {j : Nat} (hj : j < 256) : (mix f lo a R to)[j]? = some (if a ≤ lo + j ∧ lo + j < R then to else f.getD j 0) := by
  unfold mix
  rw [List.getElem?_map, List.getElem?_range hj]
  rfl
theorem mix_start {f : List Int} (h : f.length = 256) (lo a R to : Int) (hR : R ≤ a) : f = mix f lo a R to := by
  apply List.ext_getElem?
  intro j
  by_cases hj : j < 256
  · rw [mix_at _ _ _ _ _ hj, if_neg (by omega)]
    simp [List.getElem?_eq_getElem (show j < f.length by omega)]
  · rw [List.getElem?_eq_none (by omega), List.getElem?_eq_none (by rw [mix_len]; omega)]
theorem mix_step (f : List Int) (lo a to : Int) (j : Nat) (hj : j < 256) (ha : a ≤ lo + j) : (mix f lo a (lo + j) to).set j to = mix f lo a (lo + (j + 1 : Nat)) to := by
  apply List.ext_getElem?
  intro i
  rw [List.getElem?_set]
  by_cases e : j = i
  · subst e
    rw [if_pos rfl, if_pos (by rw [mix_len]; exact hj), mix_at _ _ _ _ _ hj, if_pos (by omega)]
  · rw [if_neg e]
    by_cases hi : i < 256
    · rw [mix_at _ _ _ _ _ hi, mix_at _ _ _ _ _ hi]
      by_cases hq : a ≤ lo + i ∧ lo + i < lo + j
      · rw [if_pos hq, if_pos (by omega)]
      · rw [if_neg hq, if_neg (by omega)]
    · rw [List.getElem?_eq_none (by rw [mix_len]; omega), List.getElem?_eq_none (by rw [mix_len]; omega)]
theorem mix_end {most ah : Int} {L : List Rg} {k : Nat} {x : Rg} {lo a R : Int} (hok : Pr.okFrom most ah L = true) (hx : L[k]? = some x) (ha1 : x.lo ≤ a) (ha2 : lo ≤ a) (ha3 : a = x.lo ∨ a = lo)
    (hR : R ≤ a ∨ R ≤ x.hi + 1) (hR2 : x.hi < R ∨ lo + 255 < R) : mix (fO (L.take k) lo) lo a R x.to = fO (L.take (k + 1)) lo := by
  unfold mix
  show _ = (List.range 256).map _
  apply List.map_congr_left
  intro j hj
  have hj' := List.mem_range.1 hj
  have hs : Pr.of (L.take (k + 1)) (lo + j) = if x.lo ≤ lo + j ∧ lo + j ≤ x.hi then x.to else Pr.of (L.take k) (lo + j) := by
    rw [List.take_add_one, hx]
    refine Pr.of_snoc (most := most) (a := ah) (M := L.drop (k + 1)) ?_
    rw [← drop_at hx, List.take_append_drop]
    exact hok
  have hg : (fO (L.take k) lo).getD j 0 = Pr.of (L.take k) (lo + j) := by
    unfold fO
    simp [List.getElem?_map, List.getElem?_range hj']
  rw [hs, hg]
  by_cases h : x.lo ≤ lo + j ∧ lo + j ≤ x.hi
  · rw [if_pos h, if_pos (by omega)]
  · rw [if_neg h, if_neg (by omega)]
theorem fO_stop {most ah : Int} {L : List Rg} {k : Nat} {x : Rg} {lo : Int} (hok : Pr.okFrom most ah L = true) (hx : L[k]? = some x) (h : lo + 255 < x.lo) : fO (L.take k) lo = fO L lo := by
  apply List.map_congr_left
  intro j hj
  have hj' := List.mem_range.1 hj
  have e : L = L.take k ++ x :: L.drop (k + 1) := by rw [← drop_at hx, List.take_append_drop]
  have := Pr.of_stop (most := most) (a := ah) (L := L.take k) (x := x) (M := L.drop (k + 1)) (r := lo + j) (by rw [← e]; exact hok) (by omega)
  rw [← e] at this
  exact this.symm
theorem ret_agg {f g : List Int} (h : f = g) : Ending.returned (.agg (bC f)) = .returned (.agg (bC g)) := by rw [h]

set_option maxRecDepth 100000 in
set_option maxHeartbeats 4000000 in
theorem cut_any (most ah : Int) (L : List Rg) (lo : Int) (a : Option Addr) (b off cap : Nat) (w : World) (hS : Sees w L a b off cap) (hn : L.length ≤ 1000000) (hok : Pr.okFrom most ah L = true) (hlo : 0 ≤ lo) (hlo2 : lo ≤ 1113856) :
    Calls Try.prog 37 #[.slice a L.length cap, .int .i32 lo] w fun e w' => e = .returned (.agg (bC (fO L lo))) ∧ Below w.heap.size w w' := by
  have hz58 := zero58
  obtain ⟨n, hn'⟩ : ∃ n, n = L.length := ⟨_, rfl⟩
  rw [← hn'] at hn ⊢
  have HN : Hid (n = L.length) := hn'
  have HO : Hid (Pr.okFrom most ah L = true) := hok
  clear hn' hok
  go_enter Try.func37, Try.ntmps37
  go_wp2_with fail
  go_loopw [15] (fun i wr => ∃ (k : Nat) (f : List Int), k ≤ n ∧ i = .int .i64 k ∧ Hid (f = fO (L.take k) lo) ∧ Hid (wr.heap[w.heap.size]? = some (.cells (bC Pr.zeros) 85 (0, 0))) ∧ Hid (wr.heap[w.heap.size + 1]? = some (.cells (bC f) 85 (0, 0))) ∧ w.heap.size + 2 ≤ wr.heap.size ∧ Below w.heap.size w wr) (fun i _ => n - (intOf i).toNat)
  case atStart => exact ⟨0, Pr.zeros, Nat.zero_le _, rfl, rfl, heap_alloc2_old _ _ _, heap_alloc2_new _ _ _, by simp, ((Below.refl _ _).alloc (Nat.le_refl _) _).alloc (by simp) _⟩
  case round =>
    obtain ⟨k, f, hk, rfl, hf, h0, h1, hsz, hbel⟩ := hrel
    have hlen : Hid (f.length = 256) := (by rw [hf.out]; simp [fO] : f.length = 256)
    by_cases hlt : k < n
    · obtain rfl := hS.adr (by rw [← HN.out]; omega)
      obtain ⟨x, hx⟩ : ∃ x, L[k]? = some x := ⟨L[k]'(by rw [← HN.out]; omega), List.getElem?_eq_getElem _⟩
      have hS' := hS.kept hbel
      have d0 := hS'.c0 k x hx
      have d1 := hS'.c1 k x hx
      have d2 := hS'.c2 k x hx
      obtain ⟨xlo, xhi, xto⟩ := x
      simp only at d0 d1 d2
      have hfit := Pr.ok_mem HO.out _ (List.mem_of_getElem? hx)
      have hto0 : 0 ≤ xto := hfit.2.2.2.1
      have hto1 : xto ≤ 255 := hfit.2.2.2.2.2
      have hhi1 : xhi ≤ 1114111 := hfit.2.2.1
      have hlohi : xlo ≤ xhi := hfit.2.1
      have hX : Hid (L[k]? = some ⟨xlo, xhi, xto⟩) := hx
      have hBH : Hid (Below w.heap.size w wr) := hbel
      have hltI : (k : Int) < (n : Int) := by omega
      clear hx hbel hS' hfit
      by_cases hbrk : lo + 255 < xlo
      · have t1 : decide (lo + 256 - 1 < xlo) = true := by simp; omega
        have q0 : Hid ((wr.alloc (.cells #[.int .i32 xlo, .int .i32 xhi, .int .i64 xto] 45)).heap[w.heap.size]? = some (.cells (bC Pr.zeros) 85 (0, 0))) := (heap_alloc_old _ _ (by omega)).trans h0.out
        have q1 : Hid ((wr.alloc (.cells #[.int .i32 xlo, .int .i32 xhi, .int .i64 xto] 45)).heap[w.heap.size + 1]? = some (.cells (bC f) 85 (0, 0))) := (heap_alloc_old _ _ (by omega)).trans h1.out
        go_wp2_with (first | refine wpList_load_row rfl 85 _ rfl (w.heap.size + 1) rfl 85 _ (0, 0) _ q1.out Try.underlying85 rfl (sz58 hlen.out) ?_ | refine wpList_store_rowTo rfl 85 _ _ rfl rfl w.heap.size (bC f) rfl rfl 85 _ q0.out (sz58 hlen.out) (by rw [bC_size, bC_size, hlen.out]; rfl) (bC_one _) ?_)
        refine bodyPost_ret (v := .agg (bC f)) (results_cell_row rfl _ _ w.heap.size 85 (bC f) (0, 0) _ rfl (heap_setRow _ _ _ _ _ _ q0.out) Try.underlying85 rfl (sz58 hlen.out)) rfl ?_
        exact ⟨ret_agg (hf.out.trans (fO_stop HO.out hX.out hbrk)), below_setRow (hBH.out.alloc (by omega) _) (Nat.le_refl _) _⟩
      · have t1 : decide (lo + 256 - 1 < xlo) = false := by simp; omega
        go_wp2_with fail
        obtain ⟨A, hA⟩ : ∃ A, A = max xlo lo := ⟨_, rfl⟩
        have hA1 : xlo ≤ A := by omega
        have hA2 : lo ≤ A := by omega
        have hA3 : Hid (A = xlo ∨ A = lo) := (by omega : A = xlo ∨ A = lo)
        have hA4 : A ≤ lo + 255 := by have := hA3.out; omega
        have HA : Hid (A = max xlo lo) := hA
        obtain ⟨G, hG⟩ : ∃ G, G = wr.heap.size := ⟨_, rfl⟩
        have HG : Hid (G = wr.heap.size) := hG
        have hGN : w.heap.size + 2 ≤ G := by omega
        rw [← hA, ← hG]
        clear hA hG
        go_loopw [9] (fun r wr => ∃ (j : Nat) (g : List Int), r = .int .i32 (lo + j) ∧ A ≤ lo + j ∧ (lo + j ≤ A ∨ lo + j ≤ xhi + 1) ∧ j ≤ 256 ∧ Hid (g = mix f lo A (lo + j) xto) ∧ Hid (wr.heap[w.heap.size]? = some (.cells (bC Pr.zeros) 85 (0, 0))) ∧ Hid (wr.heap[w.heap.size + 1]? = some (.cells (bC g) 85 (0, 0))) ∧ Hid (wr.heap[G]? = some (.cells #[.int .i32 xlo, .int .i32 xhi, .int .i64 xto] 45 (0, 0))) ∧ G + 1 ≤ wr.heap.size ∧ Below w.heap.size w wr) (fun r _ => (lo + 300 - intOf r).toNat)
        case atStart =>
          refine ⟨(A - lo).toNat, f, by congr 1; omega, by omega, by omega, by omega, mix_start hlen.out _ _ _ _ (by omega), (heap_alloc_old _ _ (by omega)).trans h0.out, (heap_alloc_old _ _ (by omega)).trans h1.out, (by rw [HG.out]; exact heap_alloc_new _ _), (by rw [HG.out]; simp), hBH.out.alloc (by omega) _⟩
        case round =>
          obtain ⟨j, g, rfl, hj1, hj2, hj3, hg, g0, g1, g2, hsz2, hbel2⟩ := hrel
          have hglen : Hid (g.length = 256) := (by rw [hg.out]; exact mix_len _ _ _ _ _ : g.length = 256)
          have hB2 : Hid (Below w.heap.size w wr) := hbel2
          have e1 : wr.cell? ⟨G, 1, none⟩ = some (.int .i32 xhi) := cell_of_row _ _ 1 _ _ _ g2.out
          have e2 : wr.cell? ⟨G, 2, none⟩ = some (.int .i64 xto) := cell_of_row _ _ 2 _ _ _ g2.out
          clear hbel2 d0 d1 d2
          by_cases hin : lo + j ≤ xhi ∧ j ≤ 255
          · have t2 : decide (lo + (j : Int) ≤ min xhi (lo + 256 - 1)) = true := by simp; omega
            have hjj : Hid ((lo + (j : Int) - lo).toNat = j) := (by omega : (lo + (j : Int) - lo).toNat = j)
            have e3 : wr.cell? ⟨w.heap.size + 1, (lo + (j : Int) - lo).toNat, none⟩ = some (.int .u8 (g.getD j 0)) := by rw [hjj.out]; exact (cell_of_row _ _ j _ _ _ g1.out).trans (bC_at hglen.out (by omega))
            have e4 : wr.frozen? ⟨w.heap.size + 1, (lo + (j : Int) - lo).toNat, none⟩ = false := frozen_row _ _ _ _ _ g1.out
            have hin1 : lo + j ≤ xhi := hin.1
            have hin2 : j ≤ 255 := hin.2
            clear hin
            go_wp2
            go_roundw
            case rel =>
              refine ⟨j + 1, g.set j xto, by congr 1; omega, by omega, by omega, by omega, ?_, ?_, ?_, ?_, ?_, hB2.out.setCell (by show w.heap.size ≤ w.heap.size + 1; omega) _⟩
              · rw [hg.out]
                exact mix_step _ _ _ _ _ (by omega) hj1
              · exact (Below.heap_setCell _ _ _ _ (by show w.heap.size ≠ w.heap.size + 1; omega)).trans g0.out
              · rw [hjj.out, ← bC_set]
                exact heap_setCell_row _ _ _ _ _ _ _ g1.out
              · exact (Below.heap_setCell _ _ _ _ (by show G ≠ w.heap.size + 1; omega)).trans g2.out
              · simp [World.setCell]; omega
            case measure => simp [intOf]; omega
          · have t2 : decide (lo + (j : Int) ≤ min xhi (lo + 256 - 1)) = false := by simp; omega
            have HI : Hid (xhi < lo + j ∨ lo + 255 < lo + j) := (by omega : xhi < lo + j ∨ lo + 255 < lo + j)
            clear hin
            go_wp2
            go_roundw
            case rel => exact ⟨k + 1, g, by omega, by go_num, by rw [hg.out, hf.out]; exact mix_end HO.out hX.out hA1 hA2 hA3.out hj2 HI.out, g0.out, g1.out, by omega, hB2.out⟩
            case measure => simp [intOf]; omega
    · have hk' : k = n := by omega
      clear hlt
      go_wp2_with (first | refine wpList_load_row rfl 85 _ rfl (w.heap.size + 1) rfl 85 _ (0, 0) _ h1.out Try.underlying85 rfl (sz58 hlen.out) ?_ | refine wpList_store_rowTo rfl 85 _ _ rfl rfl w.heap.size (bC f) rfl rfl 85 _ h0.out (sz58 hlen.out) (by rw [bC_size, bC_size, hlen.out]; rfl) (bC_one _) ?_)
      refine bodyPost_ret (v := .agg (bC f)) (results_cell_row rfl _ _ w.heap.size 85 (bC f) (0, 0) _ rfl (heap_setRow _ _ _ _ _ _ h0.out) Try.underlying85 rfl (sz58 hlen.out)) rfl ?_
      exact ⟨ret_agg (hf.out.trans (by rw [List.take_of_length_le (by rw [← HN.out]; omega)])), below_setRow hbel (Nat.le_refl _) _⟩
end Go.Proofs.Ytlcpfheocenjfaa
