/-
  stanzalaw02.PropSplits returns true at every slice of ranges and every three numbers, and the slice reads afterwards as it read before; no condition.
-/
import Derived.Test.YtagkdboobfkmmaaRows
import Derived.Test.YtagkdboobfkmmaaRight
import Derived.Deep.CutRange
namespace Go.Proofs.Ytagkdboobfkmmaa.propSplits
open Go.ChangeShapes Go.WideShapes Go.ChangeAt Go.RowKit
set_option linter.unusedVariables false
set_option linter.unusedSimpArgs false

theorem pick (x : Int) {m : Nat} (h0 : 0 < m) (h1 : m ≤ 256) : ∃ k : Nat, k < m ∧ wrap64 ((IntKind.u64.wrap x).tmod m) = (k : Int) := by
  have h := to_range x (most := (m : Int)) (by omega) (by omega)
  exact ⟨(wrap64 ((IntKind.u64.wrap x).tmod m)).toNat, by omega, by omega⟩
theorem pick32 (x : Int) {lo hi : Int} (h0 : 0 ≤ lo) (h1 : lo < hi) (h2 : hi ≤ 1114111) : ∃ mid, lo ≤ mid ∧ mid < hi ∧ wrap32 (lo + wrap32 ((IntKind.u64.wrap x).tmod (hi - lo))) = mid := by
  rw [IntKind.wrap_u64]
  have e0 : 0 ≤ x % 18446744073709551616 := Int.emod_nonneg _ (by omega)
  rw [Int.tmod_eq_emod_of_nonneg e0]
  have e1 := Int.emod_nonneg (x % 18446744073709551616) (b := hi - lo) (by omega)
  have e2 := Int.emod_lt_of_pos (x % 18446744073709551616) (b := hi - lo) (by omega)
  generalize x % 18446744073709551616 % (hi - lo) = y at e1 e2 ⊢
  refine ⟨lo + y, by omega, by omega, ?_⟩
  unfold wrap32
  omega
theorem made0 (w : World) {base : Nat} (h : base ≤ w.heap.size) : (w.alloc (.cells #[] 33)).ownsRow base 33 3 (.slice (some ⟨w.heap.size, 0, none⟩) 0 0) 0 [] :=
  ⟨rfl, Or.inr ⟨w.heap.size, 0, #[], rfl, h, heap_alloc_new _ _, Nat.le_refl _, Nat.zero_le _, rfl, rfl⟩⟩
theorem made1 (V : World) (o : Obj) : ((V.alloc o).alloc (.cells #[] 33)).ownsRow V.heap.size 33 3 (.slice (some ⟨V.heap.size + 1, 0, none⟩) 0 0) 0 [] :=
  ⟨rfl, Or.inr ⟨V.heap.size + 1, 0, #[], rfl, by omega, heap_alloc2_new _ _ _, Nat.le_refl _, Nat.zero_le _, rfl, rfl⟩⟩
theorem sees_takeNews {w : World} {M : List Rg} {ad : Addr} {b off cap : Nat} (h : Sees w M (some ad) b off cap) (kn : Nat) : ∀ j u, (rgCells (M.take kn))[j]? = some u → w.cell? (ad.add j) = some u := by
  intro j u hj
  apply h.news
  have e : rgCells M = rgCells (M.take kn) ++ rgCells (M.drop kn) := by rw [← rgCells_append, List.take_append_drop]
  rw [e, List.getElem?_append_left (List.getElem?_eq_some_iff.1 hj).1]
  exact hj
theorem sees_dropNews {w : World} {M : List Rg} {g cap : Nat} (h : Sees w M (some ⟨g, 0, none⟩) g 0 cap) (k : Nat) (hk : k ≤ M.length) : ∀ j u, (rgCells (M.drop k))[j]? = some u → w.cell? ((⟨g, k * 3, none⟩ : Addr).add j) = some u := by
  intro j u hj
  have e : rgCells M = rgCells (M.take k) ++ rgCells (M.drop k) := by rw [← rgCells_append, List.take_append_drop]
  have hl : (rgCells (M.take k)).length = k * 3 := by rw [rgCells_len, List.length_take]; congr 1; omega
  have := h.news (k * 3 + j) u (by rw [e, List.getElem?_append_right (by omega), hl, show k * 3 + j - k * 3 = j by omega]; exact hj)
  rw [Addr.add_mid] at this ⊢
  rw [← this]
  congr 2
  omega
theorem xkeep {V w' : World} {G : Nat} {a b c : Int} (hb : Below V.heap.size V w') (hG : G < V.heap.size) (h0 : V.cell? ⟨G, 0, none⟩ = some (.int .i32 a)) (h1 : V.cell? ⟨G, 1, none⟩ = some (.int .i32 b)) (h2 : V.cell? ⟨G, 2, none⟩ = some (.int .i64 c)) :
    w'.cell? ⟨G, 0, none⟩ = some (.int .i32 a) ∧ w'.cell? ⟨G, 1, none⟩ = some (.int .i32 b) ∧ w'.cell? ⟨G, 2, none⟩ = some (.int .i64 c) :=
  ⟨(hb.cell (p := ⟨G, 0, none⟩) hG).trans h0, (hb.cell (p := ⟨G, 1, none⟩) hG).trans h1, (hb.cell (p := ⟨G, 2, none⟩) hG).trans h2⟩
theorem row_news {w : World} {g : Nat} {xs : List Value} (h : w.heap[g]? = some (.cells xs.toArray 33 (0, 0))) : ∀ j u, xs[j]? = some u → w.cell? ((⟨g, 0, none⟩ : Addr).add j) = some u := by
  intro j u hj
  rw [Addr.add_mid, Nat.zero_add, cell_of_row _ _ _ _ _ _ h]
  simpa using hj
theorem own_take {w : World} {base kn : Nat} {v : Value} {A B : List Rg} (h : w.ownsRow base 33 3 v (0 + kn + 2) ([] ++ rgCells A ++ rgCells B)) : w.ownsRow base 33 3 v (kn + 2) (rgCells (A ++ B)) := by
  rw [rgCells_append]
  rw [Nat.zero_add, List.nil_append] at h
  exact h
/-- one range in two. -/
theorem split_ok {most lo hi tt mid : Int} (h1 : lo ≤ mid) (h2 : mid < hi) : ∀ {A C : List Rg} {a : Int}, Pr.okFrom most a (A ++ ⟨lo, hi, tt⟩ :: C) = true → Pr.okFrom most a (A ++ ⟨lo, mid, tt⟩ :: ⟨mid + 1, hi, tt⟩ :: C) = true
  | [], C, a, h => by
    obtain ⟨⟨e1, e2, e3, e4, e5, e6⟩, h'⟩ := Pr.ok_cons.1 h
    refine Pr.ok_cons.2 ⟨⟨e1, h1, ?_, e4, e5, e6⟩, Pr.ok_cons.2 ⟨⟨?_, ?_, e3, e4, e5, e6⟩, h'⟩⟩
    · show mid ≤ 1114111; simp only at e3; omega
    · show mid < mid + 1; omega
    · show mid + 1 ≤ hi; omega
  | y :: A, C, a, h => by
    obtain ⟨hy, h'⟩ := Pr.ok_cons.1 h
    exact Pr.ok_cons.2 ⟨hy, split_ok h1 h2 h'⟩
theorem split_of {lo hi tt mid : Int} (h1 : lo ≤ mid) (h2 : mid < hi) : ∀ (A C : List Rg) (r : Int), Pr.of (A ++ ⟨lo, mid, tt⟩ :: ⟨mid + 1, hi, tt⟩ :: C) r = Pr.of (A ++ ⟨lo, hi, tt⟩ :: C) r
  | [], C, r => by
    show (if lo ≤ r ∧ r ≤ mid then tt else if mid + 1 ≤ r ∧ r ≤ hi then tt else Pr.of C r) = (if lo ≤ r ∧ r ≤ hi then tt else Pr.of C r)
    by_cases e1 : lo ≤ r ∧ r ≤ mid
    · rw [if_pos e1, if_pos (by omega)]
    · by_cases e2 : mid + 1 ≤ r ∧ r ≤ hi
      · rw [if_neg e1, if_pos e2, if_pos (by omega)]
      · rw [if_neg e1, if_neg e2, if_neg (by omega)]
  | y :: A, C, r => by
    show (if y.lo ≤ r ∧ r ≤ y.hi then y.to else Pr.of (A ++ ⟨lo, mid, tt⟩ :: ⟨mid + 1, hi, tt⟩ :: C) r) = (if y.lo ≤ r ∧ r ≤ y.hi then y.to else Pr.of (A ++ ⟨lo, hi, tt⟩ :: C) r)
    rw [split_of h1 h2 A C r]
theorem ahead_low {most : Int} {x : Rg} {C : List Rg} : ∀ {A : List Rg} {a : Int}, Pr.okFrom most a (A ++ x :: C) = true → a < x.lo ∧ ∀ y ∈ A, y.hi < x.lo
  | [], a, h => ⟨(Pr.ok_cons.1 h).1.1, fun y hy => absurd hy List.not_mem_nil⟩
  | z :: A, a, h => by
    obtain ⟨hz, h'⟩ := Pr.ok_cons.1 h
    obtain ⟨i1, i2⟩ := ahead_low h'
    refine ⟨by have := hz.1; have := hz.2.1; omega, fun y hy => ?_⟩
    rcases List.mem_cons.1 hy with rfl | hy
    · exact i1
    · exact i2 y hy
theorem split_at {most lo hi tt mid : Int} (h1 : lo ≤ mid) (h2 : mid < hi) {A C : List Rg} (h : Pr.okFrom most (-1) (A ++ ⟨lo, hi, tt⟩ :: C) = true) : Pr.of (A ++ ⟨lo, hi, tt⟩ :: C) (mid + 1) = tt := by
  rw [Pr.of_append A _ _ (fun y hy e => by have := (ahead_low h).2 y hy; simp only at this; omega)]
  show (if lo ≤ mid + 1 ∧ mid + 1 ≤ hi then tt else _) = tt
  rw [if_pos (by omega)]
theorem nil_news {M : List Rg} {k : Nat} {w : World} {ad : Addr} (h : M.length ≤ k) : ∀ j u, (rgCells (M.drop k))[j]? = some u → w.cell? (ad.add j) = some u := by
  intro j u hj
  rw [List.drop_eq_nil_of_le h] at hj
  simp [rgCells] at hj
theorem own_more {w : World} {base n n' : Nat} {v : Value} {A B : List Rg} (h : w.ownsRow base 33 3 v n (rgCells A ++ rgCells B)) (e : n = n') : w.ownsRow base 33 3 v n' (rgCells (A ++ B)) := by
  rw [rgCells_append, ← e]
  exact h
theorem tabN {w : World} {base T : Nat} {L : List Rg} (h : Tab w base T L) (n : Nat) : Tab (w.drewN n) base T L := h
theorem parts {M : List Rg} {k : Nat} {x : Rg} (h : M[k]? = some x) : M = M.take k ++ x :: M.drop (k + 1) := by rw [← drop_at h, List.take_append_drop]

set_option maxRecDepth 100000 in
set_option maxHeartbeats 8000000 in
theorem walk (L : List Rg) (at' cut r : Int) (a : Option Addr) (b off cap : Nat) (w : World) (hS : Sees w L a b off cap) (hF : Fit L) (hr : -2147483648 ≤ r ∧ r ≤ 2147483647) (hc0 : -9223372036854775808 ≤ cut) (hc1 : cut ≤ 9223372036854775807) :
    Calls Try.prog 7 #[.slice a L.length cap, .int .i64 at', .int .i64 cut, .int .i32 r] w fun e w' => e = .returned (.bool true) ∧ Below w.heap.size w w' := by
  have HR : Hid (-2147483648 ≤ r ∧ r ≤ 2147483647) := hr
  obtain ⟨i0, hi, hz0, hz1, hz2⟩ := info_parts info33
  clear hr
  go_enter Try.func7, Try.ntmps7
  go_wp2_with (go_at_call 9; refine (awake_any _).mono ?_; rintro e w1 ⟨rfl, hb1⟩)
  refine (right_any L 50 a b off cap w1 (hS.kept hb1) hF (by omega) (by omega)).mono ?_
  rintro e w2 ⟨M, v, rfl, hown2, hM, hok, hb2⟩
  obtain ⟨a2, g2, cap2, rfl, hS2, hg2b, _⟩ := row_sees hown2
  have hs1 := hb1.size
  have hs2 := hb2.size
  have hB2 : Hid (Below w.heap.size w w2) := hb1.trans (hb2.mono hs1)
  have HO : Hid (Pr.okFrom 50 (-1) M = true) := hok
  obtain ⟨m, hm'⟩ : ∃ m, m = M.length := ⟨_, rfl⟩
  have HM : Hid (m = M.length) := hm'
  rw [← hm'] at hM ⊢
  have hSH : Hid (Sees w2 M a2 g2 0 cap2) := hS2
  have hcap : m ≤ cap2 := by rw [hm']; exact hS2.cap
  clear hm' hown2 hb1 hb2 hok hS hF hS2
  by_cases h0 : m = 0
  · subst h0
    go_wp2
    go_ret
    exact ⟨rfl, hB2.out⟩
  · have t0 : ((m : Int) == 0) = false := by simp; omega
    obtain ⟨kn, hkn, hK⟩ := pick at' (m := m) (by omega) (by omega)
    obtain rfl := hSH.out.adr (by rw [← HM.out]; omega)
    obtain ⟨x, hx⟩ : ∃ x, M[kn]? = some x := ⟨M[kn]'(by rw [← HM.out]; omega), List.getElem?_eq_getElem _⟩
    have d0 := hSH.out.c0 kn x hx
    have d1 := hSH.out.c1 kn x hx
    have d2 := hSH.out.c2 kn x hx
    simp only [Nat.zero_add] at d0 d1 d2
    have hfx := Pr.ok_mem HO.out x (List.mem_of_getElem? hx)
    obtain ⟨xlo, xhi, xto⟩ := x
    simp only at d0 d1 d2
    have f0 : 0 ≤ xlo := by have := hfx.1; simp only at this; omega
    have f1 : xlo ≤ xhi := hfx.2.1
    have f2 : xhi ≤ 1114111 := hfx.2.2.1
    have f3 : 0 ≤ xto := hfx.2.2.2.1
    have f4 : xto < 50 := hfx.2.2.2.2.1
    have hX : Hid (M[kn]? = some ⟨xlo, xhi, xto⟩) := hx
    have hkI : (kn : Int) < (m : Int) := by omega
    have hkc : kn ≤ cap2 := by omega
    have hkcI : (kn : Int) ≤ (cap2 : Int) := by omega
    clear hx hfx
    by_cases he : xlo = xhi
    · subst he
      go_wp2
      go_ret
      exact ⟨rfl, hB2.out.alloc (by omega) _⟩
    · have t1 : (xlo == xhi) = false := by simp [he]
      have hlt : xlo < xhi := by omega
      go_wp2_with fail
      go_quiet (fail)
      go_wp2_with fail
      obtain ⟨mid, hmid1, hmid2, hmid⟩ := pick32 cut f0 hlt f2
      rw [hK, hmid]
      obtain ⟨G, hG⟩ : ∃ G, G = w2.heap.size := ⟨_, rfl⟩
      obtain ⟨W, hW⟩ : ∃ W, W = (w2.alloc (.cells #[.int .i32 xlo, .int .i32 xhi, .int .i64 xto] 33)).drewN nq := ⟨_, rfl⟩
      obtain ⟨V, hV⟩ : ∃ V, V = W.drew := ⟨_, rfl⟩
      have HV : Hid (V = W.drew) := hV
      have hxr : V.heap[G]? = some (.cells #[.int .i32 xlo, .int .i32 xhi, .int .i64 xto] 33 (0, 0)) := by rw [hV, hW, hG]; exact heap_alloc_new _ _
      have hx0 : Hid (V.cell? ⟨G, 0, none⟩ = some (.int .i32 xlo)) := cell_of_row _ _ 0 _ _ _ hxr
      have hx1 : Hid (V.cell? ⟨G, 1, none⟩ = some (.int .i32 xhi)) := cell_of_row _ _ 1 _ _ _ hxr
      have hx2 : Hid (V.cell? ⟨G, 2, none⟩ = some (.int .i64 xto)) := cell_of_row _ _ 2 _ _ _ hxr
      have hGV : Hid (G < V.heap.size) := (Array.getElem?_eq_some_iff.1 hxr).1
      have hw2V : Below w2.heap.size w2 V := by
        rw [hV, hW]
        exact (below_drewN ((Below.refl _ _).alloc (Nat.le_refl _) _) nq).drew
      have hSV : Hid (Sees V M (some ⟨g2, 0, none⟩) g2 0 cap2) := hSH.out.kept hw2V
      have hBV : Hid (Below w.heap.size w V) := hB2.out.trans (hw2V.mono (by omega))
      rw [← hW, ← hG]
      clear hK hmid hG hW hV hxr hw2V d0 d1 d2
      go_cut [12] from 53 to 72 (fun v wr => ∃ vv, vv = v ∧ wr.ownsRow V.heap.size 33 3 v (kn + 2) (rgCells (M.take kn ++ [⟨xlo, mid, xto⟩, ⟨mid + 1, xhi, xto⟩])) ∧ Below V.heap.size V wr)
      case first =>
        refine wp_region_held_drew (S := fun w' => w'.cell? ⟨G, 0, none⟩ = some (.int .i32 xlo) ∧ w'.cell? ⟨G, 1, none⟩ = some (.int .i32 xhi) ∧ w'.cell? ⟨G, 2, none⟩ = some (.int .i64 xto)) (by kernel_rfl) (by rw [← HV.out]; exact ⟨hx0.out, hx1.out, hx2.out⟩) (fun hHeld => ?_)
        rw [← HV.out] at hHeld ⊢
        refine wpAnyH_take (i := 1) (v := .slice (some ⟨g2, 0, none⟩) m cap2) rfl (by kernel_rfl) (by kernel_rfl) (by kernel_rfl) (fun _ _ _ h => h) (Or.inl ⟨by rfl, fun w hSw => by first | (go_simp; done) | (go_simp; intro hh; omega) | (go_simp; rw [IntKind.wrap_i32]; omega) | (obtain ⟨hs0, hs1, hs2⟩ := hSw; go_simp; done) | (obtain ⟨hs0, hs1, hs2⟩ := hSw; go_simp)⟩) (by assumption) ?_
        simp only [Act.put, List.setIfInBounds_toArray, List.set_cons_zero, List.set_cons_succ]
        refine wpAnyH_take (i := 2) (v := .int .i64 (kn : Int)) rfl (by kernel_rfl) (by kernel_rfl) (by kernel_rfl) (fun _ _ _ h => h) (Or.inl ⟨by rfl, fun w hSw => by first | (go_simp; done) | (go_simp; intro hh; omega) | (go_simp; rw [IntKind.wrap_i32]; omega) | (obtain ⟨hs0, hs1, hs2⟩ := hSw; go_simp; done) | (obtain ⟨hs0, hs1, hs2⟩ := hSw; go_simp)⟩) (by assumption) ?_
        simp only [Act.put, List.setIfInBounds_toArray, List.set_cons_zero, List.set_cons_succ]
        refine wpAnyH_take (i := 3) (v := .slice (some ⟨g2, 0, none⟩) kn cap2) rfl (by kernel_rfl) (by kernel_rfl) (by kernel_rfl) (fun _ _ _ h => h) (Or.inl ⟨by rfl, fun w hSw => by first | (go_simp; done) | (go_simp; intro hh; omega) | (go_simp; rw [IntKind.wrap_i32]; omega) | (obtain ⟨hs0, hs1, hs2⟩ := hSw; go_simp; done) | (obtain ⟨hs0, hs1, hs2⟩ := hSw; go_simp)⟩) (by assumption) ?_
        simp only [Act.put, List.setIfInBounds_toArray, List.set_cons_zero, List.set_cons_succ]
        refine wpAnyH_take (i := 5) (v := .pointer (some ⟨G, 0, none⟩)) rfl (by kernel_rfl) (by kernel_rfl) (by kernel_rfl) (fun _ _ _ h => h) (Or.inl ⟨by rfl, fun w hSw => by first | (go_simp; done) | (go_simp; intro hh; omega) | (go_simp; rw [IntKind.wrap_i32]; omega) | (obtain ⟨hs0, hs1, hs2⟩ := hSw; go_simp; done) | (obtain ⟨hs0, hs1, hs2⟩ := hSw; go_simp)⟩) (by assumption) ?_
        simp only [Act.put, List.setIfInBounds_toArray, List.set_cons_zero, List.set_cons_succ]
        refine wpAnyH_take (i := 6) (v := .int .i32 xlo) rfl (by kernel_rfl) (by kernel_rfl) (by kernel_rfl) (fun _ _ _ h => h) (Or.inl ⟨by rfl, fun w hSw => by first | (go_simp; done) | (go_simp; intro hh; omega) | (go_simp; rw [IntKind.wrap_i32]; omega) | (obtain ⟨hs0, hs1, hs2⟩ := hSw; go_simp; done) | (obtain ⟨hs0, hs1, hs2⟩ := hSw; go_simp)⟩) (by assumption) ?_
        simp only [Act.put, List.setIfInBounds_toArray, List.set_cons_zero, List.set_cons_succ]
        refine wpAnyH_take (i := 7) (v := .int .i32 mid) rfl (by kernel_rfl) (by kernel_rfl) (by kernel_rfl) (fun _ _ _ h => h) (Or.inl ⟨by rfl, fun w hSw => by first | (go_simp; done) | (go_simp; intro hh; omega) | (go_simp; rw [IntKind.wrap_i32]; omega) | (obtain ⟨hs0, hs1, hs2⟩ := hSw; go_simp; done) | (obtain ⟨hs0, hs1, hs2⟩ := hSw; go_simp)⟩) (by assumption) ?_
        simp only [Act.put, List.setIfInBounds_toArray, List.set_cons_zero, List.set_cons_succ]
        refine wpAnyH_take (i := 8) (v := .pointer (some ⟨G, 2, none⟩)) rfl (by kernel_rfl) (by kernel_rfl) (by kernel_rfl) (fun _ _ _ h => h) (Or.inl ⟨by rfl, fun w hSw => by first | (go_simp; done) | (go_simp; intro hh; omega) | (go_simp; rw [IntKind.wrap_i32]; omega) | (obtain ⟨hs0, hs1, hs2⟩ := hSw; go_simp; done) | (obtain ⟨hs0, hs1, hs2⟩ := hSw; go_simp)⟩) (by assumption) ?_
        simp only [Act.put, List.setIfInBounds_toArray, List.set_cons_zero, List.set_cons_succ]
        refine wpAnyH_take (i := 9) (v := .int .i64 xto) rfl (by kernel_rfl) (by kernel_rfl) (by kernel_rfl) (fun _ _ _ h => h) (Or.inl ⟨by rfl, fun w hSw => by first | (go_simp; done) | (go_simp; intro hh; omega) | (go_simp; rw [IntKind.wrap_i32]; omega) | (obtain ⟨hs0, hs1, hs2⟩ := hSw; go_simp; done) | (obtain ⟨hs0, hs1, hs2⟩ := hSw; go_simp)⟩) (by assumption) ?_
        simp only [Act.put, List.setIfInBounds_toArray, List.set_cons_zero, List.set_cons_succ]
        refine wpAnyH_take (i := 10) (v := .agg #[.int .i32 xlo, .int .i32 mid, .int .i64 xto]) rfl (by kernel_rfl) (by kernel_rfl) (by kernel_rfl) (fun _ _ _ h => h) (Or.inl ⟨by rfl, fun w hSw => by first | (go_simp; done) | (go_simp; intro hh; omega) | (go_simp; rw [IntKind.wrap_i32]; omega) | (obtain ⟨hs0, hs1, hs2⟩ := hSw; go_simp; done) | (obtain ⟨hs0, hs1, hs2⟩ := hSw; go_simp)⟩) (by assumption) ?_
        simp only [Act.put, List.setIfInBounds_toArray, List.set_cons_zero, List.set_cons_succ]
        refine wpAnyH_take (i := 11) (v := .int .i32 mid) rfl (by kernel_rfl) (by kernel_rfl) (by kernel_rfl) (fun _ _ _ h => h) (Or.inl ⟨by rfl, fun w hSw => by first | (go_simp; done) | (go_simp; intro hh; omega) | (go_simp; rw [IntKind.wrap_i32]; omega) | (obtain ⟨hs0, hs1, hs2⟩ := hSw; go_simp; done) | (obtain ⟨hs0, hs1, hs2⟩ := hSw; go_simp)⟩) (by assumption) ?_
        simp only [Act.put, List.setIfInBounds_toArray, List.set_cons_zero, List.set_cons_succ]
        refine wpAnyH_take (i := 12) (v := .int .i32 (mid + 1)) rfl (by kernel_rfl) (by kernel_rfl) (by kernel_rfl) (fun _ _ _ h => h) (Or.inl ⟨by rfl, fun w hSw => by first | (go_simp; done) | (go_simp; intro hh; omega) | (go_simp; rw [IntKind.wrap_i32]; omega) | (obtain ⟨hs0, hs1, hs2⟩ := hSw; go_simp; done) | (obtain ⟨hs0, hs1, hs2⟩ := hSw; go_simp)⟩) (by assumption) ?_
        simp only [Act.put, List.setIfInBounds_toArray, List.set_cons_zero, List.set_cons_succ]
        refine wpAnyH_take (i := 13) (v := .pointer (some ⟨G, 1, none⟩)) rfl (by kernel_rfl) (by kernel_rfl) (by kernel_rfl) (fun _ _ _ h => h) (Or.inl ⟨by rfl, fun w hSw => by first | (go_simp; done) | (go_simp; intro hh; omega) | (go_simp; rw [IntKind.wrap_i32]; omega) | (obtain ⟨hs0, hs1, hs2⟩ := hSw; go_simp; done) | (obtain ⟨hs0, hs1, hs2⟩ := hSw; go_simp)⟩) (by assumption) ?_
        simp only [Act.put, List.setIfInBounds_toArray, List.set_cons_zero, List.set_cons_succ]
        refine wpAnyH_take (i := 14) (v := .int .i32 xhi) rfl (by kernel_rfl) (by kernel_rfl) (by kernel_rfl) (fun _ _ _ h => h) (Or.inl ⟨by rfl, fun w hSw => by first | (go_simp; done) | (go_simp; intro hh; omega) | (go_simp; rw [IntKind.wrap_i32]; omega) | (obtain ⟨hs0, hs1, hs2⟩ := hSw; go_simp; done) | (obtain ⟨hs0, hs1, hs2⟩ := hSw; go_simp)⟩) (by assumption) ?_
        simp only [Act.put, List.setIfInBounds_toArray, List.set_cons_zero, List.set_cons_succ]
        refine wpAnyH_take (i := 15) (v := .pointer (some ⟨G, 2, none⟩)) rfl (by kernel_rfl) (by kernel_rfl) (by kernel_rfl) (fun _ _ _ h => h) (Or.inl ⟨by rfl, fun w hSw => by first | (go_simp; done) | (go_simp; intro hh; omega) | (go_simp; rw [IntKind.wrap_i32]; omega) | (obtain ⟨hs0, hs1, hs2⟩ := hSw; go_simp; done) | (obtain ⟨hs0, hs1, hs2⟩ := hSw; go_simp)⟩) (by assumption) ?_
        simp only [Act.put, List.setIfInBounds_toArray, List.set_cons_zero, List.set_cons_succ]
        refine wpAnyH_take (i := 16) (v := .int .i64 xto) rfl (by kernel_rfl) (by kernel_rfl) (by kernel_rfl) (fun _ _ _ h => h) (Or.inl ⟨by rfl, fun w hSw => by first | (go_simp; done) | (go_simp; intro hh; omega) | (go_simp; rw [IntKind.wrap_i32]; omega) | (obtain ⟨hs0, hs1, hs2⟩ := hSw; go_simp; done) | (obtain ⟨hs0, hs1, hs2⟩ := hSw; go_simp)⟩) (by assumption) ?_
        simp only [Act.put, List.setIfInBounds_toArray, List.set_cons_zero, List.set_cons_succ]
        refine wpAnyH_take (i := 17) (v := .agg #[.int .i32 (mid + 1), .int .i32 xhi, .int .i64 xto]) rfl (by kernel_rfl) (by kernel_rfl) (by kernel_rfl) (fun _ _ _ h => h) (Or.inl ⟨by rfl, fun w hSw => by first | (go_simp; done) | (go_simp; intro hh; omega) | (go_simp; rw [IntKind.wrap_i32]; omega) | (obtain ⟨hs0, hs1, hs2⟩ := hSw; go_simp; done) | (obtain ⟨hs0, hs1, hs2⟩ := hSw; go_simp)⟩) (by assumption) ?_
        simp only [Act.put, List.setIfInBounds_toArray, List.set_cons_zero, List.set_cons_succ]
        refine wpAnyH_ready (rs := [0, 18]) (by kernel_rfl) (by simp) ?_
        refine AllReadyH.cons (o := { dst := some 53, op := _, type := _, pos := _, after := _, guard := _ }) rfl (fun K hK => ?_) (AllReadyH.cons (o := { dst := some 71, op := _, type := _, pos := _, after := _, guard := _ }) rfl (fun K hK => ?_) AllReadyH.nil)

        · rw [if_pos (by rfl)]
          go_simp
          refine hK.out _ _ (xkeep ((Below.refl V.heap.size V).alloc (Nat.le_refl _) _) hGV.out hx0.out hx1.out hx2.out) (fun hHeld => ?_)
          clear hK
          refine wpAnyH_ready (rs := [4, 18]) (by kernel_rfl) (by simp) ?_
          refine AllReadyH.cons (o := { dst := some 57, op := _, type := _, pos := _, after := _, guard := _ }) rfl (fun K hK => ?_) (AllReadyH.cons (o := { dst := some 71, op := _, type := _, pos := _, after := _, guard := _ }) rfl (fun K hK => ?_) AllReadyH.nil)
          · refine step_of_wp rfl (wp_append_own _ _ _ 22 rfl V.heap.size 33 i0 (.agg #[.int .i32 0, .int .i32 0, .int .i64 0]) 3 16 Try.underlying22 hi hz0 hz1 hz2 rfl (by decide) _ 0 [] rfl (made0 V (Nat.le_refl _)) ⟨g2, 0, none⟩ kn cap2 (rgCells (M.take kn)) rfl (by rw [rgCells_len, List.length_take, ← HM.out]; congr 1; omega) (sees_takeNews (hSV.out.kept ((Below.refl _ _).alloc (Nat.le_refl _) _)) kn) (rgCells_one _) (by unfold maxLen; omega) (by omega) (by simp <;> omega) ?_)
            intro v1 w5 hown5 hg5 _
            have hb5 : Hid (Below V.heap.size V w5) := ((Below.refl V.heap.size V).alloc (Nat.le_refl _) _).grown hg5 (by simp) (fun k hk => by injection hk with hk; have h' : V.heap.size = k := hk; omega)
            have hs5 : Hid (V.heap.size + 1 ≤ w5.heap.size) := (by have := hg5.size; simp at this; omega : V.heap.size + 1 ≤ w5.heap.size)
            refine hK.out _ _ (xkeep hb5.out hGV.out hx0.out hx1.out hx2.out) (fun hHeld => ?_)
            clear hK
            simp only [Act.put, List.setIfInBounds_toArray, List.set_cons_zero, List.set_cons_succ]
            refine wpAnyH_ready (rs := [18]) (by kernel_rfl) (by simp) ?_
            refine AllReadyH.cons (o := { dst := some 71, op := _, type := _, pos := _, after := _, guard := _ }) rfl (fun K hK => ?_) AllReadyH.nil
            rw [if_pos (by rfl)]
            go_simp
            refine hK.out _ _ (xkeep (hb5.out.alloc (by have := hs5.out; omega) _) hGV.out hx0.out hx1.out hx2.out) (fun hHeld => ?_)
            clear hK
            refine wpAnyH_ready (rs := [19]) (by kernel_rfl) (by simp) ?_
            refine AllReadyH.cons (o := { dst := some 72, op := _, type := _, pos := _, after := _, guard := _ }) rfl (fun K hK => ?_) AllReadyH.nil
            refine step_of_wp rfl (wp_append_own _ _ _ 22 rfl V.heap.size 33 i0 (.agg #[.int .i32 0, .int .i32 0, .int .i64 0]) 3 16 Try.underlying22 hi hz0 hz1 hz2 rfl (by decide) _ (0 + kn) ([] ++ rgCells (M.take kn)) rfl (hown5.alloc _) ⟨w5.heap.size, 0, none⟩ 2 2 (rgCells [⟨xlo, mid, xto⟩, ⟨mid + 1, xhi, xto⟩]) rfl rfl (row_news (heap_alloc_new w5 _)) (rgCells_one _) (by unfold maxLen; omega) (by omega) (by have := hs5.out; simp <;> omega) ?_)
            intro v2 w7 hown7 hg7 _
            have hS7 : w7.cell? ⟨G, 0, none⟩ = some (.int .i32 xlo) ∧ w7.cell? ⟨G, 1, none⟩ = some (.int .i32 xhi) ∧ w7.cell? ⟨G, 2, none⟩ = some (.int .i64 xto) := xkeep ((hb5.out.alloc (by have := hs5.out; omega) _).grown hg7 (by have := hs5.out; simp; omega) (fun k hk => (hown5.lt k hk).1)) hGV.out hx0.out hx1.out hx2.out
            refine hK.out _ _ hS7 (fun hHeld => ?_)
            clear hK
            simp only [Act.put, List.setIfInBounds_toArray, List.set_cons_zero, List.set_cons_succ]
            refine wpAnyH_take (i := 20) (oi := { dst := some 12, op := _, type := _, pos := _, after := _, guard := _ }) (v := v2) rfl (by kernel_rfl) (by kernel_rfl) (by kernel_rfl) (fun _ _ _ h => h) (Or.inl ⟨by rfl, fun w hSw => by first | (go_simp; done) | go_simp⟩) (by assumption) ?_
            simp only [Act.put, List.setIfInBounds_toArray, List.set_cons_zero, List.set_cons_succ]
            refine wpAnyH_done (by kernel_rfl) ?_ _
            go_wp2
            go_meet
            case rel => exact ⟨_, rfl, own_take hown7, ((hb5.out.alloc (by have := hs5.out; omega) _).grown hg7 (by have := hs5.out; simp; omega) (fun k hk => (hown5.lt k hk).1))⟩
          · rw [if_pos (by rfl)]
            go_simp
            refine hK.out _ _ (xkeep (((Below.refl V.heap.size V).alloc (Nat.le_refl _) _).alloc (by simp) _) hGV.out hx0.out hx1.out hx2.out) (fun hHeld => ?_)
            clear hK
            refine wpAnyH_ready (rs := [4]) (by kernel_rfl) (by simp) ?_
            refine AllReadyH.cons (o := { dst := some 57, op := _, type := _, pos := _, after := _, guard := _ }) rfl (fun K hK => ?_) AllReadyH.nil
            refine step_of_wp rfl (wp_append_own _ _ _ 22 rfl V.heap.size 33 i0 (.agg #[.int .i32 0, .int .i32 0, .int .i64 0]) 3 16 Try.underlying22 hi hz0 hz1 hz2 rfl (by decide) _ 0 [] rfl ((made0 V (Nat.le_refl _)).alloc _) ⟨g2, 0, none⟩ kn cap2 (rgCells (M.take kn)) rfl (by rw [rgCells_len, List.length_take, ← HM.out]; congr 1; omega) (sees_takeNews (hSV.out.kept (((Below.refl V.heap.size V).alloc (Nat.le_refl _) _).alloc (by simp) _)) kn) (rgCells_one _) (by unfold maxLen; omega) (by omega) (by simp <;> omega) ?_)
            intro v1 w5 hown5 hg5 _
            have hb5 : Hid (Below V.heap.size V w5) := (((Below.refl V.heap.size V).alloc (Nat.le_refl _) _).alloc (by simp) _).grown hg5 (by simp; omega) (fun k hk => by injection hk with hk; have h' : V.heap.size = k := hk; omega)
            have hs5 : Hid (V.heap.size + 1 ≤ w5.heap.size) := (by have := hg5.size; simp at this; omega : V.heap.size + 1 ≤ w5.heap.size)
            refine hK.out _ _ (xkeep hb5.out hGV.out hx0.out hx1.out hx2.out) (fun hHeld => ?_)
            clear hK
            simp only [Act.put, List.setIfInBounds_toArray, List.set_cons_zero, List.set_cons_succ]
            refine wpAnyH_ready (rs := [19]) (by kernel_rfl) (by simp) ?_
            refine AllReadyH.cons (o := { dst := some 72, op := _, type := _, pos := _, after := _, guard := _ }) rfl (fun K hK => ?_) AllReadyH.nil
            refine step_of_wp rfl (wp_append_own _ _ _ 22 rfl V.heap.size 33 i0 (.agg #[.int .i32 0, .int .i32 0, .int .i64 0]) 3 16 Try.underlying22 hi hz0 hz1 hz2 rfl (by decide) _ (0 + kn) ([] ++ rgCells (M.take kn)) rfl hown5 ⟨V.heap.size + 1, 0, none⟩ 2 2 (rgCells [⟨xlo, mid, xto⟩, ⟨mid + 1, xhi, xto⟩]) rfl rfl (row_news ((hg5.block (V.heap.size + 1) (by simp) (by intro e; injection e with e; have h' : V.heap.size + 1 = V.heap.size := e; omega)).trans (heap_alloc2_new _ _ _))) (rgCells_one _) (by unfold maxLen; omega) (by omega) (by have := hs5.out; simp <;> omega) ?_)
            intro v2 w7 hown7 hg7 _
            have hS7 : w7.cell? ⟨G, 0, none⟩ = some (.int .i32 xlo) ∧ w7.cell? ⟨G, 1, none⟩ = some (.int .i32 xhi) ∧ w7.cell? ⟨G, 2, none⟩ = some (.int .i64 xto) := xkeep (hb5.out.grown hg7 (by have := hs5.out; omega) (fun k hk => (hown5.lt k hk).1)) hGV.out hx0.out hx1.out hx2.out
            refine hK.out _ _ hS7 (fun hHeld => ?_)
            clear hK
            simp only [Act.put, List.setIfInBounds_toArray, List.set_cons_zero, List.set_cons_succ]
            refine wpAnyH_take (i := 20) (oi := { dst := some 12, op := _, type := _, pos := _, after := _, guard := _ }) (v := v2) rfl (by kernel_rfl) (by kernel_rfl) (by kernel_rfl) (fun _ _ _ h => h) (Or.inl ⟨by rfl, fun w hSw => by first | (go_simp; done) | go_simp⟩) (by assumption) ?_
            simp only [Act.put, List.setIfInBounds_toArray, List.set_cons_zero, List.set_cons_succ]
            refine wpAnyH_done (by kernel_rfl) ?_ _
            go_wp2
            go_meet
            case rel => exact ⟨_, rfl, own_take hown7, (hb5.out.grown hg7 (by have := hs5.out; omega) (fun k hk => (hown5.lt k hk).1))⟩
        · rw [if_pos (by rfl)]
          go_simp
          refine hK.out _ _ (xkeep ((Below.refl V.heap.size V).alloc (Nat.le_refl _) _) hGV.out hx0.out hx1.out hx2.out) (fun hHeld => ?_)
          clear hK
          refine wpAnyH_ready (rs := [0]) (by kernel_rfl) (by simp) ?_
          refine AllReadyH.cons (o := { dst := some 53, op := _, type := _, pos := _, after := _, guard := _ }) rfl (fun K hK => ?_) AllReadyH.nil
          rw [if_pos (by rfl)]
          go_simp
          refine hK.out _ _ (xkeep (((Below.refl V.heap.size V).alloc (Nat.le_refl _) _).alloc (by simp) _) hGV.out hx0.out hx1.out hx2.out) (fun hHeld => ?_)
          clear hK
          refine wpAnyH_ready (rs := [4]) (by kernel_rfl) (by simp) ?_
          refine AllReadyH.cons (o := { dst := some 57, op := _, type := _, pos := _, after := _, guard := _ }) rfl (fun K hK => ?_) AllReadyH.nil
          refine step_of_wp rfl (wp_append_own _ _ _ 22 rfl V.heap.size 33 i0 (.agg #[.int .i32 0, .int .i32 0, .int .i64 0]) 3 16 Try.underlying22 hi hz0 hz1 hz2 rfl (by decide) _ 0 [] rfl (made1 V _) ⟨g2, 0, none⟩ kn cap2 (rgCells (M.take kn)) rfl (by rw [rgCells_len, List.length_take, ← HM.out]; congr 1; omega) (sees_takeNews (hSV.out.kept (((Below.refl V.heap.size V).alloc (Nat.le_refl _) _).alloc (by simp) _)) kn) (rgCells_one _) (by unfold maxLen; omega) (by omega) (by simp <;> omega) ?_)
          intro v1 w5 hown5 hg5 _
          have hb5 : Hid (Below V.heap.size V w5) := (((Below.refl V.heap.size V).alloc (Nat.le_refl _) _).alloc (by simp) _).grown hg5 (by simp; omega) (fun k hk => by injection hk with hk; have h' : V.heap.size + 1 = k := hk; omega)
          have hs5 : Hid (V.heap.size + 1 ≤ w5.heap.size) := (by have := hg5.size; simp at this; omega : V.heap.size + 1 ≤ w5.heap.size)
          refine hK.out _ _ (xkeep hb5.out hGV.out hx0.out hx1.out hx2.out) (fun hHeld => ?_)
          clear hK
          simp only [Act.put, List.setIfInBounds_toArray, List.set_cons_zero, List.set_cons_succ]
          refine wpAnyH_ready (rs := [19]) (by kernel_rfl) (by simp) ?_
          refine AllReadyH.cons (o := { dst := some 72, op := _, type := _, pos := _, after := _, guard := _ }) rfl (fun K hK => ?_) AllReadyH.nil
          refine step_of_wp rfl (wp_append_own _ _ _ 22 rfl V.heap.size 33 i0 (.agg #[.int .i32 0, .int .i32 0, .int .i64 0]) 3 16 Try.underlying22 hi hz0 hz1 hz2 rfl (by decide) _ (0 + kn) ([] ++ rgCells (M.take kn)) rfl hown5 ⟨V.heap.size, 0, none⟩ 2 2 (rgCells [⟨xlo, mid, xto⟩, ⟨mid + 1, xhi, xto⟩]) rfl rfl (row_news ((hg5.block V.heap.size (by simp; omega) (by intro e; injection e with e; have h' : V.heap.size = V.heap.size + 1 := e; omega)).trans (heap_alloc2_old _ _ _))) (rgCells_one _) (by unfold maxLen; omega) (by omega) (by have := hs5.out; simp <;> omega) ?_)
          intro v2 w7 hown7 hg7 _
          have hS7 : w7.cell? ⟨G, 0, none⟩ = some (.int .i32 xlo) ∧ w7.cell? ⟨G, 1, none⟩ = some (.int .i32 xhi) ∧ w7.cell? ⟨G, 2, none⟩ = some (.int .i64 xto) := xkeep (hb5.out.grown hg7 (by have := hs5.out; omega) (fun k hk => (hown5.lt k hk).1)) hGV.out hx0.out hx1.out hx2.out
          refine hK.out _ _ hS7 (fun hHeld => ?_)
          clear hK
          simp only [Act.put, List.setIfInBounds_toArray, List.set_cons_zero, List.set_cons_succ]
          refine wpAnyH_take (i := 20) (oi := { dst := some 12, op := _, type := _, pos := _, after := _, guard := _ }) (v := v2) rfl (by kernel_rfl) (by kernel_rfl) (by kernel_rfl) (fun _ _ _ h => h) (Or.inl ⟨by rfl, fun w hSw => by first | (go_simp; done) | go_simp⟩) (by assumption) ?_
          simp only [Act.put, List.setIfInBounds_toArray, List.set_cons_zero, List.set_cons_succ]
          refine wpAnyH_done (by kernel_rfl) ?_ _
          go_wp2
          go_meet
          case rel => exact ⟨_, rfl, own_take hown7, (hb5.out.grown hg7 (by have := hs5.out; omega) (fun k hk => (hown5.lt k hk).1))⟩

      case rest =>
        obtain ⟨v2, rfl, hown, hbel⟩ := hcut
        have hSc : Hid (Sees wc M (some ⟨g2, 0, none⟩) g2 0 cap2) := hSV.out.kept hbel
        have hoH : Hid (wc.ownsRow V.heap.size 33 3 v2 (kn + 2) (rgCells (M.take kn ++ [⟨xlo, mid, xto⟩, ⟨mid + 1, xhi, xto⟩]))) := hown
        have hbH : Hid (Below V.heap.size V wc) := hbel
        have hszc := hbel.size
        clear hown hbel
        go_upto_region 12 with fail
        go_cut [12] from 73 to 78 (fun v wr => ∃ vv, vv = v ∧ wr.ownsRow V.heap.size 33 3 v (m + 1) (rgCells (M.take kn ++ [⟨xlo, mid, xto⟩, ⟨mid + 1, xhi, xto⟩] ++ M.drop (kn + 1))) ∧ Below V.heap.size V wr)
        case first =>
          have hks : (kn : Int) + 1 ≤ (m : Int) := by omega
          by_cases hcc : cap2 = kn + 1
          · have hmk : m = kn + 1 := by omega
            have HC : Hid (cap2 = kn + 1) := hcc
            have HK : Hid (m = kn + 1) := hmk
            subst hcc
            subst hmk
            go_wp2_with (at_builtin; refine wpList_append_own _ rfl _ _ 22 rfl V.heap.size 33 i0 (.agg #[.int .i32 0, .int .i32 0, .int .i64 0]) 3 16 Try.underlying22 hi hz0 hz1 hz2 rfl (by decide) _ _ _ rfl hoH.out _ _ _ (rgCells (M.drop (kn + 1))) rfl (by rw [rgCells_len, List.length_drop, ← HM.out] <;> simp) (nil_news (by rw [← HM.out]; omega)) (rgCells_one _) (by unfold maxLen; omega) (by omega) (by omega) ?_; intro v3 w9 hown9 hg9 _)
            go_meet
            case rel => exact ⟨_, rfl, own_more hown9 (by omega), hbH.out.grown hg9 hszc (fun k hk => (hoH.out.lt k hk).1)⟩
          · have hkc2 : (kn : Int) + 1 ≤ (cap2 : Int) := by omega
            go_wp2_with (at_builtin; refine wpList_append_own _ rfl _ _ 22 rfl V.heap.size 33 i0 (.agg #[.int .i32 0, .int .i32 0, .int .i64 0]) 3 16 Try.underlying22 hi hz0 hz1 hz2 rfl (by decide) _ _ _ rfl hoH.out ⟨g2, (kn + 1) * 3, none⟩ (m - (kn + 1)) (cap2 - (kn + 1)) (rgCells (M.drop (kn + 1))) rfl (by rw [rgCells_len, List.length_drop, ← HM.out]) (sees_dropNews hSc.out (kn + 1) (by rw [← HM.out]; omega)) (rgCells_one _) (by unfold maxLen; omega) (by omega) (by omega) ?_; intro v3 w9 hown9 hg9 _)
            go_meet
            case rel => exact ⟨_, rfl, own_more hown9 (by omega), hbH.out.grown hg9 hszc (fun k hk => (hoH.out.lt k hk).1)⟩
        case rest =>
          clear hoH hbH hSc hszc
          obtain ⟨v3, rfl, hown, hbel⟩ := hcut
          obtain ⟨Q, hQ⟩ : ∃ Q, Q = M.take kn ++ [⟨xlo, mid, xto⟩, ⟨mid + 1, xhi, xto⟩] ++ M.drop (kn + 1) := ⟨_, rfl⟩
          have hQM : Q = M.take kn ++ ⟨xlo, mid, xto⟩ :: ⟨mid + 1, xhi, xto⟩ :: M.drop (kn + 1) := by rw [hQ]; simp
          have hMM := parts hX.out
          have hQl : Q.length = m + 1 := by
            rw [hQM, List.length_append, List.length_cons, List.length_cons, List.length_take, List.length_drop, ← HM.out]
            omega
          have hQok : Pr.okFrom 50 (-1) Q = true := by
            rw [hQM]
            exact split_ok hmid1 hmid2 (by rw [← hMM]; exact HO.out)
          have hQof : ∀ y, Pr.of Q y = Pr.of M y := fun y => by
            rw [hQM, split_of hmid1 hmid2]
            exact congrArg (fun l => Pr.of l y) hMM.symm
          have hmt : Pr.of M (mid + 1) = xto := by
            have h := HO.out
            rw [hMM] at h ⊢
            exact split_at hmid1 hmid2 h
          rw [← hQ, ← hQl] at hown
          obtain ⟨a3, g3, cap3, rfl, hSQ, _, _⟩ := row_sees hown
          have hSc : Sees wc M (some ⟨g2, 0, none⟩) g2 0 cap2 := hSV.out.kept hbel
          have hOkM : Pr.ok 50 M = true := by unfold Pr.ok; rw [HO.out, Bool.and_true, decide_eq_true_eq, ← HM.out]; omega
          have hOkQ : Pr.ok 50 Q = true := by unfold Pr.ok; rw [hQok, Bool.and_true, decide_eq_true_eq, hQl]; omega
          have hm1 := make_ok M 50 (some ⟨g2, 0, none⟩) g2 0 cap2 wc hSc (by rw [← HM.out]; omega) hOkM
          rw [← HM.out] at hm1
          have hbH : Hid (Below V.heap.size V wc) := hbel
          have HQ : Hid (Q.length = m + 1) := hQl
          have HQO : Hid (Pr.ok 50 Q = true) := hOkQ
          have HQK : Hid (Pr.okFrom 50 (-1) Q = true) := hQok
          have HQF : Hid (∀ y, Pr.of Q y = Pr.of M y) := hQof
          have HSQ : Hid (Sees wc Q a3 g3 0 cap3) := hSQ
          have hszc := hbel.size
          rw [hQl]
          clear hown hbel hQ hQM hMM hQl hQok hQof hSQ hSc hOkM hOkQ
          go_wp2_with fail
          refine hm1.mono ?_
          rintro e w8 ⟨T, rfl, hT, hb8⟩
          have hm2 := make_ok Q 50 a3 g3 0 cap3 w8 (HSQ.out.kept hb8) (by rw [HQ.out]; omega) HQO.out
          rw [HQ.out] at hm2
          have hTH : Hid (Tab w8 wc.heap.size T M) := hT
          have hbH8 : Hid (Below V.heap.size V w8) := hbH.out.trans (hb8.mono hszc)
          clear hm1 hT hb8
          go_wp2_with fail
          refine hm2.mono ?_
          rintro e w9 ⟨U, rfl, hU, hb9⟩
          have hT9 : Hid (Tab w9 wc.heap.size T M) := hTH.out.kept hb9
          have hU9 : Hid (Tab w9 w8.heap.size U Q) := hU
          have hbH9 : Hid (Below V.heap.size V w9) := hbH8.out.trans (hb9.mono hbH8.out.size)
          have k2 : w9.cell? ⟨G, 2, none⟩ = some (.int .i64 xto) := (hbH9.out.cell (p := ⟨G, 2, none⟩) hGV.out).trans hx2.out
          obtain ⟨BM, hBM⟩ : ∃ BM, Pr.Bs M BM := by obtain ⟨R, v, B, _, _, hinv, _⟩ := hT9.out; exact ⟨B, inv_end hinv⟩
          have HBM : Hid (Pr.Bs M BM) := hBM
          have hoT : Hid (∀ (y : Int) (n : Nat), -2147483648 ≤ y → y ≤ 2147483647 → Calls Try.prog 14 #[.pointer (some ⟨T, 0, none⟩), .int .i32 y] (w9.drewN n) fun e w' => e = .returned (.int .i64 (Pr.of M y)) ∧ w' = w9.drewN n) := fun y n h1 h2 => of_any 50 M y _ T _ (tabN hT9.out n) HO.out h1 h2
          have hoU : Hid (∀ (y : Int) (n : Nat), -2147483648 ≤ y → y ≤ 2147483647 → Calls Try.prog 14 #[.pointer (some ⟨U, 0, none⟩), .int .i32 y] (w9.drewN n) fun e w' => e = .returned (.int .i64 (Pr.of M y)) ∧ w' = w9.drewN n) := fun y n h1 h2 => by
            have h := of_any 50 Q y _ U _ (tabN hU9.out n) HQK.out h1 h2
            rw [HQF.out y] at h
            exact h
          have hbT : Hid (∀ n : Nat, Calls Try.prog 19 #[.pointer (some ⟨T, 0, none⟩)] (w9.drewN n) fun e w' => e = .returned (.int .i64 ((BM.length : Int) + 1)) ∧ w' = w9.drewN n) := fun n => (blocks_any M _ T _ (tabN hT9.out n)).mono (by
            rintro e w' ⟨B, hB, rfl, _, rfl⟩
            rw [Pr.bs_length hB HBM.out (fun _ _ => rfl)]
            exact ⟨rfl, rfl⟩)
          have hbU : Hid (∀ n : Nat, Calls Try.prog 19 #[.pointer (some ⟨U, 0, none⟩)] (w9.drewN n) fun e w' => e = .returned (.int .i64 ((BM.length : Int) + 1)) ∧ w' = w9.drewN n) := fun n => (blocks_any Q _ U _ (tabN hU9.out n)).mono (by
            rintro e w' ⟨B, hB, rfl, _, rfl⟩
            rw [Pr.bs_length hB HBM.out (fun i _ => by
              apply List.map_congr_left
              intro j _
              exact HQF.out _)]
            exact ⟨rfl, rfl⟩)
          have hr0 := HR.out.1
          have hr1 := HR.out.2
          clear hm2 hU hb9 hBM
          go_wp2_with fail
          go_quiet (first | (go_at_call_of 14 (Value.pointer (some ⟨T, 0, none⟩)); refine Calls.quiet_of_same (hoT.out _ _ (by omega) (by omega))) | (go_at_call_of 14 (Value.pointer (some ⟨U, 0, none⟩)); refine Calls.quiet_of_same (hoU.out _ _ (by omega) (by omega))) | (go_at_call_of 19 (Value.pointer (some ⟨T, 0, none⟩)); refine Calls.quiet_of_same (hbT.out _)) | (go_at_call_of 19 (Value.pointer (some ⟨U, 0, none⟩)); refine Calls.quiet_of_same (hbU.out _)))
          go_wp2
          go_ret
          exact ⟨rfl, below_drewN (hBV.out.trans (hbH9.out.mono hBV.out.size)) _⟩
theorem contract (H : Type) (enc : TypeId × Value → H) (W : World) (base : Nat) (args : Array Value) (ds gs : List (DataW H)) (before : List MemPlace)
    (hval : ∀ (j : Nat) t v, Try.f7.params[j]? = some t → args[j]? = some v → Value.okWide Try.prog W .any base t v)
    (hW : DataW.Whole enc Try.prog Try.f7.params.toList Rows.propSplitsSpec.vars false W args.toList ds gs before) :
    Calls Try.prog 7 args W fun e W' => ∃ v, e = .returned v ∧ Rows.propSplitsSpec.post enc Try.prog Try.f7 false true false false W args v W' := by
  have hW' := hW
  obtain ⟨p, q, hA0, hV, rfl, hfz, hnd⟩ := hW
  have hA : DataW.TrodAll enc Try.prog W 0 (fun _ => true) true Try.f7.params.toList args.toList ds p := hA0
  rw [Try.params7] at hA hval
  obtain ⟨v0, vs0, d0, ds0, p0, q0, hargs, rfl, rfl, h0, r0⟩ := trodAll_cons hA
  obtain ⟨v1, vs1, d1, ds1, p1, q1, rfl, rfl, rfl, h1, r1⟩ := trodAll_cons r0
  obtain ⟨v2, vs2, d2, ds2, p2, q2, rfl, rfl, rfl, h2, r2⟩ := trodAll_cons r1
  obtain ⟨v3, vs3, d3, ds3, p3, q3, rfl, rfl, rfl, h3, r3⟩ := trodAll_cons r2
  obtain ⟨rfl, rfl, rfl⟩ := trodAll_nil r3
  obtain rfl : args = #[v0, v1, v2, v3] := by cases args; simp_all
  obtain ⟨rfl, rfl⟩ := trodVars_none hV
  obtain ⟨a0, len0, cap0, rfl⟩ := okWide_slice Try.underlying22 (hval 0 22 v0 rfl rfl)
  have k0 := h0
  have lt0 : ∀ x ∈ p0, x.block < W.heap.size := by obtain ⟨m, hm⟩ := k0; exact DataW.trod_lt m _ _ _ hm
  obtain ⟨L0, b0, off0, rfl, hS0, hF0, hmax0, hnone0⟩ := ranges_view h0
  obtain ⟨a1, rfl, rfl, rfl, w1⟩ := open_int Try.underlying3 (hval 1 3 v1 rfl rfl) h1
  obtain ⟨a2, rfl, rfl, rfl, w2⟩ := open_int Try.underlying3 (hval 2 3 v2 rfl rfl) h2
  obtain ⟨a3, rfl, rfl, rfl, w3⟩ := open_int Try.underlying21 (hval 3 21 v3 rfl rfl) h3
  clear hA0
  refine (walk L0 a1 a2 a3 a0 b0 off0 cap0 W hS0 hF0 (wf_i32 w3) (wf_i64 w2).1 (wf_i64 w2).2).mono fun e W' ⟨he, bel⟩ => ?_
  subst he
  exact ⟨_, rfl, _, _, _, [], _, [], hW', trodAll_mk1 (shut_bool Try.underlying4 _), (trodAll_cons_mk (Below.trod laidOut (by kernel_rfl) (of_decide_eq_true (by kernel_rfl)) k0 bel lt0) (trodAll_cons_mk (shut_int Try.underlying3 w1) (trodAll_cons_mk (shut_int Try.underlying3 w2) (trodAll_cons_mk (shut_int Try.underlying21 w3) trodAll_mk0)))), rfl, bel.frame _, fun h => by cases h⟩

set_option maxRecDepth 100000 in
theorem lifted (os : Os) (started : os.Started) (H : Type) (enc : TypeId × Value → H) :
    ReturnsInHanded {} Try.checked os 7 .any (Rows.propSplitsSpec.pre6 enc Try.prog Try.f7 Rows.propSplitsRow.domain false) (Rows.propSplitsSpec.post enc Try.prog Try.f7 false true false false) := by
  refine returnsInHanded_of_change (C := Try.checked) own started (by kernel_rfl) Try.func7
    (ChangeSpec.witness6 (enc := enc) (C := Try.checked) false ⟨#[], #[.slice none 0 0, .int .i64 0, .int .i64 0, .int .i32 0], []⟩ 8 (by kernel_rfl) (by kernel_rfl) (by kernel_rfl) (by kernel_rfl)) ?_
  intro W base args ds gs before hval hW _ _
  exact contract H enc W base args ds gs before hval hW

theorem over : Rows.propSplitsRow.holds Try.pinned (OpenSpec.ofChange Rows.propSplitsSpec) :=
  OpenClaim.holds_of_wide 7 Try.f7 rfl rfl rfl rfl rfl rfl rfl ⟨rfl, rfl, rfl, rfl, rfl⟩ rfl rfl rfl rfl rfl (by kernel_rfl) Try.func7 (by kernel_rfl)
    (of_decide_eq_true (by kernel_rfl)) (by unfold Func.isWrapper; first | (rw [if_pos (by decide +kernel)]; kernel_rfl) | (rw [if_neg (by decide +kernel)]; exact ⟨rfl, rfl⟩))
    (fun os started H enc _ => lifted os started H enc)
end Go.Proofs.Ytagkdboobfkmmaa.propSplits
namespace Go.Proofs.Ytagkdboobfkmmaa
/-- THE STATEMENT. -/
theorem propSplits_holds : Rows.PropSplitsSaid := propSplits.over
#print axioms propSplits_holds
end Go.Proofs.Ytagkdboobfkmmaa
