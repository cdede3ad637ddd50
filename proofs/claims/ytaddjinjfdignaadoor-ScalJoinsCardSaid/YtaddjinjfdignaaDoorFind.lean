/-
  What scal.Find returns of a text's signs: the place of the first one that ends behind a byte; their number, if none does.
-/
import Derived.Test.YtaddjinjfdignaaDoorLists
namespace Go.Proofs.YtaddjinjfdignaaDoor
open Go.RowKit

set_option maxRecDepth 100000 in
set_option maxHeartbeats 1000000 in
theorem find1_any (g cap n b1 b2 h A L : Nat) (k : Int) (w : World) (hh : h < n)
    (hs : w.cell? ⟨b1, 0, none⟩ = some (.slice (some ⟨g, 0, none⟩) n cap)) (hk : w.cell? ⟨b2, 0, none⟩ = some (.int .i64 k))
    (hA : w.cell? ⟨g, h * 3 + 1, none⟩ = some (.int .i64 A)) (hL : w.cell? ⟨g, h * 3 + 2, none⟩ = some (.int .i64 L)) (hb : A + L ≤ 1000000) :
    Calls Tryd.prog 26 #[.int .i64 h, .pointer (some ⟨b1, 0, none⟩), .pointer (some ⟨b2, 0, none⟩)] w fun e w' => e = .returned (.bool (decide (k < (A : Int) + L))) ∧ ∃ q, w' = w.drewN q := by
  have hh' : (h : Int) < (n : Int) := by omega
  go_enter Tryd.func26, Tryd.ntmps26
  go_wp2_with fail
  go_quiet (fail)
  go_wp2
  go_ret
  exact ⟨rfl, _, rfl⟩

/-- the signs ahead of a place end at or ahead of a byte. -/
def EndsLe (l : List (Nat × Nat × Nat)) (k : Int) (i : Nat) : Prop := ∀ (t : Nat) (s : Nat × Nat × Nat), t < i → l[t]? = some s → ((s.2.1 + s.2.2 : Nat) : Int) ≤ k
/-- the signs from a place on end behind a byte. -/
def EndsGt (l : List (Nat × Nat × Nat)) (k : Int) (j : Nat) : Prop := ∀ (t : Nat) (s : Nat × Nat × Nat), j ≤ t → l[t]? = some s → k < ((s.2.1 + s.2.2 : Nat) : Int)
def EndsSmall (l : List (Nat × Nat × Nat)) : Prop := ∀ (t : Nat) (s : Nat × Nat × Nat), l[t]? = some s → s.2.1 + s.2.2 ≤ 1000000
def EndsUp (l : List (Nat × Nat × Nat)) : Prop := ∀ (t t' : Nat) (s s' : Nat × Nat × Nat), t ≤ t' → l[t]? = some s → l[t']? = some s' → s.2.1 + s.2.2 ≤ s'.2.1 + s'.2.2
theorem ends_le {l : List (Nat × Nat × Nat)} {k : Int} {h : Nat} {s : Nat × Nat × Nat} (hm : EndsUp l) (hs : l[h]? = some s) (hk : ((s.2.1 + s.2.2 : Nat) : Int) ≤ k) : EndsLe l k (h + 1) := by
  intro t s' ht e
  have := hm t h s' s (by omega) e hs
  omega
theorem ends_gt {l : List (Nat × Nat × Nat)} {k : Int} {h : Nat} {s : Nat × Nat × Nat} (hm : EndsUp l) (hs : l[h]? = some s) (hk : k < ((s.2.1 + s.2.2 : Nat) : Int)) : EndsGt l k h := by
  intro t s' ht e
  have := hm h t s s' (by omega) hs e
  omega

set_option maxRecDepth 100000 in
set_option maxHeartbeats 1000000 in
theorem search_any (l : List (Nat × Nat × Nat)) (a : Option Addr) (g cap n b1 b2 : Nat) (k : Int) (w : World) (hn : n ≤ 1000000) (hl : l.length = n) (ha : 0 < n → a = some ⟨g, 0, none⟩)
    (hs : w.cell? ⟨b1, 0, none⟩ = some (.slice a n cap)) (hk : w.cell? ⟨b2, 0, none⟩ = some (.int .i64 k))
    (hc : ∀ j, j < n * 3 → w.cell? ⟨g, j, none⟩ = (sgCells l)[j]?) (hE : EndsSmall l) (hm : EndsUp l) :
    Calls Tryd.prog 25 #[.int .i64 n, .func (Fn.func 26) #[] #[.pointer (some ⟨b1, 0, none⟩), .pointer (some ⟨b2, 0, none⟩)]] w fun e w' => ∃ r : Nat, e = .returned (.int .i64 r) ∧ r ≤ n ∧ EndsLe l k r ∧ EndsGt l k r ∧ ∃ q, w' = w.drewN q := by
  have hcH : Hid (∀ j, j < n * 3 → w.cell? ⟨g, j, none⟩ = (sgCells l)[j]?) := hc
  have hEH : Hid (EndsSmall l) := hE
  have hmH : Hid (EndsUp l) := hm
  have haH : Hid (0 < n → a = some ⟨g, 0, none⟩) := ha
  have hlH : Hid (l.length = n) := hl
  have hsH : Hid (w.cell? ⟨b1, 0, none⟩ = some (.slice a n cap)) := hs
  have hkH : Hid (w.cell? ⟨b2, 0, none⟩ = some (.int .i64 k)) := hk
  clear hc hE hm ha hl hs hk
  go_enter Tryd.func25, Tryd.ntmps25
  go_wp2_with fail
  go_loopw [5, 6] (fun vi vj wr => ∃ i j : Nat, i ≤ j ∧ j ≤ n ∧ vi = .int .i64 i ∧ vj = .int .i64 j ∧ EndsLe l k i ∧ EndsGt l k j ∧ ∃ q, wr = w.drewN q) (fun vi vj _ => (intOf vj - intOf vi).toNat)
  case atStart =>
    refine ⟨0, n, by omega, by omega, rfl, rfl, ?_, ?_, 0, rfl⟩
    · intro t s h e; omega
    · intro t s h e
      rw [List.getElem?_eq_none (by have := hlH.out; omega)] at e
      cases e
  case round =>
    obtain ⟨i, j, hij, hjn, rfl, rfl, h1, h2, q, rfl⟩ := hrel
    have h1H : Hid (EndsLe l k i) := h1
    have h2H : Hid (EndsGt l k j) := h2
    clear h1 h2
    by_cases hlt : i < j
    · obtain ⟨h, hh, hh1, hh2⟩ : ∃ h : Nat, ((i : Int) + (j : Int)) / 2 = (h : Int) ∧ i ≤ h ∧ h < j := ⟨(i + j) / 2, by omega, by omega, by omega⟩
      obtain ⟨s, hs⟩ : ∃ s, l[h]? = some s := ⟨l[h]'(by have := hlH.out; omega), List.getElem?_eq_getElem (by have := hlH.out; omega)⟩
      have qq := sgCells_at l h s hs
      have hsE := hEH.out h s hs
      obtain ⟨R, A, L⟩ := s
      have hsX : Hid (l[h]? = some (R, A, L)) := hs
      have hA : Hid (w.cell? ⟨g, h * 3 + 1, none⟩ = some (.int .i64 A)) := (hcH.out _ (by omega)).trans qq.2.1
      have hL : Hid (w.cell? ⟨g, h * 3 + 2, none⟩ = some (.int .i64 L)) := (hcH.out _ (by omega)).trans qq.2.2
      have hhH : Hid (((i : Int) + (j : Int)) / 2 = (h : Int)) := hh
      clear qq hs hh
      obtain rfl := haH.out (by omega)
      simp only at hsE
      by_cases hp : k < (A : Int) + L
      · have hp' : decide (k < (A : Int) + L) = true := decide_eq_true hp
        go_wp2_with fail
        rw [hhH.out]
        refine (find1_any g cap n b1 b2 h A L k (w.drewN q) (by omega) hsH.out hkH.out hA.out hL.out hsE).mono ?_
        rintro e w' ⟨rfl, q', rfl⟩
        go_wp2
        go_roundw
        case rel => exact ⟨i, h, by omega, by omega, rfl, rfl, h1H.out, ends_gt hmH.out hsX.out (by simp only; omega), q + q', by simp⟩
        case measure => simp [intOf]; omega
      · have hp' : decide (k < (A : Int) + L) = false := decide_eq_false hp
        go_wp2_with fail
        rw [hhH.out]
        refine (find1_any g cap n b1 b2 h A L k (w.drewN q) (by omega) hsH.out hkH.out hA.out hL.out hsE).mono ?_
        rintro e w' ⟨rfl, q', rfl⟩
        go_wp2
        go_roundw
        case rel => exact ⟨h + 1, j, by omega, by omega, by go_num, rfl, ends_le hmH.out hsX.out (by simp only; omega), h2H.out, q + q', by simp⟩
        case measure => simp [intOf]; omega
    · have hij' : Hid (i = j) := (by omega : i = j)
      go_wp2
      go_ret
      exact ⟨i, rfl, by omega, h1H.out, by rw [hij'.out]; exact h2H.out, q, rfl⟩

theorem rest_ends (n : Nat) (x : Nat → Nat) : ∀ f p, n - p ≤ f → ∀ (t : Nat) (s : Nat × Nat × Nat), (Sg.rest n x p)[t]? = some s → p < s.2.1 + s.2.2 ∧ s.2.1 + s.2.2 ≤ n := by
  intro f
  induction f with
  | zero => intro p h t s e; rw [Sg.rest_end _ _ _ (by omega)] at e; simp at e
  | succ f ih =>
    intro p h t s e
    by_cases hp : p < n
    · rw [Sg.rest_step _ _ _ hp] at e
      have h1 := Sg.cnt_pos (n - p) (fun j => x (p + j))
      have h2 := Sg.cnt_le (n - p) (fun j => x (p + j)) (by omega)
      cases t with
      | zero => simp at e; subst e; simp only; omega
      | succ t =>
        have := ih (p + Sg.cnt (n - p) (fun j => x (p + j))) (by omega) t s (by simpa using e)
        omega
    · rw [Sg.rest_end _ _ _ (by omega)] at e; simp at e
theorem rest_up (n : Nat) (x : Nat → Nat) : ∀ f p, n - p ≤ f → EndsUp (Sg.rest n x p) := by
  intro f
  induction f with
  | zero => intro p h t t' s s' _ e; rw [Sg.rest_end _ _ _ (by omega)] at e; simp at e
  | succ f ih =>
    intro p h t t' s s' htt e e'
    by_cases hp : p < n
    · have h1 := Sg.cnt_pos (n - p) (fun j => x (p + j))
      have h2 := Sg.cnt_le (n - p) (fun j => x (p + j)) (by omega)
      have hr := rest_ends n x n (p + Sg.cnt (n - p) (fun j => x (p + j))) (by omega)
      have hu := ih (p + Sg.cnt (n - p) (fun j => x (p + j))) (by omega)
      rw [Sg.rest_step _ _ _ hp] at e e'
      cases t with
      | zero =>
        cases t' with
        | zero => rw [e] at e'; cases e'; exact Nat.le_refl _
        | succ t' =>
          have := hr t' s' (by simpa using e')
          simp at e; subst e; simp only; omega
      | succ t =>
        cases t' with
        | zero => omega
        | succ t' => exact hu t t' s s' (by omega) (by simpa using e) (by simpa using e')
    · rw [Sg.rest_end _ _ _ (by omega)] at e; simp at e
theorem all_small (n : Nat) (x : Nat → Nat) (hn : n ≤ 1000000) : EndsSmall (Sg.all n x) := fun t s e => Nat.le_trans (rest_ends n x n 0 (by omega) t s e).2 hn
theorem all_up (n : Nat) (x : Nat → Nat) : EndsUp (Sg.all n x) := rest_up n x n 0 (by omega)
theorem ends_one {l : List (Nat × Nat × Nat)} {k : Int} {r t : Nat} (hr : r ≤ l.length) (ht : t ≤ l.length) (h1 : EndsLe l k r) (h2 : EndsGt l k r) (h3 : EndsLe l k t) (h4 : EndsGt l k t) : r = t := by
  rcases Nat.lt_trichotomy r t with h | h | h
  · have e := List.getElem?_eq_getElem (l := l) (i := r) (by omega)
    have a := h3 r _ h e
    have b := h2 r _ (Nat.le_refl _) e
    omega
  · exact h
  · have e := List.getElem?_eq_getElem (l := l) (i := t) (by omega)
    have a := h1 t _ h e
    have b := h4 t _ (Nat.le_refl _) e
    omega

set_option maxRecDepth 100000 in
set_option maxHeartbeats 1000000 in
theorem find_any (l : List (Nat × Nat × Nat)) (a : Option Addr) (g cap n : Nat) (k : Int) (w : World) (hn : n ≤ 1000000) (hl : l.length = n) (ha : 0 < n → a = some ⟨g, 0, none⟩) (hg : 0 < n → g < w.heap.size)
    (hc : ∀ j, j < n * 3 → w.cell? ⟨g, j, none⟩ = (sgCells l)[j]?) (hE : EndsSmall l) (hm : EndsUp l) :
    Calls Tryd.prog 18 #[.slice a n cap, .int .i64 k] w fun e w' => ∃ r : Nat, e = .returned (.int .i64 r) ∧ r ≤ n ∧ EndsLe l k r ∧ EndsGt l k r ∧ Below w.heap.size w w' := by
  have hcH : Hid (∀ o o' j, j < n * 3 → ((w.alloc o).alloc o').cell? ⟨g, j, none⟩ = (sgCells l)[j]?) := fun o o' j hj => (World.cell?_alloc_past o' g _ (by simp; have := hg (by omega); omega)).trans ((World.cell?_alloc_past o g _ (hg (by omega))).trans (hc j hj))
  have hEH : Hid (EndsSmall l) := hE
  have hmH : Hid (EndsUp l) := hm
  have haH : Hid (0 < n → a = some ⟨g, 0, none⟩) := ha
  have hlH : Hid (l.length = n) := hl
  clear hc hE hm ha hg hl
  go_enter Tryd.func18, Tryd.ntmps18
  go_wp2_with fail
  refine (search_any l a g cap n w.heap.size (w.heap.size + 1) k _ hn hlH.out haH.out (by simp) (by simp) (hcH.out _ _) hEH.out hmH.out).mono ?_
  rintro e w1 ⟨r, rfl, hr, h1, h2, q, rfl⟩
  have h1H : Hid (EndsLe l k r) := h1
  have h2H : Hid (EndsGt l k r) := h2
  clear h1 h2
  go_wp2
  go_ret
  exact ⟨r, rfl, hr, h1H.out, h2H.out, below_drewN (((Below.refl _ _).alloc (Nat.le_refl _) _).alloc (by simp) _) _⟩
end Go.Proofs.YtaddjinjfdignaaDoor
