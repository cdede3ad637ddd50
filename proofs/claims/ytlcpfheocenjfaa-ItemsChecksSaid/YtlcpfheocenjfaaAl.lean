/-
  The reference's All, in plain words: signs one behind the other.
-/
import Derived.Test.YtlcpfheocenjfaaCe3
import Derived.Test.YtlcpfheocenjfaaSAll
namespace Go.Proofs.Ytlcpfheocenjfaa
open Go.RowKit Go.Maps
set_option linter.unusedVariables false
set_option linter.unusedSimpArgs false
/-- signs one behind the other, from a place up to another one. -/
def Row : List Sn → Nat → Nat → Prop
  | [], p, N => p = N
  | s :: S, p, N => s.pl = p ∧ 1 ≤ s.len ∧ Row S (p + s.len) N
def sgn (t : Nat × Nat × Nat) : Sn := ⟨(t.1 : Int), t.2.1, t.2.2⟩
theorem sgC_snC (l : List (Nat × Nat × Nat)) : sgCells l = snC (l.map sgn) := by
  unfold sgCells snC
  rw [List.flatMap_map]
  rfl
theorem num_lt (m : Nat) (y : Nat → Nat) (h : ∀ j, y j < 256) : Sg.num m y ≤ 2147483647 := by
  have h0 := h 0
  unfold Sg.num Sg.val
  (repeat' split) <;> omega
theorem rest_row (n : Nat) (x : Nat → Nat) (hx : ∀ j, x j < 256) : ∀ f k, n - k ≤ f → k ≤ n → Row ((Sg.rest n x k).map sgn) k n ∧ ∀ s ∈ (Sg.rest n x k).map sgn, -2147483648 ≤ s.r ∧ s.r ≤ 2147483647 ∧ s.pl ≤ n ∧ s.len ≤ 4 := by
  intro f
  induction f with
  | zero =>
    intro k h hk
    rw [Sg.rest_end _ _ _ (by omega)]
    exact ⟨by show k = n; omega, fun s hs => by simp at hs⟩
  | succ f ih =>
    intro k h hk
    by_cases hlt : k < n
    · rw [Sg.rest_step _ _ _ hlt]
      have hp := Sg.cnt_pos (n - k) (fun j => x (k + j))
      have h4 := Sg.cnt_le4 (n - k) (fun j => x (k + j))
      have hl := Sg.cnt_le (n - k) (fun j => x (k + j)) (by omega)
      have hn := num_lt (n - k) (fun j => x (k + j)) (fun j => hx _)
      obtain ⟨i1, i2⟩ := ih (k + Sg.cnt (n - k) (fun j => x (k + j))) (by omega) (by omega)
      refine ⟨⟨rfl, hp, i1⟩, fun s hs => ?_⟩
      rw [List.map_cons] at hs
      rcases List.mem_cons.1 hs with rfl | hs
      · exact ⟨by show (-2147483648 : Int) ≤ (Sg.num _ _ : Nat); omega, by show ((Sg.num _ _ : Nat) : Int) ≤ 2147483647; omega, hk, h4⟩
      · exact i2 s hs
    · rw [Sg.rest_end _ _ _ (by omega)]
      exact ⟨by show k = n; omega, fun s hs => by simp at hs⟩
def alP (N : Nat) (w : World) (e : Ending) (w' : World) : Prop := ∃ (S : List Sn) (a : Option Addr) (c : Nat), e = .returned (.slice a S.length c) ∧ w'.ownsRow w.heap.size 50 3 (.slice a S.length c) S.length (snC S) ∧ Fits S ∧ Row S 0 N ∧ S.length ≤ N ∧ Only (fun _ => False) w w'
theorem all_signs (D : List Nat) (a : Option Addr) (c : Nat) (w : World) (hV : Vw w a (u8s D)) (hB : ∀ x ∈ D, x < 256) (hn : D.length ≤ 100000) (hc : D.length ≤ c) : Calls Try.prog 17 #[.slice a D.length c] w (alP D.length w) := by
  have hx : ∀ j, D.getD j 0 < 256 := fun j => by
    rw [List.getD_eq_getElem?_getD]
    cases h : D[j]? with
    | none => exact Nat.zero_lt_succ 255
    | some y => exact hB y (List.mem_of_getElem? h)
  have key : ∀ b off, (0 < D.length → a = some ⟨b, off, none⟩) → (0 < D.length → b < w.heap.size) → (∀ j, j < D.length → w.cell? ⟨b, off + j, none⟩ = some (.int .u8 (D.getD j 0 : Nat))) → Calls Try.prog 17 #[.slice a D.length c] w (alP D.length w) := by
    intro b off h1 h2 h3
    refine (refAll_any D.length (fun j => D.getD j 0) a b off c w hc (by omega) h1 h2 hx h3).mono ?_
    rintro e w' ⟨v, rfl, hown, hb⟩
    obtain ⟨r1, r2⟩ := rest_row D.length (fun j => D.getD j 0) hx D.length 0 (by omega) (Nat.zero_le _)
    rw [sgC_snC] at hown
    obtain ⟨a', c', rfl⟩ := own_form hown
    have hl := Sg.rest_len D.length (fun j => D.getD j 0) D.length 0 (by omega)
    refine ⟨(Sg.all D.length (fun j => D.getD j 0)).map sgn, a', c', by rw [List.length_map], by rw [List.length_map]; exact hown, fun s hs => ?_, r1, by rw [List.length_map]; exact hl, ⟨hb.os, hb.tape, hb.output, hb.size, fun g hg _ => hb.block g hg⟩⟩
    obtain ⟨q1, q2, q3, q4⟩ := r2 s hs
    exact ⟨q1, q2, by omega, q4⟩
  by_cases h0 : 0 < D.length
  · obtain ⟨b, off, rfl, hb, hc'⟩ := hV.cells (by rw [u8s_len]; exact h0)
    refine key b off (fun _ => rfl) (fun _ => hb) (fun j hj => ?_)
    have hj2 : D[j]? = some (D[j]) := List.getElem?_eq_getElem hj
    rw [hc' j _ (u8s_at hj2), List.getD_eq_getElem?_getD, hj2]
    rfl
  · exact key 0 0 (fun h => absurd h h0) (fun h => absurd h h0) (fun j hj => by omega)
end Go.Proofs.Ytlcpfheocenjfaa
