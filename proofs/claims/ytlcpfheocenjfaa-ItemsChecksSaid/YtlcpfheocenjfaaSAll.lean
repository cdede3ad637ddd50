
/-
  What scal.All and the reference's All return: a new list that holds the text's signs as the plain functions tell them; nothing that was there turns.
-/
import Derived.Test.YtlcpfheocenjfaaSRefOne
namespace Go.Proofs.Ytlcpfheocenjfaa
open Go.RowKit

theorem infoS29 : (Try.prog.info? 50).map (fun i => (i.zero, i.size, i.bytes)) = some (some (.agg #[.int .i32 0, .int .i64 0, .int .i64 0]), 3, 24) := by kernel_rfl
/-- signs as cells. -/
def sgCells (l : List (Nat × Nat × Nat)) : List Value := l.flatMap fun s => [.int .i32 (s.1 : Nat), .int .i64 (s.2.1 : Nat), .int .i64 (s.2.2 : Nat)]
theorem sgCells_append (l l' : List (Nat × Nat × Nat)) : sgCells (l ++ l') = sgCells l ++ sgCells l' := by unfold sgCells; rw [List.flatMap_append]
theorem ownsRow_belowS {w w' : World} {base : Nat} {e : TypeId} {size : Nat} {v : Value} {n : Nat} {xs : List Value} (h : w.ownsRow base e size v n xs) (hb : Below w.heap.size w w') : w'.ownsRow base e size v n xs := by
  obtain ⟨hl, h | ⟨g, cap, cur, hv, hg, hh, h1, h2, h3, h4⟩⟩ := h
  · exact ⟨hl, Or.inl h⟩
  · refine ⟨hl, Or.inr ⟨g, cap, cur, hv, hg, ?_, h1, h2, h3, h4⟩⟩
    rw [hb.block g ?_]
    · exact hh
    · by_cases hlt : g < w.heap.size
      · exact hlt
      · rw [Array.getElem?_eq_none (by omega)] at hh
        cases hh
set_option maxRecDepth 100000 in
set_option maxHeartbeats 2000000 in
theorem refAll_any (n : Nat) (x : Nat → Nat) (a : Option Addr) (b off cap : Nat) (w : World) (hcap : n ≤ cap) (hn : n ≤ 1000000) (ha : 0 < n → a = some ⟨b, off, none⟩)
    (hb : 0 < n → b < w.heap.size) (hx : ∀ j, x j < 256)
    (hc : ∀ j, j < n → w.cell? ⟨b, off + j, none⟩ = some (.int .u8 (x j : Nat))) :
    Calls Try.prog 17 #[.slice a n cap] w fun e w' => ∃ v, e = .returned v ∧ w'.ownsRow w.heap.size 50 3 v (Sg.all n x).length (sgCells (Sg.all n x)) ∧ Below w.heap.size w w' := by
  obtain ⟨i0, hi, hz0, hz1, hz2⟩ := info_parts infoS29
  have hcH : Hid (∀ j, j < n → w.cell? ⟨b, off + j, none⟩ = some (.int .u8 (x j : Nat))) := hc
  have hxH : Hid (∀ j, x j < 256) := hx
  have haH : Hid (0 < n → a = some ⟨b, off, none⟩) := ha
  have hbH : Hid (0 < n → b < w.heap.size) := hb
  clear hc hx ha hb
  go_enter Try.func17, Try.ntmps17
  go_wp2_with fail
  go_loopw [3, 4] (fun v i wr => ∃ (k : Nat) (done : List (Nat × Nat × Nat)) (l : Value), l = v ∧ k ≤ n ∧ i = .int .i64 k ∧ done ++ Sg.rest n x k = Sg.all n x ∧ wr.ownsRow w.heap.size 50 3 v done.length (sgCells done) ∧ Below w.heap.size w wr) (fun _ i _ => n - (intOf i).toNat)
  case atStart => exact ⟨0, [], _, rfl, by omega, rfl, rfl, World.ownsRow_nil _ _ _ _, Below.refl _ _⟩
  case round =>
    obtain ⟨k, done, v, rfl, hk, rfl, hdone, hown, hbel⟩ := hrel
    have hDH : Hid (done ++ Sg.rest n x k = Sg.all n x) := hdone
    clear hdone
    by_cases hlt : k < n
    · obtain rfl := haH.out (by omega)
      have hsz := hbel.size
      have hcap' : done.length ≤ n := by
        have h1 := congrArg List.length hDH.out
        have h2 := Sg.rest_len n x n 0 (by omega)
        rw [List.length_append] at h1
        unfold Sg.all at h1
        omega
      have hOH : Hid (wr.ownsRow w.heap.size 50 3 v done.length (sgCells done)) := hown
      have hBH : Hid (Below w.heap.size w wr) := hbel
      clear hown hbel
      go_wp2_with fail
      refine (refOne_in n x b off cap k wr hlt hcap (by omega) (Nat.lt_of_lt_of_le (hbH.out (by omega)) hsz) hxH.out (fun j hj => (hBH.out.cell (p := ⟨b, off + j, none⟩) (hbH.out (by omega))).trans (hcH.out j hj))).mono ?_
      rintro e w1 ⟨rfl, hb1⟩
      have hsz1 := hb1.size
      obtain ⟨R, hR⟩ : ∃ R, R = Sg.num (n - k) (fun j => x (k + j)) := ⟨_, rfl⟩
      obtain ⟨L, hL⟩ : ∃ L, L = Sg.cnt (n - k) (fun j => x (k + j)) := ⟨_, rfl⟩
      have hL1 : 1 ≤ L := by rw [hL]; exact Sg.cnt_pos _ _
      have hL2 : L ≤ n - k := by rw [hL]; exact Sg.cnt_le _ _ (by omega)
      rw [← hR, ← hL]
      have HR : Hid (R = Sg.num (n - k) (fun j => x (k + j))) := hR
      have HL : Hid (L = Sg.cnt (n - k) (fun j => x (k + j))) := hL
      clear hR hL
      have hown1 : w1.ownsRow w.heap.size 50 3 v done.length (sgCells done) := ownsRow_belowS hOH.out hb1
      have hB1 : Hid (Below w.heap.size w w1) := hBH.out.trans (hb1.mono hsz)
      have hvb : Hid (∀ g, v.ownBlock = some g → g < w1.heap.size) := fun g hg => (hown1.lt g hg).2
      clear hb1
      go_wp2_with (first | (at_builtin; refine wpList_append_own _ rfl _ _ 32 rfl w.heap.size 50 i0 (.agg #[.int .i32 0, .int .i64 0, .int .i64 0]) 3 24 Try.underlying32 hi hz0 hz1 hz2 rfl (by decide) _ _ _ rfl ((hown1.alloc _).alloc _) ⟨w1.heap.size + 1, 0, none⟩ 1 1 [.int .i32 R, .int .i64 k, .int .i64 L] rfl rfl ?c1 ?c2 ?c3 ?c4 ?c5 ?_))
      case c1 =>
        intro j u hj
        match j, hj with
        | 0, hj => simp at hj; subst hj; simp [Addr.add]
        | 1, hj => simp at hj; subst hj; simp [Addr.add]
        | 2, hj => simp at hj; subst hj; simp [Addr.add]
      case c2 => intro u hu; simp at hu; rcases hu with rfl | rfl | rfl <;> rfl
      case c3 => unfold maxLen; omega
      case c4 => omega
      case c5 => simp; omega
      intro v' w2 hown2 hg _
      have cL : w2.cell? ⟨w1.heap.size, 2, none⟩ = some (.int .i64 L) := hg.cell (a := ⟨w1.heap.size, 2, none⟩) (by simp) (fun e => absurd (hvb.out w1.heap.size e.symm) (Nat.lt_irrefl _))
      have hB2 : Hid (Below w.heap.size w w2) := ((hB1.out.alloc (by omega) _).alloc (by simp; omega) _).grown hg (by simp; omega) (fun g e => (hown1.lt g e).1)
      have hO2 : Hid (w2.ownsRow w.heap.size 50 3 v' (done ++ [(R, k, L)]).length (sgCells (done ++ [(R, k, L)]))) := (by rw [sgCells_append, List.length_append]; exact hown2 : w2.ownsRow w.heap.size 50 3 v' (done ++ [(R, k, L)]).length (sgCells (done ++ [(R, k, L)])))
      have hD2 : Hid ((done ++ [(R, k, L)]) ++ Sg.rest n x (k + L) = Sg.all n x) := (by rw [← hDH.out, Sg.rest_step n x k hlt, ← HR.out, ← HL.out]; simp : (done ++ [(R, k, L)]) ++ Sg.rest n x (k + L) = Sg.all n x)
      clear hown2 hg hown1
      go_wp2
      go_roundw
      case rel => exact ⟨k + L, done ++ [(R, k, L)], v', rfl, by omega, by go_num, hD2.out, hO2.out, hB2.out⟩
      case measure => simp [intOf]; omega
    · have hO : Hid (wr.ownsRow w.heap.size 50 3 v done.length (sgCells done)) := hown
      have hB : Hid (Below w.heap.size w wr) := hbel
      have hE : Hid (done = Sg.all n x) := (by have := hDH.out; rw [Sg.rest_end n x k (by omega), List.append_nil] at this; exact this : done = Sg.all n x)
      clear hown hbel
      go_wp2
      go_ret
      rw [← hE.out]
      exact ⟨v, rfl, hO.out, hB.out⟩

end Go.Proofs.Ytlcpfheocenjfaa
