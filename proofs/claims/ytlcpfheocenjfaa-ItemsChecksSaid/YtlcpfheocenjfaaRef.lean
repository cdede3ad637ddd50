/-
  What the reference's Of and Table return; nothing in memory turns.
-/
import Derived.Test.YtlcpfheocenjfaaCheck
import Derived.Deep.QuietTactic
import Derived.BigQuiet
namespace Go.Proofs.Ytlcpfheocenjfaa
open Go.RowKit

theorem of_here {L : List Rg} {k : Nat} {x : Rg} {r : Int} (hd : Pr.of L r = Pr.of (L.drop k) r) (hx : L[k]? = some x) (h : x.lo ≤ r ∧ r ≤ x.hi) : x.to = Pr.of L r := by
  rw [hd, drop_at hx]
  show x.to = if x.lo ≤ r ∧ r ≤ x.hi then x.to else _
  rw [if_pos h]
theorem of_next {L : List Rg} {k : Nat} {x : Rg} {r : Int} (hd : Pr.of L r = Pr.of (L.drop k) r) (hx : L[k]? = some x) (h : ¬ (x.lo ≤ r ∧ r ≤ x.hi)) : Pr.of L r = Pr.of (L.drop (k + 1)) r := by
  rw [hd, drop_at hx]
  show (if x.lo ≤ r ∧ r ≤ x.hi then x.to else _) = _
  rw [if_neg h]
theorem of_none {L : List Rg} {k n : Nat} {r : Int} (hn : n = L.length) (hd : Pr.of L r = Pr.of (L.drop k) r) (hk : n ≤ k) : 0 = Pr.of L r := by
  rw [hd, List.drop_eq_nil_of_le (by omega)]
  rfl
theorem ret_i64 {a b : Int} (h : a = b) : Ending.returned (.int .i64 a) = .returned (.int .i64 b) := by rw [h]

set_option maxRecDepth 100000 in
set_option maxHeartbeats 2000000 in
theorem refOf_any (L : List Rg) (r : Int) (a : Option Addr) (b off cap : Nat) (w : World) (hS : Sees w L a b off cap) (hn : L.length ≤ 1000000) :
    Calls Try.prog 43 #[.slice a L.length cap, .int .i32 r] w fun e w' => e = .returned (.int .i64 (Pr.of L r)) ∧ Below w.heap.size w w' := by
  obtain ⟨n, hn'⟩ : ∃ n, n = L.length := ⟨_, rfl⟩
  rw [← hn'] at hn ⊢
  have HN : Hid (n = L.length) := hn'
  clear hn'
  go_enter Try.func43, Try.ntmps43
  go_wp2_with fail
  go_loopw [5] (fun i wr => ∃ (k : Nat), k ≤ n ∧ i = .int .i64 k ∧ Hid (Pr.of L r = Pr.of (L.drop k) r) ∧ Below w.heap.size w wr) (fun i _ => n - (intOf i).toNat)
  case atStart => exact ⟨0, Nat.zero_le _, rfl, rfl, Below.refl _ _⟩
  case round =>
    obtain ⟨k, hk, rfl, hdone, hbel⟩ := hrel
    by_cases hlt : k < n
    · obtain rfl := hS.adr (by rw [← HN.out]; omega)
      obtain ⟨x, hx⟩ : ∃ x, L[k]? = some x := ⟨L[k]'(by rw [← HN.out]; omega), List.getElem?_eq_getElem _⟩
      have hS' := hS.kept hbel
      have d0 := hS'.c0 k x hx
      have d1 := hS'.c1 k x hx
      have d2 := hS'.c2 k x hx
      obtain ⟨lo, hi, to⟩ := x
      simp only at d0 d1 d2
      have hX : Hid (L[k]? = some ⟨lo, hi, to⟩) := hx
      have hBH : Hid (Below w.heap.size w wr) := hbel
      clear hx hbel hS'
      go_wp2
      case roundEnd =>
        go_roundw
        case rel => exact ⟨k + 1, by omega, by go_num, of_next hdone.out hX.out (by show ¬ (lo ≤ r ∧ r ≤ hi); omega), hBH.out⟩
        case measure => simp [intOf]; omega
      case roundEnd =>
        go_roundw
        case rel => exact ⟨k + 1, by omega, by go_num, of_next hdone.out hX.out (by show ¬ (lo ≤ r ∧ r ≤ hi); omega), hBH.out⟩
        case measure => simp [intOf]; omega
      all_goals
        go_ret
        exact ⟨ret_i64 (of_here hdone.out hX.out (by show lo ≤ r ∧ r ≤ hi; omega)), hBH.out⟩
    · have hBH : Hid (Below w.heap.size w wr) := hbel
      clear hbel
      go_wp2
      go_ret
      exact ⟨ret_i64 (of_none HN.out hdone.out (by omega)), hBH.out⟩

end Go.Proofs.Ytlcpfheocenjfaa
