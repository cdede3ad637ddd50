/-
  What the reference's Of and Table return; nothing in memory turns.
-/
import Derived.Test.YtagkdboobfkmmaaCheck
import Derived.Deep.QuietTactic
import Derived.BigQuiet
namespace Go.Proofs.Ytagkdboobfkmmaa
open Go.RowKit

theorem of_here {L : List Rg} {k : Nat} {x : Rg} {r : Int} (hd : Pr.of L r = Pr.of (L.drop k) r) (hx : L[k]? = some x) (h : x.lo ≤ r ∧ r ≤ x.hi) : x.to = Pr.of L r := by
  rw [hd, drop_at hx]
  show x.to = if x.lo ≤ r ∧ r ≤ x.hi then x.to else _
  rw [if_pos h]
theorem of_next {L : List Rg} {k : Nat} {x : Rg} {r : Int} (hd : Pr.of L r = Pr.of (L.drop k) r) (hx : L[k]? = some x) (h : ¬ (x.lo ≤ r ∧ r ≤ x.hi)) : Pr.of L r = Pr.of (L.drop (k + 1)) r := by
  rw [hd, drop_at hx]
  show (if x.lo ≤ r ∧ r ≤ x.hi then x.to else _) = _
  rw [if_neg h]
theorem of_none {L : List Rg} {k n : Nat} {r : Int} (hn : n = L.length) (hd : Pr.of L r = Pr.of (L.drop k) r) (hk : n ≤ k) : 0 = Pr.of L r := by
  rw [hd, List.drop_eq_nil_of_le (by omega)]
  rfl
theorem ret_i64 {a b : Int} (h : a = b) : Ending.returned (.int .i64 a) = .returned (.int .i64 b) := by rw [h]

set_option maxRecDepth 100000 in
set_option maxHeartbeats 2000000 in
theorem refOf_any (L : List Rg) (r : Int) (a : Option Addr) (b off cap : Nat) (w : World) (hS : Sees w L a b off cap) (hn : L.length ≤ 1000000) :
    Calls Try.prog 15 #[.slice a L.length cap, .int .i32 r] w fun e w' => e = .returned (.int .i64 (Pr.of L r)) ∧ Below w.heap.size w w' := by
  obtain ⟨n, hn'⟩ : ∃ n, n = L.length := ⟨_, rfl⟩
  rw [← hn'] at hn ⊢
  have HN : Hid (n = L.length) := hn'
  clear hn'
  go_enter Try.func15, Try.ntmps15
  go_wp2_with fail
  go_loopw [5] (fun i wr => ∃ (k : Nat), k ≤ n ∧ i = .int .i64 k ∧ Hid (Pr.of L r = Pr.of (L.drop k) r) ∧ Below w.heap.size w wr) (fun i _ => n - (intOf i).toNat)
  case atStart => exact ⟨0, Nat.zero_le _, rfl, rfl, Below.refl _ _⟩
  case round =>
    obtain ⟨k, hk, rfl, hdone, hbel⟩ := hrel
    by_cases hlt : k < n
    · obtain rfl := hS.adr (by rw [← HN.out]; omega)
      obtain ⟨x, hx⟩ : ∃ x, L[k]? = some x := ⟨L[k]'(by rw [← HN.out]; omega), List.getElem?_eq_getElem _⟩
      have hS' := hS.kept hbel
      have d0 := hS'.c0 k x hx
      have d1 := hS'.c1 k x hx
      have d2 := hS'.c2 k x hx
      obtain ⟨lo, hi, to⟩ := x
      simp only at d0 d1 d2
      have hX : Hid (L[k]? = some ⟨lo, hi, to⟩) := hx
      have hBH : Hid (Below w.heap.size w wr) := hbel
      clear hx hbel hS'
      go_wp2
      case roundEnd =>
        go_roundw
        case rel => exact ⟨k + 1, by omega, by go_num, of_next hdone.out hX.out (by show ¬ (lo ≤ r ∧ r ≤ hi); omega), hBH.out⟩
        case measure => simp [intOf]; omega
      case roundEnd =>
        go_roundw
        case rel => exact ⟨k + 1, by omega, by go_num, of_next hdone.out hX.out (by show ¬ (lo ≤ r ∧ r ≤ hi); omega), hBH.out⟩
        case measure => simp [intOf]; omega
      all_goals
        go_ret
        exact ⟨ret_i64 (of_here hdone.out hX.out (by show lo ≤ r ∧ r ≤ hi; omega)), hBH.out⟩
    · have hBH : Hid (Below w.heap.size w wr) := hbel
      clear hbel
      go_wp2
      go_ret
      exact ⟨ret_i64 (of_none HN.out hdone.out (by omega)), hBH.out⟩

set_option maxRecDepth 100000 in
set_option maxHeartbeats 2000000 in
theorem refTable_any (L : List Rg) (most : Int) (a : Option Addr) (b off cap : Nat) (w : World) (hS : Sees w L a b off cap) (hn : L.length ≤ 1000000) :
    Calls Try.prog 10 #[.slice a L.length cap, .int .i64 most] w fun e w' => e = .returned (.bool (Pr.ok most L)) ∧ Below w.heap.size w w' := by
  obtain ⟨n, hn'⟩ : ∃ n, n = L.length := ⟨_, rfl⟩
  rw [← hn'] at hn ⊢
  have HN : Hid (n = L.length) := hn'
  clear hn'
  by_cases hbig : 256 < n
  · have hbI : (256 : Int) < (n : Int) := by omega
    go_enter Try.func10, Try.ntmps10
    go_wp2
    go_ret
    exact ⟨ret_bool (big_ok HN.out hbig), Below.refl _ _⟩
  · go_enter Try.func10, Try.ntmps10
    go_wp2_with fail
    go_loopw [5] (fun i wr => ∃ (k : Nat) (ah : Int), k ≤ n ∧ i = .int .i64 k ∧ Hid (Pr.okFrom most (-1) L = Pr.okFrom most ah (L.drop k)) ∧ Hid (k = 0 → ah = -1) ∧ Hid (0 < k → ∃ y, L[k - 1]? = some y ∧ y.hi = ah) ∧ -1 ≤ ah ∧ Below w.heap.size w wr) (fun i _ => n - (intOf i).toNat)
    case atStart => exact ⟨0, -1, Nat.zero_le _, rfl, rfl, fun _ => rfl, fun h => absurd h (by omega), by omega, Below.refl _ _⟩
    case round =>
      obtain ⟨k, ah, hk, rfl, hdone, h0, h1, hah, hbel⟩ := hrel
      by_cases hlt : k < n
      · obtain rfl := hS.adr (by rw [← HN.out]; omega)
        obtain ⟨x, hx⟩ : ∃ x, L[k]? = some x := ⟨L[k]'(by rw [← HN.out]; omega), List.getElem?_eq_getElem _⟩
        have hS' := hS.kept hbel
        have d0 := hS'.c0 k x hx
        have d1 := hS'.c1 k x hx
        have d2 := hS'.c2 k x hx
        obtain ⟨lo, hi, to⟩ := x
        simp only at d0 d1 d2
        have hX : Hid (L[k]? = some ⟨lo, hi, to⟩) := hx
        have hBH : Hid (Below w.heap.size w wr) := hbel
        have hltI : (k : Int) < (n : Int) := by omega
        have hbI : (n : Int) ≤ 256 := by omega
        clear hx hbel hS'
        by_cases q0 : lo < 0
        · have t0 : decide (lo < 0) = true := by simp; omega
          have qH : Hid (lo < 0) := q0
          clear q0
          go_wp2_with fail
          go_quiet (fail)
          go_wp2
          go_ret
          refine ⟨ret_bool (bad_ok hdone.out hX.out ?_), below_drewN hBH.out _⟩
          intro hf
          have e0 := qH.out
          have e1 : ah < lo := hf.1
          have e2 : lo ≤ hi := hf.2.1
          have e3 : hi ≤ 1114111 := hf.2.2.1
          have e4 : 0 ≤ to := hf.2.2.2.1
          have e5 : to < most := hf.2.2.2.2.1
          have e6 : to ≤ 255 := hf.2.2.2.2.2
          omega
        have t0 : decide (lo < 0) = false := by simp; omega
        have p0 : Hid (¬ (lo < 0)) := q0
        clear q0
        by_cases q1 : hi < lo
        · have t1 : decide (hi < lo) = true := by simp; omega
          have qH : Hid (hi < lo) := q1
          clear q1
          go_wp2_with fail
          go_quiet (fail)
          go_wp2
          go_ret
          refine ⟨ret_bool (bad_ok hdone.out hX.out ?_), below_drewN hBH.out _⟩
          intro hf
          have e0 := qH.out
          have e1 : ah < lo := hf.1
          have e2 : lo ≤ hi := hf.2.1
          have e3 : hi ≤ 1114111 := hf.2.2.1
          have e4 : 0 ≤ to := hf.2.2.2.1
          have e5 : to < most := hf.2.2.2.2.1
          have e6 : to ≤ 255 := hf.2.2.2.2.2
          omega
        have t1 : decide (hi < lo) = false := by simp; omega
        have p1 : Hid (¬ (hi < lo)) := q1
        clear q1
        by_cases q2 : 1114111 < hi
        · have t2 : decide (1114111 < hi) = true := by simp; omega
          have qH : Hid (1114111 < hi) := q2
          clear q2
          go_wp2_with fail
          go_quiet (fail)
          go_wp2
          go_ret
          refine ⟨ret_bool (bad_ok hdone.out hX.out ?_), below_drewN hBH.out _⟩
          intro hf
          have e0 := qH.out
          have e1 : ah < lo := hf.1
          have e2 : lo ≤ hi := hf.2.1
          have e3 : hi ≤ 1114111 := hf.2.2.1
          have e4 : 0 ≤ to := hf.2.2.2.1
          have e5 : to < most := hf.2.2.2.2.1
          have e6 : to ≤ 255 := hf.2.2.2.2.2
          omega
        have t2 : decide (1114111 < hi) = false := by simp; omega
        have p2 : Hid (¬ (1114111 < hi)) := q2
        clear q2
        by_cases q3 : to < 0
        · have t3 : decide (to < 0) = true := by simp; omega
          have qH : Hid (to < 0) := q3
          clear q3
          go_wp2_with fail
          go_quiet (fail)
          go_wp2
          go_ret
          refine ⟨ret_bool (bad_ok hdone.out hX.out ?_), below_drewN hBH.out _⟩
          intro hf
          have e0 := qH.out
          have e1 : ah < lo := hf.1
          have e2 : lo ≤ hi := hf.2.1
          have e3 : hi ≤ 1114111 := hf.2.2.1
          have e4 : 0 ≤ to := hf.2.2.2.1
          have e5 : to < most := hf.2.2.2.2.1
          have e6 : to ≤ 255 := hf.2.2.2.2.2
          omega
        have t3 : decide (to < 0) = false := by simp; omega
        have p3 : Hid (¬ (to < 0)) := q3
        clear q3
        by_cases q4 : most ≤ to
        · have t4 : decide (most ≤ to) = true := by simp; omega
          have qH : Hid (most ≤ to) := q4
          clear q4
          go_wp2_with fail
          go_quiet (fail)
          go_wp2
          go_ret
          refine ⟨ret_bool (bad_ok hdone.out hX.out ?_), below_drewN hBH.out _⟩
          intro hf
          have e0 := qH.out
          have e1 : ah < lo := hf.1
          have e2 : lo ≤ hi := hf.2.1
          have e3 : hi ≤ 1114111 := hf.2.2.1
          have e4 : 0 ≤ to := hf.2.2.2.1
          have e5 : to < most := hf.2.2.2.2.1
          have e6 : to ≤ 255 := hf.2.2.2.2.2
          omega
        have t4 : decide (most ≤ to) = false := by simp; omega
        have p4 : Hid (¬ (most ≤ to)) := q4
        clear q4
        by_cases q5 : 255 < to
        · have t5 : decide (255 < to) = true := by simp; omega
          have qH : Hid (255 < to) := q5
          clear q5
          go_wp2_with fail
          go_quiet (fail)
          go_wp2
          go_ret
          refine ⟨ret_bool (bad_ok hdone.out hX.out ?_), below_drewN hBH.out _⟩
          intro hf
          have e0 := qH.out
          have e1 : ah < lo := hf.1
          have e2 : lo ≤ hi := hf.2.1
          have e3 : hi ≤ 1114111 := hf.2.2.1
          have e4 : 0 ≤ to := hf.2.2.2.1
          have e5 : to < most := hf.2.2.2.2.1
          have e6 : to ≤ 255 := hf.2.2.2.2.2
          omega
        have t5 : decide (255 < to) = false := by simp; omega
        have p5 : Hid (¬ (255 < to)) := q5
        clear q5
        by_cases hk0 : k = 0
        · have t7 : decide ((0 : Int) < (k : Int)) = false := by simp; omega
          have t8 : decide (0 < k) = false := by simp; omega
          have hk0H : Hid (k = 0) := hk0
          clear hk0
          go_wp2_with fail
          go_quiet (fail)
          go_wp2_with fail
          go_quiet (fail)
          go_wp2
          go_roundw
          case rel => exact ⟨k + 1, hi, by omega, by go_num, good_ok hdone.out hX.out ⟨by rw [h0.out hk0H.out]; show -1 < lo; have := p0.out; omega, by have := p1.out; show lo ≤ hi; omega, by have := p2.out; show hi ≤ 1114111; omega, by have := p3.out; show 0 ≤ to; omega, by have := p4.out; show to < most; omega, by have := p5.out; show to ≤ 255; omega⟩, fun h => absurd h (by omega), fun _ => ⟨_, hX.out, rfl⟩, by have := p0.out; have := p1.out; omega, below_drewN hBH.out _⟩
          case measure => simp [intOf]; omega
        · have t7 : decide ((0 : Int) < (k : Int)) = true := by simp; omega
          have t8 : decide (0 < k) = true := by simp; omega
          obtain ⟨y, hy, hyh⟩ := h1.out (by omega)
          have d3 : wr.cell? ⟨b, off + (k - 1) * 3 + 1, none⟩ = some (.int .i32 ah) := by rw [← hyh]; exact (hS.kept hBH.out).c1 (k - 1) y hy
          have hk1 : 1 ≤ k := by omega
          clear hy hyh hk0
          by_cases q6 : lo ≤ ah
          · have t6 : decide (lo ≤ ah) = true := by simp; omega
            have qH : Hid (lo ≤ ah) := q6
            clear q6
            go_wp2_with fail
            go_quiet (fail)
            go_wp2_with fail
            go_quiet (fail)
            go_wp2
            go_ret
            refine ⟨ret_bool (bad_ok hdone.out hX.out ?_), below_drewN (below_drewN hBH.out _) _⟩
            intro hf
            have e1 : ah < lo := hf.1
            have := qH.out
            omega
          · have t6 : decide (lo ≤ ah) = false := by simp; omega
            have p6 : Hid (¬ lo ≤ ah) := q6
            clear q6
            go_wp2_with fail
            go_quiet (fail)
            go_wp2_with fail
            go_quiet (fail)
            go_wp2
            go_roundw
            case rel => exact ⟨k + 1, hi, by omega, by go_num, good_ok hdone.out hX.out ⟨by have := p6.out; show ah < lo; omega, by have := p1.out; show lo ≤ hi; omega, by have := p2.out; show hi ≤ 1114111; omega, by have := p3.out; show 0 ≤ to; omega, by have := p4.out; show to < most; omega, by have := p5.out; show to ≤ 255; omega⟩, fun h => absurd h (by omega), fun _ => ⟨_, hX.out, rfl⟩, by have := p6.out; have := p1.out; omega, below_drewN hBH.out _⟩
            case measure => simp [intOf]; omega
      · have hBH : Hid (Below w.heap.size w wr) := hbel
        clear hbel
        go_wp2
        go_ret
        exact ⟨ret_bool (end_ok HN.out hbig hdone.out (by omega)), hBH.out⟩
end Go.Proofs.Ytagkdboobfkmmaa
