/-
  What prop.Check returns: whether the ranges are a table's; nothing in memory turns.
-/
import Derived.Test.YtlcpfheocenjfaaSees
namespace Go.Proofs.Ytlcpfheocenjfaa
open Go.RowKit

theorem drop_at {L : List Rg} {k : Nat} {x : Rg} (h : L[k]? = some x) : L.drop k = x :: L.drop (k + 1) := by
  obtain ⟨hk, e⟩ := List.getElem?_eq_some_iff.1 h
  rw [List.drop_eq_getElem_cons hk, e]
theorem bad_ok {L : List Rg} {most ah : Int} {k : Nat} {x : Rg} (hd : Pr.okFrom most (-1) L = Pr.okFrom most ah (L.drop k)) (hx : L[k]? = some x) (hf : ¬ Pr.fits most ah x) : false = Pr.ok most L := by
  rw [drop_at hx] at hd
  unfold Pr.ok
  rw [hd]
  simp [Pr.okFrom, hf]
theorem good_ok {L : List Rg} {most ah : Int} {k : Nat} {x : Rg} (hd : Pr.okFrom most (-1) L = Pr.okFrom most ah (L.drop k)) (hx : L[k]? = some x) (hf : Pr.fits most ah x) : Pr.okFrom most (-1) L = Pr.okFrom most x.hi (L.drop (k + 1)) := by
  rw [drop_at hx] at hd
  rw [hd]
  simp [Pr.okFrom, hf]
theorem big_ok {L : List Rg} {most : Int} {n : Nat} (h : n = L.length) (hb : 256 < n) : false = Pr.ok most L := by
  unfold Pr.ok
  have : ¬ L.length ≤ 256 := by omega
  simp [this]
theorem end_ok {L : List Rg} {most ah : Int} {n k : Nat} (h : n = L.length) (hb : ¬ 256 < n) (hd : Pr.okFrom most (-1) L = Pr.okFrom most ah (L.drop k)) (hk : n ≤ k) : true = Pr.ok most L := by
  unfold Pr.ok
  rw [hd, List.drop_eq_nil_of_le (by omega)]
  have : L.length ≤ 256 := by omega
  simp [this, Pr.okFrom]
theorem ret_bool {a b : Bool} (h : a = b) : Ending.returned (.bool a) = .returned (.bool b) := by rw [h]

set_option maxRecDepth 100000 in
set_option maxHeartbeats 2000000 in
theorem check_any (L : List Rg) (most : Int) (a : Option Addr) (b off cap : Nat) (w : World) (hS : Sees w L a b off cap) (hn : L.length ≤ 1000000) :
    Calls Try.prog 35 #[.slice a L.length cap, .int .i64 most] w fun e w' => e = .returned (.bool (Pr.ok most L)) ∧ Below w.heap.size w w' := by
  obtain ⟨n, hn'⟩ : ∃ n, n = L.length := ⟨_, rfl⟩
  rw [← hn'] at hn ⊢
  have HN : Hid (n = L.length) := hn'
  clear hn'
  by_cases hbig : 256 < n
  · have hbI : (256 : Int) < (n : Int) := by omega
    go_enter Try.func35, Try.ntmps35
    go_wp2
    go_ret
    exact ⟨ret_bool (big_ok HN.out hbig), Below.refl _ _⟩
  · go_enter Try.func35, Try.ntmps35
    go_wp2_with fail
    go_loopw [5, 13] (fun l i wr => ∃ (k : Nat) (ah : Int), k ≤ n ∧ l = .int .i32 ah ∧ i = .int .i64 k ∧ Hid (Pr.okFrom most (-1) L = Pr.okFrom most ah (L.drop k)) ∧ Below w.heap.size w wr) (fun _ i _ => n - (intOf i).toNat)
    case atStart => exact ⟨0, -1, Nat.zero_le _, rfl, rfl, rfl, Below.refl _ _⟩
    case round =>
      obtain ⟨k, ah, hk, rfl, rfl, hdone, hbel⟩ := hrel
      by_cases hlt : k < n
      · obtain rfl := hS.adr (by rw [← HN.out]; omega)
        obtain ⟨x, hx⟩ : ∃ x, L[k]? = some x := ⟨L[k]'(by rw [← HN.out]; omega), List.getElem?_eq_getElem _⟩
        have hS' := hS.kept hbel
        have d0 := hS'.c0 k x hx
        have d1 := hS'.c1 k x hx
        have d2 := hS'.c2 k x hx
        obtain ⟨lo, hi, to⟩ := x
        simp only at d0 d1 d2
        have hX : Hid (L[k]? = some ⟨lo, hi, to⟩) := hx
        have hBH : Hid (Below w.heap.size w wr) := hbel
        have hsz := hbel.size
        clear hx hbel hS'
        go_wp2
        case roundEnd =>
          go_roundw
          case rel => exact ⟨k + 1, hi, by omega, rfl, by go_num, good_ok hdone.out hX.out ⟨by show ah < lo; omega, by show lo ≤ hi; omega, by show hi ≤ 1114111; omega, by show 0 ≤ to; omega, by show to < most; omega, by show to ≤ 255; omega⟩, hBH.out.alloc hsz _⟩
          case measure => simp [intOf]; omega
        all_goals
          go_ret
          refine ⟨ret_bool (bad_ok hdone.out hX.out ?_), hBH.out.alloc hsz _⟩
          intro hf
          have e1 : ah < lo := hf.1
          have e2 : lo ≤ hi := hf.2.1
          have e3 : hi ≤ 1114111 := hf.2.2.1
          have e4 : 0 ≤ to := hf.2.2.2.1
          have e5 : to < most := hf.2.2.2.2.1
          have e6 : to ≤ 255 := hf.2.2.2.2.2
          omega
      · have hBH : Hid (Below w.heap.size w wr) := hbel
        clear hbel
        go_wp2
        go_ret
        exact ⟨ret_bool (end_ok HN.out hbig hdone.out (by omega)), hBH.out⟩
end Go.Proofs.Ytlcpfheocenjfaa
