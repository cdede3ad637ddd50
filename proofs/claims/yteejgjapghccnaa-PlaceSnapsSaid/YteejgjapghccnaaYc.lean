/-
  slices.BinarySearchFunc, as place calls it, over numbers.
-/
import Derived.Test.YteejgjapghccnaaYb
namespace Go.Proofs.Yteejgjapghccnaa
open Go.RowKit Go.Maps
set_option linter.unusedVariables false
set_option linter.unusedSimpArgs false
/-- what a search by halves answers. -/
def bsA (A : List Nat) (n q : Nat) (e : Ending) : Prop := ∃ (i : Nat) (f : Bool), e = .returned (.tuple #[.int .i64 (i : Int), .bool f]) ∧ i ≤ n ∧ (∀ k, k < i → A.getD k 0 < q) ∧ (∀ k, i ≤ k → k < n → q ≤ A.getD k 0) ∧ (f = true ↔ (i < n ∧ A.getD i 0 = q))
set_option maxRecDepth 100000 in
set_option maxHeartbeats 4000000 in
theorem bsNum_any (A : List Nat) (n : Nat) (al : Option Addr) (c q pb : Nat) (w : World) (hn : n = A.length) (hV : Vw w al (natI A)) (hA : Lv.Up A) (hl : n ≤ 1000000) (h : w.cell? ⟨pb, 0, none⟩ = some (.func (.func 23) #[] #[])) :
    Calls Try.prog 32 #[.slice al n c, .int .i64 (q : Int), .func (.func 33) #[] #[.pointer (some ⟨pb, 0, none⟩)]] w fun e w' => bsA A n q e ∧ w = w' := by
  have HV : Hid (Vw w al (natI A) ∧ n = A.length ∧ Lv.Up A) := ⟨hV, hn, hA⟩
  have HB : Hid (∀ x, Calls Try.prog 33 #[.int .i64 ((x : Nat) : Int), .int .i64 (q : Int), .pointer (some ⟨pb, 0, none⟩)] w fun e w' => e = .returned (.int .i64 (cmpN x q)) ∧ w = w') := fun x => byNum_any x q pb w h
  clear hV hA hn h
  unfold bsA
  go_enter Try.func32, Try.ntmps32
  go_wp2_with fail
  go_loopg [9, 10] n (fun gh v9 v10 wr => ∃ (i j : Nat), w = wr ∧ gh = j - i ∧ i ≤ j ∧ j ≤ n ∧ v9 = .int .i64 (i : Int) ∧ v10 = .int .i64 (j : Int) ∧ (∀ k, k < i → A.getD k 0 < q) ∧ (∀ k, j ≤ k → k < n → q ≤ A.getD k 0))
  case atStart => exact ⟨0, n, rfl, rfl, Nat.zero_le _, Nat.le_refl _, rfl, rfl, fun k h => by omega, fun k h1 h2 => by omega⟩
  case round =>
    obtain ⟨i, j, hW, rfl, hij, hjn, rfl, rfl, h1, h2⟩ := hrel
    subst hW
    have HI : Hid ((∀ k, k < i → A.getD k 0 < q) ∧ (∀ k, j ≤ k → k < n → q ≤ A.getD k 0)) := ⟨h1, h2⟩
    clear h1 h2
    by_cases hlt : i < j
    · have t1 : (i : Int) < (j : Int) := by omega
      obtain ⟨m, hm⟩ : ∃ m, m = (i + j) / 2 := ⟨_, rfl⟩
      have hm1 : i ≤ m := by omega
      have hm2 : m < j := by omega
      obtain ⟨x, hx⟩ : ∃ x, A[m]? = some x := ⟨_, List.getElem?_eq_getElem (by rw [← HV.out.2.1]; omega)⟩
      have HX : Hid (A.getD m 0 = x) := by rw [List.getD_eq_getElem?_getD, hx]; exact rfl
      obtain ⟨b0, off, e0, hb0, hc⟩ := HV.out.1.cells (by rw [natI_len, ← HV.out.2.1]; omega)
      subst e0
      have c1 := hc m _ (natI_get hx)
      clear hc hx
      have hmn : m < n := by omega
      go_upto_region 5 with fail
      rw [show ((i : Int) + (j : Int)) / 2 = (m : Int) by omega]
      clear hm
      go_wp2_with fail
      refine Calls.mono (HB.out x) ?_
      rintro e w1 ⟨rfl, rfl⟩
      by_cases hx : x < q
      · have t2 := (cmp_lt hx).1
        go_wp2_with fail
        go_roundg (j - (m + 1))
        case measure => omega
        case rel => exact ⟨m + 1, j, rfl, rfl, by omega, hjn, by go_num, rfl, fun k hk => Nat.lt_of_le_of_lt (HV.out.2.2 k m (by omega) (by rw [← HV.out.2.1]; exact hmn)) (by rw [HX.out]; exact hx), HI.out.2⟩
      · have t2 : decide (cmpN x q < 0) = false := by
          refine decide_eq_false ?_
          rcases Nat.lt_or_ge q x with g | g
          · exact (cmp_gt g).1
          · exact (cmp_eq (by omega)).1
        go_wp2_with fail
        go_roundg (m - i)
        case measure => omega
        case rel => exact ⟨i, m, rfl, rfl, hm1, by omega, rfl, rfl, HI.out.1, fun k k1 k2 => Nat.le_trans (by rw [HX.out]; omega) (HV.out.2.2 m k k1 (by rw [← HV.out.2.1]; exact k2))⟩
    · have t1 : decide ((i : Int) < (j : Int)) = false := decide_eq_false (by omega)
      have hji : j = i := by omega
      subst hji
      clear hlt hij
      by_cases hin : j < n
      · have t3 : (j : Int) < (n : Int) := by omega
        obtain ⟨x, hx⟩ : ∃ x, A[j]? = some x := ⟨_, List.getElem?_eq_getElem (by rw [← HV.out.2.1]; omega)⟩
        have HX : Hid (A.getD j 0 = x) := by rw [List.getD_eq_getElem?_getD, hx]; exact rfl
        obtain ⟨b0, off, e0, hb0, hc⟩ := HV.out.1.cells (by rw [natI_len, ← HV.out.2.1]; omega)
        subst e0
        have c1 := hc j _ (natI_get hx)
        clear hc hx
        go_wp2_with fail
        refine Calls.mono (HB.out x) ?_
        rintro e w1 ⟨rfl, rfl⟩
        by_cases hx : x = q
        · have t2 := (cmp_eq hx).2
          have HQ : Hid (x = q) := hx
          clear hx
          go_wp2_with fail
          go_ret2
          exact ⟨⟨j, true, rfl, hjn, HI.out.1, HI.out.2, ⟨fun _ => ⟨hin, by rw [HX.out]; exact HQ.out⟩, fun _ => rfl⟩⟩, rfl⟩
        · have t2 : (cmpN x q == 0) = false := by
            rcases Nat.lt_or_ge q x with g | g
            · exact (cmp_gt g).2
            · exact (cmp_lt (by omega)).2
          go_wp2_with fail
          go_ret2
          exact ⟨⟨j, false, rfl, hjn, HI.out.1, HI.out.2, ⟨fun h => (by cases h), fun h => absurd (by rw [← HX.out]; exact h.2) hx⟩⟩, rfl⟩
      · have t3 : decide ((j : Int) < (n : Int)) = false := decide_eq_false (by omega)
        go_wp2_with fail
        go_ret2
        exact ⟨⟨j, false, rfl, hjn, HI.out.1, HI.out.2, ⟨fun h => (by cases h), fun h => absurd h.1 hin⟩⟩, rfl⟩
end Go.Proofs.Yteejgjapghccnaa
