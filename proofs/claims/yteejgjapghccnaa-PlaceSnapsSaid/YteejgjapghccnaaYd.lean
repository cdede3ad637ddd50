/-
  place's rows in memory; slices.BinarySearchFunc, as place calls it, over rows; search.
-/
import Derived.Test.YteejgjapghccnaaYc
namespace Go.Proofs.Yteejgjapghccnaa
open Go.RowKit Go.Maps
set_option linter.unusedVariables false
set_option linter.unusedSimpArgs false
/-- a row: where it begins, and the slice of its columns. -/
structure Rw where
  a : Nat
  al : Option Addr
  n : Nat
  c : Nat
def rwC (R : List Rw) : List Value := R.flatMap fun r => [.int .i64 (r.a : Int), .slice r.al r.n r.c]
theorem rwC_len : ∀ S : List Rw, (rwC S).length = S.length * 2
  | [] => rfl
  | x :: L => by
    show ([Value.int .i64 (x.a : Int), .slice x.al x.n x.c] ++ rwC L).length = _
    rw [List.length_append, rwC_len L]
    simp
    omega
theorem rwC_at : ∀ (L : List Rw) (k : Nat) (x : Rw), L[k]? = some x → (rwC L)[k * 2]? = some (.int .i64 (x.a : Int)) ∧ (rwC L)[k * 2 + 1]? = some (.slice x.al x.n x.c) := by
  intro L
  induction L with
  | nil => intro k x h; simp at h
  | cons y L ih =>
    intro k x h
    have e : rwC (y :: L) = [.int .i64 (y.a : Int), .slice y.al y.n y.c] ++ rwC L := rfl
    rw [e]
    cases k with
    | zero => simp at h; subst h; exact ⟨rfl, rfl⟩
    | succ k =>
      have := ih k x (by simpa using h)
      rw [show (k + 1) * 2 = k * 2 + 2 by omega]
      exact ⟨this.1, this.2⟩
theorem Vw.row {w : World} {a : Option Addr} {S : List Rw} {k : Nat} {s : Rw} (h : Vw w a (rwC S)) (hk : S[k]? = some s) : ∃ b off, a = some ⟨b, off, none⟩ ∧ b < w.heap.size ∧ w.cell? ⟨b, off + k * 2, none⟩ = some (.int .i64 (s.a : Int)) ∧ w.cell? ⟨b, off + k * 2 + 1, none⟩ = some (.slice s.al s.n s.c) := by
  have hl := (List.getElem?_eq_some_iff.1 hk).1
  obtain ⟨b, off, e, hb, hc⟩ := h.cells (by rw [rwC_len]; omega)
  obtain ⟨q0, q1⟩ := rwC_at S k s hk
  exact ⟨b, off, e, hb, hc _ _ q0, hc _ _ q1⟩
theorem rw_at {R : List Rw} {A : List Nat} {i : Nat} (h : R.map (·.a) = A) (hi : i < A.length) : ∃ x r, A.getD i 0 = x ∧ R[i]? = some r ∧ r.a = x := by
  have hl : i < R.length := by rw [← h, List.length_map] at hi; exact hi
  refine ⟨_, R[i], rfl, List.getElem?_eq_getElem hl, ?_⟩
  rw [← h, List.getD_eq_getElem?_getD, List.getElem?_map, List.getElem?_eq_getElem hl]
  rfl
set_option maxRecDepth 100000 in
set_option maxHeartbeats 4000000 in
theorem bsRow_any (R : List Rw) (A : List Nat) (n : Nat) (al : Option Addr) (c q pb : Nat) (w : World) (hn : n = A.length) (hR : R.map (·.a) = A) (hV : Vw w al (rwC R)) (hA : Lv.Up A) (hl : n ≤ 1000000) (h : w.cell? ⟨pb, 0, none⟩ = some (.func (.func 25) #[] #[])) :
    Calls Try.prog 35 #[.slice al n c, .int .i64 (q : Int), .func (.func 36) #[] #[.pointer (some ⟨pb, 0, none⟩)]] w fun e w' => bsA A n q e ∧ Only (fun _ => False) w w' := by
  have HV : Hid ((∀ W, Only (fun _ => False) w W → Vw W al (rwC R)) ∧ n = A.length ∧ Lv.Up A ∧ R.map (·.a) = A) := ⟨fun W ho => hV.keep ho, hn, hA, hR⟩
  have HB : Hid (∀ x al n c W, Only (fun _ => False) w W → Calls Try.prog 36 #[.agg #[.int .i64 ((x : Nat) : Int), .slice al n c], .int .i64 (q : Int), .pointer (some ⟨pb, 0, none⟩)] W fun e w' => e = .returned (.int .i64 (cmpN x q)) ∧ Only (fun _ => False) W w') := fun x al n c W ho => byRow_any x q pb al n c W (keep0 ho h)
  clear hV hA hn hR h
  unfold bsA
  go_enter Try.func35, Try.ntmps35
  go_wp2_with fail
  go_loopg [9, 10] n (fun gh v9 v10 wr => ∃ (i j : Nat) (W : World), W = wr ∧ Only (fun _ => False) w W ∧ gh = j - i ∧ i ≤ j ∧ j ≤ n ∧ v9 = .int .i64 (i : Int) ∧ v10 = .int .i64 (j : Int) ∧ (∀ k, k < i → A.getD k 0 < q) ∧ (∀ k, j ≤ k → k < n → q ≤ A.getD k 0))
  case atStart => exact ⟨0, n, _, rfl, Only.refl _ _, rfl, Nat.zero_le _, Nat.le_refl _, rfl, rfl, fun k h => by omega, fun k h1 h2 => by omega⟩
  case round =>
    obtain ⟨i, j, W, hW, hoW, rfl, hij, hjn, rfl, rfl, h1, h2⟩ := hrel
    subst hW
    have HO : Hid (Only (fun _ => False) w W) := hoW
    clear hoW
    have HI : Hid ((∀ k, k < i → A.getD k 0 < q) ∧ (∀ k, j ≤ k → k < n → q ≤ A.getD k 0)) := ⟨h1, h2⟩
    clear h1 h2
    by_cases hlt : i < j
    · have t1 : (i : Int) < (j : Int) := by omega
      obtain ⟨m, hm⟩ : ∃ m, m = (i + j) / 2 := ⟨_, rfl⟩
      have hm1 : i ≤ m := by omega
      have hm2 : m < j := by omega
      obtain ⟨x, ⟨rx, ra, rn, rc⟩, hx, hr, e1⟩ := rw_at HV.out.2.2.2 (i := m) (by rw [← HV.out.2.1]; omega)
      have HX : Hid (A.getD m 0 = x) := hx
      simp only at e1
      subst e1
      obtain ⟨b0, off, e0, hb0, c0, c1⟩ := Vw.row (HV.out.1 W HO.out) hr
      subst e0
      clear hx hr
      have hmn : m < n := by omega
      go_upto_region 5 with fail
      rw [show ((i : Int) + (j : Int)) / 2 = (m : Int) by omega]
      clear hm
      go_wp2_with fail
      refine Calls.mono (HB.out _ _ _ _ _ HO.out) ?_
      rintro e W1 ⟨rfl, ho1⟩
      have HO1 : Hid (Only (fun _ => False) w W1) := HO.out.trans ho1
      clear ho1 c0 c1 hb0
      by_cases hx : rx < q
      · have t2 := (cmp_lt hx).1
        go_wp2_with fail
        go_roundg (j - (m + 1))
        case measure => omega
        case rel => exact ⟨m + 1, j, _, rfl, HO1.out, rfl, by omega, hjn, by go_num, rfl, fun k hk => Nat.lt_of_le_of_lt (HV.out.2.2.1 k m (by omega) (by rw [← HV.out.2.1]; exact hmn)) (by rw [HX.out]; exact hx), HI.out.2⟩
      · have t2 : decide (cmpN rx q < 0) = false := by
          refine decide_eq_false ?_
          rcases Nat.lt_or_ge q rx with g | g
          · exact (cmp_gt g).1
          · exact (cmp_eq (by omega)).1
        go_wp2_with fail
        go_roundg (m - i)
        case measure => omega
        case rel => exact ⟨i, m, _, rfl, HO1.out, rfl, hm1, by omega, rfl, rfl, HI.out.1, fun k k1 k2 => Nat.le_trans (by rw [HX.out]; omega) (HV.out.2.2.1 m k k1 (by rw [← HV.out.2.1]; exact k2))⟩
    · have t1 : decide ((i : Int) < (j : Int)) = false := decide_eq_false (by omega)
      have hji : j = i := by omega
      subst hji
      clear hlt hij
      by_cases hin : j < n
      · have t3 : (j : Int) < (n : Int) := by omega
        obtain ⟨x, ⟨rx, ra, rn, rc⟩, hx, hr, e1⟩ := rw_at HV.out.2.2.2 (i := j) (by rw [← HV.out.2.1]; omega)
        have HX : Hid (A.getD j 0 = x) := hx
        simp only at e1
        subst e1
        obtain ⟨b0, off, e0, hb0, c0, c1⟩ := Vw.row (HV.out.1 W HO.out) hr
        subst e0
        clear hx hr
        go_wp2_with fail
        refine Calls.mono (HB.out _ _ _ _ _ HO.out) ?_
        rintro e W1 ⟨rfl, ho1⟩
        have HO1 : Hid (Only (fun _ => False) w W1) := HO.out.trans ho1
        clear ho1 c0 c1 hb0
        by_cases hx : rx = q
        · have t2 := (cmp_eq hx).2
          have HQ : Hid (rx = q) := hx
          clear hx
          go_wp2_with fail
          go_ret2
          exact ⟨⟨j, true, rfl, hjn, HI.out.1, HI.out.2, ⟨fun _ => ⟨hin, by rw [HX.out]; exact HQ.out⟩, fun _ => rfl⟩⟩, HO1.out⟩
        · have t2 : (cmpN rx q == 0) = false := by
            rcases Nat.lt_or_ge q rx with g | g
            · exact (cmp_gt g).2
            · exact (cmp_lt (by omega)).2
          go_wp2_with fail
          go_ret2
          exact ⟨⟨j, false, rfl, hjn, HI.out.1, HI.out.2, ⟨fun h => (by cases h), fun h => absurd (by rw [← HX.out]; exact h.2) hx⟩⟩, HO1.out⟩
      · have t3 : decide ((j : Int) < (n : Int)) = false := decide_eq_false (by omega)
        go_wp2_with fail
        go_ret2
        exact ⟨⟨j, false, rfl, hjn, HI.out.1, HI.out.2, ⟨fun h => (by cases h), fun h => absurd h.1 hin⟩⟩, HO.out⟩
end Go.Proofs.Yteejgjapghccnaa
