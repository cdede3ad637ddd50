/-
  span's leaves: Next, empty, and the document's.
-/
import Derived.Test.YtegoadhnilmchaaVb
import Derived.Test.YtegoadhnilmchaaSq
namespace Go.Proofs.Ytegoadhnilmchaa
open Go.RowKit Go.Maps
set_option linter.unusedVariables false
set_option linter.unusedSimpArgs false
/-- clusters of at most two cells. -/
def Cok (C : List Ct) : Prop := ∀ c ∈ C, 0 ≤ c.cells ∧ c.cells ≤ 2 ∧ c.kind < 256
theorem Cok.at {C : List Ct} (h : Cok C) (i : Nat) : (Sp.at' C i).cells ≤ 2 := by
  unfold Sp.at'
  rw [List.getD_eq_getElem?_getD]
  cases hx : C[i]? with
  | none => decide
  | some c => exact (h c (List.mem_of_getElem? hx)).2.1
theorem at_some {C : List Ct} {i : Nat} {c : Ct} (h : C[i]? = some c) : Sp.at' C i = c := by
  unfold Sp.at'
  rw [List.getD_eq_getElem?_getD, h]
  rfl
/-- a cluster of a text, its cells as a natural number. -/
theorem Cok.nat {C : List Ct} (h : Cok C) {i : Nat} {c : Ct} (hc : C[i]? = some c) : ∃ xp xl xc xk : Nat, c = ⟨xp, xl, (xc : Int), xk⟩ ∧ xc ≤ 2 ∧ xk < 256 := by
  obtain ⟨h1, h2, h3⟩ := h c (List.mem_of_getElem? hc)
  obtain ⟨p, l, ce, k⟩ := c
  simp only at h1 h2 h3
  exact ⟨p, l, ce.toNat, k, by congr 1; omega, by omega, h3⟩
set_option maxRecDepth 100000 in
set_option maxHeartbeats 400000 in
theorem next_any (xp xl xc xk col t : Nat) (w : World) (hc : xc ≤ 2) (hk : xk < 256) (hl : col ≤ 1000000000) (h0 : 0 < t) (ht : t ≤ 1000) :
    Calls Try.prog 43 #[.agg #[.int .i64 (xp : Int), .int .i64 (xl : Int), .int .i64 (xc : Int), .int .u8 (xk : Int)], .int .i64 (col : Int), .int .i64 (t : Int)] w fun e w' => e = .returned (.int .i64 (Sp.nx ⟨xp, xl, (xc : Int), xk⟩ t col : Int)) ∧ Only (fun _ => False) w w' := by
  by_cases h2 : xk = 2
  · have e : Sp.nx ⟨xp, xl, (xc : Int), xk⟩ t col = (col / t + 1) * t := if_pos h2
    obtain ⟨q, hq⟩ : ∃ q, q = col / t := ⟨_, rfl⟩
    have hg := Sp.tab_gt (c := col) h0
    rw [e]
    rw [← hq] at hg ⊢
    have q1 : (col : Int).tdiv (t : Int) = (q : Int) := by rw [Int.tdiv_eq_ediv_of_nonneg (by omega), hq]; rfl
    have t1 : ((xk : Int) != 2) = false := by simp; omega
    have hq2 : q ≤ 1000000000 := by rw [hq]; exact Nat.le_trans (Nat.div_le_self _ _) hl
    obtain ⟨z, hz⟩ : ∃ z, z = (q + 1) * t := ⟨_, rfl⟩
    have m1 : ((q : Int) + 1) * (t : Int) = (z : Int) := by rw [hz]; simp
    have hzl : z ≤ 1000002000 := by rw [hz]; omega
    rw [← hz]
    clear hg hq hz e h2
    go_enter Try.func43, Try.ntmps43
    go_wp2_with fail
    go_ret
    exact ⟨rfl, (Only.refl _ _).alloc _⟩
  · have e : Sp.nx ⟨xp, xl, (xc : Int), xk⟩ t col = col + xc := if_neg h2
    rw [e]
    have t1 : ((xk : Int) != 2) = true := by simp; omega
    clear e h2
    go_enter Try.func43, Try.ntmps43
    go_wp2_with fail
    go_ret
    exact ⟨by go_num, (Only.refl _ _).alloc _⟩
set_option maxRecDepth 100000 in
set_option maxHeartbeats 400000 in
theorem refNext_any (xp xl xc xk col t : Nat) (w : World) (hc : xc ≤ 2) (hk : xk < 256) (hl : col ≤ 1000000000) (h0 : 0 < t) (ht : t ≤ 1000) :
    Calls Try.prog 24 #[.agg #[.int .i64 (xp : Int), .int .i64 (xl : Int), .int .i64 (xc : Int), .int .u8 (xk : Int)], .int .i64 (col : Int), .int .i64 (t : Int)] w fun e w' => e = .returned (.int .i64 (Sp.nx ⟨xp, xl, (xc : Int), xk⟩ t col : Int)) ∧ Only (fun _ => False) w w' := by
  by_cases h2 : xk = 2
  · have e : Sp.nx ⟨xp, xl, (xc : Int), xk⟩ t col = (col / t + 1) * t := if_pos h2
    have hg := Sp.tab_gt (c := col) h0
    rw [e]
    have HF : Hid (∀ n, col < n → n % t = 0 → (col / t + 1) * t ≤ n) := fun n h1 h2 => Sp.tab_first h0 h1 h2
    obtain ⟨z, hz⟩ : ∃ z, z = (col / t + 1) * t := ⟨_, rfl⟩
    rw [← hz] at HF hg ⊢
    have t1 : ((xk : Int) != 2) = false := by simp; omega
    obtain ⟨g1, g2, g3⟩ := hg
    have HZ : Hid (z % t = 0) := g3
    have hzl : z ≤ 1000002000 := by omega
    clear g3 hz e h2
    go_enter Try.func24, Try.ntmps24
    go_wp2_with fail
    go_loopg [7] (z - (col + 1)) (fun gh v wr => ∃ (n : Nat) (W : World), W = wr ∧ gh = z - n ∧ col < n ∧ n ≤ z ∧ v = .int .i64 (n : Int) ∧ Only (fun _ => False) w W)
    case atStart => exact ⟨col + 1, _, rfl, rfl, by omega, by omega, by go_num, (Only.refl _ _).alloc _⟩
    case round =>
      obtain ⟨n, W, hW, rfl, hn1, hn2, rfl, hoW⟩ := hrel
      subst hW
      have HG : Hid (Only (fun _ => False) w W) := hoW
      clear hoW
      obtain ⟨r, hr⟩ : ∃ r, r = n % t := ⟨_, rfl⟩
      have p1 : (n : Int).tmod (t : Int) = (r : Int) := by rw [Int.tmod_eq_emod_of_nonneg (by omega), hr]; rfl
      by_cases hr0 : r = 0
      · have t2 : ((r : Int) != 0) = false := by simp; exact hr0
        have hz2 : n = z := by have := HF.out n hn1 (by rw [← hr]; exact hr0); omega
        subst hz2
        clear hr hr0
        go_wp2_with fail
        go_ret
        exact ⟨rfl, HG.out⟩
      · have t2 : ((r : Int) != 0) = true := by simp; exact hr0
        have hz2 : n ≠ z := fun h => by subst h; exact hr0 (hr.trans HZ.out)
        clear hr hr0
        go_wp2_with fail
        go_roundg (z - (n + 1))
        case measure => omega
        case rel => exact ⟨n + 1, _, rfl, rfl, by omega, by omega, by go_num, HG.out⟩
  · have e : Sp.nx ⟨xp, xl, (xc : Int), xk⟩ t col = col + xc := if_neg h2
    rw [e]
    have t1 : ((xk : Int) != 2) = true := by simp; omega
    clear e h2
    go_enter Try.func24, Try.ntmps24
    go_wp2_with fail
    go_ret
    exact ⟨by go_num, (Only.refl _ _).alloc _⟩
theorem emp_cases {xp xl xc xk : Nat} : (Sp.emp ⟨xp, xl, (xc : Int), xk⟩ = true ∧ (xk = 1 ∨ (xk ≠ 1 ∧ xk = 0 ∧ xc = 0))) ∨ (Sp.emp ⟨xp, xl, (xc : Int), xk⟩ = false ∧ xk ≠ 1 ∧ (xk ≠ 0 ∨ (xk = 0 ∧ xc ≠ 0))) := by
  unfold Sp.emp
  simp only
  by_cases h1 : xk = 1
  · subst h1; left; exact ⟨rfl, Or.inl rfl⟩
  · by_cases h0 : xk = 0
    · subst h0
      by_cases hc : xc = 0
      · subst hc; left; exact ⟨rfl, Or.inr ⟨by omega, rfl, rfl⟩⟩
      · right; refine ⟨?_, by omega, Or.inr ⟨rfl, hc⟩⟩
        simp; omega
    · right; refine ⟨?_, h1, Or.inl h0⟩
      simp; omega
set_option maxRecDepth 100000 in
set_option maxHeartbeats 400000 in
theorem empty_any (xp xl xc xk : Nat) (w : World) (hc : xc ≤ 2) (hk : xk < 256) :
    Calls Try.prog 42 #[.agg #[.int .i64 (xp : Int), .int .i64 (xl : Int), .int .i64 (xc : Int), .int .u8 (xk : Int)]] w fun e w' => e = .returned (.bool (Sp.emp ⟨xp, xl, (xc : Int), xk⟩)) ∧ Only (fun _ => False) w w' := by
  rcases emp_cases (xp := xp) (xl := xl) (xc := xc) (xk := xk) with ⟨e, h⟩ | ⟨e, h1, h⟩ <;> rw [e]
  · rcases h with h | ⟨h1, h0, hc0⟩
    · have t1 : ((xk : Int) == 1) = true := by rw [beq_iff_eq]; omega
      clear h e
      go_enter Try.func42, Try.ntmps42
      go_wp2_with fail
      go_ret
      exact ⟨rfl, (Only.refl _ _).alloc _⟩
    · have t1 : ((xk : Int) == 1) = false := by rw [beq_eq_false_iff_ne]; omega
      have t2 : ((xk : Int) == 0) = true := by rw [beq_iff_eq]; omega
      have t3 : ((xc : Int) == 0) = true := by rw [beq_iff_eq]; omega
      clear h1 h0 hc0 e
      go_enter Try.func42, Try.ntmps42
      go_wp2_with fail
      go_ret
      exact ⟨rfl, (Only.refl _ _).alloc _⟩
  · have t1 : ((xk : Int) == 1) = false := by rw [beq_eq_false_iff_ne]; omega
    rcases h with h | ⟨h0, hc0⟩
    · have t2 : ((xk : Int) == 0) = false := by rw [beq_eq_false_iff_ne]; omega
      clear h h1 e
      go_enter Try.func42, Try.ntmps42
      go_wp2_with fail
      go_ret
      exact ⟨rfl, (Only.refl _ _).alloc _⟩
    · have t2 : ((xk : Int) == 0) = true := by rw [beq_iff_eq]; omega
      have t3 : ((xc : Int) == 0) = false := by rw [beq_eq_false_iff_ne]; omega
      clear h1 h0 hc0 e
      go_enter Try.func42, Try.ntmps42
      go_wp2_with fail
      go_ret
      exact ⟨rfl, (Only.refl _ _).alloc _⟩
set_option maxRecDepth 100000 in
set_option maxHeartbeats 400000 in
theorem refEmpty_any (xp xl xc xk : Nat) (w : World) (hc : xc ≤ 2) (hk : xk < 256) :
    Calls Try.prog 21 #[.agg #[.int .i64 (xp : Int), .int .i64 (xl : Int), .int .i64 (xc : Int), .int .u8 (xk : Int)]] w fun e w' => e = .returned (.bool (Sp.emp ⟨xp, xl, (xc : Int), xk⟩)) ∧ Only (fun _ => False) w w' := by
  rcases emp_cases (xp := xp) (xl := xl) (xc := xc) (xk := xk) with ⟨e, h⟩ | ⟨e, h1, h⟩ <;> rw [e]
  · rcases h with h | ⟨h1, h0, hc0⟩
    · have t1 : ((xk : Int) == 1) = true := by rw [beq_iff_eq]; omega
      clear h e
      go_enter Try.func21, Try.ntmps21
      go_wp2_with fail
      go_ret
      exact ⟨rfl, (Only.refl _ _).alloc _⟩
    · have t1 : ((xk : Int) == 1) = false := by rw [beq_eq_false_iff_ne]; omega
      have t2 : ((xk : Int) == 0) = true := by rw [beq_iff_eq]; omega
      have t3 : ((xc : Int) == 0) = true := by rw [beq_iff_eq]; omega
      clear h1 h0 hc0 e
      go_enter Try.func21, Try.ntmps21
      go_wp2_with fail
      go_ret
      exact ⟨rfl, (Only.refl _ _).alloc _⟩
  · have t1 : ((xk : Int) == 1) = false := by rw [beq_eq_false_iff_ne]; omega
    rcases h with h | ⟨h0, hc0⟩
    · have t2 : ((xk : Int) == 0) = false := by rw [beq_eq_false_iff_ne]; omega
      clear h h1 e
      go_enter Try.func21, Try.ntmps21
      go_wp2_with fail
      go_ret
      exact ⟨rfl, (Only.refl _ _).alloc _⟩
    · have t2 : ((xk : Int) == 0) = true := by rw [beq_iff_eq]; omega
      have t3 : ((xc : Int) == 0) = false := by rw [beq_eq_false_iff_ne]; omega
      clear h1 h0 hc0 e
      go_enter Try.func21, Try.ntmps21
      go_wp2_with fail
      go_ret
      exact ⟨rfl, (Only.refl _ _).alloc _⟩
end Go.Proofs.Ytegoadhnilmchaa

