/-
  first's leaves: empty, hyphen, cut; how a line's end is found, in plain words.
-/
import Derived.Test.YtdepjmneoplicaaFf
import Derived.Test.YtdepjmneoplicaaSh
namespace Go.Proofs.Ytdepjmneoplicaa
open Go.RowKit Go.Maps
set_option linter.unusedVariables false
set_option linter.unusedSimpArgs false
/-- the last end that fits, and how it ends; none: the beginning. -/
def lstO (O : List Nat) (a : Nat) : Option Nat → Nat × Nat
  | none => (a, 0)
  | some k => (k, O.getD k 0)
theorem wd_yes {C : List Ct} {t a j : Nat} (h : Sp.emp (Sp.at' C (a + j)) = true) : Sp.wd C t a (j + 1) = Sp.wd C t a j := by
  unfold Sp.wd
  rw [show Sp.tr C a (j + 1) = Sp.tr C a j by show (if Sp.emp (Sp.at' C (a + j)) then _ else _) = _; rw [if_pos h]]
theorem wd_no {C : List Ct} {t a j : Nat} (h : Sp.emp (Sp.at' C (a + j)) = false) : Sp.wd C t a (j + 1) = Sp.col C t a (j + 1) := by
  unfold Sp.wd
  rw [show Sp.tr C a (j + 1) = a + (j + 1) by show (if Sp.emp (Sp.at' C (a + j)) then _ else _) = _; rw [if_neg (by rw [h]; decide)]; rfl, show a + (j + 1) - a = j + 1 by omega]
theorem wd_zero (C : List Ct) (t a : Nat) : Sp.wd C t a 0 = 0 := by
  unfold Sp.wd
  show Sp.col C t a (a - a) = 0
  rw [Nat.sub_self]
  rfl
/-- behind a line that is too wide nothing fits. -/
theorem ok_wide {C : List Ct} {O : List Nat} {t W a j k : Nat} (ht : 0 < t) (h : W < Sp.wd C t a j) (hk : a + j ≤ k) : Sp.ok C O t W a k = false := by
  refine (ok_tf (C := C) (O := O) (t := t) (W := W) (a := a) (k := k) rfl).2.2 ?_
  have h1 := Sp.wd_mono C ht a (show j ≤ k - a by omega)
  unfold Sp.wde
  omega
theorem bst_stop {C : List Ct} {O : List Nat} {t W a j : Nat} (ht : 0 < t) (h : W < Sp.wd C t a (j + 1)) : ∀ d, Sp.bst C O t W a (j + d) = Sp.bst C O t W a j
  | 0 => rfl
  | d + 1 => by
    rw [← bst_stop ht h d]
    exact (bst_step (C := C) (O := O) (t := t) (W := W) (a := a) (m := j + d)).2 (ok_wide ht h (by omega))
theorem fit_stop {C : List Ct} {t W a j m : Nat} (ht : 0 < t) (h0 : Sp.wd C t a j ≤ W) (h : W < Sp.wd C t a (j + 1)) (hj : j < m) : (Sp.fit C t W a m).getD (a + 1) = max (a + j) (a + 1) := by
  have hw : ∀ k, j + 1 ≤ k → W < Sp.wd C t a k := fun k hk => Nat.lt_of_lt_of_le h (Sp.wd_mono C ht a hk)
  by_cases hj0 : j = 0
  · subst hj0
    cases e : Sp.fit C t W a m with
    | none => show a + 1 = _; omega
    | some k =>
      obtain ⟨g1, g2, g3, _⟩ := Sp.fit_some e
      exact absurd g3 (Nat.not_le.2 (hw _ (by omega)))
  · rw [Sp.fit_eq (k := a + j) (by omega) (by omega) (by rw [show a + j - a = j by omega]; exact h0) (fun k h1 h2 => hw _ (by omega))]
    show a + j = _
    omega
theorem fit_end {C : List Ct} {t W a m : Nat} (hm : 0 < m) (h0 : Sp.wd C t a m ≤ W) : (Sp.fit C t W a m).getD (a + 1) = max (a + m) (a + 1) := by
  obtain ⟨j, rfl⟩ : ∃ j, m = j + 1 := ⟨m - 1, by omega⟩
  rw [(fit_step (C := C) (t := t) (W := W) (a := a) (m := j)).1 h0]
  show a + j + 1 = _
  omega
theorem nxt_some {C : List Ct} {O : List Nat} {t W a b k : Nat} (h : Sp.bst C O t W a (b - a) = some k) : Sp.nxt C O t W a b = (k, O.getD k 0) := by
  unfold Sp.nxt
  rw [h]
theorem nxt_none {C : List Ct} {O : List Nat} {t W a b c e : Nat} (h : Sp.bst C O t W a (b - a) = none) (hf : (Sp.fit C t W a (b - a)).getD (a + 1) = c) (he : O.getD c 0 = e) : Sp.nxt C O t W a b = (c, if e = 1 ∨ e = 2 then e else 4) := by
  unfold Sp.nxt
  rw [h]
  show ((Sp.fit C t W a (b - a)).getD (a + 1), _) = _
  rw [hf, he]
set_option maxRecDepth 100000 in
set_option maxHeartbeats 400000 in
theorem fempty_any (C : List Ct) (O : List Nat) (n m : Nat) (aC aO : Option Addr) (cC cO x : Nat) (w : World) (hP : Pv w C O n m aC aO cC cO) (hx : x < n) :
    Calls Try.prog 41 #[.agg #[.slice aC n cC, .slice aO m cO], .int .i64 (x : Int)] w fun e w' => e = .returned (.bool (Sp.emp (Sp.at' C x))) ∧ Only (fun _ => False) w w' := by
  have h1 := hP.few
  have HT : Hid (∀ W, Only (fun _ => False) w W → Calls Try.prog 53 #[.agg #[.slice aC n cC, .slice aO m cO], .int .i64 (x : Int), .int .i64 ((x : Int) + 1)] W fun e w' => e = .returned (.int .i64 (Sp.tr C x 1 : Int)) ∧ Only (fun _ => False) W w') := fun W ho => by
    have := trim_any C O n m aC aO cC cO x (x + 1) W (hP.keep ho) (by omega) (by omega)
    rw [show x + 1 - x = 1 by omega] at this
    exact this
  cases hE : Sp.emp (Sp.at' C x) with
  | true =>
    have e1 : Sp.tr C x 1 = x := by show (if Sp.emp (Sp.at' C (x + 0)) then x else x + 0 + 1) = x; rw [Nat.add_zero, if_pos hE]
    rw [e1] at HT
    clear hP hE e1
    go_enter Try.func41, Try.ntmps41
    go_wp2_with fail
    refine Calls.mono (HT.out _ ((Only.refl _ _).alloc _)) ?_
    rintro e w2 ⟨rfl, ho2⟩
    have H2 : Hid (Only (fun _ => False) w w2) := ((Only.refl _ _).alloc _).trans ho2
    clear ho2
    go_wp2_with fail
    go_ret
    exact ⟨by simp, H2.out⟩
  | false =>
    have e1 : Sp.tr C x 1 = x + 1 := by show (if Sp.emp (Sp.at' C (x + 0)) then x else x + 0 + 1) = x + 1; rw [if_neg (by rw [Nat.add_zero, hE]; decide)]
    rw [e1] at HT
    have t1 : ((x : Int) + 1 == (x : Int)) = false := by rw [beq_eq_false_iff_ne]; omega
    clear hP hE e1
    go_enter Try.func41, Try.ntmps41
    go_wp2_with fail
    refine Calls.mono (HT.out _ ((Only.refl _ _).alloc _)) ?_
    rintro e w2 ⟨rfl, ho2⟩
    have H2 : Hid (Only (fun _ => False) w w2) := ((Only.refl _ _).alloc _).trans ho2
    clear ho2
    go_wp2_with fail
    go_ret
    exact ⟨by simp [t1], H2.out⟩
set_option maxRecDepth 100000 in
set_option maxHeartbeats 400000 in
theorem fhyphen_any (e : Nat) (w : World) : Calls Try.prog 42 #[.int .u8 (e : Int)] w fun r w' => r = .returned (.int .i64 ((if e = 3 then 1 else 0 : Nat) : Int)) ∧ w' = w := by
  by_cases he : e = 3
  · have t2 : ((e : Int) == 3) = true := by rw [beq_iff_eq]; omega
    rw [if_pos he]
    clear he
    go_enter Try.func42, Try.ntmps42
    go_wp2_with fail
    go_ret
    exact ⟨rfl, rfl⟩
  · have t2 : ((e : Int) == 3) = false := by rw [beq_eq_false_iff_ne]; omega
    rw [if_neg he]
    clear he
    go_enter Try.func42, Try.ntmps42
    go_wp2_with fail
    go_ret
    exact ⟨rfl, rfl⟩
set_option maxRecDepth 100000 in
set_option maxHeartbeats 400000 in
theorem fcut_any (C : List Ct) (O : List Nat) (n m : Nat) (aC aO : Option Addr) (cC cO y e : Nat) (w : World) (hP : Pv w C O n m aC aO cC cO) (hy : y < m) (hO : O[y]? = some e) :
    Calls Try.prog 43 #[.agg #[.slice aC n cC, .slice aO m cO], .int .i64 (y : Int)] w fun r w' => r = .returned (.tuple #[.int .i64 (y : Int), .int .u8 ((if e = 1 ∨ e = 2 then e else 4 : Nat) : Int)]) ∧ Only (fun _ => False) w w' := by
  have h1 := hP.fewO
  have he8 : e < 256 := hP.oO e (List.mem_of_getElem? hO)
  obtain ⟨bq, hbq⟩ : ∃ bq : Bool, bq = decide (e ≠ 0) := ⟨_, rfl⟩
  have HT : Hid (∀ W, Only (fun _ => False) w W → Calls Try.prog 32 #[.agg #[.slice aC n cC, .slice aO m cO], .int .i64 (y : Int)] W fun r w' => r = .returned (.tuple #[.int .u8 (e : Int), .bool bq]) ∧ Only (fun _ => False) W w') := fun W ho => by
    rw [hbq]
    exact ends_any C O n m aC aO cC cO y e W (hP.keep ho) hy hO
  clear hP hO hbq
  by_cases h2 : e = 2
  · have t1 : ((e : Int) == 2) = true := by rw [beq_iff_eq]; omega
    rw [if_pos (Or.inr h2)]
    clear h2
    go_enter Try.func43, Try.ntmps43
    go_wp2_with fail
    refine Calls.mono (HT.out _ ((Only.refl _ _).alloc _)) ?_
    rintro r w2 ⟨rfl, ho2⟩
    have H2 : Hid (Only (fun _ => False) w w2) := ((Only.refl _ _).alloc _).trans ho2
    clear ho2
    go_wp2_with fail
    go_ret2
    exact ⟨rfl, H2.out⟩
  · have t1 : ((e : Int) == 2) = false := by rw [beq_eq_false_iff_ne]; omega
    by_cases h3 : e = 1
    · have t3 : ((e : Int) == 1) = true := by rw [beq_iff_eq]; omega
      rw [if_pos (Or.inl h3)]
      clear h2 h3
      go_enter Try.func43, Try.ntmps43
      go_wp2_with fail
      refine Calls.mono (HT.out _ ((Only.refl _ _).alloc _)) ?_
      rintro r w2 ⟨rfl, ho2⟩
      have H2 : Hid (Only (fun _ => False) w w2) := ((Only.refl _ _).alloc _).trans ho2
      clear ho2
      go_wp2_with fail
      go_ret2
      exact ⟨rfl, H2.out⟩
    · have t3 : ((e : Int) == 1) = false := by rw [beq_eq_false_iff_ne]; omega
      rw [if_neg (by omega)]
      clear h2 h3
      go_enter Try.func43, Try.ntmps43
      go_wp2_with fail
      refine Calls.mono (HT.out _ ((Only.refl _ _).alloc _)) ?_
      rintro r w2 ⟨rfl, ho2⟩
      have H2 : Hid (Only (fun _ => False) w w2) := ((Only.refl _ _).alloc _).trans ho2
      clear ho2
      go_wp2_with fail
      go_ret2
      exact ⟨rfl, H2.out⟩
end Go.Proofs.Ytdepjmneoplicaa

