/-
  stanzalaw02.PropChecks returns true at every slice of ranges and every bound, and the slice reads afterwards as it read before; no condition.
-/
import Derived.Test.YtagkdboobfkmmaaRows
import Derived.Test.YtagkdboobfkmmaaAwake
namespace Go.Proofs.Ytagkdboobfkmmaa.propChecks
open Go.ChangeShapes Go.WideShapes Go.ChangeAt Go.RowKit
set_option linter.unusedVariables false
set_option linter.unusedSimpArgs false

set_option maxRecDepth 100000 in
set_option maxHeartbeats 4000000 in
theorem walk (L : List Rg) (most : Int) (a : Option Addr) (b off cap : Nat) (w : World) (hS : Sees w L a b off cap) (hnone : a = none → L.length = 0 ∧ cap = 0) :
    Calls Try.prog 3 #[.slice a L.length cap, .int .i64 most] w fun e w' => e = .returned (.bool true) ∧ Below w.heap.size w w' := by
  obtain ⟨n, hn'⟩ : ∃ n, n = L.length := ⟨_, rfl⟩
  have HN : Hid (n = L.length) := hn'
  obtain ⟨i0, hi, hz0, hz1, hz2⟩ := info_parts info33
  by_cases hbig : 500 < n
  · rw [← hn']
    clear hn'
    have hbI : (500 : Int) < (n : Int) := by omega
    go_enter Try.func3, Try.ntmps3
    go_wp2_with (go_at_call 9; refine (awake_any _).mono ?_; rintro e w1 ⟨rfl, hb1⟩)
    go_ret
    exact ⟨rfl, hb1⟩
  · rw [← hn'] at hnone ⊢
    clear hn'
    have hnI : (n : Int) ≤ 500 := by omega
    have hl : L.length ≤ 1000000 := by rw [← HN.out]; omega
    cases hok : Pr.ok most L with
    | true =>
      have HO : Hid (Pr.ok most L = true) := hok
      clear hok
      cases a with
      | none =>
        obtain ⟨hn0, rfl⟩ := hnone rfl
        have HN0 : Hid (n = 0) := hn0
        subst hn0
        clear hnone
        go_enter Try.func3, Try.ntmps3
        go_wp2_with (go_at_call 9; refine (awake_any _).mono ?_; rintro e w1 ⟨rfl, hb1⟩)
        have hS1 := hS.kept hb1
        have hr := refTable_any L most _ b off 0 w1 hS1 hl
        rw [← HN.out, HO.out] at hr
        refine hr.mono ?_
        rintro e w2 ⟨rfl, hb2⟩
        have hs1 := hb1.size
        have hs2 := hb2.size
        have hS2 : Hid (Sees w2 L none b off 0) := hS1.kept hb2
        have hB2 : Hid (Below w.heap.size w w2) := hb1.trans (hb2.mono hs1)
        clear hr hb1 hb2 hS1
        go_wp2_with (at_builtin; refine wpList_append_own_none rfl _ _ 22 rfl w2.heap.size 33 i0 3 Try.underlying22 hi _ _ _ rfl (made_empty w2) rfl ?_)
        have hL : L = [] := List.eq_nil_of_length_eq_zero HN.out.symm
        have hB3 : Hid (Below w.heap.size w (w2.alloc (.cells #[] 33))) := hB2.out.alloc (by omega) _
        have hS3 : Hid (Sees (w2.alloc (.cells #[] 33)) L none b off 0) := hS2.out.kept ((Below.refl _ _).alloc (Nat.le_refl _) _)
        have hm := make_ok L most (some ⟨w2.heap.size, 0, none⟩) 0 0 0 (w2.alloc (.cells #[] 33)) (by rw [hL]; exact ⟨Nat.le_refl _, fun h => absurd h (Nat.lt_irrefl _), fun h => absurd h (Nat.lt_irrefl _), fun j x hj => by simp at hj, fun j x hj => by simp at hj, fun j x hj => by simp at hj⟩) hl HO.out
        rw [← HN.out] at hm
        clear hL
        refine hm.mono ?_
        rintro e w4 ⟨T, rfl, hT, hb4⟩
        have hc := check_any L most none b off 0 w4 (hS3.out.kept hb4) hl
        rw [← HN.out, HO.out] at hc
        have hB4 : Hid (Below w.heap.size w w4) := hB3.out.trans (hb4.mono (by simp; omega))
        clear hm hb4 hT
        go_wp2_with (go_at_call 12; refine hc.mono ?_; rintro e w5 ⟨rfl, hb5⟩)
        go_ret
        exact ⟨rfl, hB4.out.trans (hb5.mono hB4.out.size)⟩
      | some ad =>
        clear hnone
        go_enter Try.func3, Try.ntmps3
        go_wp2_with (go_at_call 9; refine (awake_any _).mono ?_; rintro e w1 ⟨rfl, hb1⟩)
        have hS1 := hS.kept hb1
        have hr := refTable_any L most _ b off cap w1 hS1 hl
        rw [← HN.out, HO.out] at hr
        refine hr.mono ?_
        rintro e w2 ⟨rfl, hb2⟩
        have hs1 := hb1.size
        have hs2 := hb2.size
        have hS2 : Hid (Sees w2 L (some ad) b off cap) := hS1.kept hb2
        have hB2 : Hid (Below w.heap.size w w2) := hb1.trans (hb2.mono hs1)
        clear hr hb1 hb2 hS1
        go_wp2_with (at_builtin; refine wpList_append_own _ rfl _ _ 22 rfl w2.heap.size 33 i0 (.agg #[.int .i32 0, .int .i32 0, .int .i64 0]) 3 16 Try.underlying22 hi hz0 hz1 hz2 rfl (by decide) _ _ _ rfl (made_empty w2) ad n cap (rgCells L) rfl (by rw [rgCells_len, HN.out]) (hS2.out.kept ((Below.refl _ _).alloc (Nat.le_refl _) _)).news (rgCells_one L) (by unfold maxLen; omega) (by omega) (by simp) ?_; intro v' w3 hown3 hg3 _)
        have hown3' : w3.ownsRow w2.heap.size 33 3 v' L.length (rgCells L) := by
          have h := hown3
          rw [Nat.zero_add, List.nil_append, HN.out] at h
          exact h
        obtain ⟨a3, g3, cap3, rfl, hS3', _, _⟩ := row_sees hown3'
        have hB3 : Hid (Below w.heap.size w w3) := (hB2.out.alloc (by omega) _).grown hg3 (by simp; omega) (fun k hk => by injection hk with hk; have : w2.heap.size = k := hk; omega)
        have hS3 : Hid (Sees w3 L (some ad) b off cap) := hS2.out.below (((Below.refl w2.heap.size w2).alloc (Nat.le_refl _) _).grown hg3 (by simp) (fun k hk => by injection hk with hk; have : w2.heap.size = k := hk; omega)) hS2.out.blk
        have hm := make_ok L most a3 g3 0 cap3 w3 hS3' hl HO.out
        rw [← HN.out] at hm ⊢
        have hs3 := hB3.out.size
        clear hown3 hown3' hg3 hS3'
        refine hm.mono ?_
        rintro e w4 ⟨T, rfl, hT, hb4⟩
        have hc := check_any L most (some ad) b off cap w4 (hS3.out.kept hb4) hl
        rw [← HN.out, HO.out] at hc
        have hB4 : Hid (Below w.heap.size w w4) := hB3.out.trans (hb4.mono hs3)
        clear hm hb4 hT
        go_wp2_with (go_at_call 12; refine hc.mono ?_; rintro e w5 ⟨rfl, hb5⟩)
        go_ret
        exact ⟨rfl, hB4.out.trans (hb5.mono hB4.out.size)⟩
    | false =>
      have HO : Hid (Pr.ok most L = false) := hok
      clear hok
      cases a with
      | none =>
        obtain ⟨hn0, rfl⟩ := hnone rfl
        have HN0 : Hid (n = 0) := hn0
        subst hn0
        clear hnone
        go_enter Try.func3, Try.ntmps3
        go_wp2_with (go_at_call 9; refine (awake_any _).mono ?_; rintro e w1 ⟨rfl, hb1⟩)
        have hS1 := hS.kept hb1
        have hr := refTable_any L most _ b off 0 w1 hS1 hl
        rw [← HN.out, HO.out] at hr
        refine hr.mono ?_
        rintro e w2 ⟨rfl, hb2⟩
        have hs1 := hb1.size
        have hs2 := hb2.size
        have hS2 : Hid (Sees w2 L none b off 0) := hS1.kept hb2
        have hB2 : Hid (Below w.heap.size w w2) := hb1.trans (hb2.mono hs1)
        clear hr hb1 hb2 hS1
        go_wp2_with (at_builtin; refine wpList_append_own_none rfl _ _ 22 rfl w2.heap.size 33 i0 3 Try.underlying22 hi _ _ _ rfl (made_empty w2) rfl ?_)
        have hL : L = [] := List.eq_nil_of_length_eq_zero HN.out.symm
        have hB3 : Hid (Below w.heap.size w (w2.alloc (.cells #[] 33))) := hB2.out.alloc (by omega) _
        have hS3 : Hid (Sees (w2.alloc (.cells #[] 33)) L none b off 0) := hS2.out.kept ((Below.refl _ _).alloc (Nat.le_refl _) _)
        have hm := make_no L most (some ⟨w2.heap.size, 0, none⟩) 0 0 0 (w2.alloc (.cells #[] 33)) (by rw [hL]; exact ⟨Nat.le_refl _, fun h => absurd h (Nat.lt_irrefl _), fun h => absurd h (Nat.lt_irrefl _), fun j x hj => by simp at hj, fun j x hj => by simp at hj, fun j x hj => by simp at hj⟩) hl HO.out
        rw [← HN.out] at hm
        clear hL
        refine hm.mono ?_
        rintro e w4 ⟨rfl, hb4⟩
        have hc := check_any L most none b off 0 w4 (hS3.out.kept hb4) hl
        rw [← HN.out, HO.out] at hc
        have hB4 : Hid (Below w.heap.size w w4) := hB3.out.trans (hb4.mono (by simp; omega))
        clear hm hb4
        go_wp2_with (go_at_call 12; refine hc.mono ?_; rintro e w5 ⟨rfl, hb5⟩)
        go_ret
        exact ⟨rfl, hB4.out.trans (hb5.mono hB4.out.size)⟩
      | some ad =>
        clear hnone
        go_enter Try.func3, Try.ntmps3
        go_wp2_with (go_at_call 9; refine (awake_any _).mono ?_; rintro e w1 ⟨rfl, hb1⟩)
        have hS1 := hS.kept hb1
        have hr := refTable_any L most _ b off cap w1 hS1 hl
        rw [← HN.out, HO.out] at hr
        refine hr.mono ?_
        rintro e w2 ⟨rfl, hb2⟩
        have hs1 := hb1.size
        have hs2 := hb2.size
        have hS2 : Hid (Sees w2 L (some ad) b off cap) := hS1.kept hb2
        have hB2 : Hid (Below w.heap.size w w2) := hb1.trans (hb2.mono hs1)
        clear hr hb1 hb2 hS1
        go_wp2_with (at_builtin; refine wpList_append_own _ rfl _ _ 22 rfl w2.heap.size 33 i0 (.agg #[.int .i32 0, .int .i32 0, .int .i64 0]) 3 16 Try.underlying22 hi hz0 hz1 hz2 rfl (by decide) _ _ _ rfl (made_empty w2) ad n cap (rgCells L) rfl (by rw [rgCells_len, HN.out]) (hS2.out.kept ((Below.refl _ _).alloc (Nat.le_refl _) _)).news (rgCells_one L) (by unfold maxLen; omega) (by omega) (by simp) ?_; intro v' w3 hown3 hg3 _)
        have hown3' : w3.ownsRow w2.heap.size 33 3 v' L.length (rgCells L) := by
          have h := hown3
          rw [Nat.zero_add, List.nil_append, HN.out] at h
          exact h
        obtain ⟨a3, g3, cap3, rfl, hS3', _, _⟩ := row_sees hown3'
        have hB3 : Hid (Below w.heap.size w w3) := (hB2.out.alloc (by omega) _).grown hg3 (by simp; omega) (fun k hk => by injection hk with hk; have : w2.heap.size = k := hk; omega)
        have hS3 : Hid (Sees w3 L (some ad) b off cap) := hS2.out.below (((Below.refl w2.heap.size w2).alloc (Nat.le_refl _) _).grown hg3 (by simp) (fun k hk => by injection hk with hk; have : w2.heap.size = k := hk; omega)) hS2.out.blk
        have hm := make_no L most a3 g3 0 cap3 w3 hS3' hl HO.out
        rw [← HN.out] at hm ⊢
        have hs3 := hB3.out.size
        clear hown3 hown3' hg3 hS3'
        refine hm.mono ?_
        rintro e w4 ⟨rfl, hb4⟩
        have hc := check_any L most (some ad) b off cap w4 (hS3.out.kept hb4) hl
        rw [← HN.out, HO.out] at hc
        have hB4 : Hid (Below w.heap.size w w4) := hB3.out.trans (hb4.mono hs3)
        clear hm hb4
        go_wp2_with (go_at_call 12; refine hc.mono ?_; rintro e w5 ⟨rfl, hb5⟩)
        go_ret
        exact ⟨rfl, hB4.out.trans (hb5.mono hB4.out.size)⟩
theorem contract (H : Type) (enc : TypeId × Value → H) (W : World) (base : Nat) (args : Array Value) (ds gs : List (DataW H)) (before : List MemPlace)
    (hval : ∀ (j : Nat) t v, Try.f3.params[j]? = some t → args[j]? = some v → Value.okWide Try.prog W .any base t v)
    (hW : DataW.Whole enc Try.prog Try.f3.params.toList Rows.propChecksSpec.vars false W args.toList ds gs before) :
    Calls Try.prog 3 args W fun e W' => ∃ v, e = .returned v ∧ Rows.propChecksSpec.post enc Try.prog Try.f3 false true false false W args v W' := by
  have hW' := hW
  obtain ⟨p, q, hA0, hV, rfl, hfz, hnd⟩ := hW
  have hA : DataW.TrodAll enc Try.prog W 0 (fun _ => true) true Try.f3.params.toList args.toList ds p := hA0
  rw [Try.params3] at hA hval
  obtain ⟨v0, vs0, d0, ds0, p0, q0, hargs, rfl, rfl, h0, r0⟩ := trodAll_cons hA
  obtain ⟨v1, vs1, d1, ds1, p1, q1, rfl, rfl, rfl, h1, r1⟩ := trodAll_cons r0
  obtain ⟨rfl, rfl, rfl⟩ := trodAll_nil r1
  obtain rfl : args = #[v0, v1] := by cases args; simp_all
  obtain ⟨rfl, rfl⟩ := trodVars_none hV
  obtain ⟨a0, len0, cap0, rfl⟩ := okWide_slice Try.underlying22 (hval 0 22 v0 rfl rfl)
  have k0 := h0
  have lt0 : ∀ x ∈ p0, x.block < W.heap.size := by obtain ⟨m, hm⟩ := k0; exact DataW.trod_lt m _ _ _ hm
  obtain ⟨L0, b0, off0, rfl, hS0, hF0, hmax0, hnone0⟩ := ranges_view h0
  obtain ⟨a1, rfl, rfl, rfl, w1⟩ := open_int Try.underlying3 (hval 1 3 v1 rfl rfl) h1
  clear hA0
  refine (walk L0 a1 a0 b0 off0 cap0 W hS0 (fun h => hnone0 h)).mono fun e W' ⟨he, bel⟩ => ?_
  subst he
  exact ⟨_, rfl, _, _, _, [], _, [], hW', trodAll_mk1 (shut_bool Try.underlying4 _), (trodAll_cons_mk (Below.trod laidOut (by kernel_rfl) (of_decide_eq_true (by kernel_rfl)) k0 bel lt0) (trodAll_cons_mk (shut_int Try.underlying3 w1) trodAll_mk0)), rfl, bel.frame _, fun h => by cases h⟩

set_option maxRecDepth 100000 in
theorem lifted (os : Os) (started : os.Started) (H : Type) (enc : TypeId × Value → H) :
    ReturnsInHanded {} Try.checked os 3 .any (Rows.propChecksSpec.pre6 enc Try.prog Try.f3 Rows.propChecksRow.domain false) (Rows.propChecksSpec.post enc Try.prog Try.f3 false true false false) := by
  refine returnsInHanded_of_change (C := Try.checked) own started (by kernel_rfl) Try.func3
    (ChangeSpec.witness6 (enc := enc) (C := Try.checked) false ⟨#[], #[.slice none 0 0, .int .i64 0], []⟩ 8 (by kernel_rfl) (by kernel_rfl) (by kernel_rfl) (by kernel_rfl)) ?_
  intro W base args ds gs before hval hW _ _
  exact contract H enc W base args ds gs before hval hW

theorem over : Rows.propChecksRow.holds Try.pinned (OpenSpec.ofChange Rows.propChecksSpec) :=
  OpenClaim.holds_of_wide 3 Try.f3 rfl rfl rfl rfl rfl rfl rfl ⟨rfl, rfl, rfl, rfl, rfl⟩ rfl rfl rfl rfl rfl (by kernel_rfl) Try.func3 (by kernel_rfl)
    (of_decide_eq_true (by kernel_rfl)) (by unfold Func.isWrapper; first | (rw [if_pos (by decide +kernel)]; kernel_rfl) | (rw [if_neg (by decide +kernel)]; exact ⟨rfl, rfl⟩))
    (fun os started H enc _ => lifted os started H enc)
end Go.Proofs.Ytagkdboobfkmmaa.propChecks
namespace Go.Proofs.Ytagkdboobfkmmaa
/-- THE STATEMENT. -/
theorem propChecks_holds : Rows.PropChecksSaid := propChecks.over
#print axioms propChecks_holds
end Go.Proofs.Ytagkdboobfkmmaa
