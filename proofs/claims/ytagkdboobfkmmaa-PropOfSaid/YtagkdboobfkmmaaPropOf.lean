/-
  stanzalaw02.PropOf returns true at every slice of ranges and every number, and the slice reads afterwards as it read before; no condition.
-/
import Derived.Test.YtagkdboobfkmmaaRows
import Derived.Test.YtagkdboobfkmmaaRight
namespace Go.Proofs.Ytagkdboobfkmmaa.propOf
open Go.ChangeShapes Go.WideShapes Go.ChangeAt Go.RowKit
set_option linter.unusedVariables false
set_option linter.unusedSimpArgs false

theorem six {lo hi : Int} (h0 : 0 ≤ lo) (h1 : lo ≤ hi) (h2 : hi ≤ 1114111) (j : Nat) : -2147483648 ≤ [lo - 1, lo, lo + 1, hi - 1, hi, hi + 1].getD j 0 ∧ [lo - 1, lo, lo + 1, hi - 1, hi, hi + 1].getD j 0 ≤ 2147483647 := by
  match j with
  | 0 => simp; omega
  | 1 => simp; omega
  | 2 => simp; omega
  | 3 => simp; omega
  | 4 => simp; omega
  | 5 => simp; omega
  | j + 6 => simp
theorem six_at {w : World} {G : Nat} {lo hi : Int} (h : w.heap[G]? = some (.cells #[.int .i32 (lo - 1), .int .i32 lo, .int .i32 (lo + 1), .int .i32 (hi - 1), .int .i32 hi, .int .i32 (hi + 1)] 21 (0, 0))) {j : Nat} (hj : j < 6) :
    w.cell? ⟨G, j, none⟩ = some (.int .i32 ([lo - 1, lo, lo + 1, hi - 1, hi, hi + 1].getD j 0)) := by
  rw [cell_of_row _ _ _ _ _ _ h]
  match j, hj with
  | 0, _ => rfl
  | 1, _ => rfl
  | 2, _ => rfl
  | 3, _ => rfl
  | 4, _ => rfl
  | 5, _ => rfl

set_option maxRecDepth 100000 in
set_option maxHeartbeats 4000000 in
theorem walk (L : List Rg) (r : Int) (a : Option Addr) (b off cap : Nat) (w : World) (hS : Sees w L a b off cap) (hF : Fit L) (hr : -2147483648 ≤ r ∧ r ≤ 2147483647) :
    Calls Try.prog 4 #[.slice a L.length cap, .int .i32 r] w fun e w' => e = .returned (.bool true) ∧ Below w.heap.size w w' := by
  have HR : Hid (-2147483648 ≤ r ∧ r ≤ 2147483647) := hr
  clear hr
  go_enter Try.func4, Try.ntmps4
  go_wp2_with (go_at_call 9; refine (awake_any _).mono ?_; rintro e w1 ⟨rfl, hb1⟩)
  refine (right_any L 200 a b off cap w1 (hS.kept hb1) hF (by omega) (by omega)).mono ?_
  rintro e w2 ⟨M, v, rfl, hown2, hM, hok, hb2⟩
  obtain ⟨a2, g2, cap2, rfl, hS2, _, _⟩ := row_sees hown2
  have hs1 := hb1.size
  have hs2 := hb2.size
  have hB2 : Hid (Below w.heap.size w w2) := hb1.trans (hb2.mono hs1)
  have HO : Hid (Pr.okFrom 200 (-1) M = true) := hok
  have hOk : Pr.ok 200 M = true := by unfold Pr.ok; rw [hok, Bool.and_true, decide_eq_true_eq]; omega
  have hmk := make_ok M 200 a2 g2 0 cap2 w2 hS2 (by omega) hOk
  obtain ⟨m, hm'⟩ : ∃ m, m = M.length := ⟨_, rfl⟩
  have HM : Hid (m = M.length) := hm'
  rw [← hm'] at hmk hM ⊢
  have hSH : Hid (Sees w2 M a2 g2 0 cap2) := hS2
  clear hm' hown2 hb1 hb2 hok hOk hS hF hS2
  go_wp2_with fail
  refine hmk.mono ?_
  rintro e w3 ⟨T, rfl, hT, hb3⟩
  have hs3 := hb3.size
  have hB3 : Hid (Below w.heap.size w w3) := hB2.out.trans (hb3.mono (by omega))
  have hS3 : Hid (Sees w3 M a2 g2 0 cap2) := hSH.out.kept hb3
  have hT3 : Hid (Tab w3 w2.heap.size T M) := hT
  have ho := of_any 200 M r _ T w3 hT HO.out HR.out.1 HR.out.2
  have hro := refOf_any M r a2 g2 0 cap2 w3 hS3.out (by rw [← HM.out]; omega)
  rw [← HM.out] at hro
  clear hmk hb3 hT
  go_wp2_with fail
  refine ho.mono ?_
  rintro e w' ⟨rfl, rfl⟩
  go_wp2_with fail
  refine hro.mono ?_
  rintro e w4 ⟨rfl, hb4⟩
  clear ho hro
  go_wp2_with fail
  go_loopw [33] (fun i wr => ∃ (k : Nat), k ≤ m ∧ i = .int .i64 k ∧ Below w'.heap.size w' wr) (fun i _ => m - (intOf i).toNat)
  case atStart => exact ⟨0, Nat.zero_le _, rfl, hb4⟩
  case round =>
    obtain ⟨k, hk, rfl, hbel⟩ := hrel
    by_cases hlt : k < m
    · have hltI : (k : Int) < (m : Int) := by omega
      obtain rfl := hS3.out.adr (by rw [← HM.out]; omega)
      obtain ⟨x, hx⟩ : ∃ x, M[k]? = some x := ⟨M[k]'(by rw [← HM.out]; omega), List.getElem?_eq_getElem _⟩
      have hS' := hS3.out.kept hbel
      have d0 := hS'.c0 k x hx
      have d1 := hS'.c1 k x hx
      have d2 := hS'.c2 k x hx
      simp only [Nat.zero_add] at d0 d1 d2
      have hfx := Pr.ok_mem HO.out x (List.mem_of_getElem? hx)
      obtain ⟨xlo, xhi, xto⟩ := x
      simp only at d0 d1 d2
      have f0 : 0 ≤ xlo := by have := hfx.1; simp only at this; omega
      have f1 : xlo ≤ xhi := hfx.2.1
      have f2 : xhi ≤ 1114111 := hfx.2.2.1
      have hBH : Hid (Below w'.heap.size w' wr) := hbel
      have hsz := hbel.size
      clear hx hS' hbel hfx
      go_wp2_with fail
      obtain ⟨G, hG⟩ : ∃ G, G = wr.heap.size + 1 := ⟨_, rfl⟩
      have HG : Hid (G = wr.heap.size + 1) := hG
      have hGw : w'.heap.size ≤ G := by omega
      rw [← hG]
      clear hG
      go_loopw [55] (fun i wr => ∃ (j : Nat), j ≤ 6 ∧ i = .int .i64 j ∧ Hid (wr.heap[G]? = some (.cells #[.int .i32 (xlo - 1), .int .i32 xlo, .int .i32 (xlo + 1), .int .i32 (xhi - 1), .int .i32 xhi, .int .i32 (xhi + 1)] 21 (0, 0))) ∧ Below w'.heap.size w' wr) (fun i _ => 6 - (intOf i).toNat)
      case atStart => exact ⟨0, Nat.zero_le _, rfl, by rw [HG.out]; exact heap_alloc2_new _ _ _, (hBH.out.alloc hsz _).alloc (by simp; omega) _⟩
      case round =>
        obtain ⟨j, hj, rfl, hgr, hbel2⟩ := hrel
        by_cases hjl : j < 6
        · have hjI : (j : Int) < 6 := by omega
          have c0 := six_at hgr.out hjl
          have hsx := six f0 f1 f2 j
          obtain ⟨y, hy⟩ : ∃ y, y = [xlo - 1, xlo, xlo + 1, xhi - 1, xhi, xhi + 1].getD j 0 := ⟨_, rfl⟩
          rw [← hy] at c0 hsx
          have ho := of_any 200 M y _ T wr (hT3.out.kept hbel2) HO.out hsx.1 hsx.2
          have hro := refOf_any M y (some ⟨g2, 0, none⟩) g2 0 cap2 wr (hS3.out.kept hbel2) (by rw [← HM.out]; omega)
          rw [← HM.out] at hro
          have hBH2 : Hid (Below w'.heap.size w' wr) := hbel2
          have hlt2 : Hid (G < wr.heap.size) := (Array.getElem?_eq_some_iff.1 hgr.out).1
          clear hy hbel2 d0 d1 d2 hsx
          go_wp2_with fail
          refine ho.mono ?_
          rintro e w5 ⟨rfl, rfl⟩
          go_wp2_with fail
          refine hro.mono ?_
          rintro e w6 ⟨rfl, hb6⟩
          have hB6 : Hid (Below w'.heap.size w' w6) := hBH2.out.trans (hb6.mono hBH2.out.size)
          have hg6 : Hid (w6.heap[G]? = some (.cells #[.int .i32 (xlo - 1), .int .i32 xlo, .int .i32 (xlo + 1), .int .i32 (xhi - 1), .int .i32 xhi, .int .i32 (xhi + 1)] 21 (0, 0))) := (hb6.block G hlt2.out).trans hgr.out
          clear ho hro hb6
          go_wp2
          go_roundw
          case rel => exact ⟨j + 1, by omega, by go_num, hg6.out, hB6.out⟩
          case measure => simp [intOf]; omega
        · have hBH2 : Hid (Below w'.heap.size w' wr) := hbel2
          clear hbel2 d0 d1 d2
          have hj6 : j = 6 := by omega
          subst hj6
          go_wp2
          go_roundw
          case rel => exact ⟨k + 1, by omega, by go_num, hBH2.out⟩
          case measure => simp [intOf]; omega
    · have hBH : Hid (Below w'.heap.size w' wr) := hbel
      clear hbel
      go_wp2
      go_ret
      exact ⟨rfl, hB3.out.trans (hBH.out.mono (by omega))⟩
theorem contract (H : Type) (enc : TypeId × Value → H) (W : World) (base : Nat) (args : Array Value) (ds gs : List (DataW H)) (before : List MemPlace)
    (hval : ∀ (j : Nat) t v, Try.f4.params[j]? = some t → args[j]? = some v → Value.okWide Try.prog W .any base t v)
    (hW : DataW.Whole enc Try.prog Try.f4.params.toList Rows.propOfSpec.vars false W args.toList ds gs before) :
    Calls Try.prog 4 args W fun e W' => ∃ v, e = .returned v ∧ Rows.propOfSpec.post enc Try.prog Try.f4 false true false false W args v W' := by
  have hW' := hW
  obtain ⟨p, q, hA0, hV, rfl, hfz, hnd⟩ := hW
  have hA : DataW.TrodAll enc Try.prog W 0 (fun _ => true) true Try.f4.params.toList args.toList ds p := hA0
  rw [Try.params4] at hA hval
  obtain ⟨v0, vs0, d0, ds0, p0, q0, hargs, rfl, rfl, h0, r0⟩ := trodAll_cons hA
  obtain ⟨v1, vs1, d1, ds1, p1, q1, rfl, rfl, rfl, h1, r1⟩ := trodAll_cons r0
  obtain ⟨rfl, rfl, rfl⟩ := trodAll_nil r1
  obtain rfl : args = #[v0, v1] := by cases args; simp_all
  obtain ⟨rfl, rfl⟩ := trodVars_none hV
  obtain ⟨a0, len0, cap0, rfl⟩ := okWide_slice Try.underlying22 (hval 0 22 v0 rfl rfl)
  have k0 := h0
  have lt0 : ∀ x ∈ p0, x.block < W.heap.size := by obtain ⟨m, hm⟩ := k0; exact DataW.trod_lt m _ _ _ hm
  obtain ⟨L0, b0, off0, rfl, hS0, hF0, hmax0, hnone0⟩ := ranges_view h0
  obtain ⟨a1, rfl, rfl, rfl, w1⟩ := open_int Try.underlying21 (hval 1 21 v1 rfl rfl) h1
  clear hA0
  refine (walk L0 a1 a0 b0 off0 cap0 W hS0 hF0 (wf_i32 w1)).mono fun e W' ⟨he, bel⟩ => ?_
  subst he
  exact ⟨_, rfl, _, _, _, [], _, [], hW', trodAll_mk1 (shut_bool Try.underlying4 _), (trodAll_cons_mk (Below.trod laidOut (by kernel_rfl) (of_decide_eq_true (by kernel_rfl)) k0 bel lt0) (trodAll_cons_mk (shut_int Try.underlying21 w1) trodAll_mk0)), rfl, bel.frame _, fun h => by cases h⟩

set_option maxRecDepth 100000 in
theorem lifted (os : Os) (started : os.Started) (H : Type) (enc : TypeId × Value → H) :
    ReturnsInHanded {} Try.checked os 4 .any (Rows.propOfSpec.pre6 enc Try.prog Try.f4 Rows.propOfRow.domain false) (Rows.propOfSpec.post enc Try.prog Try.f4 false true false false) := by
  refine returnsInHanded_of_change (C := Try.checked) own started (by kernel_rfl) Try.func4
    (ChangeSpec.witness6 (enc := enc) (C := Try.checked) false ⟨#[], #[.slice none 0 0, .int .i32 0], []⟩ 8 (by kernel_rfl) (by kernel_rfl) (by kernel_rfl) (by kernel_rfl)) ?_
  intro W base args ds gs before hval hW _ _
  exact contract H enc W base args ds gs before hval hW

theorem over : Rows.propOfRow.holds Try.pinned (OpenSpec.ofChange Rows.propOfSpec) :=
  OpenClaim.holds_of_wide 4 Try.f4 rfl rfl rfl rfl rfl rfl rfl ⟨rfl, rfl, rfl, rfl, rfl⟩ rfl rfl rfl rfl rfl (by kernel_rfl) Try.func4 (by kernel_rfl)
    (of_decide_eq_true (by kernel_rfl)) (by unfold Func.isWrapper; first | (rw [if_pos (by decide +kernel)]; kernel_rfl) | (rw [if_neg (by decide +kernel)]; exact ⟨rfl, rfl⟩))
    (fun os started H enc _ => lifted os started H enc)
end Go.Proofs.Ytagkdboobfkmmaa.propOf
namespace Go.Proofs.Ytagkdboobfkmmaa
/-- THE STATEMENT. -/
theorem propOf_holds : Rows.PropOfSaid := propOf.over
#print axioms propOf_holds
end Go.Proofs.Ytagkdboobfkmmaa
