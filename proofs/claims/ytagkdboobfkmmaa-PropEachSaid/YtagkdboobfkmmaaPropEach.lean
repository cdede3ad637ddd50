/-
  stanzalaw02.PropEach returns true at every slice of ranges and every slice of numbers, and both read afterwards as they read before; no condition.
-/
import Derived.Test.YtagkdboobfkmmaaRows
import Derived.Test.YtagkdboobfkmmaaEach
namespace Go.Proofs.Ytagkdboobfkmmaa.propEach
open Go.ChangeShapes Go.WideShapes Go.ChangeAt Go.RowKit
set_option linter.unusedVariables false
set_option linter.unusedSimpArgs false

theorem sc_news (wr : World) (x : Int) (k : Nat) : ∀ j u, [Value.int .i32 x, Value.int .i64 k, Value.int .i64 1][j]? = some u → (wr.alloc (.cells #[.int .i32 x, .int .i64 k, .int .i64 1] 38)).cell? ((⟨wr.heap.size, 0, none⟩ : Addr).add j) = some u := by
  intro j u hj
  rw [Addr.add_mid, Nat.zero_add, cell_of_row _ _ _ _ _ _ (heap_alloc_new _ _)]
  simpa using hj
theorem sc_one (x : Int) (k : Nat) : ∀ u ∈ [Value.int .i32 x, Value.int .i64 k, Value.int .i64 1], u.oneCell' = true := by
  intro u hu
  simp at hu
  rcases hu with rfl | rfl | rfl <;> rfl

set_option maxRecDepth 100000 in
set_option maxHeartbeats 4000000 in
theorem walk (L : List Rg) (a : Option Addr) (b off cap : Nat) (n : Nat) (R : Nat → Int) (na : Option Addr) (nb noff ncap : Nat) (w : World) (hS : Sees w L a b off cap) (hF : Fit L)
    (hna : 0 < n → na = some ⟨nb, noff, none⟩) (hnb : 0 < n → nb < w.heap.size) (hR : ∀ j, -2147483648 ≤ R j ∧ R j ≤ 2147483647) (hc : ∀ j, j < n → w.cell? ⟨nb, noff + j, none⟩ = some (.int .i32 (R j))) :
    Calls Try.prog 5 #[.slice a L.length cap, .slice na n ncap] w fun e w' => e = .returned (.bool true) ∧ Below w.heap.size w w' := by
  have hcH : Hid (∀ j, j < n → w.cell? ⟨nb, noff + j, none⟩ = some (.int .i32 (R j))) := hc
  have hRH : Hid (∀ j, -2147483648 ≤ R j ∧ R j ≤ 2147483647) := hR
  have hnaH : Hid (0 < n → na = some ⟨nb, noff, none⟩) := hna
  have hnbH : Hid (0 < n → nb < w.heap.size) := hnb
  clear hc hR hna hnb
  obtain ⟨i0, hi, hz0, hz1, hz2⟩ := info_parts info38
  by_cases hbig : 1000 < n
  · have hbI : (1000 : Int) < (n : Int) := by omega
    go_enter Try.func5, Try.ntmps5
    go_wp2_with (go_at_call 9; refine (awake_any _).mono ?_; rintro e w1 ⟨rfl, hb1⟩)
    go_ret
    exact ⟨rfl, hb1⟩
  · have hnI : (n : Int) ≤ 1000 := by omega
    go_enter Try.func5, Try.ntmps5
    go_wp2_with (go_at_call 9; refine (awake_any _).mono ?_; rintro e w1 ⟨rfl, hb1⟩)
    refine (right_any L 9 a b off cap w1 (hS.kept hb1) hF (by omega) (by omega)).mono ?_
    rintro e w2 ⟨M, v, rfl, hown2, hM, hok, hb2⟩
    obtain ⟨a2, g2, cap2, rfl, hS2, _, _⟩ := row_sees hown2
    have hs1 := hb1.size
    have hs2 := hb2.size
    have hB2 : Hid (Below w.heap.size w w2) := hb1.trans (hb2.mono hs1)
    have HO : Hid (Pr.okFrom 9 (-1) M = true) := hok
    have hOk : Pr.ok 9 M = true := by unfold Pr.ok; rw [hok, Bool.and_true, decide_eq_true_eq]; omega
    have hmk := make_ok M 9 a2 g2 0 cap2 w2 hS2 (by omega) hOk
    obtain ⟨m, hm'⟩ : ∃ m, m = M.length := ⟨_, rfl⟩
    have HM : Hid (m = M.length) := hm'
    rw [← hm'] at hmk hM ⊢
    have hSH : Hid (Sees w2 M a2 g2 0 cap2) := hS2
    clear hm' hown2 hb1 hb2 hok hOk hS hF hS2
    go_wp2_with fail
    refine hmk.mono ?_
    rintro e w3 ⟨T, rfl, hT, hb3⟩
    have hs3 := hb3.size
    have hB3 : Hid (Below w.heap.size w w3) := hB2.out.trans (hb3.mono (by omega))
    have hS3 : Hid (Sees w3 M a2 g2 0 cap2) := hSH.out.kept hb3
    have hT3 : Hid (Tab w3 w2.heap.size T M) := hT
    have hs03 : w.heap.size ≤ w3.heap.size := by omega
    clear hmk hb3 hT hs1 hs2 hs3
    go_wp2_with fail
    go_loopw [7, 29] (fun v i wr => ∃ (k : Nat) (vv : Value), vv = v ∧ k ≤ n ∧ i = .int .i64 k ∧ wr.ownsRow w3.heap.size 38 3 v k (scCells k R) ∧ Below w3.heap.size w3 wr) (fun _ i _ => n - (intOf i).toNat)
    case atStart => exact ⟨0, _, rfl, Nat.zero_le _, rfl, World.ownsRow_nil _ _ _ _, Below.refl _ _⟩
    case round =>
      obtain ⟨k, v, rfl, hk, rfl, hown, hbel⟩ := hrel
      by_cases hlt : k < n
      · have hltI : (k : Int) < (n : Int) := by omega
        obtain rfl := hnaH.out (by omega)
        obtain ⟨x, hx⟩ : ∃ x, x = R k := ⟨_, rfl⟩
        have d0 : wr.cell? ⟨nb, noff + k, none⟩ = some (.int .i32 x) := by
          rw [hx]
          exact (hbel.cell (p := ⟨nb, noff + k, none⟩) (Nat.lt_of_lt_of_le (hnbH.out (by omega)) hs03)).trans ((hB3.out.cell (p := ⟨nb, noff + k, none⟩) (hnbH.out (by omega))).trans (hcH.out k hlt))
        have HX : Hid (x = R k) := hx
        have hsz := hbel.size
        have hOH : Hid (wr.ownsRow w3.heap.size 38 3 v k (scCells k R)) := hown
        have hBH : Hid (Below w3.heap.size w3 wr) := hbel
        clear hx hown hbel
        go_wp2_with (at_builtin; refine wpList_append_own _ rfl _ _ 36 rfl w3.heap.size 38 i0 (.agg #[.int .i32 0, .int .i64 0, .int .i64 0]) 3 24 Try.underlying36 hi hz0 hz1 hz2 rfl (by decide) _ _ _ rfl (hOH.out.alloc _) ⟨wr.heap.size, 0, none⟩ 1 1 [.int .i32 x, .int .i64 k, .int .i64 1] rfl rfl (sc_news _ _ _) (sc_one _ _) (by unfold maxLen; omega) (by omega) (by simp; omega) ?_; intro v' w5 hown5 hg5 _)
        have hB5 : Hid (Below w3.heap.size w3 w5) := (hBH.out.alloc hsz _).grown hg5 (by simp; omega) (fun g e => (hOH.out.lt g e).1)
        have hO5 : Hid (w5.ownsRow w3.heap.size 38 3 v' (k + 1) (scCells (k + 1) R)) := (by rw [scCells_succ, ← HX.out]; exact hown5 : w5.ownsRow w3.heap.size 38 3 v' (k + 1) (scCells (k + 1) R))
        clear hown5 hg5 d0
        go_wp2
        go_roundw
        case rel => exact ⟨k + 1, v', rfl, by omega, by go_num, hO5.out, hB5.out⟩
        case measure => simp [intOf]; omega
      · have hkn : k = n := by omega
        subst hkn
        obtain ⟨a4, g4, cap4, rfl, hS4⟩ := row_signs hown
        have hS4H : Hid (SeesS wr k R a4 g4 cap4) := hS4
        have hBH : Hid (Below w3.heap.size w3 wr) := hbel
        have hT4 : Hid (Tab wr w2.heap.size T M) := hT3.out.kept hbel
        have hM4 : Hid (Sees wr M a2 g2 0 cap2) := hS3.out.kept hbel
        have hs4 := hbel.size
        have hea := each_any (.pointer (some ⟨T, 0, none⟩)) (Pr.of M) k R a4 g4 cap4 wr hS4 (by omega) hRH.out (fun w' hw r h1 h2 => of_any 9 M r _ T w' (hT4.out.kept hw) HO.out h1 h2)
        clear hown hbel hS4
        go_wp2_with fail
        refine hea.mono ?_
        rintro e w5 ⟨v5, rfl, hown5, hb5⟩
        obtain ⟨a5, g5, cap5, rfl, h5a, h5c⟩ := ints_row hown5
        have hs5 := hb5.size
        have h5r : Hid (w5.ownsRow wr.heap.size 3 1 (.slice a5 k cap5) k (mixI k k fun j => Pr.of M (R j))) := hown5
        have hB5 : Hid (Below wr.heap.size wr w5) := hb5
        have heb := each_any (.pointer none) (fun _ => 0) k R a4 g4 cap4 w5 (hS4H.out.kept hb5) (by omega) hRH.out (fun w' hw r h1 h2 => of_nil r w')
        clear hea hb5 hown5 h5a h5c
        go_wp2_with fail
        refine heb.mono ?_
        rintro e w6 ⟨v6, rfl, hown6, hb6⟩
        obtain ⟨a6, g6, cap6, rfl, h6a, h6c⟩ := ints_row hown6
        have hs6 := hb6.size
        have h6r : Hid (w6.ownsRow w5.heap.size 3 1 (.slice a6 k cap6) k (mixI k k fun j => 0)) := hown6
        have hB6 : Hid (Below wr.heap.size wr w6) := hB5.out.trans (hb6.mono hs5)
        have h5r6 : Hid (w6.ownsRow wr.heap.size 3 1 (.slice a5 k cap5) k (mixI k k fun j => Pr.of M (R j))) := ownsRow_below h5r.out hb6
        have hre := refEach_any M a2 g2 0 cap2 k R a4 g4 cap4 w6 (hM4.out.kept hB6.out) (by rw [← HM.out]; omega) (hS4H.out.kept hB6.out) (by omega)
        rw [← HM.out] at hre
        clear heb hb6 hown6 h6a h6c
        go_wp2_with fail
        refine hre.mono ?_
        rintro e w7 ⟨v7, rfl, hown7, hb7⟩
        obtain ⟨a7, g7, cap7, rfl, h7a, h7c⟩ := ints_row hown7
        obtain ⟨a5', g5', cap5', hv5, h5a, h5c⟩ := ints_row (ownsRow_below h5r6.out hb7)
        injection hv5 with q1 q2 q3
        subst q1 q3
        have hs7 := hb7.size
        have hsa := same_any k (fun j => Pr.of M (R j)) a5 a7 g5' g7 cap5 cap7 w7 h5a h7a (by omega) h5c h7c
        have h6r7 : Hid (w7.ownsRow w5.heap.size 3 1 (.slice a6 k cap6) k (mixI k k fun j => 0)) := ownsRow_below h6r.out hb7
        have hB7 : Hid (Below wr.heap.size wr w7) := hB6.out.trans (hb7.mono (by omega))
        clear hre hb7 hown7 h7a h7c h5a h5c
        go_wp2_with fail
        refine hsa.mono ?_
        rintro e w8 ⟨rfl, hb8⟩
        have hB8 : Hid (Below wr.heap.size wr w8) := hB7.out.trans (hb8.mono (by omega))
        have h6r8 : Hid (w8.ownsRow w5.heap.size 3 1 (.slice a6 k cap6) k (mixI k k fun j => 0)) := ownsRow_below h6r7.out hb8
        clear hsa hb8
        go_wp2_with fail
        refine (of_nil 65 w8).mono ?_
        rintro e w9 ⟨rfl, rfl⟩
        go_wp2_with fail
        refine (blocks_nil w9).mono ?_
        rintro e w10 ⟨rfl, rfl⟩
        obtain ⟨a9, g9, cap9, hv9, h9a, h9c⟩ := ints_row h6r8.out
        injection hv9 with q1 q2 q3
        subst q1 q3
        have h9H : Hid (∀ j, j < k → w10.cell? ⟨g9, j, none⟩ = some (.int .i64 0)) := h9c
        have h9A : Hid (0 < k → a6 = some ⟨g9, 0, none⟩) := h9a
        clear h9c h9a
        go_wp2_with fail
        go_loopw [76] (fun i wi => ∃ (j : Nat) (W : World), W = wi ∧ j ≤ k ∧ i = .int .i64 j ∧ wi = w10) (fun i _ => k - (intOf i).toNat)
        case atStart => exact ⟨0, _, rfl, Nat.zero_le _, rfl, rfl⟩
        case round =>
          obtain ⟨j, W, rfl, hj, rfl, rfl⟩ := hrel
          by_cases hjl : j < k
          · have hjI : (j : Int) < (k : Int) := by omega
            obtain rfl := h9A.out (by omega)
            have d := h9H.out j hjl
            go_wp2
            go_roundw
            case rel => exact ⟨j + 1, _, rfl, by omega, by go_num, trivial⟩
            case measure => simp [intOf]; omega
          · go_wp2
            go_ret
            exact ⟨rfl, hB3.out.trans ((hBH.out.trans (hB8.out.mono hs4)).mono hs03)⟩
theorem contract (H : Type) (enc : TypeId × Value → H) (W : World) (base : Nat) (args : Array Value) (ds gs : List (DataW H)) (before : List MemPlace)
    (hval : ∀ (j : Nat) t v, Try.f5.params[j]? = some t → args[j]? = some v → Value.okWide Try.prog W .any base t v)
    (hW : DataW.Whole enc Try.prog Try.f5.params.toList Rows.propEachSpec.vars false W args.toList ds gs before) :
    Calls Try.prog 5 args W fun e W' => ∃ v, e = .returned v ∧ Rows.propEachSpec.post enc Try.prog Try.f5 false true false false W args v W' := by
  have hW' := hW
  obtain ⟨p, q, hA0, hV, rfl, hfz, hnd⟩ := hW
  have hA : DataW.TrodAll enc Try.prog W 0 (fun _ => true) true Try.f5.params.toList args.toList ds p := hA0
  rw [Try.params5] at hA hval
  obtain ⟨v0, vs0, d0, ds0, p0, q0, hargs, rfl, rfl, h0, r0⟩ := trodAll_cons hA
  obtain ⟨v1, vs1, d1, ds1, p1, q1, rfl, rfl, rfl, h1, r1⟩ := trodAll_cons r0
  obtain ⟨rfl, rfl, rfl⟩ := trodAll_nil r1
  obtain rfl : args = #[v0, v1] := by cases args; simp_all
  obtain ⟨rfl, rfl⟩ := trodVars_none hV
  obtain ⟨a0, len0, cap0, rfl⟩ := okWide_slice Try.underlying22 (hval 0 22 v0 rfl rfl)
  have k0 := h0
  have lt0 : ∀ x ∈ p0, x.block < W.heap.size := by obtain ⟨m, hm⟩ := k0; exact DataW.trod_lt m _ _ _ hm
  obtain ⟨L0, b0, off0, rfl, hS0, hF0, hmax0, hnone0⟩ := ranges_view h0
  obtain ⟨a1, len1, cap1, rfl⟩ := okWide_slice Try.underlying34 (hval 1 34 v1 rfl rfl)
  have k1 := h1
  have lt1 : ∀ x ∈ p1, x.block < W.heap.size := by obtain ⟨m, hm⟩ := k1; exact DataW.trod_lt m _ _ _ hm
  obtain ⟨x1, b1, off1, hcap1, hmax1, ha1, hb1, hx1, hc1⟩ := ints_view h1
  clear hA0
  refine (walk L0 a0 b0 off0 cap0 len1 x1 a1 b1 off1 cap1 W hS0 hF0 ha1 hb1 hx1 hc1).mono fun e W' ⟨he, bel⟩ => ?_
  subst he
  exact ⟨_, rfl, _, _, _, [], _, [], hW', trodAll_mk1 (shut_bool Try.underlying4 _), (trodAll_cons_mk (Below.trod laidOut (by kernel_rfl) (of_decide_eq_true (by kernel_rfl)) k0 bel lt0) (trodAll_cons_mk (Below.trod laidOut (by kernel_rfl) (of_decide_eq_true (by kernel_rfl)) k1 bel lt1) trodAll_mk0)), rfl, bel.frame _, fun h => by cases h⟩

set_option maxRecDepth 100000 in
theorem lifted (os : Os) (started : os.Started) (H : Type) (enc : TypeId × Value → H) :
    ReturnsInHanded {} Try.checked os 5 .any (Rows.propEachSpec.pre6 enc Try.prog Try.f5 Rows.propEachRow.domain false) (Rows.propEachSpec.post enc Try.prog Try.f5 false true false false) := by
  refine returnsInHanded_of_change (C := Try.checked) own started (by kernel_rfl) Try.func5
    (ChangeSpec.witness6 (enc := enc) (C := Try.checked) false ⟨#[], #[.slice none 0 0, .slice none 0 0], []⟩ 8 (by kernel_rfl) (by kernel_rfl) (by kernel_rfl) (by kernel_rfl)) ?_
  intro W base args ds gs before hval hW _ _
  exact contract H enc W base args ds gs before hval hW

theorem over : Rows.propEachRow.holds Try.pinned (OpenSpec.ofChange Rows.propEachSpec) :=
  OpenClaim.holds_of_wide 5 Try.f5 rfl rfl rfl rfl rfl rfl rfl ⟨rfl, rfl, rfl, rfl, rfl⟩ rfl rfl rfl rfl rfl (by kernel_rfl) Try.func5 (by kernel_rfl)
    (of_decide_eq_true (by kernel_rfl)) (by unfold Func.isWrapper; first | (rw [if_pos (by decide +kernel)]; kernel_rfl) | (rw [if_neg (by decide +kernel)]; exact ⟨rfl, rfl⟩))
    (fun os started H enc _ => lifted os started H enc)
end Go.Proofs.Ytagkdboobfkmmaa.propEach
namespace Go.Proofs.Ytagkdboobfkmmaa
/-- THE STATEMENT. -/
theorem propEach_holds : Rows.PropEachSaid := propEach.over
#print axioms propEach_holds
end Go.Proofs.Ytagkdboobfkmmaa
