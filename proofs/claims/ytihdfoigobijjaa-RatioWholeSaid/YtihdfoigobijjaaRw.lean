/-
  stanzalaw12.RatioWhole: its walk.
-/
import Derived.Test.YtihdfoigobijjaaRf
namespace Go.Proofs.Ytihdfoigobijjaa
open Go.RowKit Go.Maps
set_option linter.unusedVariables false
set_option linter.unusedSimpArgs false
namespace Fl
theorem rk_inj {x y : Nat} (hx : x < 18446744073709551616) (hy : y < 18446744073709551616) (h : rk x = rk y) : x = y := by
  unfold rk neg rung at h
  by_cases a : 9223372036854775808 ≤ x <;> by_cases b : 9223372036854775808 ≤ y <;> simp [a, b] at h <;> omega
theorem od_self (x : Nat) : od x x = 0 := by
  unfold od
  cases nn x <;> simp
theorem od_turn (x y : Nat) : od y x = - od x y := by
  unfold od
  generalize rk x = p
  generalize rk y = q
  cases nn x <;> cases nn y <;> simp
  split <;> split <;> (try split) <;> omega
theorem od_same {x y : Nat} (hx : x < 18446744073709551616) (hy : y < 18446744073709551616) : sm x y = decide (od x y = 0) := by
  unfold sm od
  cases a : nn x <;> cases b : nn y
  · have i := @rk_inj x y hx hy
    have j : x = y → rk x = rk y := fun e => by rw [e]
    simp
    generalize rk x = p at *
    generalize rk y = q at *
    by_cases h : x = y
    · have := j h
      simp [h, this]
    · have : p ≠ q := fun e => h (i e)
      have n : (x == y) = false := by simpa using h
      rw [n]
      symm
      apply decide_eq_false
      split
      · omega
      · split <;> omega
  · have : x ≠ y := fun e => by rw [e, b] at a; cases a
    simp [this]
  · have : x ≠ y := fun e => by rw [e, b] at a; cases a
    simp [this]
  · simp
def kk (x : Nat) : Int := if nn x then -18446744073709551616 else rk x
theorem rk_low (x : Nat) : -9223372036854775808 ≤ rk x := by
  unfold rk rung
  split <;> omega
theorem od_kk (x y : Nat) : od x y ≤ 0 ↔ kk x ≤ kk y := by
  have a := rk_low x
  have b := rk_low y
  unfold od kk
  generalize rk x = p at *
  generalize rk y = q at *
  cases nn x <;> cases nn y <;> simp
  · constructor
    · intro h
      split at h
      · omega
      · split at h <;> omega
    · intro h
      split
      · omega
      · split <;> omega
  · omega
  · omega
theorem od_trans {x y z : Nat} (h1 : od x y ≤ 0) (h2 : od y z ≤ 0) : od x z ≤ 0 := by
  rw [od_kk] at *
  omega
end Fl
namespace ratioWhole
theorem st_one {w : World} {b k : Nat} {cs : Array Value} {t : TypeId} (h : w.heap[b]? = some (.cells cs t (0, 0))) (hk : k < cs.size) (x : Nat) : (store ⟨b, k, none⟩ (.float .f64 x)).run Try.prog w = .ok () (w.setCell ⟨b, k, none⟩ (.float .f64 x)) := by
  have c : w.cell? ⟨b, k, none⟩ = some cs[k] := by rw [cell_blk h]; exact Array.getElem?_eq_getElem hk
  have f := fz_blk h k
  rw [run_store _ _ _ _ _ rfl]
  simp [stored, c, f]
/-- three numbers, laid into a block of their own. -/
theorem st_three (W : World) (x y z : Nat) : ∃ U1 U2 U3, (store ⟨W.heap.size, 0, none⟩ (.float .f64 x)).run Try.prog (W.alloc (.cells #[.float .f64 0, .float .f64 0, .float .f64 0] 30)) = .ok () U1 ∧ (store ⟨W.heap.size, 1, none⟩ (.float .f64 y)).run Try.prog U1 = .ok () U2 ∧ (store ⟨W.heap.size, 2, none⟩ (.float .f64 z)).run Try.prog U2 = .ok () U3 ∧ Hid (Only (fun _ => False) W U3) ∧ U3.cell? ⟨W.heap.size, 0, none⟩ = some (.float .f64 x) ∧ U3.cell? ⟨W.heap.size, 1, none⟩ = some (.float .f64 y) ∧ U3.cell? ⟨W.heap.size, 2, none⟩ = some (.float .f64 z) := by
  have h0 : (W.alloc (.cells #[.float .f64 0, .float .f64 0, .float .f64 0] 30)).heap[W.heap.size]? = some (.cells #[.float .f64 0, .float .f64 0, .float .f64 0] 30 (0, 0)) := heap_alloc_new W _
  have h1 := heap_setCell_at (k := 0) h0 (.float .f64 x)
  have h2 := heap_setCell_at (k := 1) h1 (.float .f64 y)
  have h3 := heap_setCell_at (k := 2) h2 (.float .f64 z)
  exact ⟨_, _, _, st_one h0 (by decide) x, st_one h1 (by simp) y, st_one h2 (by simp) z, (((Only.refl (fun _ => False) W).alloc _).setNew (Nat.le_refl _) _).setNew (Nat.le_refl _) _ |>.setNew (Nat.le_refl _) _, cell_blk h3, cell_blk h3, cell_blk h3⟩
def tri (a b c : Nat) : List (Nat × Nat × Nat) := [(a, b, c), (a, 0, 9223372036854775808), (9221120237041090561, a, b), (9218868437227405312, a, 18442240474082181120)]
def tC (T : List (Nat × Nat × Nat)) : List Value := T.flatMap fun t => [.float .f64 t.1, .float .f64 t.2.1, .float .f64 t.2.2]
theorem tri_at {a b c : Nat} (ha : a < 18446744073709551616) (hb : b < 18446744073709551616) (hc : c < 18446744073709551616) {w : World} {g k : Nat} (h : w.heap[g]? = some (.cells (tC (tri a b c)).toArray 30 (0, 0))) (hk : k < 4) :
    ∃ x y z, x < 18446744073709551616 ∧ y < 18446744073709551616 ∧ z < 18446744073709551616 ∧ w.cell? ⟨g, k * 3, none⟩ = some (.float .f64 x) ∧ w.cell? ⟨g, k * 3 + 1, none⟩ = some (.float .f64 y) ∧ w.cell? ⟨g, k * 3 + 2, none⟩ = some (.float .f64 z) := by
  have hcell : ∀ j, w.cell? ⟨g, j, none⟩ = (tC (tri a b c)).toArray[j]? := fun j => cell_blk h
  match k, hk with
  | 0, _ => exact ⟨a, b, c, ha, hb, hc, by rw [hcell]; rfl, by rw [hcell]; rfl, by rw [hcell]; rfl⟩
  | 1, _ => exact ⟨a, 0, 9223372036854775808, ha, by decide, by decide, by rw [hcell]; rfl, by rw [hcell]; rfl, by rw [hcell]; rfl⟩
  | 2, _ => exact ⟨9221120237041090561, a, b, by decide, ha, hb, by rw [hcell]; rfl, by rw [hcell]; rfl, by rw [hcell]; rfl⟩
  | 3, _ => exact ⟨9218868437227405312, a, 18442240474082181120, by decide, ha, by decide, by rw [hcell]; rfl, by rw [hcell]; rfl, by rw [hcell]; rfl⟩
set_option maxRecDepth 100000 in
set_option maxHeartbeats 8000000 in
theorem walk (a b c : Nat) (ha : a < 18446744073709551616) (hb : b < 18446744073709551616) (hc : c < 18446744073709551616) (w : World) : Calls Try.prog 5 #[.float .f64 a, .float .f64 b, .float .f64 c] w fun e w' => e = .returned (.bool true) ∧ Only (fun _ => False) w w' := by
  have HA : Hid (∀ w, Calls Try.prog 10 #[] w fun e w' => e = .returned (.bool true) ∧ Fl.Dr w w') := awake_any
  have HX : Hid (a < 18446744073709551616 ∧ b < 18446744073709551616 ∧ c < 18446744073709551616) := ⟨ha, hb, hc⟩
  have H1 : Hid (∀ w, Calls Try.prog 19 #[] w fun e w' => e = .returned (.float .f64 9221120237041090561) ∧ w = w') := nan_any
  have H2 : Hid (∀ w, Calls Try.prog 20 #[.int .i64 (-1)] w fun e w' => e = .returned (.float .f64 18442240474082181120) ∧ w = w') := inf_neg
  have H3 : Hid (∀ w, Calls Try.prog 18 #[.float .f64 0, .float .f64 13830554455654793216] w fun e w' => e = .returned (.float .f64 9223372036854775808) ∧ ∃ n, w' = w.drewN n) := copysign_any
  have H4 : Hid (∀ w, Calls Try.prog 20 #[.int .i64 1] w fun e w' => e = .returned (.float .f64 9218868437227405312) ∧ w = w') := inf_pos
  clear ha hb hc
  go_enter Try.func5, Try.ntmps5
  go_wp2_with fail
  refine Calls.mono (HA.out _) ?_
  rintro e w1 ⟨rfl, d1⟩
  have O1 : Hid (Only (fun _ => False) w w1) := d1.only
  clear d1
  go_wp2_with fail
  refine Calls.mono (H3.out _) ?_
  rintro e w2 ⟨rfl, n2, rfl⟩
  go_wp2_with fail
  refine Calls.mono (H1.out _) ?_
  rintro e v ⟨rfl, rfl⟩
  go_wp2_with fail
  refine Calls.mono (H4.out _) ?_
  rintro e v ⟨rfl, rfl⟩
  go_wp2_with fail
  refine Calls.mono (H2.out _) ?_
  rintro e v ⟨rfl, rfl⟩
  go_wp2_with fail
  obtain ⟨Z, hZ⟩ : ∃ Z, Z = (w1.drewN n2).alloc (.cells #[.float .f64 a, .float .f64 b, .float .f64 c, .float .f64 a, .float .f64 0, .float .f64 9223372036854775808, .float .f64 9221120237041090561, .float .f64 a, .float .f64 b, .float .f64 9218868437227405312, .float .f64 a, .float .f64 18442240474082181120] 30) := ⟨_, rfl⟩
  obtain ⟨g, hg⟩ : ∃ g, g = w1.heap.size := ⟨_, rfl⟩
  have HB : Hid (Z.heap[g]? = some (.cells (tC (tri a b c)).toArray 30 (0, 0)) ∧ Only (fun _ => False) w Z) := by
    rw [hZ, hg]
    exact ⟨heap_alloc_new _ _, (O1.out.drewN n2).alloc _⟩
  rw [← hZ]
  (try rw [← hg])
  clear hZ hg
  go_loopg [31] 4 (fun gh v wr => ∃ (k : Nat) (W : World), W = wr ∧ gh = 4 - k ∧ k ≤ 4 ∧ v = .int .i64 (k : Int) ∧ Only (fun _ => False) Z W)
  case atStart => exact ⟨0, _, rfl, rfl, Nat.zero_le _, rfl, Only.refl _ _⟩
  case round =>
    obtain ⟨k, W, hW, rfl, hk, rfl, hoW⟩ := hrel
    subst hW
    have OW : Hid (Only (fun _ => False) Z W) := hoW
    clear hoW
    by_cases hlt : k < 4
    · have t1 : (k : Int) < 4 := by omega
      obtain ⟨x, y, z, lx, ly, lz, c0, c1, c2⟩ := tri_at HX.out.1 HX.out.2.1 HX.out.2.2 ((OW.out.block g (Array.getElem?_eq_some_iff.1 HB.out.1).1 (fun h => h)).trans HB.out.1) hlt
      have HO : Hid (∀ x y, x < 18446744073709551616 → y < 18446744073709551616 → ∀ w, Calls Try.prog 16 #[.float .f64 x, .float .f64 y] w fun e w' => e = .returned (.int .i64 (Fl.od x y)) ∧ ∃ n, w' = w.drewN n) := fun x y hx hy w => order_any x y hx hy w
      have XX : Hid (∀ w, Calls Try.prog 16 #[.float .f64 x, .float .f64 x] w fun e w' => e = .returned (.int .i64 0) ∧ ∃ n, w' = w.drewN n) := by
        have := HO.out x x lx lx
        rw [Fl.od_self] at this
        exact this
      have XY : Hid (∀ w, Calls Try.prog 16 #[.float .f64 x, .float .f64 y] w fun e w' => e = .returned (.int .i64 (Fl.od x y)) ∧ ∃ n, w' = w.drewN n) := HO.out x y lx ly
      have YX : Hid (∀ w, Calls Try.prog 16 #[.float .f64 y, .float .f64 x] w fun e w' => e = .returned (.int .i64 (- Fl.od x y)) ∧ ∃ n, w' = w.drewN n) := by
        have := HO.out y x ly lx
        rw [Fl.od_turn x y] at this
        exact this
      have SM : Hid (∀ w, Calls Try.prog 14 #[.float .f64 x, .float .f64 y] w fun e w' => e = .returned (.bool (decide (Fl.od x y = 0))) ∧ ∃ n, w' = w.drewN n) := by
        have := same_any x y lx ly
        rw [Fl.od_same lx ly] at this
        exact this
      have YZ : Hid (∀ w, Calls Try.prog 16 #[.float .f64 y, .float .f64 z] w fun e w' => e = .returned (.int .i64 (Fl.od y z)) ∧ ∃ n, w' = w.drewN n) := HO.out y z ly lz
      have XZ : Hid (∀ w, Calls Try.prog 16 #[.float .f64 x, .float .f64 z] w fun e w' => e = .returned (.int .i64 (Fl.od x z)) ∧ ∃ n, w' = w.drewN n) := HO.out x z lx lz
      have HT : Hid (Fl.od x y ≤ 0 → Fl.od y z ≤ 0 → Fl.od x z ≤ 0) := Fl.od_trans
      have q0 := od_le x y
      have q1 := od_le y z
      have q2 := od_le x z
      generalize Fl.od x y = o at *
      generalize Fl.od y z = p at *
      generalize Fl.od x z = q at *
      clear lx ly lz HO
      obtain ⟨U1, U2, U3, st1, st2, st3, HU, d0, d1, d2⟩ := st_three W x y z
      have HF : Hid (Only (fun _ => False) Z U3) := OW.out.trans HU.out
      have o3 : o = -1 ∨ o = 0 ∨ o = 1 := by omega
      by_cases h1 : o ≤ 0
      · by_cases h2 : p ≤ 0
        · have h3 := HT.out h1 h2
          have u1 : decide (0 < q) = false := decide_eq_false (by omega)
          rcases o3 with rfl | rfl | rfl
          · simp only [Int.reduceNeg, Int.neg_neg, Int.reduceEq, decide_false] at YX SM
            go_wp2_with fail
            go_quiet (fail)
            go_wp2_with fail
            refine Calls.mono (XX.out _) ?_
            rintro e v ⟨rfl, n9, rfl⟩
            go_wp2_with fail
            refine Calls.mono (XY.out _) ?_
            rintro e v ⟨rfl, n9, rfl⟩
            go_wp2_with fail
            refine Calls.mono (YX.out _) ?_
            rintro e v ⟨rfl, n9, rfl⟩
            go_wp2_with fail
            refine Calls.mono (XY.out _) ?_
            rintro e v ⟨rfl, n9, rfl⟩
            go_wp2_with fail
            refine Calls.mono (SM.out _) ?_
            rintro e v ⟨rfl, n9, rfl⟩
            go_wp2_with fail
            refine Calls.mono (XY.out _) ?_
            rintro e v ⟨rfl, n9, rfl⟩
            go_wp2_with fail
            refine Calls.mono (YZ.out _) ?_
            rintro e v ⟨rfl, n9, rfl⟩
            go_wp2_with fail
            refine Calls.mono (XZ.out _) ?_
            rintro e v ⟨rfl, n9, rfl⟩
            go_wp2_with fail
            go_roundg (4 - (k + 1))
            case measure => omega
            case rel => exact ⟨k + 1, _, rfl, rfl, hlt, by go_num, by repeat (first | exact HF.out | refine Only.drewN ?_ _ | refine Only.drew ?_)⟩
          · simp only [Int.neg_zero, decide_true] at YX SM
            go_wp2_with fail
            go_quiet (fail)
            go_wp2_with fail
            refine Calls.mono (XX.out _) ?_
            rintro e v ⟨rfl, n9, rfl⟩
            go_wp2_with fail
            refine Calls.mono (XY.out _) ?_
            rintro e v ⟨rfl, n9, rfl⟩
            go_wp2_with fail
            refine Calls.mono (YX.out _) ?_
            rintro e v ⟨rfl, n9, rfl⟩
            go_wp2_with fail
            refine Calls.mono (XY.out _) ?_
            rintro e v ⟨rfl, n9, rfl⟩
            go_wp2_with fail
            refine Calls.mono (SM.out _) ?_
            rintro e v ⟨rfl, n9, rfl⟩
            go_wp2_with fail
            refine Calls.mono (XY.out _) ?_
            rintro e v ⟨rfl, n9, rfl⟩
            go_wp2_with fail
            refine Calls.mono (YZ.out _) ?_
            rintro e v ⟨rfl, n9, rfl⟩
            go_wp2_with fail
            refine Calls.mono (XZ.out _) ?_
            rintro e v ⟨rfl, n9, rfl⟩
            go_wp2_with fail
            go_roundg (4 - (k + 1))
            case measure => omega
            case rel => exact ⟨k + 1, _, rfl, rfl, hlt, by go_num, by repeat (first | exact HF.out | refine Only.drewN ?_ _ | refine Only.drew ?_)⟩
          · exact absurd h1 (by decide)
        · have u1 : decide (p ≤ 0) = false := decide_eq_false h2
          rcases o3 with rfl | rfl | rfl
          · simp only [Int.reduceNeg, Int.neg_neg, Int.reduceEq, decide_false] at YX SM
            go_wp2_with fail
            go_quiet (fail)
            go_wp2_with fail
            refine Calls.mono (XX.out _) ?_
            rintro e v ⟨rfl, n9, rfl⟩
            go_wp2_with fail
            refine Calls.mono (XY.out _) ?_
            rintro e v ⟨rfl, n9, rfl⟩
            go_wp2_with fail
            refine Calls.mono (YX.out _) ?_
            rintro e v ⟨rfl, n9, rfl⟩
            go_wp2_with fail
            refine Calls.mono (XY.out _) ?_
            rintro e v ⟨rfl, n9, rfl⟩
            go_wp2_with fail
            refine Calls.mono (SM.out _) ?_
            rintro e v ⟨rfl, n9, rfl⟩
            go_wp2_with fail
            refine Calls.mono (XY.out _) ?_
            rintro e v ⟨rfl, n9, rfl⟩
            go_wp2_with fail
            refine Calls.mono (YZ.out _) ?_
            rintro e v ⟨rfl, n9, rfl⟩
            go_wp2_with fail
            go_roundg (4 - (k + 1))
            case measure => omega
            case rel => exact ⟨k + 1, _, rfl, rfl, hlt, by go_num, by repeat (first | exact HF.out | refine Only.drewN ?_ _ | refine Only.drew ?_)⟩
          · simp only [Int.neg_zero, decide_true] at YX SM
            go_wp2_with fail
            go_quiet (fail)
            go_wp2_with fail
            refine Calls.mono (XX.out _) ?_
            rintro e v ⟨rfl, n9, rfl⟩
            go_wp2_with fail
            refine Calls.mono (XY.out _) ?_
            rintro e v ⟨rfl, n9, rfl⟩
            go_wp2_with fail
            refine Calls.mono (YX.out _) ?_
            rintro e v ⟨rfl, n9, rfl⟩
            go_wp2_with fail
            refine Calls.mono (XY.out _) ?_
            rintro e v ⟨rfl, n9, rfl⟩
            go_wp2_with fail
            refine Calls.mono (SM.out _) ?_
            rintro e v ⟨rfl, n9, rfl⟩
            go_wp2_with fail
            refine Calls.mono (XY.out _) ?_
            rintro e v ⟨rfl, n9, rfl⟩
            go_wp2_with fail
            refine Calls.mono (YZ.out _) ?_
            rintro e v ⟨rfl, n9, rfl⟩
            go_wp2_with fail
            go_roundg (4 - (k + 1))
            case measure => omega
            case rel => exact ⟨k + 1, _, rfl, rfl, hlt, by go_num, by repeat (first | exact HF.out | refine Only.drewN ?_ _ | refine Only.drew ?_)⟩
          · exact absurd h1 (by decide)
      · have e1 : o = 1 := by omega
        subst e1
        simp only [Int.reduceNeg, Int.reduceEq, decide_false] at YX SM
        go_wp2_with fail
        go_quiet (fail)
        go_wp2_with fail
        refine Calls.mono (XX.out _) ?_
        rintro e v ⟨rfl, n9, rfl⟩
        go_wp2_with fail
        refine Calls.mono (XY.out _) ?_
        rintro e v ⟨rfl, n9, rfl⟩
        go_wp2_with fail
        refine Calls.mono (YX.out _) ?_
        rintro e v ⟨rfl, n9, rfl⟩
        go_wp2_with fail
        refine Calls.mono (XY.out _) ?_
        rintro e v ⟨rfl, n9, rfl⟩
        go_wp2_with fail
        refine Calls.mono (SM.out _) ?_
        rintro e v ⟨rfl, n9, rfl⟩
        go_wp2_with fail
        refine Calls.mono (XY.out _) ?_
        rintro e v ⟨rfl, n9, rfl⟩
        go_wp2_with fail
        go_roundg (4 - (k + 1))
        case measure => omega
        case rel => exact ⟨k + 1, _, rfl, rfl, hlt, by go_num, by repeat (first | exact HF.out | refine Only.drewN ?_ _ | refine Only.drew ?_)⟩
    · have t2 : decide ((k : Int) < 4) = false := decide_eq_false (by omega)
      go_wp2_with fail
      go_ret
      exact ⟨rfl, HB.out.2.trans OW.out⟩
end ratioWhole
end Go.Proofs.Ytihdfoigobijjaa
