/-
  The small questions on signs, and slices.Index of numbers.
-/
import Derived.Test.YtjgbfpemkjpikaaDoorBs
namespace Go.Proofs.YtjgbfpemkjpikaaDoor
open Go.RowKit Go.Maps
set_option linter.unusedVariables false
set_option linter.unusedSimpArgs false
theorem isBl_int (r : Nat) : (((r : Int) == 32) || ((r : Int) == 9) || ((r : Int) == 10) || ((r : Int) == 13)) = Pt.isBl r := by
  unfold Pt.isBl
  rw [Bool.eq_iff_iff]
  simp only [Bool.or_eq_true, beq_iff_eq, decide_eq_true_eq]
  omega
set_option maxRecDepth 100000 in
set_option maxHeartbeats 1000000 in
theorem isBlank_any (r : Nat) (w : World) : Calls Tryd.prog 21 #[.int .i32 (r : Int)] w fun e w' => e = .returned (.bool (Pt.isBl r)) ∧ w' = w := by
  by_cases h1 : r = 32
  · subst h1
    go_enter Tryd.func21, Tryd.ntmps21
    go_wp2_with fail
    go_ret
    exact ⟨rfl, rfl⟩
  by_cases h2 : r = 9
  · subst h2
    go_enter Tryd.func21, Tryd.ntmps21
    go_wp2_with fail
    go_ret
    exact ⟨rfl, rfl⟩
  by_cases h3 : r = 10
  · subst h3
    go_enter Tryd.func21, Tryd.ntmps21
    go_wp2_with fail
    go_ret
    exact ⟨rfl, rfl⟩
  have q1 : ((r : Int) == 32) = false := by simp; omega
  have q2 : ((r : Int) == 9) = false := by simp; omega
  have q3 : ((r : Int) == 10) = false := by simp; omega
  have hb : Pt.isBl r = ((r : Int) == 13) := by
    rw [← isBl_int, q1, q2, q3]
    simp
  rw [hb]
  go_enter Tryd.func21, Tryd.ntmps21
  go_wp2_with fail
  all_goals
    go_ret
    refine ⟨?_, rfl⟩
    first | rfl | simp
set_option maxRecDepth 100000 in
set_option maxHeartbeats 1000000 in
theorem blank_any (r : Nat) (w : World) : Calls Tryd.prog 19 #[.int .i32 (r : Int)] w fun e w' => e = .returned (.bool (Pt.isBl r)) ∧ w' = w := by
  by_cases h1 : r = 32
  · subst h1
    go_enter Tryd.func19, Tryd.ntmps19
    go_wp2_with fail
    go_ret
    exact ⟨rfl, rfl⟩
  by_cases h2 : r = 9
  · subst h2
    go_enter Tryd.func19, Tryd.ntmps19
    go_wp2_with fail
    go_ret
    exact ⟨rfl, rfl⟩
  by_cases h3 : r = 10
  · subst h3
    go_enter Tryd.func19, Tryd.ntmps19
    go_wp2_with fail
    go_ret
    exact ⟨rfl, rfl⟩
  have q1 : ((r : Int) == 32) = false := by simp; omega
  have q2 : ((r : Int) == 9) = false := by simp; omega
  have q3 : ((r : Int) == 10) = false := by simp; omega
  have hb : Pt.isBl r = ((r : Int) == 13) := by
    rw [← isBl_int, q1, q2, q3]
    simp
  rw [hb]
  go_enter Tryd.func19, Tryd.ntmps19
  go_wp2_with fail
  all_goals
    go_ret
    refine ⟨?_, rfl⟩
    first | rfl | simp
set_option maxRecDepth 100000 in
set_option maxHeartbeats 1000000 in
theorem isDigit_any (r : Nat) (w : World) : Calls Tryd.prog 33 #[.int .i32 (r : Int)] w fun e w' => e = .returned (.bool (Pt.isDg r)) ∧ w' = w := by
  by_cases h1 : 48 ≤ r
  · have q1 : (48 : Int) ≤ (r : Int) := by omega
    have hb : Pt.isDg r = decide ((r : Int) ≤ 57) := by
      unfold Pt.isDg
      rw [decide_eq_true h1, Bool.true_and]
      apply decide_eq_decide.2
      omega
    rw [hb]
    go_enter Tryd.func33, Tryd.ntmps33
    go_wp2_with fail
    all_goals
      go_ret
      refine ⟨?_, rfl⟩
      first | rfl | simp
  · have q1 : decide ((48 : Int) ≤ (r : Int)) = false := decide_eq_false (by omega)
    have hb : Pt.isDg r = false := by
      unfold Pt.isDg
      rw [decide_eq_false h1, Bool.false_and]
    rw [hb]
    go_enter Tryd.func33, Tryd.ntmps33
    go_wp2_with fail
    all_goals
      go_ret
      exact ⟨rfl, rfl⟩
set_option maxRecDepth 100000 in
set_option maxHeartbeats 1000000 in
theorem isHyphen_any (r : Nat) (w : World) : Calls Tryd.prog 37 #[.int .i32 (r : Int)] w fun e w' => e = .returned (.bool (Pt.isHy r)) ∧ w' = w := by
  have hb : Pt.isHy r = ((r : Int) == 45) := by
    unfold Pt.isHy
    rw [Bool.eq_iff_iff]
    simp only [beq_iff_eq, decide_eq_true_eq]
    omega
  rw [hb]
  go_enter Tryd.func37, Tryd.ntmps37
  go_wp2_with fail
  go_ret
  exact ⟨rfl, rfl⟩
set_option maxRecDepth 100000 in
set_option maxHeartbeats 1000000 in
theorem digitValue_any (r : Nat) (w : World) (h0 : 48 ≤ r) (h1 : r ≤ 57) : Calls Tryd.prog 36 #[.int .i32 (r : Int)] w fun e w' => e = .returned (.int .u8 ((r - 48 : Nat) : Int)) ∧ w' = w := by
  have q0 : IntKind.u8.wrap ((r : Int) - 48) = ((r - 48 : Nat) : Int) := by rw [IntKind.wrap_u8]; omega
  go_enter Tryd.func36, Tryd.ntmps36
  go_wp2_with fail
  go_ret
  exact ⟨rfl, rfl⟩
set_option maxRecDepth 100000 in
set_option maxHeartbeats 1000000 in
theorem hyphenValue_any (r : Int) (w : World) : Calls Tryd.prog 40 #[.int .i32 r] w fun e w' => e = .returned (.int .u8 1) ∧ w' = w := by
  go_enter Tryd.func40, Tryd.ntmps40
  go_wp2_with fail
  go_ret
  exact ⟨rfl, rfl⟩
/-- a slice of int32 numbers. -/
def Nl (w : World) (a : Option Addr) (n : Nat) (L : List Nat) : Prop := L.length = n ∧ ∃ b off, (0 < n → a = some ⟨b, off, none⟩ ∧ b < w.heap.size) ∧ ∀ (j x : Nat), L[j]? = some x → w.cell? ⟨b, off + j, none⟩ = some (.int .i32 (x : Int))
theorem Nl.keep {w w' : World} {a : Option Addr} {n : Nat} {L : List Nat} (h : Nl w a n L) (ho : Only (fun _ => False) w w') : Nl w' a n L := by
  obtain ⟨hl, b, off, h1, h2⟩ := h
  refine ⟨hl, b, off, fun h => ⟨(h1 h).1, Nat.lt_of_lt_of_le (h1 h).2 ho.size⟩, fun j x hj => ?_⟩
  have hb := (h1 (by have := (List.getElem?_eq_some_iff.1 hj).1; omega)).2
  exact (World.cell?_of_block (a := ⟨b, off + j, none⟩) (ho.block b hb (fun h => h))).trans (h2 j x hj)
theorem Nl.at {w : World} {a : Option Addr} {n : Nat} {L : List Nat} (h : Nl w a n L) {i : Nat} (hi : i < n) : ∃ b off x, a = some ⟨b, off, none⟩ ∧ b < w.heap.size ∧ L[i]? = some x ∧ w.cell? ⟨b, off + i, none⟩ = some (.int .i32 (x : Int)) := by
  obtain ⟨hl, b, off, h1, h2⟩ := h
  obtain ⟨ha, hb⟩ := h1 (by omega)
  have hx : L[i]? = some L[i] := List.getElem?_eq_getElem (by omega)
  exact ⟨b, off, _, ha, hb, hx, h2 i _ hx⟩
theorem drop_step {L : List Nat} {i x : Nat} (h : L[i]? = some x) : L.drop i = x :: L.drop (i + 1) := by
  rw [List.drop_eq_getElem_cons (List.getElem?_eq_some_iff.1 h).1, (List.getElem?_eq_some_iff.1 h).2]
set_option maxRecDepth 100000 in
set_option maxHeartbeats 2000000 in
theorem index_any (L : List Nat) (a : Option Addr) (n c y : Nat) (w : World) (hL : Nl w a n L) (hn : n ≤ 1000000) :
    Calls Tryd.prog 50 #[.slice a n c, .int .i32 (y : Int)] w fun e w' => (∃ i : Int, e = .returned (.int .i64 i) ∧ (0 ≤ i ↔ y ∈ L)) ∧ w' = w := by
  have HL : Hid (Nl w a n L) := hL
  clear hL
  go_enter Tryd.func50, Tryd.ntmps50
  go_wp2_with fail
  go_loopg [8] n (fun gh v wr => ∃ (i : Nat), gh = n - i ∧ i ≤ n ∧ v = .int .i64 (i : Int) ∧ wr = w ∧ (y ∈ L ↔ y ∈ L.drop i))
  case atStart => exact ⟨0, rfl, Nat.zero_le _, rfl, rfl, by simp⟩
  case round =>
    obtain ⟨i, rfl, hi, rfl, rfl, hm⟩ := hrel
    have HM : Hid (y ∈ L ↔ y ∈ L.drop i) := hm
    clear hm
    by_cases hlt : i < n
    · have t1 : (i : Int) < (n : Int) := by omega
      obtain ⟨b, off, x, rfl, hb, hx, hc⟩ := HL.out.at hlt
      have HX : Hid (L.drop i = x :: L.drop (i + 1)) := drop_step hx
      clear hx
      by_cases hxy : y = x
      · subst hxy
        go_wp2_with fail
        go_ret
        refine ⟨⟨(i : Int), rfl, ?_⟩, rfl⟩
        rw [HM.out, HX.out]
        simp
      · have q1 : ((y : Int) == (x : Int)) = false := by simp; omega
        go_wp2_with fail
        go_roundg (n - (i + 1))
        case measure => omega
        case rel =>
          refine ⟨i + 1, rfl, by omega, by go_num, rfl, ?_⟩
          rw [HM.out, HX.out]
          simp [hxy]
    · have t2 : decide ((i : Int) < (n : Int)) = false := decide_eq_false (by omega)
      go_wp2_with fail
      go_ret
      refine ⟨⟨-1, rfl, ?_⟩, rfl⟩
      rw [HM.out, List.drop_eq_nil_of_le (by have := HL.out.1; omega)]
      simp
set_option maxRecDepth 100000 in
set_option maxHeartbeats 2000000 in
theorem contains_any (L : List Nat) (a : Option Addr) (n c y : Nat) (w : World) (hL : Nl w a n L) (hn : n ≤ 1000000) :
    Calls Tryd.prog 39 #[.slice a n c, .int .i32 (y : Int)] w fun e w' => e = .returned (.bool (decide (y ∈ L))) ∧ w' = w := by
  have HI : Hid (Calls Tryd.prog 50 #[.slice a n c, .int .i32 (y : Int)] w fun e w' => (∃ i : Int, e = .returned (.int .i64 i) ∧ (0 ≤ i ↔ y ∈ L)) ∧ w' = w) := index_any L a n c y w hL hn
  go_enter Tryd.func39, Tryd.ntmps39
  go_wp2_with (go_at_call 50; refine Calls.mono HI.out ?_; rintro e w' ⟨⟨i, rfl, hi⟩, rfl⟩; have HII : Hid (0 ≤ i ↔ y ∈ L) := hi; clear hi)
  go_ret
  refine ⟨?_, rfl⟩
  have : decide (y ∈ L) = decide (0 ≤ i) := decide_eq_decide.2 HII.out.symm
  rw [this]
  first | rfl | simp
end Go.Proofs.YtjgbfpemkjpikaaDoor
