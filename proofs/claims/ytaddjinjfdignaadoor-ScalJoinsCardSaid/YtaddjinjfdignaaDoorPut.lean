/-
  A sign's bytes: what scal.Put and the reference's Put make of any number; and that those bytes are read as that sign, whatever stands behind them.
-/
import Derived.Test.YtaddjinjfdignaaDoorLists
namespace Go.Proofs.YtaddjinjfdignaaDoor
open Go.RowKit

/-- a number as it is put: itself, or U+FFFD where it is no sign's. -/
def nrm (r : Int) : Nat := if (0 ≤ r ∧ r < 55296) ∨ (57343 < r ∧ r ≤ 1114111) then r.toNat else 65533
/-- the bytes of a sign's number. -/
def pb (c : Nat) : List Nat :=
  if c < 128 then [c] else if c < 2048 then [192 + c / 64, 128 + c % 64] else if c < 65536 then [224 + c / 4096, 128 + c / 64 % 64, 128 + c % 64]
  else [240 + c / 262144, 128 + c / 4096 % 64, 128 + c / 64 % 64, 128 + c % 64]
/-- is it a sign's number? -/
def Right (c : Nat) : Prop := c < 55296 ∨ (57343 < c ∧ c ≤ 1114111)
theorem nrm_right (r : Int) : Right (nrm r) := by unfold nrm Right; split <;> omega
theorem nrm_of (c : Nat) (h : Right c) : nrm c = c := by unfold nrm; unfold Right at h; split <;> omega
theorem pb_len (c : Nat) : 1 ≤ (pb c).length ∧ (pb c).length ≤ 4 := by unfold pb; (repeat' split) <;> simp
theorem pb_lt (c : Nat) (h : Right c) : (pb c).all (· < 256) = true := by
  unfold Right at h
  unfold pb
  (repeat' split) <;> simp <;> omega
theorem pb_lt' (c : Nat) (h : Right c) (j : Nat) : nth (pb c) j < 256 := nth_lt (pb_lt c h) j

/-- the bytes are read as that sign. -/
theorem put_sign (c n : Nat) (y : Nat → Nat) (hc : Right c) (hn : (pb c).length ≤ n) (hy : ∀ j, j < (pb c).length → y j = nth (pb c) j) : Sg.cnt n y = (pb c).length ∧ Sg.num n y = c := by
  unfold Right at hc
  by_cases c1 : c < 128
  · have e : pb c = [c] := by unfold pb; rw [if_pos c1]
    rw [e] at hn hy ⊢
    have y0 : y 0 = c := hy 0 (by simp)
    have hs := Sg.sz_cases (y 0) (by omega)
    have h1 : Sg.sz (y 0) = 1 := by omega
    have hcnt : Sg.cnt n y = 1 := by unfold Sg.cnt; rw [if_neg (by omega)]
    refine ⟨hcnt, ?_⟩
    rw [Sg.num_val hcnt h1.symm]; simp [Sg.val, y0]
  · by_cases c2 : c < 2048
    · have e : pb c = [192 + c / 64, 128 + c % 64] := by unfold pb; rw [if_neg c1, if_pos c2]
      rw [e] at hn hy ⊢
      have y0 : y 0 = 192 + c / 64 := hy 0 (by simp)
      have y1 : y 1 = 128 + c % 64 := hy 1 (by simp)
      have hs := Sg.sz_cases (y 0) (by omega)
      simp only [List.length_cons, List.length_nil] at hn ⊢
      have h1 : Sg.sz (y 0) = 2 ∧ Sg.lo (y 0) = 128 ∧ Sg.hi (y 0) = 191 := by omega
      have hcnt : Sg.cnt n y = 2 := by unfold Sg.cnt; rw [if_pos (by omega), if_neg (by omega)]
      refine ⟨hcnt, ?_⟩
      rw [Sg.num_val hcnt h1.1.symm]; simp only [Sg.val, Nat.reduceEqDiff, reduceIte]; omega
    · by_cases c3 : c < 65536
      · have e : pb c = [224 + c / 4096, 128 + c / 64 % 64, 128 + c % 64] := by unfold pb; rw [if_neg c1, if_neg c2, if_pos c3]
        rw [e] at hn hy ⊢
        have y0 : y 0 = 224 + c / 4096 := hy 0 (by simp)
        have y1 : y 1 = 128 + c / 64 % 64 := hy 1 (by simp)
        have y2 : y 2 = 128 + c % 64 := hy 2 (by simp)
        have hs := Sg.sz_cases (y 0) (by omega)
        simp only [List.length_cons, List.length_nil] at hn ⊢
        have h1 : Sg.sz (y 0) = 3 ∧ Sg.lo (y 0) ≤ y 1 ∧ y 1 ≤ Sg.hi (y 0) := by omega
        have hcnt : Sg.cnt n y = 3 := by unfold Sg.cnt; rw [if_pos (by omega), if_pos (by omega), if_neg (by omega)]
        refine ⟨hcnt, ?_⟩
        rw [Sg.num_val hcnt h1.1.symm]; simp only [Sg.val, Nat.reduceEqDiff, reduceIte]; omega
      · have e : pb c = [240 + c / 262144, 128 + c / 4096 % 64, 128 + c / 64 % 64, 128 + c % 64] := by unfold pb; rw [if_neg c1, if_neg c2, if_neg c3]
        rw [e] at hn hy ⊢
        have y0 : y 0 = 240 + c / 262144 := hy 0 (by simp)
        have y1 : y 1 = 128 + c / 4096 % 64 := hy 1 (by simp)
        have y2 : y 2 = 128 + c / 64 % 64 := hy 2 (by simp)
        have y3 : y 3 = 128 + c % 64 := hy 3 (by simp)
        have hs := Sg.sz_cases (y 0) (by omega)
        simp only [List.length_cons, List.length_nil] at hn ⊢
        have h1 : Sg.sz (y 0) = 4 ∧ Sg.lo (y 0) ≤ y 1 ∧ y 1 ≤ Sg.hi (y 0) := by omega
        have hcnt : Sg.cnt n y = 4 := by unfold Sg.cnt; rw [if_pos (by omega), if_pos (by omega), if_pos (by omega)]
        refine ⟨hcnt, ?_⟩
        rw [Sg.num_val hcnt h1.1.symm]; simp only [Sg.val, Nat.reduceEqDiff, reduceIte]; omega
theorem put_all (c : Nat) (hc : Right c) : Sg.all (pb c).length (nth (pb c)) = [(c, 0, (pb c).length)] := by
  have hl := pb_len c
  unfold Sg.all
  rw [Sg.rest_step _ _ 0 (by omega)]
  have e : (fun j => nth (pb c) (0 + j)) = nth (pb c) := by funext j; rw [Nat.zero_add]
  rw [e, Nat.sub_zero]
  obtain ⟨h1, h2⟩ := put_sign c (pb c).length (nth (pb c)) hc (Nat.le_refl _) (fun _ _ => rfl)
  rw [h1, h2, Sg.rest_end _ _ _ (by omega)]
/-- the library's own words for the bytes. -/
theorem cells_pb (r : Int) : Lib.runeCells (nrm r : Nat) = byCells (pb (nrm r)).length (nth (pb (nrm r))) := by
  have hc := nrm_right r
  generalize nrm r = c at *
  unfold Right at hc
  unfold Lib.runeCells byCells
  by_cases c1 : c < 128
  · rw [Lib.encodeRuneZ_one (by omega) (by omega), show pb c = [c] by unfold pb; rw [if_pos c1]]; rfl
  · by_cases c2 : c < 2048
    · rw [Lib.encodeRuneZ_two (by omega) (by omega), show pb c = [192 + c / 64, 128 + c % 64] by unfold pb; rw [if_neg c1, if_pos c2]]
      simp [nth, List.range, List.range.loop]
    · by_cases c3 : c < 65536
      · rw [Lib.encodeRuneZ_three (by omega), show pb c = [224 + c / 4096, 128 + c / 64 % 64, 128 + c % 64] by unfold pb; rw [if_neg c1, if_neg c2, if_pos c3]]
        simp [nth, List.range, List.range.loop]
      · rw [Lib.encodeRuneZ_four (by omega) (by omega), show pb c = [240 + c / 262144, 128 + c / 4096 % 64, 128 + c / 64 % 64, 128 + c % 64] by unfold pb; rw [if_neg c1, if_neg c2, if_neg c3]]
        simp [nth, List.range, List.range.loop]

theorem nrm_valid {r : Int} (h : Lib.validRune r = true) : ((nrm r : Nat) : Int) = r := by
  have h' := of_decide_eq_true h
  unfold nrm; rw [if_pos (by omega)]; omega
theorem nrm_invalid {r : Int} (h : Lib.validRune r = false) : nrm r = 65533 := by
  have h' := of_decide_eq_false h
  unfold nrm; rw [if_neg (by omega)]

set_option maxRecDepth 100000 in
set_option maxHeartbeats 1000000 in
theorem put_any (r : Int) (w : World) (h0 : -2147483648 ≤ r) (h1 : r ≤ 2147483647) :
    Calls Tryd.prog 16 #[.int .i32 r] w fun e w' => ∃ v, e = .returned v ∧ w'.ownsRow w.heap.size 5 1 v (pb (nrm r)).length (byCells (pb (nrm r)).length (nth (pb (nrm r)))) ∧ Below w.heap.size w w' := by
  cases hv : Lib.validRune r with
  | true =>
    have hr : Hid (((nrm r : Nat) : Int) = r) := nrm_valid hv
    go_enter Tryd.func16, Tryd.ntmps16
    go_wp2_with (go_at_call 23; refine (Tryd.utf8_ValidRune r w).mono ?_; rintro e w1 ⟨rfl, hw⟩; have hw := hw.symm; subst hw)
    refine (Tryd.utf8_AppendRune_plain w.heap.size (.slice none 0 0) 0 [] r h0 h1 w (World.ownsRow_nil _ _ _ _) (by omega) (Nat.le_refl _)).mono ?_
    rintro e w1 ⟨v, rfl, ho, o, hg⟩
    have hO : Hid (w1.ownsRow w.heap.size 5 1 v (pb (nrm r)).length (byCells (pb (nrm r)).length (nth (pb (nrm r))))) := (by
      have e := cells_pb r
      rw [hr.out] at e
      rw [← e]
      have hl : (Lib.runeCells r).length = (pb (nrm r)).length := by rw [e, byCells_length]
      rw [← hl]
      simpa using ho : w1.ownsRow w.heap.size 5 1 v (pb (nrm r)).length (byCells (pb (nrm r)).length (nth (pb (nrm r)))))
    have hB : Hid (Below w.heap.size w w1) := ((Below.refl _ w).alloc (Nat.le_refl _) o).grown hg (by simp) (fun k hk => by cases hk)
    clear ho hg
    go_wp2
    go_ret
    exact ⟨v, rfl, hO.out, hB.out⟩
  | false =>
    have hr : Hid (nrm r = 65533) := nrm_invalid hv
    go_enter Tryd.func16, Tryd.ntmps16
    go_wp2_with (go_at_call 23; refine (Tryd.utf8_ValidRune r w).mono ?_; rintro e w1 ⟨rfl, hw⟩; have hw := hw.symm; subst hw)
    refine (Tryd.utf8_AppendRune_plain w.heap.size (.slice none 0 0) 0 [] 65533 (by omega) (by omega) w (World.ownsRow_nil _ _ _ _) (by omega) (Nat.le_refl _)).mono ?_
    rintro e w1 ⟨v, rfl, ho, o, hg⟩
    have hO : Hid (w1.ownsRow w.heap.size 5 1 v (pb (nrm r)).length (byCells (pb (nrm r)).length (nth (pb (nrm r))))) := (by
      have e := cells_pb r
      rw [hr.out] at e
      rw [hr.out, ← e]
      have hl : (Lib.runeCells (65533 : Nat)).length = (pb 65533).length := by rw [e, byCells_length]
      rw [← hl]
      simpa using ho : w1.ownsRow w.heap.size 5 1 v (pb (nrm r)).length (byCells (pb (nrm r)).length (nth (pb (nrm r)))))
    have hB : Hid (Below w.heap.size w w1) := ((Below.refl _ w).alloc (Nat.le_refl _) o).grown hg (by simp) (fun k hk => by cases hk)
    clear ho hg
    go_wp2
    go_ret
    exact ⟨v, rfl, hO.out, hB.out⟩

theorem made_row (w : World) (C : Array Value) : (w.alloc (.cells C 5)).ownsRow w.heap.size 5 1 (.slice (some ⟨w.heap.size, 0, none⟩) C.size C.size) C.size C.toList ∨ ¬ C.size ≤ maxLen := by
  by_cases h : C.size ≤ maxLen
  · refine Or.inl ⟨by simp, Or.inr ⟨w.heap.size, C.size, C, rfl, Nat.le_refl _, ?_, Nat.le_refl _, h, by simp, by rw [Nat.mul_one]; exact List.take_of_length_le (by simp)⟩⟩
    show (w.heap.push (.cells C 5))[w.heap.size]? = _
    simp
  · exact Or.inr h
theorem made_row' (w : World) (C : Array Value) (n : Nat) (xs : List Value) (hn : C.size = n) (hx : C.toList = xs) (h : n ≤ 4) : (w.alloc (.cells C 5)).ownsRow w.heap.size 5 1 (.slice (some ⟨w.heap.size, 0, none⟩) n n) n xs := by
  subst hn hx
  rcases made_row w C with h' | h'
  · exact h'
  · exact absurd (by unfold maxLen; omega) h'

theorem by1 (a : Nat) : ([.int .u8 (a : Nat)] : List Value) = byCells 1 (nth [a]) := rfl
theorem by2 (a b : Nat) : ([.int .u8 (a : Nat), .int .u8 (b : Nat)] : List Value) = byCells 2 (nth [a, b]) := rfl
theorem by3 (a b c : Nat) : ([.int .u8 (a : Nat), .int .u8 (b : Nat), .int .u8 (c : Nat)] : List Value) = byCells 3 (nth [a, b, c]) := rfl
theorem by4 (a b c d : Nat) : ([.int .u8 (a : Nat), .int .u8 (b : Nat), .int .u8 (c : Nat), .int .u8 (d : Nat)] : List Value) = byCells 4 (nth [a, b, c, d]) := rfl
theorem pbBad : pb 65533 = [239, 191, 189] := by decide +kernel

set_option maxRecDepth 100000 in
set_option maxHeartbeats 1000000 in
theorem refPut1 (r : Int) (w : World) (k2 : 0 ≤ r) (k3 : r < 128) :
    Calls Tryd.prog 17 #[.int .i32 r] w fun e w' => e = .returned (.slice (some ⟨w.heap.size, 0, none⟩) 1 1) ∧ w' = w.alloc (.cells #[.int .u8 (r)] 5) := by
  go_enter Tryd.func17, Tryd.ntmps17
  go_wp2
  go_ret
  exact ⟨rfl, rfl⟩
set_option maxRecDepth 100000 in
set_option maxHeartbeats 1000000 in
theorem refPut2 (r : Int) (w : World) (k2 : 128 ≤ r) (k3 : r < 2048) :
    Calls Tryd.prog 17 #[.int .i32 r] w fun e w' => e = .returned (.slice (some ⟨w.heap.size, 0, none⟩) 2 2) ∧ w' = w.alloc (.cells #[.int .u8 (192 + r / 64), .int .u8 (128 + r % 64)] 5) := by
  go_enter Tryd.func17, Tryd.ntmps17
  go_wp2
  go_ret
  exact ⟨rfl, rfl⟩
set_option maxRecDepth 100000 in
set_option maxHeartbeats 1000000 in
theorem refPut3a (r : Int) (w : World) (k2 : 2048 ≤ r) (k3 : r < 55296) :
    Calls Tryd.prog 17 #[.int .i32 r] w fun e w' => e = .returned (.slice (some ⟨w.heap.size, 0, none⟩) 3 3) ∧ w' = w.alloc (.cells #[.int .u8 (224 + r / 4096), .int .u8 (128 + r / 64 % 64), .int .u8 (128 + r % 64)] 5) := by
  go_enter Tryd.func17, Tryd.ntmps17
  go_wp2
  go_ret
  exact ⟨rfl, rfl⟩
set_option maxRecDepth 100000 in
set_option maxHeartbeats 1000000 in
theorem refPut3b (r : Int) (w : World) (k2 : 57343 < r) (k3 : r < 65536) :
    Calls Tryd.prog 17 #[.int .i32 r] w fun e w' => e = .returned (.slice (some ⟨w.heap.size, 0, none⟩) 3 3) ∧ w' = w.alloc (.cells #[.int .u8 (224 + r / 4096), .int .u8 (128 + r / 64 % 64), .int .u8 (128 + r % 64)] 5) := by
  go_enter Tryd.func17, Tryd.ntmps17
  go_wp2
  go_ret
  exact ⟨rfl, rfl⟩
set_option maxRecDepth 100000 in
set_option maxHeartbeats 1000000 in
theorem refPut4 (r : Int) (w : World) (k2 : 65536 ≤ r) (k3 : r ≤ 1114111) :
    Calls Tryd.prog 17 #[.int .i32 r] w fun e w' => e = .returned (.slice (some ⟨w.heap.size, 0, none⟩) 4 4) ∧ w' = w.alloc (.cells #[.int .u8 (240 + r / 262144), .int .u8 (128 + r / 4096 % 64), .int .u8 (128 + r / 64 % 64), .int .u8 (128 + r % 64)] 5) := by
  go_enter Tryd.func17, Tryd.ntmps17
  go_wp2
  go_ret
  exact ⟨rfl, rfl⟩
set_option maxRecDepth 100000 in
set_option maxHeartbeats 1000000 in
theorem refPutA (r : Int) (w : World) (k2 : r < 0) :
    Calls Tryd.prog 17 #[.int .i32 r] w fun e w' => e = .returned (.slice (some ⟨w.heap.size, 0, none⟩) 3 3) ∧ w' = w.alloc (.cells #[.int .u8 (239), .int .u8 (191), .int .u8 (189)] 5) := by
  go_enter Tryd.func17, Tryd.ntmps17
  go_wp2
  go_ret
  exact ⟨rfl, rfl⟩
set_option maxRecDepth 100000 in
set_option maxHeartbeats 1000000 in
theorem refPutB (r : Int) (w : World) (k2 : 1114111 < r) :
    Calls Tryd.prog 17 #[.int .i32 r] w fun e w' => e = .returned (.slice (some ⟨w.heap.size, 0, none⟩) 3 3) ∧ w' = w.alloc (.cells #[.int .u8 (239), .int .u8 (191), .int .u8 (189)] 5) := by
  go_enter Tryd.func17, Tryd.ntmps17
  go_wp2
  go_ret
  exact ⟨rfl, rfl⟩
set_option maxRecDepth 100000 in
set_option maxHeartbeats 1000000 in
theorem refPutC (r : Int) (w : World) (k2 : 55296 ≤ r) (k3 : r ≤ 57343) :
    Calls Tryd.prog 17 #[.int .i32 r] w fun e w' => e = .returned (.slice (some ⟨w.heap.size, 0, none⟩) 3 3) ∧ w' = w.alloc (.cells #[.int .u8 (239), .int .u8 (191), .int .u8 (189)] 5) := by
  go_enter Tryd.func17, Tryd.ntmps17
  go_wp2
  go_ret
  exact ⟨rfl, rfl⟩
theorem refPut_end {r : Int} {w : World} {n : Nat} {C : Array Value} (h : Calls Tryd.prog 17 #[.int .i32 r] w fun e w' => e = .returned (.slice (some ⟨w.heap.size, 0, none⟩) n n) ∧ w' = w.alloc (.cells C 5)) (hn : C.size = n) (h4 : n ≤ 4)
    (hl : (pb (nrm r)).length = n) (hC : C.toList = byCells n (nth (pb (nrm r)))) :
    Calls Tryd.prog 17 #[.int .i32 r] w fun e w' => ∃ v, e = .returned v ∧ w'.ownsRow w.heap.size 5 1 v (pb (nrm r)).length (byCells (pb (nrm r)).length (nth (pb (nrm r)))) ∧ Below w.heap.size w w' := by
  refine h.mono ?_
  rintro e w' ⟨rfl, rfl⟩
  refine ⟨_, rfl, ?_, (Below.refl _ _).alloc (Nat.le_refl _) _⟩
  rw [hl]
  exact made_row' w C n _ hn hC h4
theorem int_u8 {a b : Int} (h : a = b) : Value.int .u8 a = Value.int .u8 b := by rw [h]
theorem refPut_any (r : Int) (w : World) :
    Calls Tryd.prog 17 #[.int .i32 r] w fun e w' => ∃ v, e = .returned v ∧ w'.ownsRow w.heap.size 5 1 v (pb (nrm r)).length (byCells (pb (nrm r)).length (nth (pb (nrm r)))) ∧ Below w.heap.size w w' := by
  by_cases hv : (0 ≤ r ∧ r < 55296) ∨ (57343 < r ∧ r ≤ 1114111)
  · have hr : nrm r = r.toNat := by unfold nrm; rw [if_pos hv]
    by_cases c1 : r < 128
    · have e : pb (nrm r) = [r.toNat] := by rw [hr]; unfold pb; rw [if_pos (by omega)]
      refine refPut_end (refPut1 r w (by omega) c1) rfl (by omega) (by rw [e]; rfl) ?_
      rw [e, ← by1, int_u8 (show r = ((r.toNat : Nat) : Int) by omega)]
    · by_cases c2 : r < 2048
      · have e : pb (nrm r) = [192 + r.toNat / 64, 128 + r.toNat % 64] := by rw [hr]; unfold pb; rw [if_neg (by omega), if_pos (by omega)]
        refine refPut_end (refPut2 r w (by omega) c2) rfl (by omega) (by rw [e]; rfl) ?_
        rw [e, ← by2, int_u8 (show 192 + r / 64 = ((192 + r.toNat / 64 : Nat) : Int) by omega), int_u8 (show 128 + r % 64 = ((128 + r.toNat % 64 : Nat) : Int) by omega)]
      · by_cases c3 : r < 65536
        · have e : pb (nrm r) = [224 + r.toNat / 4096, 128 + r.toNat / 64 % 64, 128 + r.toNat % 64] := by rw [hr]; unfold pb; rw [if_neg (by omega), if_neg (by omega), if_pos (by omega)]
          rcases hv with hv | hv
          · refine refPut_end (refPut3a r w (by omega) hv.2) rfl (by omega) (by rw [e]; rfl) ?_
            rw [e, ← by3, int_u8 (show 224 + r / 4096 = ((224 + r.toNat / 4096 : Nat) : Int) by omega), int_u8 (show 128 + r / 64 % 64 = ((128 + r.toNat / 64 % 64 : Nat) : Int) by omega), int_u8 (show 128 + r % 64 = ((128 + r.toNat % 64 : Nat) : Int) by omega)]
          · refine refPut_end (refPut3b r w hv.1 c3) rfl (by omega) (by rw [e]; rfl) ?_
            rw [e, ← by3, int_u8 (show 224 + r / 4096 = ((224 + r.toNat / 4096 : Nat) : Int) by omega), int_u8 (show 128 + r / 64 % 64 = ((128 + r.toNat / 64 % 64 : Nat) : Int) by omega), int_u8 (show 128 + r % 64 = ((128 + r.toNat % 64 : Nat) : Int) by omega)]
        · have e : pb (nrm r) = [240 + r.toNat / 262144, 128 + r.toNat / 4096 % 64, 128 + r.toNat / 64 % 64, 128 + r.toNat % 64] := by rw [hr]; unfold pb; rw [if_neg (by omega), if_neg (by omega), if_neg (by omega)]
          refine refPut_end (refPut4 r w (by omega) (by omega)) rfl (by omega) (by rw [e]; rfl) ?_
          rw [e, ← by4, int_u8 (show 240 + r / 262144 = ((240 + r.toNat / 262144 : Nat) : Int) by omega), int_u8 (show 128 + r / 4096 % 64 = ((128 + r.toNat / 4096 % 64 : Nat) : Int) by omega), int_u8 (show 128 + r / 64 % 64 = ((128 + r.toNat / 64 % 64 : Nat) : Int) by omega), int_u8 (show 128 + r % 64 = ((128 + r.toNat % 64 : Nat) : Int) by omega)]
  · have e : pb (nrm r) = [239, 191, 189] := by rw [← pbBad]; unfold nrm; rw [if_neg hv]
    have hb : r < 0 ∨ 1114111 < r ∨ (55296 ≤ r ∧ r ≤ 57343) := by omega
    rcases hb with hb | hb | ⟨hb, hb'⟩
    · exact refPut_end (refPutA r w hb) rfl (by omega) (by rw [e]; rfl) (by rw [e]; exact by3 239 191 189)
    · exact refPut_end (refPutB r w hb) rfl (by omega) (by rw [e]; rfl) (by rw [e]; exact by3 239 191 189)
    · exact refPut_end (refPutC r w hb hb') rfl (by omega) (by rw [e]; rfl) (by rw [e]; exact by3 239 191 189)
end Go.Proofs.YtaddjinjfdignaaDoor
