/-
  What nameLen, blanks and strings.IndexByte return.
-/
import Derived.Test.YtfbcijnacbfjpaaLeaf
namespace Go.Proofs.Ytfbcijnacbfjpaa
open Go.RowKit
set_option linter.unusedVariables false
set_option linter.unusedSimpArgs false

set_option maxRecDepth 100000 in
set_option maxHeartbeats 1000000 in
theorem nameLen_any (s : ByteArray) (w : World) (hs : s.size < 4294967296) : Calls Try.prog 68 #[.string s] w fun e w' => e = .returned (.int .i64 (Rl.nml s.data.toList : Nat)) ∧ w' = w := by
  go_enter Try.func68, Try.ntmps68
  go_wp2_with fail
  go_loopw [3] (fun i wr => ∃ (k : Nat), k ≤ s.size ∧ i = .int .i64 (k : Int) ∧ Hid (Rl.nml s.data.toList = k + Rl.nml (s.data.toList.drop k)) ∧ w = wr) (fun i _ => s.size - (intOf i).toNat)
  case atStart => exact ⟨0, Nat.zero_le _, rfl, (by simp : Rl.nml s.data.toList = 0 + Rl.nml (s.data.toList.drop 0)), rfl⟩
  case round =>
    obtain ⟨k, hk, rfl, hB, rfl⟩ := hrel
    by_cases hlt : k < s.size
    · have t1 : (k : Int) < (s.size : Int) := by omega
      have hd : Hid (s.data.toList.drop k = s[k] :: s.data.toList.drop (k + 1)) := drop_data hlt
      by_cases hc : Rl.isN s[k] = true
      · have hc' : Hid (Rl.isN s[k] = true) := hc
        go_wp2_with (go_at_call 81; refine (isNameByte_any s[k] _).mono ?_; rintro e w' ⟨rfl, rfl⟩)
        go_roundw
        case rel => exact ⟨k + 1, by omega, by go_num, (by have := hB.out; rw [hd.out, Rl.nml_cons, if_pos hc'.out] at this; omega : Rl.nml s.data.toList = (k + 1) + Rl.nml (s.data.toList.drop (k + 1))), (by first | rfl | trivial)⟩
        case measure => simp [intOf]; omega
      · have hc2 : Rl.isN s[k] = false := by simpa using hc
        have hc' : Hid (Rl.isN s[k] = false) := hc2
        clear hc
        go_wp2_with (go_at_call 81; refine (isNameByte_any s[k] _).mono ?_; rintro e w' ⟨rfl, rfl⟩)
        go_ret
        refine ⟨?_, rfl⟩
        have := hB.out
        rw [hd.out, Rl.nml_cons, if_neg (by rw [hc'.out]; simp)] at this
        rw [this]; rfl
    · have t1 : ¬ (k : Int) < (s.size : Int) := by omega
      have t2 : decide ((k : Int) < (s.size : Int)) = false := decide_eq_false t1
      go_wp2_with fail
      go_ret
      refine ⟨?_, rfl⟩
      have := hB.out
      rw [List.drop_of_length_le (by rw [← Lib.size_eq]; omega)] at this
      rw [this]; rfl

set_option maxRecDepth 100000 in
set_option maxHeartbeats 2000000 in
theorem blanks_any (s : ByteArray) (w : World) (hs : s.size < 4294967296) : Calls Try.prog 67 #[.string s] w fun e w' => e = .returned (.int .i64 (Rl.blk false s.data.toList : Nat)) ∧ w' = w := by
  go_enter Try.func67, Try.ntmps67
  go_wp2_with fail
  go_loopw [3, 4] (fun i r wr => ∃ (k : Nat) (b : Bool), k ≤ s.size ∧ i = .int .i64 (k : Int) ∧ r = .bool b ∧ Hid (Rl.blk false s.data.toList = k + Rl.blk b (s.data.toList.drop k)) ∧ w = wr) (fun i _ _ => s.size - (intOf i).toNat)
  case atStart => exact ⟨0, false, Nat.zero_le _, rfl, rfl, (by simp : Rl.blk false s.data.toList = 0 + Rl.blk false (s.data.toList.drop 0)), rfl⟩
  case round =>
    obtain ⟨k, b, hk, rfl, rfl, hB, rfl⟩ := hrel
    by_cases hlt : k < s.size
    · have t1 : (k : Int) < (s.size : Int) := by omega
      have hd := drop_data hlt
      have hE : Hid (Rl.blk false s.data.toList = k + (if s[k].toNat = 10 then 1 + Rl.blk false (s.data.toList.drop (k + 1)) else if b = true ∨ s[k].toNat = 32 ∨ s[k].toNat = 9 ∨ s[k].toNat = 13 then 1 + Rl.blk b (s.data.toList.drop (k + 1)) else if s[k].toNat = 35 then 1 + Rl.blk true (s.data.toList.drop (k + 1)) else 0)) := by
        have := hB.out
        rw [hd, Rl.blk_cons] at this
        exact this
      clear hd hB
      obtain ⟨c, hc⟩ : ∃ c : Nat, c = s[k].toNat := ⟨_, rfl⟩
      have HC : Hid (c = s[k].toNat) := hc
      rw [← hc] at hE
      by_cases c10 : c = 10
      · have q10 : ((s[k].toNat : Int) == 10) = true := by rw [← hc]; simp; omega
        clear hc
        go_wp2
        exact ⟨⟨k + 1, false, by omega, by go_num, rfl, (by have hh := hE.out; rw [if_pos c10] at hh; omega : Rl.blk false s.data.toList = (k + 1) + Rl.blk false (s.data.toList.drop (k + 1))), (by first | rfl | trivial)⟩, by simp [intOf]; omega⟩
      · have q10 : ((s[k].toNat : Int) == 10) = false := by rw [← hc]; simp; omega
        by_cases cb : b = true ∨ c = 32 ∨ c = 9 ∨ c = 13
        · have hh : Hid (Rl.blk false s.data.toList = (k + 1) + Rl.blk b (s.data.toList.drop (k + 1))) := (by have hh := hE.out; rw [if_neg c10, if_pos cb] at hh; omega : Rl.blk false s.data.toList = (k + 1) + Rl.blk b (s.data.toList.drop (k + 1)))
          rcases cb with rfl | e | e | e
          · clear hc
            go_wp2
            exact ⟨⟨k + 1, true, by omega, by go_num, rfl, hh, (by first | rfl | trivial)⟩, by simp [intOf]; omega⟩
          all_goals
            cases b
            · go_wp2
              all_goals first | exact ⟨⟨k + 1, false, by omega, by go_num, rfl, hh, (by first | rfl | trivial)⟩, by simp [intOf]; omega⟩ | (exfalso; have h' := HC.out; simp_all <;> omega)
            · go_wp2
              exact ⟨⟨k + 1, true, by omega, by go_num, rfl, hh, (by first | rfl | trivial)⟩, by simp [intOf]; omega⟩
        · have hh : Hid (Rl.blk false s.data.toList = k + (if c = 35 then 1 + Rl.blk true (s.data.toList.drop (k + 1)) else 0)) := (by have hh := hE.out; rw [if_neg c10, if_neg cb] at hh; exact hh : Rl.blk false s.data.toList = k + (if c = 35 then 1 + Rl.blk true (s.data.toList.drop (k + 1)) else 0))
          simp only [not_or, Bool.not_eq_true] at cb
          obtain ⟨rfl, e1, e2, e3⟩ := cb
          have q1 : ((s[k].toNat : Int) == 32) = false := by rw [← hc]; simp; omega
          have q2 : ((s[k].toNat : Int) == 9) = false := by rw [← hc]; simp; omega
          have q3 : ((s[k].toNat : Int) == 13) = false := by rw [← hc]; simp; omega
          by_cases c35 : c = 35
          · have q4 : ((s[k].toNat : Int) == 35) = true := by rw [← hc]; simp; omega
            clear hc
            go_wp2
            exact ⟨⟨k + 1, true, by omega, by go_num, rfl, (by have hh := hh.out; rw [if_pos c35] at hh; omega : Rl.blk false s.data.toList = (k + 1) + Rl.blk true (s.data.toList.drop (k + 1))), (by first | rfl | trivial)⟩, by simp [intOf]; omega⟩
          · have q4 : ((s[k].toNat : Int) == 35) = false := by rw [← hc]; simp; omega
            clear hc
            go_wp2
            go_ret
            refine ⟨?_, rfl⟩
            have hh := hh.out
            rw [if_neg c35] at hh
            rw [hh]; rfl
    · have t1 : ¬ (k : Int) < (s.size : Int) := by omega
      have t2 : decide ((k : Int) < (s.size : Int)) = false := decide_eq_false t1
      go_wp2_with fail
      go_ret
      refine ⟨?_, rfl⟩
      have := hB.out
      rw [List.drop_of_length_le (by rw [← Lib.size_eq]; omega)] at this
      rw [this]; rfl
end Go.Proofs.Ytfbcijnacbfjpaa
