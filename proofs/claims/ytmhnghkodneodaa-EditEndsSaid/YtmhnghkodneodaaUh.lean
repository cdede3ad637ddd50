/-
  EditEnds' walk.
-/
import Derived.Test.YtmhnghkodneodaaUg
namespace Go.Proofs.Ytmhnghkodneodaa
open Go.RowKit Go.Maps
set_option linter.unusedVariables false
set_option linter.unusedSimpArgs false
theorem stY_size (L : List Nat) : (stY L).size = L.length := by
  unfold stY
  rw [strOfNums_size, List.length_map]
namespace editEnds
set_option maxRecDepth 100000 in
set_option maxHeartbeats 4000000 in
theorem walk1 (L M : List Nat) (n m c cI : Nat) (aB aI : Option Addr) (w : World) (hn : n = L.length) (hm : m = M.length) (hVB : Vw w aB (u8s L)) (hVI : Vw w aI (u8s M)) (hc : n ≤ c) (hc2 : c ≤ maxLen) (h4 : n + m ≤ 4096) :
    Calls Try.prog 8 #[.slice aB n c, .slice aI m cI] w fun e w' => e = .returned (.bool true) ∧ Only (fun _ => False) w w' := by
  obtain ⟨q, hq⟩ : ∃ q, q = n + m := ⟨_, rfl⟩
  obtain ⟨z, hz⟩ : ∃ z, z = 4096 - n := ⟨_, rfl⟩
  have H1 : Hid (∀ W, Only (fun _ => False) w W → Calls Try.prog 12 #[.slice aB n c, .agg #[.int .i64 (n : Int), .int .i64 0, .slice none 0 0]] W fun e w' => ∃ a' c', e = .returned (.tuple #[.slice a' n c', .int .i64 0]) ∧ w'.ownsRow W.heap.size 5 1 (.slice a' n c') n (u8s L) ∧ Only (fun _ => False) W w') := fun W ho => by
    have h := splice_ok L [] n c 0 0 n 0 n aB none W hn rfl (hVB.keep ho) (Vw.nil _ _) hc hc2 (by omega) (by omega) (by omega) (by omega)
    rw [hn, Ed.spl_none, ← hn] at h
    exact h
  have H2 : Hid (∀ W, Only (fun _ => False) w W → Calls Try.prog 12 #[.slice aB n c, .agg #[.int .i64 (n : Int), .int .i64 0, .slice aI m cI]] W fun e w' => ∃ a' c', e = .returned (.tuple #[.slice a' q c', .int .i64 0]) ∧ w'.ownsRow W.heap.size 5 1 (.slice a' q c') q (u8s (L ++ M)) ∧ Only (fun _ => False) W w') := fun W ho => by
    have h := splice_ok L M n c m cI n 0 q aB aI W hn hm (hVB.keep ho) (hVI.keep ho) hc hc2 (by omega) (by omega) (by omega) (by omega)
    rw [hn, Ed.spl_end, ← hn] at h
    exact h
  have H3 : Hid (∀ W, Only (fun _ => False) w W → Calls Try.prog 12 #[.slice aB n c, .agg #[.int .i64 0, .int .i64 (n : Int), .slice aI m cI]] W fun e w' => ∃ a' c', e = .returned (.tuple #[.slice a' m c', .int .i64 0]) ∧ w'.ownsRow W.heap.size 5 1 (.slice a' m c') m (u8s M) ∧ Only (fun _ => False) W w') := fun W ho => by
    have h := splice_ok L M n c m cI 0 n m aB aI W hn hm (hVB.keep ho) (hVI.keep ho) hc hc2 (by omega) (by omega) (by omega) (by omega)
    rw [hn, Ed.spl_all, ← hn] at h
    exact h
  have HB : Hid (∀ W, Only (fun _ => False) w W → (convert 22 9 (.slice aB n c)).run Try.prog W = .ok (.string (stY L)) W ∧ (convert 22 9 (.slice aI m cI)).run Try.prog W = .ok (.string (stY M)) W) := fun W ho => ⟨str_any L n c aB W hn (hVB.keep ho), str_any M m cI aI W hm (hVI.keep ho)⟩
  have HN : Hid (n = L.length ∧ m = M.length ∧ q = n + m) := ⟨hn, hm, hq⟩
  have HA : (stY L ++ stY M) = stY (L ++ M) := stY_app L M
  have d1 : decide ((4096 : Int) < (n : Int)) = false := decide_eq_false (by omega)
  have m1 : IntKind.i64.wrap (4096 - (n : Int)) = (z : Int) := by rw [IntKind.wrap_i64]; omega
  have d2 : decide ((z : Int) < (m : Int)) = false := decide_eq_false (by omega)
  have d3 : decide (z < m) = false := decide_eq_false (by omega)
  have z1 : (stY L).size = n := by rw [stY_size]; exact hn.symm
  have z2 : (stY M).size = m := by rw [stY_size]; exact hm.symm
  have z3 : (9223372036854775807 < n + m) = False := eq_false (by omega)
  clear hn hm hVB hVI hc hc2 hq hz
  go_enter Try.func8, Try.ntmps8
  go_wp2_with fail
  refine Calls.mono (awake19_any _) ?_
  rintro e w1 ⟨rfl, ho1⟩
  have HO1 : Hid (Only (fun _ => False) w w1) := ho1
  clear ho1
  go_wp2_with fail
  refine Calls.mono (H1.out _ HO1.out) ?_
  rintro e w2 ⟨a2, c2, rfl, hown2, ho2⟩
  have HO2 : Hid (Vw w2 a2 (u8s L) ∧ Only (fun _ => False) w w2) := ⟨own_vw hown2, HO1.out.trans ho2⟩
  clear hown2 ho2
  go_wp2_with fail
  refine Calls.mono (H2.out _ HO2.out.2) ?_
  rintro e w3 ⟨a3, c3, rfl, hown3, ho3⟩
  have HO3 : Hid (Vw w3 a2 (u8s L) ∧ Vw w3 a3 (u8s (L ++ M)) ∧ Only (fun _ => False) w w3) := ⟨HO2.out.1.keep ho3, own_vw hown3, HO2.out.2.trans ho3⟩
  clear hown3 ho3
  go_wp2_with fail
  refine Calls.mono (H3.out _ HO3.out.2.2) ?_
  rintro e w4 ⟨a4, c4, rfl, hown4, ho4⟩
  have HO4 : Hid (Only (fun _ => False) w w4) := HO3.out.2.2.trans ho4
  have s1 := str_any L n c2 a2 w4 HN.out.1 (HO3.out.1.keep ho4)
  have s2 := str_any (L ++ M) q c3 a3 w4 (by rw [List.length_append, ← HN.out.1, ← HN.out.2.1]; exact HN.out.2.2) (HO3.out.2.1.keep ho4)
  have s3 := str_any M m c4 a4 w4 HN.out.2.1 (own_vw hown4)
  obtain ⟨s4, s5⟩ := HB.out w4 HO4.out
  clear hown4 ho4
  go_wp2_with fail
  go_ret
  exact ⟨rfl, HO4.out⟩
theorem walk0 (L M : List Nat) (n m c cI : Nat) (aB aI : Option Addr) (w : World) (h4 : 4096 < n + m) (hn2 : n ≤ 140737488351232) (hm2 : m ≤ 140737488351232) :
    Calls Try.prog 8 #[.slice aB n c, .slice aI m cI] w fun e w' => e = .returned (.bool true) ∧ Only (fun _ => False) w w' := by
  by_cases c1 : (4096 : Int) < (n : Int)
  · go_enter Try.func8, Try.ntmps8
    go_wp2_with fail
    refine Calls.mono (awake19_any _) ?_
    rintro e w1 ⟨rfl, ho1⟩
    have HO1 : Hid (Only (fun _ => False) w w1) := ho1
    clear ho1
    go_wp2_with fail
    go_ret
    exact ⟨rfl, HO1.out⟩
  · have d1 : decide ((4096 : Int) < (n : Int)) = false := decide_eq_false c1
    obtain ⟨z, hz⟩ : ∃ z, z = 4096 - n := ⟨_, rfl⟩
    have m1 : IntKind.i64.wrap (4096 - (n : Int)) = (z : Int) := by rw [IntKind.wrap_i64]; omega
    have d2 : (z : Int) < (m : Int) := by omega
    have d3 : z < m := by omega
    clear hz
    go_enter Try.func8, Try.ntmps8
    go_wp2_with fail
    refine Calls.mono (awake19_any _) ?_
    rintro e w1 ⟨rfl, ho1⟩
    have HO1 : Hid (Only (fun _ => False) w w1) := ho1
    clear ho1
    go_wp2_with fail
    go_ret
    exact ⟨rfl, HO1.out⟩
theorem walk (L : List Nat) (aB : Option Addr) (c : Nat) (M : List Nat) (aI : Option Addr) (cI : Nat) (w : World) (hVB : Vw w aB (u8s L)) (hc : L.length ≤ c) (hc2 : c ≤ maxLen) (hnB : aB = none → L.length = 0 ∧ c = 0) (hs : L.length ≤ 140737488351232) (hVI : Vw w aI (u8s M)) (hd : M.length ≤ cI) (hd2 : cI ≤ maxLen) (hnI : aI = none → M.length = 0 ∧ cI = 0) (hs2 : M.length ≤ 140737488351232) :
    Calls Try.prog 8 #[.slice aB L.length c, .slice aI M.length cI] w fun e w' => e = .returned (.bool true) ∧ Only (fun _ => False) w w' := by
  by_cases h : L.length + M.length ≤ 4096
  · exact walk1 L M _ _ c cI aB aI w rfl rfl hVB hVI hc hc2 h
  · exact walk0 L M _ _ c cI aB aI w (by omega) hs hs2
end editEnds
end Go.Proofs.Ytmhnghkodneodaa
