/-
  Layer 18's Awake; JustSpreads' walk.
-/
import Derived.Test.YtngaihkgndlkhaaJb
import Derived.Test.YtngaihkgndlkhaaSm
namespace Go.Proofs.Ytngaihkgndlkhaa
open Go.RowKit Go.Maps
set_option linter.unusedVariables false
set_option linter.unusedSimpArgs false
theorem one_all : Sd.all 5 3 = [1, 2, 2] := by decide
set_option maxRecDepth 100000 in
set_option maxHeartbeats 4000000 in
theorem awake18_any (w : World) : Calls Try.prog 8 #[] w fun e w' => e = .returned (.bool true) ∧ Only (fun _ => False) w w' := by
  have HA : Hid (∀ W, Calls Try.prog 10 #[.int .i64 5, .int .i64 3] W (nlN [1, 2, 2] 3 W)) := fun W => by
    have h := spread_in 5 3 W (by decide) (by decide) (by decide)
    rw [one_all] at h
    exact h
  have HB : Hid (∀ W, Calls Try.prog 10 #[.int .i64 (-1), .int .i64 3] W (nlN [] 0 W)) := fun W => spread_out _ _ W (Or.inl (by decide))
  have HC : Hid (∀ W, Calls Try.prog 10 #[.int .i64 1, .int .i64 1] W (nlN (Sd.all 1 1) 1 W)) := fun W => spread_in 1 1 W (by decide) (by decide) (by decide)
  unfold nlN at HA HB HC
  go_enter Try.func8, Try.ntmps8
  go_wp2_with fail
  refine Calls.mono (HA.out _) ?_
  rintro e w1 ⟨a1, c1, rfl, hown1, ho1⟩
  have H1 : Hid (w1.ownsRow w.heap.size 3 1 (.slice a1 3 c1) 3 (natI [1, 2, 2]) ∧ Only (fun _ => False) w w1) := ⟨hown1, ho1⟩
  clear hown1 ho1
  go_wp2_with fail
  have HN : Hid (Nb (w1.alloc (.cells #[.int .i64 1, .int .i64 2, .int .i64 2] 3)) w1.heap.size [1, 2, 2]) := heap_alloc_new w1 _
  refine Calls.mono (sameNats_any [1, 2, 2] w.heap.size w1.heap.size a1 _ c1 3 _ (H1.out.1.alloc _) (nb_own HN.out (Nat.le_refl _) (by decide)) (by decide)) ?_
  rintro e w2 ⟨rfl, nq, hnq⟩
  have H2 : Hid (Only (fun _ => False) w w2) := by rw [hnq]; exact (H1.out.2.alloc _).drewN _
  clear hnq
  go_wp2_with fail
  refine Calls.mono (HB.out _) ?_
  rintro e w3 ⟨a3, c3, rfl, -, ho3⟩
  have H3 : Hid (Only (fun _ => False) w w3) := H2.out.trans ho3
  clear ho3
  go_wp2_with fail
  refine Calls.mono (HC.out _) ?_
  rintro e w4 ⟨a4, c4, rfl, -, ho4⟩
  have H4 : Hid (Only (fun _ => False) w w4) := H3.out.trans ho4
  clear ho4
  go_wp2_with fail
  go_ret
  exact ⟨rfl, H4.out⟩
namespace justSpreads
set_option maxRecDepth 100000 in
set_option maxHeartbeats 4000000 in
theorem walk0 (room gaps : Int) (w : World) (L : List Nat) (n : Nat) (hn : n = L.length) (hl : n ≤ 4096) (H1 : Hid (∀ W, Calls Try.prog 10 #[.int .i64 room, .int .i64 gaps] W (nlN L n W))) (H2 : Hid (∀ W, Calls Try.prog 11 #[.int .i64 room, .int .i64 gaps] W (nlN L n W))) :
    Calls Try.prog 3 #[.int .i64 room, .int .i64 gaps] w fun e w' => e = .returned (.bool true) ∧ Only (fun _ => False) w w' := by
  unfold nlN at H1 H2
  have HSI : Hid (∀ W B B' a a' c c', W.ownsRow B 3 1 (.slice a n c) n (natI L) → W.ownsRow B' 3 1 (.slice a' n c') n (natI L) → Calls Try.prog 9 #[.slice a n c, .slice a' n c'] W fun e w' => e = .returned (.bool true) ∧ ∃ n, w' = W.drewN n) := fun W B B' a a' c c' h1 h2 => by
    subst hn
    exact sameNats_any L B B' a a' c c' W h1 h2 (by omega)
  clear hn
  go_enter Try.func3, Try.ntmps3
  go_wp2_with fail
  refine Calls.mono (awake18_any _) ?_
  rintro e w1 ⟨rfl, ho1⟩
  have HO1 : Hid (Only (fun _ => False) w w1) := ho1
  clear ho1
  go_wp2_with fail
  refine Calls.mono (H1.out _) ?_
  rintro e w2 ⟨a2, c2, rfl, hown2, ho2⟩
  have HO2 : Hid (w2.ownsRow w1.heap.size 3 1 (.slice a2 n c2) n (natI L) ∧ Only (fun _ => False) w w2) := ⟨hown2, HO1.out.trans ho2⟩
  clear hown2 ho2
  go_wp2_with fail
  refine Calls.mono (H2.out _) ?_
  rintro e w3 ⟨a3, c3, rfl, hown3, ho3⟩
  have HO3 : Hid (w3.ownsRow w1.heap.size 3 1 (.slice a2 n c2) n (natI L) ∧ w3.ownsRow w2.heap.size 3 1 (.slice a3 n c3) n (natI L) ∧ Only (fun _ => False) w w3) := ⟨own_only HO2.out.1 ho3 (fun _ _ h => h), hown3, HO2.out.2.trans ho3⟩
  clear hown3 ho3
  go_wp2_with fail
  refine Calls.mono (HSI.out _ _ _ _ _ _ _ HO3.out.1 HO3.out.2.1) ?_
  rintro e w4 ⟨rfl, nq, hnq⟩
  have HO4 : Hid (Only (fun _ => False) w w4) := by rw [hnq]; exact HO3.out.2.2.drewN _
  clear hnq
  go_wp2_with fail
  go_ret
  exact ⟨rfl, HO4.out⟩
theorem walk (room gaps : Int) (w : World) (h0 : -9223372036854775808 ≤ room ∧ room ≤ 9223372036854775807) (h1 : -9223372036854775808 ≤ gaps ∧ gaps ≤ 9223372036854775807) :
    Calls Try.prog 3 #[.int .i64 room, .int .i64 gaps] w fun e w' => e = .returned (.bool true) ∧ Only (fun _ => False) w w' := by
  by_cases h : 0 ≤ room ∧ room ≤ 1048576 ∧ 1 ≤ gaps ∧ gaps ≤ 4096
  · obtain ⟨r, rfl⟩ : ∃ r : Nat, room = (r : Int) := ⟨room.toNat, by omega⟩
    obtain ⟨g, rfl⟩ : ∃ g : Nat, gaps = (g : Int) := ⟨gaps.toNat, by omega⟩
    exact walk0 _ _ w (Sd.all r g) g (Sd.all_len r g).symm (by omega) (fun W => spread_in r g W (by omega) (by omega) (by omega)) (fun W => refSpread_in r g W (by omega) (by omega) (by omega))
  · exact walk0 _ _ w [] 0 rfl (by omega) (fun W => spread_out _ _ W (by omega)) (fun W => refSpread_out _ _ W (by omega))
end justSpreads
end Go.Proofs.Ytngaihkgndlkhaa
