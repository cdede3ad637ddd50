/-
  Undo of a change that stands within the text, long or not; EditUndoes' walk.
-/
import Derived.Test.YtmhnghkodneodaaUi
namespace Go.Proofs.Ytmhnghkodneodaa
open Go.RowKit Go.Maps
set_option linter.unusedVariables false
set_option linter.unusedSimpArgs false
namespace Ed
theorem err_or (n d m : Nat) : err n d m = 0 ∨ err n d m = 3 := by
  unfold err
  split
  · exact Or.inl rfl
  · exact Or.inr rfl
end Ed
namespace editUndoes
set_option maxRecDepth 100000 in
set_option maxHeartbeats 4000000 in
theorem walk1 (L M : List Nat) (n m c cI : Nat) (A D : Int) (aB aI : Option Addr) (w : World) (hn : n = L.length) (hm : m = M.length) (hVB : Vw w aB (u8s L)) (hVI : Vw w aI (u8s M)) (hc : n ≤ c) (hc2 : c ≤ maxLen) (hnil : aB = none → n = 0 ∧ c = 0) (hn4 : n ≤ 4096) (hm4 : m ≤ 4096) (hA : -9223372036854775808 ≤ A ∧ A ≤ 9223372036854775807) (hD : -9223372036854775808 ≤ D ∧ D ≤ 9223372036854775807) :
    Calls Try.prog 5 #[.slice aB n c, .agg #[.int .i64 A, .int .i64 D, .slice aI m cI]] w fun e w' => e = .returned (.bool true) ∧ Only (fun _ => False) w w' := by
  have HF : Hid (∀ W, Calls Try.prog 14 #[.slice aB n c, .agg #[.int .i64 A, .int .i64 D, .slice aI m cI]] W fun e w' => ∃ a d : Nat, e = .returned (.agg #[.int .i64 (a : Int), .int .i64 (d : Int), .slice aI m cI]) ∧ a + d ≤ n ∧ Only (fun _ => False) W w') := fun W => fit_any n c m cI aB aI A D W hA hD (by omega)
  have HN : Hid (n = L.length ∧ m = M.length ∧ Vw w aB (u8s L) ∧ Vw w aI (u8s M) ∧ n ≤ c ∧ c ≤ maxLen ∧ (aB = none → n = 0 ∧ c = 0)) := ⟨hn, hm, hVB, hVI, hc, hc2, hnil⟩
  have d1 : decide ((4096 : Int) < (n : Int)) = false := decide_eq_false (by omega)
  have d2 : decide ((4096 : Int) < (m : Int)) = false := decide_eq_false (by omega)
  clear hn hm hVB hVI hc hc2 hnil
  go_enter Try.func5, Try.ntmps5
  go_upto_region 1 with fail
  obtain ⟨R, w0, hw0, hR, H0, -, -, -, lR⟩ := box3 w (.int .i64 A) (.int .i64 D) (.slice aI m cI) 24
  rw [hw0, hR]
  clear hw0 hR
  go_wp2_with fail
  refine Calls.mono (awake19_any _) ?_
  rintro e w1 ⟨rfl, ho1⟩
  have H1 : Hid (Only (fun _ => False) w w1 ∧ w1.heap[R]? = some (.cells #[.int .i64 A, .int .i64 D, .slice aI m cI] 24 (0, 0)) ∧ w.heap.size ≤ R) := ⟨H0.out.2.1.trans ho1, blk_keep ho1 H0.out.1, Nat.le_of_eq H0.out.2.2.symm⟩
  clear ho1 lR
  obtain ⟨r0, r1, r2, lR⟩ := blk_three H1.out.2.1
  go_wp2_with fail
  refine Calls.mono (HF.out _) ?_
  rintro e w2 ⟨a, d, rfl, had, ho2⟩
  have H2 : Hid (Only (fun _ => False) w w2 ∧ w2.heap[R]? = some (.cells #[.int .i64 A, .int .i64 D, .slice aI m cI] 24 (0, 0)) ∧ a + d ≤ n) := ⟨H1.out.1.trans ho2, blk_keep ho2 H1.out.2.1, had⟩
  clear ho2 r0 r1 r2 lR had
  obtain ⟨w3, hw3, HO3, HS⟩ := fit_box (a := a) (d := d) H2.out.1 H2.out.2.1 H1.out.2.2
  obtain ⟨-, r0, r1, r2, lR⟩ := HS.out w3 (Only.refl _ _)
  by_cases h4 : n - d + m ≤ 4096
  · obtain ⟨X, hX⟩ : ∃ X, X = Ed.spl L a d M := ⟨_, rfl⟩
    obtain ⟨G, hG⟩ : ∃ G, G = Ed.gone L a d := ⟨_, rfl⟩
    obtain ⟨N, hNX⟩ : ∃ N, n - d + m = N := ⟨_, rfl⟩
    have HX : Hid (X = Ed.spl L a d M ∧ G = Ed.gone L a d ∧ n - d + m = N ∧ N = X.length ∧ d = G.length) := by
      have had := H2.out.2.2
      have q0 := HN.out.1
      have q1 := HN.out.2.1
      exact ⟨hX, hG, hNX, by rw [hX, Ed.spl_len M (by omega), ← q0, ← q1]; exact hNX.symm, by rw [hG, Ed.gone_len (by omega)]⟩
    have K1 : Hid (∀ W, Only (fun _ => False) w W → Calls Try.prog 12 #[.slice aB n c, .agg #[.int .i64 (a : Int), .int .i64 (d : Int), .slice aI m cI]] W fun e w' => ∃ a' c', e = .returned (.tuple #[.slice a' N c', .int .i64 0]) ∧ w'.ownsRow W.heap.size 5 1 (.slice a' N c') N (u8s X) ∧ Only (fun _ => False) W w') := fun W ho => by
      obtain ⟨q0, q1, q2, q3, q4, q5, q6⟩ := HN.out
      rw [hX]
      exact splice_ok L M n c m cI a d N aB aI W q0 q1 (q2.keep ho) (q3.keep ho) q4 q5 H2.out.2.2 hNX (by omega) (by omega)
    have K2 : Hid (∀ W, Only (fun _ => False) w W → Calls Try.prog 15 #[.slice aB n c, .agg #[.int .i64 (a : Int), .int .i64 (d : Int), .slice aI m cI]] W fun e w' => ∃ a' c', e = .returned (.tuple #[.agg #[.int .i64 (a : Int), .int .i64 (m : Int), .slice a' d c'], .int .i64 0]) ∧ w'.ownsRow W.heap.size 5 1 (.slice a' d c') d (u8s G) ∧ Only (fun _ => False) W w') := fun W ho => by
      obtain ⟨q0, q1, q2, q3, q4, q5, q6⟩ := HN.out
      rw [hG]
      exact undo_ok L n c m cI a d aB aI W q0 (q2.keep ho) q4 q5 q6 H2.out.2.2 h4 (by omega)
    have K3 : Hid (∀ W a' c' aG cG, Only (fun _ => False) w W → Vw W a' (u8s X) → N ≤ c' → c' ≤ maxLen → Vw W aG (u8s G) → Calls Try.prog 12 #[.slice a' N c', .agg #[.int .i64 (a : Int), .int .i64 (m : Int), .slice aG d cG]] W fun e w' => ∃ a' c', e = .returned (.tuple #[.slice a' n c', .int .i64 0]) ∧ w'.ownsRow W.heap.size 5 1 (.slice a' n c') n (u8s L) ∧ Only (fun _ => False) W w') := fun W a' c' aG cG ho hV g1 g2 hVG => by
      obtain ⟨q0, q1, q2, q3, q4, q5, q6⟩ := HN.out
      have had := H2.out.2.2
      have h := splice_ok X G N c' d cG a m n a' aG W HX.out.2.2.2.1 HX.out.2.2.2.2 hV hVG g1 g2 (by omega) (by omega) (by omega) (by omega)
      rw [hX, hG, q1, Ed.spl_undo M (by omega), ← q1] at h
      exact h
    have K4 : Hid (∀ W a' c' aG cG, Only (fun _ => False) w W → Vw W a' (u8s X) → N ≤ c' → c' ≤ maxLen → (a' = none → N = 0 ∧ c' = 0) → Calls Try.prog 15 #[.slice a' N c', .agg #[.int .i64 (a : Int), .int .i64 (m : Int), .slice aG d cG]] W fun e w' => ∃ a' c', e = .returned (.tuple #[.agg #[.int .i64 (a : Int), .int .i64 (d : Int), .slice a' m c'], .int .i64 0]) ∧ w'.ownsRow W.heap.size 5 1 (.slice a' m c') m (u8s M) ∧ Only (fun _ => False) W w') := fun W a' c' aG cG ho hV g1 g2 g3 => by
      obtain ⟨q0, q1, q2, q3, q4, q5, q6⟩ := HN.out
      have had := H2.out.2.2
      have h := undo_ok X N c' d cG a m a' aG W HX.out.2.2.2.1 hV g1 g2 g3 (by omega) (by omega) (by omega)
      have e : Ed.gone X a m = M := by rw [hX, q1]; exact Ed.mid_spl M (by omega)
      rw [e] at h
      exact h
    have HB : Hid (∀ W, Only (fun _ => False) w W → (convert 22 9 (.slice aB n c)).run Try.prog W = .ok (.string (stY L)) W ∧ (convert 22 9 (.slice aI m cI)).run Try.prog W = .ok (.string (stY M)) W) := fun W ho => ⟨str_any L n c aB W HN.out.1 (HN.out.2.2.1.keep ho), str_any M m cI aI W HN.out.2.1 (HN.out.2.2.2.1.keep ho)⟩
    have HNN : Hid (n = L.length ∧ m = M.length) := ⟨HN.out.1, HN.out.2.1⟩
    clear hX hG hNX HN HF h4
    go_wp2_with (refine wpList_store_row rfl 24 _ _ rfl R #[.int .i64 (a : Int), .int .i64 (d : Int), .slice aI m cI] rfl rfl 24 _ H2.out.2.1 (by kernel_rfl) rfl (ed_one _ _ _ _ _) ?_; rw [hw3]; clear hw3)
    refine Calls.mono (K1.out _ HO3.out) ?_
    rintro e w4 ⟨a4, c4, rfl, hown4, ho4⟩
    have H4 : Hid (Only (fun _ => False) w3 w4 ∧ Vw w4 a4 (u8s X) ∧ N ≤ c4 ∧ c4 ≤ maxLen ∧ (a4 = none → N = 0 ∧ c4 = 0)) := ⟨ho4, own_vw hown4, own_le hown4, own_cap hown4, own_nn hown4⟩
    clear hown4 ho4 r0 r1 r2 lR
    obtain ⟨-, r0, r1, r2, lR⟩ := HS.out w4 H4.out.1
    go_wp2_with fail
    refine Calls.mono (K2.out _ (HO3.out.trans H4.out.1)) ?_
    rintro e w5 ⟨a5, c5, rfl, hown5, ho5⟩
    have H5 : Hid (Only (fun _ => False) w3 w5 ∧ Vw w5 a4 (u8s X) ∧ Vw w5 a5 (u8s G)) := ⟨H4.out.1.trans ho5, H4.out.2.1.keep ho5, own_vw hown5⟩
    clear hown5 ho5 r0 r1 r2 lR
    obtain ⟨-, r0, r1, r2, lR⟩ := HS.out w5 H5.out.1
    go_wp2_with fail
    obtain ⟨U, wu, hwu, hU, HU, -, -, -, lU⟩ := box3 w5 (.int .i64 (a : Int)) (.int .i64 (m : Int)) (.slice a5 d c5) 24
    rw [hwu, hU]
    clear hwu hU r0 r1 r2 lR
    have HOU : Hid (Only (fun _ => False) w3 wu ∧ Only (fun _ => False) w wu) := ⟨H5.out.1.trans HU.out.2.1, HO3.out.trans (H5.out.1.trans HU.out.2.1)⟩
    refine Calls.mono (K3.out _ _ _ _ _ HOU.out.2 (H5.out.2.1.keep HU.out.2.1) H4.out.2.2.1 H4.out.2.2.2.1 (H5.out.2.2.keep HU.out.2.1)) ?_
    rintro e w6 ⟨a6, c6, rfl, hown6, ho6⟩
    have H6 : Hid (Only (fun _ => False) w3 w6 ∧ Vw w6 a4 (u8s X) ∧ Vw w6 a6 (u8s L) ∧ w6.heap[U]? = some (.cells #[.int .i64 (a : Int), .int .i64 (m : Int), .slice a5 d c5] 24 (0, 0))) := ⟨HOU.out.1.trans ho6, (H5.out.2.1.keep HU.out.2.1).keep ho6, own_vw hown6, blk_keep ho6 HU.out.1⟩
    clear hown6 ho6 lU
    obtain ⟨u0, u1, u2, lU⟩ := blk_three H6.out.2.2.2
    go_wp2_with fail
    refine Calls.mono (K4.out _ _ _ _ _ (HO3.out.trans H6.out.1) H6.out.2.1 H4.out.2.2.1 H4.out.2.2.2.1 H4.out.2.2.2.2) ?_
    rintro e w7 ⟨a7, c7, rfl, hown7, ho7⟩
    have H7 : Hid (Only (fun _ => False) w3 w7 ∧ Vw w7 a6 (u8s L) ∧ Vw w7 a7 (u8s M)) := ⟨H6.out.1.trans ho7, H6.out.2.2.1.keep ho7, own_vw hown7⟩
    clear hown7 ho7 u0 u1 u2 lU
    have S1 : ∀ o, (convert 22 9 (.slice a6 n c6)).run Try.prog (w7.alloc o) = .ok (.string (stY L)) (w7.alloc o) := fun o => str_any L n c6 a6 _ HNN.out.1 (H7.out.2.1.keep ((Only.refl _ _).alloc _))
    have S2 : ∀ o, (convert 22 9 (.slice a7 m c7)).run Try.prog (w7.alloc o) = .ok (.string (stY M)) (w7.alloc o) := fun o => str_any M m c7 a7 _ HNN.out.2 (H7.out.2.2.keep ((Only.refl _ _).alloc _))
    have S3 : ∀ o, (convert 22 9 (.slice aB n c)).run Try.prog (w7.alloc o) = .ok (.string (stY L)) (w7.alloc o) := fun o => (HB.out _ (HO3.out.trans (H7.out.1.alloc _))).1
    have S4 : ∀ o, (convert 22 9 (.slice aI m cI)).run Try.prog (w7.alloc o) = .ok (.string (stY M)) (w7.alloc o) := fun o => (HB.out _ (HO3.out.trans (H7.out.1.alloc _))).2
    obtain ⟨-, r0, r1, r2, lR⟩ := HS.out w7 H7.out.1
    go_wp2_with fail
    go_ret
    exact ⟨rfl, (HO3.out.trans H7.out.1).alloc _⟩
  · have K1 : Hid (∀ W, Calls Try.prog 12 #[.slice aB n c, .agg #[.int .i64 (a : Int), .int .i64 (d : Int), .slice aI m cI]] W fun e w' => e = .returned (.tuple #[.slice none 0 0, .int .i64 3]) ∧ Only (fun _ => False) W w') := fun W => splice_bad n c m cI 3 aB aI a d W (by have := H2.out.2.2; omega) (by have := H2.out.2.2; omega) (by omega) (by omega) (Ed.code_long H2.out.2.2 (by omega)) (by decide)
    have K2 : Hid (∀ W, Calls Try.prog 15 #[.slice aB n c, .agg #[.int .i64 (a : Int), .int .i64 (d : Int), .slice aI m cI]] W fun e w' => e = .returned (.tuple #[.agg #[.int .i64 0, .int .i64 0, .slice none 0 0], .int .i64 3]) ∧ Only (fun _ => False) W w') := fun W => undo_bad n c m cI 3 aB aI a d W (by have := H2.out.2.2; omega) (by have := H2.out.2.2; omega) (by omega) (by omega) (Ed.code_long H2.out.2.2 (by omega)) (by decide)
    clear HN HF h4
    go_wp2_with (refine wpList_store_row rfl 24 _ _ rfl R #[.int .i64 (a : Int), .int .i64 (d : Int), .slice aI m cI] rfl rfl 24 _ H2.out.2.1 (by kernel_rfl) rfl (ed_one _ _ _ _ _) ?_; rw [hw3]; clear hw3)
    refine Calls.mono (K1.out _) ?_
    rintro e w4 ⟨rfl, ho4⟩
    have H4 : Hid (Only (fun _ => False) w3 w4) := ho4
    clear ho4 r0 r1 r2 lR
    obtain ⟨-, r0, r1, r2, lR⟩ := HS.out w4 H4.out
    go_wp2_with fail
    refine Calls.mono (K2.out _) ?_
    rintro e w5 ⟨rfl, ho5⟩
    have H5 : Hid (Only (fun _ => False) w w5) := (HO3.out.trans H4.out).trans ho5
    clear ho5 r0 r1 r2 lR
    go_wp2_with fail
    go_ret
    exact ⟨rfl, H5.out.alloc _⟩
set_option maxRecDepth 100000 in
set_option maxHeartbeats 4000000 in
theorem walk0 (n m c cI : Nat) (A D : Int) (aB aI : Option Addr) (w : World) (h : 4096 < n ∨ 4096 < m) :
    Calls Try.prog 5 #[.slice aB n c, .agg #[.int .i64 A, .int .i64 D, .slice aI m cI]] w fun e w' => e = .returned (.bool true) ∧ Only (fun _ => False) w w' := by
  by_cases c1 : (4096 : Int) < (n : Int)
  · skip
    go_enter Try.func5, Try.ntmps5
    go_upto_region 1 with fail
    obtain ⟨R, w0, hw0, hR, H0, -, -, -, lR⟩ := box3 w (.int .i64 A) (.int .i64 D) (.slice aI m cI) 24
    rw [hw0, hR]
    clear hw0 hR
    go_wp2_with fail
    refine Calls.mono (awake19_any _) ?_
    rintro e w1 ⟨rfl, ho1⟩
    have H1 : Hid (Only (fun _ => False) w w1) := H0.out.2.1.trans ho1
    obtain ⟨-, -, r2, lR2⟩ := blk_three (blk_keep ho1 H0.out.1)
    clear ho1
    go_wp2_with fail
    go_ret
    exact ⟨rfl, H1.out⟩
  · have d1 : decide ((4096 : Int) < (n : Int)) = false := decide_eq_false c1
    have d2 : (4096 : Int) < (m : Int) := by omega
    go_enter Try.func5, Try.ntmps5
    go_upto_region 1 with fail
    obtain ⟨R, w0, hw0, hR, H0, -, -, -, lR⟩ := box3 w (.int .i64 A) (.int .i64 D) (.slice aI m cI) 24
    rw [hw0, hR]
    clear hw0 hR
    go_wp2_with fail
    refine Calls.mono (awake19_any _) ?_
    rintro e w1 ⟨rfl, ho1⟩
    have H1 : Hid (Only (fun _ => False) w w1) := H0.out.2.1.trans ho1
    obtain ⟨-, -, r2, lR2⟩ := blk_three (blk_keep ho1 H0.out.1)
    clear ho1
    go_wp2_with fail
    go_ret
    exact ⟨rfl, H1.out⟩
theorem walk (L : List Nat) (aB : Option Addr) (c : Nat) (E : EdV) (w : World) (hVB : Vw w aB (u8s L)) (hc : L.length ≤ c) (hc2 : c ≤ maxLen) (hnB : aB = none → L.length = 0 ∧ c = 0) (hs : L.length ≤ 140737488351232) (hE : E.Ok w) :
    Calls Try.prog 5 #[.slice aB L.length c, E.val] w fun e w' => e = .returned (.bool true) ∧ Only (fun _ => False) w w' := by
  by_cases h : 4096 < L.length ∨ 4096 < E.M.length
  · exact walk0 _ _ c E.c E.A E.D aB E.a w h
  · exact walk1 L E.M _ _ c E.c E.A E.D aB E.a w rfl rfl hVB hE.vM hc hc2 hnB (by omega) (by omega) hE.rA hE.rD
end editUndoes
end Go.Proofs.Ytmhnghkodneodaa
