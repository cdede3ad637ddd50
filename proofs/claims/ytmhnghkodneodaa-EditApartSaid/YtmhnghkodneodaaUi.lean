/-
  Splice of a change that stands within the text, long or not; EditParts' walk.
-/
import Derived.Test.YtmhnghkodneodaaUg
namespace Go.Proofs.Ytmhnghkodneodaa
open Go.RowKit Go.Maps
set_option linter.unusedVariables false
set_option linter.unusedSimpArgs false
namespace Ed
/-- what comes of it: nothing, if it is too long. -/
def res (L : List Nat) (a d : Nat) (M : List Nat) : List Nat := if L.length - d + M.length ≤ 4096 then spl L a d M else []
def err (n d m : Nat) : Nat := if n - d + m ≤ 4096 then 0 else 3
theorem res_parts {L : List Nat} {a d : Nat} (M : List Nat) (h : a + d ≤ L.length) : res (spl L a d []) a 0 M = res L a d M := by
  unfold res
  rw [spl_len [] h, spl_parts M h, List.length_nil, Nat.add_zero, Nat.sub_zero]
end Ed
def spP (X : List Nat) (N k : Nat) (w : World) (e : Ending) (w' : World) : Prop := ∃ (a' : Option Addr) (c' : Nat), e = .returned (.tuple #[.slice a' N c', .int .i64 (k : Int)]) ∧ Vw w' a' (u8s X) ∧ N ≤ c' ∧ c' ≤ maxLen ∧ (a' = none → N = 0 ∧ c' = 0) ∧ Only (fun _ => False) w w'
theorem own_nn {w : World} {B n c : Nat} {a : Option Addr} {xs : List Value} (h : w.ownsRow B 5 1 (.slice a n c) n xs) : a = none → n = 0 ∧ c = 0 := fun e => by
  obtain ⟨_, ⟨hv, h0⟩ | ⟨g, cap, cur, hv, _⟩⟩ := h
  · injection hv with _ _ e2
    exact ⟨h0, e2⟩
  · injection hv with e1
    rw [e] at e1
    cases e1
theorem splice_gen (L M : List Nat) (n c m cI a d N k : Nat) (aB aI : Option Addr) (w : World) (hn : n = L.length) (hm : m = M.length) (hVB : Vw w aB (u8s L)) (hVI : Vw w aI (u8s M)) (hc : n ≤ c) (hc2 : c ≤ maxLen) (ha : a + d ≤ n) (hn2 : n ≤ 100000) (hm2 : m ≤ 100000) (hN : N = (Ed.res L a d M).length) (hk : k = Ed.err n d m) :
    Calls Try.prog 12 #[.slice aB n c, .agg #[.int .i64 (a : Int), .int .i64 (d : Int), .slice aI m cI]] w (spP (Ed.res L a d M) N k w) := by
  by_cases h4 : n - d + m ≤ 4096
  · have e1 : Ed.res L a d M = Ed.spl L a d M := by unfold Ed.res; rw [← hn, ← hm, if_pos h4]
    have e2 : k = 0 := by rw [hk]; unfold Ed.err; rw [if_pos h4]
    have e3 : N = n - d + m := by rw [hN, e1, Ed.spl_len M (by omega), ← hn, ← hm]
    refine (splice_ok L M n c m cI a d N aB aI w hn hm hVB hVI hc hc2 ha (by omega) (by omega) (by omega)).mono ?_
    rintro e w' ⟨a', c', he, hown, ho⟩
    rw [e1]
    exact ⟨a', c', by rw [he, e2]; rfl, own_vw hown, own_le hown, own_cap hown, own_nn hown, ho⟩
  · have e1 : Ed.res L a d M = [] := by unfold Ed.res; rw [← hn, ← hm, if_neg h4]
    have e2 : k = 3 := by rw [hk]; unfold Ed.err; rw [if_neg h4]
    have e3 : N = 0 := by rw [hN, e1]; rfl
    refine (splice_bad n c m cI 3 aB aI a d w (by omega) (by omega) (by omega) (by omega) (Ed.code_long ha (by omega)) (by decide)).mono ?_
    rintro e w' ⟨he, ho⟩
    rw [e1]
    exact ⟨none, 0, by rw [he, e2, e3], Vw.nil _ _, by omega, by decide, fun _ => ⟨e3, rfl⟩, ho⟩
/-- what a walk has behind 'e = fit(b, e)'. -/
theorem fit_box {w w2 : World} {R a d m c : Nat} {A D : Int} {aI : Option Addr} (ho : Only (fun _ => False) w w2) (hR : w2.heap[R]? = some (.cells #[.int .i64 A, .int .i64 D, .slice aI m c] 24 (0, 0))) (hr : w.heap.size ≤ R) : ∃ w3, w2.setRow R #[.int .i64 (a : Int), .int .i64 (d : Int), .slice aI m c] = w3 ∧ Hid (Only (fun _ => False) w w3) ∧ Hid (∀ W, Only (fun _ => False) w3 W → W.heap[R]? = some (.cells #[.int .i64 (a : Int), .int .i64 (d : Int), .slice aI m c] 24 (0, 0)) ∧ W.cell? ⟨R, 0, none⟩ = some (.int .i64 (a : Int)) ∧ W.cell? ⟨R, 1, none⟩ = some (.int .i64 (d : Int)) ∧ W.cell? ⟨R, 2, none⟩ = some (.slice aI m c) ∧ R < W.heap.size) := by
  have h : (w2.setRow R #[.int .i64 (a : Int), .int .i64 (d : Int), .slice aI m c]).heap[R]? = some (.cells #[.int .i64 (a : Int), .int .i64 (d : Int), .slice aI m c] 24 (0, 0)) := setRow_heap _ _ _ _ _ _ hR
  exact ⟨_, rfl, ho.setRowNew hr _, fun W hW => ⟨blk_keep hW h, blk_three (blk_keep hW h)⟩⟩
namespace editParts
set_option maxRecDepth 100000 in
set_option maxHeartbeats 4000000 in
theorem walk1 (L M : List Nat) (n m c cI : Nat) (A D : Int) (aB aI : Option Addr) (w : World) (hn : n = L.length) (hm : m = M.length) (hVB : Vw w aB (u8s L)) (hVI : Vw w aI (u8s M)) (hc : n ≤ c) (hc2 : c ≤ maxLen) (hn4 : n ≤ 4096) (hm4 : m ≤ 4096) (hA : -9223372036854775808 ≤ A ∧ A ≤ 9223372036854775807) (hD : -9223372036854775808 ≤ D ∧ D ≤ 9223372036854775807) :
    Calls Try.prog 6 #[.slice aB n c, .agg #[.int .i64 A, .int .i64 D, .slice aI m cI]] w fun e w' => e = .returned (.bool true) ∧ Only (fun _ => False) w w' := by
  have HF : Hid (∀ W, Calls Try.prog 14 #[.slice aB n c, .agg #[.int .i64 A, .int .i64 D, .slice aI m cI]] W fun e w' => ∃ a d : Nat, e = .returned (.agg #[.int .i64 (a : Int), .int .i64 (d : Int), .slice aI m cI]) ∧ a + d ≤ n ∧ Only (fun _ => False) W w') := fun W => fit_any n c m cI aB aI A D W hA hD (by omega)
  have HN : Hid (n = L.length ∧ m = M.length ∧ Vw w aB (u8s L) ∧ Vw w aI (u8s M) ∧ n ≤ c ∧ c ≤ maxLen) := ⟨hn, hm, hVB, hVI, hc, hc2⟩
  have d1 : decide ((4096 : Int) < (n : Int)) = false := decide_eq_false (by omega)
  have d2 : decide ((4096 : Int) < (m : Int)) = false := decide_eq_false (by omega)
  clear hn hm hVB hVI hc hc2
  go_enter Try.func6, Try.ntmps6
  go_upto_region 1 with fail
  obtain ⟨R, w0, hw0, hR, H0, -, -, -, lR⟩ := box3 w (.int .i64 A) (.int .i64 D) (.slice aI m cI) 24
  rw [hw0, hR]
  clear hw0 hR
  go_wp2_with fail
  refine Calls.mono (awake19_any _) ?_
  rintro e w1 ⟨rfl, ho1⟩
  have H1 : Hid (Only (fun _ => False) w w1 ∧ w1.heap[R]? = some (.cells #[.int .i64 A, .int .i64 D, .slice aI m cI] 24 (0, 0)) ∧ w.heap.size ≤ R) := ⟨H0.out.2.1.trans ho1, blk_keep ho1 H0.out.1, Nat.le_of_eq H0.out.2.2.symm⟩
  clear ho1 lR
  obtain ⟨r0, r1, r2, lR⟩ := blk_three H1.out.2.1
  go_wp2_with fail
  refine Calls.mono (HF.out _) ?_
  rintro e w2 ⟨a, d, rfl, had, ho2⟩
  have H2 : Hid (Only (fun _ => False) w w2 ∧ w2.heap[R]? = some (.cells #[.int .i64 A, .int .i64 D, .slice aI m cI] 24 (0, 0)) ∧ a + d ≤ n) := ⟨H1.out.1.trans ho2, blk_keep ho2 H1.out.2.1, had⟩
  clear ho2 r0 r1 r2 lR had
  obtain ⟨w3, hw3, HO3, HS⟩ := fit_box (a := a) (d := d) H2.out.1 H2.out.2.1 H1.out.2.2
  obtain ⟨-, r0, r1, r2, lR⟩ := HS.out w3 (Only.refl _ _)
  obtain ⟨X, hX⟩ : ∃ X, X = Ed.res L a d M := ⟨_, rfl⟩
  obtain ⟨Y, hY⟩ : ∃ Y, Y = Ed.spl L a d [] := ⟨_, rfl⟩
  obtain ⟨N, hNX⟩ : ∃ N, N = X.length := ⟨_, rfl⟩
  obtain ⟨NY, hNY⟩ : ∃ N, N = Y.length := ⟨_, rfl⟩
  obtain ⟨k, hk⟩ : ∃ k, k = Ed.err n d m := ⟨_, rfl⟩
  have K1 : Hid (∀ W, Only (fun _ => False) w W → Calls Try.prog 12 #[.slice aB n c, .agg #[.int .i64 (a : Int), .int .i64 (d : Int), .slice aI m cI]] W (spP X N k W)) := fun W ho => by
    obtain ⟨q0, q1, q2, q3, q4, q5⟩ := HN.out
    rw [hX]
    exact splice_gen L M n c m cI a d N k aB aI W q0 q1 (q2.keep ho) (q3.keep ho) q4 q5 H2.out.2.2 (by omega) (by omega) (by rw [hNX, hX]) hk
  have K2 : Hid (∀ W, Only (fun _ => False) w W → Calls Try.prog 12 #[.slice aB n c, .agg #[.int .i64 (a : Int), .int .i64 (d : Int), .slice none 0 0]] W (spP Y NY 0 W)) := fun W ho => by
    obtain ⟨q0, q1, q2, q3, q4, q5⟩ := HN.out
    have had := H2.out.2.2
    have e : Ed.res L a d [] = Ed.spl L a d [] := by
      unfold Ed.res
      rw [if_pos (by rw [← q0]; simp; omega)]
    have h := splice_gen L [] n c 0 0 a d NY 0 aB none W q0 rfl (q2.keep ho) (Vw.nil _ _) q4 q5 had (by omega) (by omega) (by rw [hNY, hY, e]) (by unfold Ed.err; rw [if_pos (by omega)])
    rw [e, ← hY] at h
    exact h
  have K3 : Hid (∀ W a' c', Only (fun _ => False) w W → Vw W a' (u8s Y) → NY ≤ c' → c' ≤ maxLen → Calls Try.prog 12 #[.slice a' NY c', .agg #[.int .i64 (a : Int), .int .i64 0, .slice aI m cI]] W (spP X N k W)) := fun W a' c' ho hV g1 g2 => by
    obtain ⟨q0, q1, q2, q3, q4, q5⟩ := HN.out
    have had := H2.out.2.2
    have eN : NY = n - d := by rw [hNY, hY, Ed.spl_len [] (by omega), ← q0]; rfl
    have e : Ed.res Y a 0 M = X := by rw [hY, hX]; exact Ed.res_parts M (by omega)
    have h := splice_gen Y M NY c' m cI a 0 N k a' aI W hNY q1 hV (q3.keep ho) g1 g2 (by omega) (by omega) (by omega) (by rw [e]; exact hNX) (by rw [hk, eN]; unfold Ed.err; rfl)
    rw [e] at h
    exact h
  have HX : Hid (N = X.length) := hNX
  unfold spP at K1 K2 K3
  clear hX hY hNX hNY hk HN HF
  go_wp2_with (refine wpList_store_row rfl 24 _ _ rfl R #[.int .i64 (a : Int), .int .i64 (d : Int), .slice aI m cI] rfl rfl 24 _ H2.out.2.1 (by kernel_rfl) rfl (ed_one _ _ _ _ _) ?_; rw [hw3]; clear hw3)
  refine Calls.mono (K1.out _ HO3.out) ?_
  rintro e w4 ⟨a4, c4, rfl, hV4, -, -, -, ho4⟩
  have H4 : Hid (Only (fun _ => False) w3 w4 ∧ Vw w4 a4 (u8s X)) := ⟨ho4, hV4⟩
  clear hV4 ho4 r0 r1 r2 lR
  obtain ⟨-, r0, r1, r2, lR⟩ := HS.out w4 H4.out.1
  go_wp2_with fail
  refine Calls.mono (K2.out _ (HO3.out.trans H4.out.1)) ?_
  rintro e w5 ⟨a5, c5, rfl, hV5, hc5, hm5, -, ho5⟩
  have H5 : Hid (Only (fun _ => False) w3 w5 ∧ Vw w5 a4 (u8s X) ∧ Vw w5 a5 (u8s Y) ∧ NY ≤ c5 ∧ c5 ≤ maxLen) := ⟨H4.out.1.trans ho5, H4.out.2.keep ho5, hV5, hc5, hm5⟩
  clear hV5 ho5 hc5 hm5 r0 r1 r2 lR
  obtain ⟨-, r0, r1, r2, lR⟩ := HS.out w5 H5.out.1
  go_wp2_with fail
  refine Calls.mono (K3.out _ _ _ (HO3.out.trans H5.out.1) H5.out.2.2.1 H5.out.2.2.2.1 H5.out.2.2.2.2) ?_
  rintro e w6 ⟨a6, c6, rfl, hV6, -, -, -, ho6⟩
  have H6 : Hid (Only (fun _ => False) w w6) := (HO3.out.trans H5.out.1).trans ho6
  have s1 := str_any X N c4 a4 w6 HX.out (H5.out.2.1.keep ho6)
  have s2 := str_any X N c6 a6 w6 HX.out hV6
  clear hV6 ho6 r0 r1 r2 lR
  go_wp2_with fail
  go_ret
  exact ⟨rfl, H6.out⟩
set_option maxRecDepth 100000 in
set_option maxHeartbeats 4000000 in
theorem walk0 (n m c cI : Nat) (A D : Int) (aB aI : Option Addr) (w : World) (h : 4096 < n ∨ 4096 < m) :
    Calls Try.prog 6 #[.slice aB n c, .agg #[.int .i64 A, .int .i64 D, .slice aI m cI]] w fun e w' => e = .returned (.bool true) ∧ Only (fun _ => False) w w' := by
  by_cases c1 : (4096 : Int) < (n : Int)
  · skip
    go_enter Try.func6, Try.ntmps6
    go_upto_region 1 with fail
    obtain ⟨R, w0, hw0, hR, H0, -, -, -, lR⟩ := box3 w (.int .i64 A) (.int .i64 D) (.slice aI m cI) 24
    rw [hw0, hR]
    clear hw0 hR
    go_wp2_with fail
    refine Calls.mono (awake19_any _) ?_
    rintro e w1 ⟨rfl, ho1⟩
    have H1 : Hid (Only (fun _ => False) w w1) := H0.out.2.1.trans ho1
    obtain ⟨-, -, r2, lR2⟩ := blk_three (blk_keep ho1 H0.out.1)
    clear ho1
    go_wp2_with fail
    go_ret
    exact ⟨rfl, H1.out⟩
  · have d1 : decide ((4096 : Int) < (n : Int)) = false := decide_eq_false c1
    have d2 : (4096 : Int) < (m : Int) := by omega
    go_enter Try.func6, Try.ntmps6
    go_upto_region 1 with fail
    obtain ⟨R, w0, hw0, hR, H0, -, -, -, lR⟩ := box3 w (.int .i64 A) (.int .i64 D) (.slice aI m cI) 24
    rw [hw0, hR]
    clear hw0 hR
    go_wp2_with fail
    refine Calls.mono (awake19_any _) ?_
    rintro e w1 ⟨rfl, ho1⟩
    have H1 : Hid (Only (fun _ => False) w w1) := H0.out.2.1.trans ho1
    obtain ⟨-, -, r2, lR2⟩ := blk_three (blk_keep ho1 H0.out.1)
    clear ho1
    go_wp2_with fail
    go_ret
    exact ⟨rfl, H1.out⟩
theorem walk (L : List Nat) (aB : Option Addr) (c : Nat) (E : EdV) (w : World) (hVB : Vw w aB (u8s L)) (hc : L.length ≤ c) (hc2 : c ≤ maxLen) (hnB : aB = none → L.length = 0 ∧ c = 0) (hs : L.length ≤ 140737488351232) (hE : E.Ok w) :
    Calls Try.prog 6 #[.slice aB L.length c, E.val] w fun e w' => e = .returned (.bool true) ∧ Only (fun _ => False) w w' := by
  by_cases h : 4096 < L.length ∨ 4096 < E.M.length
  · exact walk0 _ _ c E.c E.A E.D aB E.a w h
  · exact walk1 L E.M _ _ c E.c E.A E.D aB E.a w rfl rfl hVB hE.vM hc hc2 (by omega) (by omega) hE.rA hE.rD
end editParts
end Go.Proofs.Ytmhnghkodneodaa
