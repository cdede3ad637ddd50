/-
  EditSplices' walk.
-/
import Derived.Test.YtmhnghkodneodaaUs
namespace Go.Proofs.Ytmhnghkodneodaa
open Go.RowKit Go.Maps
set_option linter.unusedVariables false
set_option linter.unusedSimpArgs false
namespace Ed
/-- what comes of any change: nothing, if it may not be. -/
def any (L : List Nat) (A D : Int) (M : List Nat) : List Nat := if code L.length A D M.length = 0 then spl L A.toNat D.toNat M else []
def sp : List Nat := [115, 112, 97, 114, 101]
theorem sp_take (L : List Nat) : (L ++ sp).take L.length = L := by simp
theorem sp_drop (L : List Nat) (n : Nat) (h : n = L.length) : ((L ++ sp).drop n).take 5 = sp := by
  subst h
  simp [sp]
end Ed
def spare : ByteArray := ⟨#[115, 112, 97, 114, 101]⟩
theorem sp_cells : byteCells spare = u8s Ed.sp := rfl
theorem sp_st : stY Ed.sp = spare := by decide
theorem sp_size : spare.size = 5 := by decide
theorem splice_all (L M : List Nat) (n c m cI N k : Nat) (A D : Int) (aB aI : Option Addr) (w : World) (hn : n = L.length) (hm : m = M.length) (hVB : Vw w aB (u8s L)) (hVI : Vw w aI (u8s M)) (hc : n ≤ c) (hc2 : c ≤ maxLen) (hn2 : n ≤ 100000) (hm2 : m ≤ 100000) (hA : -9223372036854775808 ≤ A ∧ A ≤ 9223372036854775807) (hD : -9223372036854775808 ≤ D ∧ D ≤ 9223372036854775807) (hN : N = (Ed.any L A D M).length) (hk : Ed.code n A D m = k) :
    Calls Try.prog 12 #[.slice aB n c, .agg #[.int .i64 A, .int .i64 D, .slice aI m cI]] w fun e w' => ∃ a' c', e = .returned (.tuple #[.slice a' N c', .int .i64 (k : Int)]) ∧ Vw w' a' (u8s (Ed.any L A D M)) ∧ Only (fun _ => False) w w' := by
  by_cases k0 : k = 0
  · obtain ⟨a, d, rfl, rfl, h1, h2⟩ := Ed.code_zero (hk.trans k0)
    have e1 : Ed.any L a d M = Ed.spl L a d M := by unfold Ed.any; rw [← hn, ← hm, hk, if_pos k0]; rfl
    rw [e1] at hN ⊢
    have e3 : N = n - d + m := by rw [hN, Ed.spl_len M (by omega), ← hn, ← hm]
    refine (splice_ok L M n c m cI a d N aB aI w hn hm hVB hVI hc hc2 h1 (by omega) (by omega) (by omega)).mono ?_
    rintro e w' ⟨a', c', he, hown, ho⟩
    exact ⟨a', c', by rw [he, k0]; rfl, own_vw hown, ho⟩
  · have e1 : Ed.any L A D M = [] := by unfold Ed.any; rw [← hn, ← hm, hk, if_neg k0]
    rw [e1] at hN ⊢
    have e3 : N = 0 := hN
    refine (splice_bad n c m cI k aB aI A D w hA hD (by omega) (by omega) hk k0).mono ?_
    rintro e w' ⟨he, ho⟩
    exact ⟨none, 0, by rw [he, e3], Vw.nil _ _, ho⟩
namespace editSplices
set_option maxRecDepth 100000 in
set_option maxHeartbeats 8000000 in
theorem walk1 (L M : List Nat) (n m c cI : Nat) (A D : Int) (aB aI : Option Addr) (w : World) (hn : n = L.length) (hm : m = M.length) (hVB : Vw w aB (u8s L)) (hVI : Vw w aI (u8s M)) (hn4 : n ≤ 6000) (hm4 : m ≤ 6000) (hA : -9223372036854775808 ≤ A ∧ A ≤ 9223372036854775807) (hD : -9223372036854775808 ≤ D ∧ D ≤ 9223372036854775807) :
    Calls Try.prog 4 #[.slice aB n c, .agg #[.int .i64 A, .int .i64 D, .slice aI m cI]] w fun e w' => e = .returned (.bool true) ∧ Only (fun _ => False) w w' := by
  obtain ⟨i5, g5, g50, g51, g52⟩ := info_parts info5
  obtain ⟨k, hk⟩ : ∃ k, Ed.code n A D m = k := ⟨_, rfl⟩
  obtain ⟨X, hX⟩ : ∃ X, X = Ed.any L A D M := ⟨_, rfl⟩
  obtain ⟨N, hNX⟩ : ∃ N, N = X.length := ⟨_, rfl⟩
  have HX : Hid (N = X.length ∧ X = Ed.any L A D M ∧ Ed.code n A D m = k) := ⟨hNX, hX, hk⟩
  have HK : Hid (∀ W a c' aG cG, Vw W a (u8s L) → n ≤ c' → c' ≤ maxLen → Vw W aG (u8s M) → Calls Try.prog 12 #[.slice a n c', .agg #[.int .i64 A, .int .i64 D, .slice aG m cG]] W fun e w' => ∃ a' c', e = .returned (.tuple #[.slice a' N c', .int .i64 (k : Int)]) ∧ Vw w' a' (u8s X) ∧ Only (fun _ => False) W w') := fun W a c' aG cG h1 h2 h3 h4 => by
    rw [hX]
    exact splice_all L M n c' m cG N k A D a aG W hn hm h1 h4 h2 h3 (by omega) (by omega) hA hD (by rw [hNX, hX]) hk
  have HR : Hid (∀ W, Calls Try.prog 11 #[.int .i64 (n : Int), .agg #[.int .i64 A, .int .i64 D, .slice aI m cI]] W fun e w' => e = .returned (.int .i64 (k : Int)) ∧ Only (fun _ => False) W w') := fun W => by
    have h := refEdit_any n m cI A D aI W hA hD (by omega) (by omega)
    rw [hk] at h
    exact h
  have HN : Hid (n = L.length ∧ m = M.length ∧ Vw w aB (u8s L) ∧ Vw w aI (u8s M)) := ⟨hn, hm, hVB, hVI⟩
  have HB : Hid (∀ W, Only (fun _ => False) w W → (convert 22 9 (.slice aB n c)).run Try.prog W = .ok (.string (stY L)) W ∧ (convert 22 9 (.slice aI m cI)).run Try.prog W = .ok (.string (stY M)) W) := fun W ho => ⟨str_any L n c aB W hn (hVB.keep ho), str_any M m cI aI W hm (hVI.keep ho)⟩
  obtain ⟨q, hq⟩ : ∃ q, q = n + 40 := ⟨_, rfl⟩
  obtain ⟨p, hp⟩ : ∃ p, p = n + 5 := ⟨_, rfl⟩
  have HPQ : Hid (q = n + 40 ∧ p = n + 5) := ⟨hq, hp⟩
  have q1 : IntKind.i64.wrap ((n : Int) + 40) = (q : Int) := by rw [IntKind.wrap_i64]; omega
  have p1 : IntKind.i64.wrap ((n : Int) + 5) = (p : Int) := by rw [IntKind.wrap_i64]; omega
  have hq2 : q ≤ 7000 := by omega
  have hp2 : p ≤ 7000 := by omega
  have hpn : (n : Int) ≤ (p : Int) := by omega
  have i0 : (0 : Int) ≤ (n : Int) := by omega
  have i1 : (0 : Int) ≤ (p : Int) := by omega
  have hpd : p - n = 5 := by omega
  have d1 : decide ((6000 : Int) < (n : Int)) = false := decide_eq_false (by omega)
  have d2 : decide ((6000 : Int) < (m : Int)) = false := decide_eq_false (by omega)
  clear hn hm hVB hVI hk hX hNX hq hp
  go_enter Try.func4, Try.ntmps4
  go_upto_region 1 with fail
  obtain ⟨R, w0, hw0, hR, H0, -, -, -, lR⟩ := box3 w (.int .i64 A) (.int .i64 D) (.slice aI m cI) 24
  rw [hw0, hR]
  clear hw0 hR
  go_wp2_with fail
  refine Calls.mono (awake19_any _) ?_
  rintro e w1 ⟨rfl, ho1⟩
  have H1 : Hid (Only (fun _ => False) w w1 ∧ w1.heap[R]? = some (.cells #[.int .i64 A, .int .i64 D, .slice aI m cI] 24 (0, 0))) := ⟨H0.out.2.1.trans ho1, blk_keep ho1 H0.out.1⟩
  have HS : Hid (∀ W, Only (fun g => w1.heap.size ≤ g) w1 W → Only (fun _ => False) w W ∧ Only (fun _ => False) w1 W ∧ W.cell? ⟨R, 0, none⟩ = some (.int .i64 A) ∧ W.cell? ⟨R, 1, none⟩ = some (.int .i64 D) ∧ W.cell? ⟨R, 2, none⟩ = some (.slice aI m cI) ∧ R < W.heap.size) := fun W ho => by
    have h2 : Only (fun _ => False) w1 W := ho.old (fun b hb => Or.inl hb)
    exact ⟨H1.out.1.trans h2, h2, blk_three (blk_keep h2 H1.out.2)⟩
  clear ho1 lR
  obtain ⟨-, -, r0, r1, r2, lR⟩ := HS.out w1 (Only.refl _ _)
  go_wp2_with (first
    | (refine wpList_make_own _ rfl _ _ 22 rfl w1.heap.size 5 i5 (.int .u8 0) 1 Try.underlying22 g5 g50 g51 .i64 .i64 _ q rfl rfl (by omega) (by rw [g52]; omega) (by unfold maxLen; omega) (Nat.le_refl _) ?_
       intro Z hownZ hgZ
       have hoZ : Only (fun _ => False) w1 Z := (Only.refl _ _).grown hgZ (fun k h => by cases h)
       have HZ : Hid (Z.ownsRow w1.heap.size 5 1 (.slice (some ⟨w1.heap.size, 0, none⟩) 0 q) 0 (u8s []) ∧ Only (fun g => w1.heap.size ≤ g) w1 Z) := ⟨hownZ, hoZ.mono (fun _ h => h.elim)⟩
       clear hownZ hgZ hoZ)
    | (at_builtin; refine wpList_appY rfl _ _ rfl w3.heap.size (by rw [size_alloc1]; exact Nat.le_succ _) _ 0 0 [] rfl (own_e0Y (heap_alloc_new w3 _) (Nat.le_refl _)) aI m cI M rfl HN.out.2.1 (HN.out.2.2.2.keep ((HS.out _ H3.out.2).1.alloc _)) m (Nat.zero_add m) (by omega) ?_
       intro a4 c4 w4 hown4 ho4
       have h34 : Only (fun _ => False) w3 w4 := (appY_only (own_e0Y (heap_alloc_new w3 _) (Nat.le_refl _)) ho4 ((Only.refl _ _).alloc _)).old (fun g hg => Or.inl hg)
       have H4 : Hid (Vw w4 a4 (u8s M) ∧ Only (fun _ => False) w3 w4 ∧ Only (fun g => w1.heap.size ≤ g) w1 w4) := ⟨own_vw hown4, h34, H3.out.2.trans (h34.mono (fun _ h => h.elim))⟩
       clear hown4 ho4 h34 r0 r1 r2 lR
       obtain ⟨-, -, r0, r1, r2, lR⟩ := HS.out w4 H4.out.2.2)
    | (at_builtin; refine wpList_appY rfl _ _ rfl w1.heap.size HZ.out.2.size _ 0 q [] rfl HZ.out.1 aB n c L rfl HN.out.1 (HN.out.2.2.1.keep (HS.out _ HZ.out.2).1) n (Nat.zero_add n) (by omega) ?_
       intro a2 c2 w2 hown2 ho2
       have H2 : Hid (w2.ownsRow w1.heap.size 5 1 (.slice a2 n c2) n (u8s L) ∧ Only (fun g => w1.heap.size ≤ g) w1 w2) := ⟨hown2, appY_only HZ.out.1 ho2 HZ.out.2⟩
       clear hown2 ho2)
    | (at_builtin; refine wpList_appS rfl _ _ rfl w1.heap.size _ n _ spare rfl H2.out.1 rfl (by decide) (by rw [sp_size]; omega) H2.out.2.size ?_
       intro g3 c3 w3 hown3 ho3
       rw [sp_size, ← HPQ.out.2, sp_cells, ← u8s_app] at hown3
       rw [sp_size, ← HPQ.out.2]
       have H3 : Hid (w3.ownsRow w1.heap.size 5 1 (.slice (some ⟨g3, 0, none⟩) p c3) p (u8s (L ++ Ed.sp)) ∧ Only (fun g => w1.heap.size ≤ g) w1 w3) := ⟨hown3, H2.out.2.trans ho3⟩
       have hpc : (p : Int) ≤ (c3 : Int) := by have := own_le hown3; omega
       have hnc : (n : Int) ≤ (c3 : Int) := by omega
       have hcm3 := own_cap hown3
       have HC3 : Hid (c3 ≤ maxLen ∧ n ≤ c3) := ⟨hcm3, by omega⟩
       have ncn : ¬ c3 = n := by have := HPQ.out.2; omega
       clear hown3 ho3 hcm3 r0 r1 r2 lR
       obtain ⟨-, -, r0, r1, r2, lR⟩ := HS.out w3 H3.out.2))
  have HV3 : Hid (Vw w3 (some ⟨g3, 0, none⟩) (u8s L) ∧ Vw w3 (some ⟨g3, n, none⟩) (u8s Ed.sp)) := by
    have h := own_vw H3.out.1
    have h1 := vw_headY h n
    have h2 := vw_cutY h n 5
    rw [HN.out.1, Ed.sp_take] at h1
    rw [Ed.sp_drop L n HN.out.1, Option.map_some, Addr.add_mid, Nat.zero_add] at h2
    exact ⟨h1, h2⟩
  have H4b : Hid (Vw w4 (some ⟨g3, 0, none⟩) (u8s L) ∧ Vw w4 (some ⟨g3, n, none⟩) (u8s Ed.sp)) := ⟨HV3.out.1.keep H4.out.2.1, HV3.out.2.keep H4.out.2.1⟩
  refine Calls.mono (HK.out _ _ _ _ _ H4b.out.1 HC3.out.2 HC3.out.1 H4.out.1) ?_
  rintro e w5 ⟨a5, c5, rfl, hV5, ho5⟩
  have H5 : Hid (Vw w5 a5 (u8s X) ∧ Vw w5 a4 (u8s M) ∧ Vw w5 (some ⟨g3, 0, none⟩) (u8s L) ∧ Vw w5 (some ⟨g3, n, none⟩) (u8s Ed.sp) ∧ Only (fun g => w1.heap.size ≤ g) w1 w5) := ⟨hV5, H4.out.1.keep ho5, H4b.out.1.keep ho5, H4b.out.2.keep ho5, H4.out.2.2.trans (ho5.mono (fun _ h => h.elim))⟩
  clear hV5 ho5 r0 r1 r2 lR
  obtain ⟨-, -, r0, r1, r2, lR⟩ := HS.out w5 H5.out.2.2.2.2
  go_wp2_with fail
  refine Calls.mono (HR.out _) ?_
  rintro e w6 ⟨rfl, ho6⟩
  have H6 : Hid (Vw w6 a5 (u8s X) ∧ Only (fun g => w1.heap.size ≤ g) w1 w6) := ⟨H5.out.1.keep ho6, H5.out.2.2.2.2.trans (ho6.mono (fun _ h => h.elim))⟩
  have s1 : (convert 22 9 (.slice (some ⟨g3, 0, none⟩) n c3)).run Try.prog w6 = .ok (.string (stY L)) w6 := str_any L n c3 _ w6 HN.out.1 (H5.out.2.2.1.keep ho6)
  have s2 : (convert 22 9 (.slice (some ⟨g3, n, none⟩) 5 (c3 - n))).run Try.prog w6 = .ok (.string ⟨#[115, 112, 97, 114, 101]⟩) w6 := (str_any Ed.sp 5 (c3 - n) _ w6 rfl (H5.out.2.2.2.1.keep ho6)).trans (by rw [sp_st]; rfl)
  have s3 : (convert 22 9 (.slice a4 m c4)).run Try.prog w6 = .ok (.string (stY M)) w6 := str_any M m c4 _ w6 HN.out.2.1 (H5.out.2.1.keep ho6)
  clear ho6 r0 r1 r2 lR
  obtain ⟨HO6, -, r0, r1, r2, lR⟩ := HS.out w6 H6.out.2
  obtain ⟨s4, s5⟩ := HB.out w6 HO6
  have HO7 : Hid (Only (fun _ => False) w w6) := HO6
  clear HO6
  go_wp2_with fail
  clear s1 s2 s3 s4 s5 q1 p1 hq2 hp2 hpn i0 i1 hpd d1 d2 hpc hnc ncn
  by_cases k0 : k = 0
  · have t1 : ((k : Int) == 0) = true := by rw [beq_iff_eq]; omega
    have t3 : ((k : Int) != 0) = false := by rw [bne, t1]; rfl
    have t4 : (k == 0) = true := by rw [beq_iff_eq]; exact k0
    have t5 : (k != 0) = false := by rw [bne, t4]; rfl
    have t6 : decide ((k : Int) = 0) = true := decide_eq_true (by omega)
    have t7 : decide (k = 0) = true := decide_eq_true k0
    obtain ⟨a, d, ha, hd, had, hl⟩ := Ed.code_zero (HX.out.2.2.trans k0)
    have HRS : Hid (∀ W, Only (fun _ => False) w W → Calls Try.prog 13 #[.slice aB n c, .agg #[.int .i64 A, .int .i64 D, .slice aI m cI]] W fun e w' => ∃ a' c', e = .returned (.slice a' N c') ∧ w'.ownsRow W.heap.size 5 1 (.slice a' N c') N (u8s X) ∧ Only (fun _ => False) W w') := fun W ho => by
      obtain ⟨q0, q2, q3, q4⟩ := HN.out
      have e1 : X = Ed.spl L a d M := by
        rw [HX.out.2.1]
        unfold Ed.any
        rw [← q0, ← q2, HX.out.2.2, if_pos k0, ha, hd]
        rfl
      have e2 : n - d + m = N := by rw [HX.out.1, e1, Ed.spl_len M (by omega), ← q0, ← q2]
      have h := refSplice_any L M n c m cI a d N aB aI W q0 q2 (q3.keep ho) (q4.keep ho) had e2 (by omega) (by omega)
      rw [e1, ha, hd]
      exact h
    have HSS : Hid (∀ W, Only (fun _ => False) w6 W → W.cell? ⟨R, 0, none⟩ = some (.int .i64 A) ∧ W.cell? ⟨R, 1, none⟩ = some (.int .i64 D) ∧ W.cell? ⟨R, 2, none⟩ = some (.slice aI m cI) ∧ R < W.heap.size ∧ (convert 22 9 (.slice a5 N c5)).run Try.prog W = .ok (.string (stY X)) W) := fun W ho => by
      obtain ⟨-, -, g0, g1, g2, g3⟩ := HS.out W (H6.out.2.trans (ho.mono (fun _ h => h.elim)))
      exact ⟨g0, g1, g2, g3, str_any X N c5 a5 W HX.out.1 (H6.out.1.keep ho)⟩
    clear ha hd had hl k0
    refine wp_region_held_drew (S := fun W => W.cell? ⟨R, 0, none⟩ = some (.int .i64 A) ∧ W.cell? ⟨R, 1, none⟩ = some (.int .i64 D) ∧ W.cell? ⟨R, 2, none⟩ = some (.slice aI m cI) ∧ R < W.heap.size ∧ (convert 22 9 (.slice a5 N c5)).run Try.prog W = .ok (.string (stY X)) W) (by kernel_rfl) (HSS.out _ (Only.refl _ _).drew) (fun hHeld => ?_)
    refine wpAnyH_take (i := 0) (oi := { dst := some 80, op := _, type := _, pos := _, after := _, guard := _ }) (v := .int .i64 (k : Int)) rfl (by kernel_rfl) (by kernel_rfl) (by kernel_rfl) (fun _ _ _ h => h) (Or.inl ⟨by rfl, fun w hSw => by obtain ⟨y0, y1, y2, y3, y4⟩ := hSw; first | (go_simp; done) | go_simp⟩) (by assumption) ?_
    (try simp only [Act.put, List.setIfInBounds_toArray, List.set_cons_zero, List.set_cons_succ])
    refine wpAnyH_take (i := 1) (oi := { dst := some 81, op := _, type := _, pos := _, after := _, guard := _ }) (v := .bool false) rfl (by kernel_rfl) (by kernel_rfl) (by kernel_rfl) (fun _ _ _ h => h) (Or.inl ⟨by rfl, fun w hSw => by obtain ⟨y0, y1, y2, y3, y4⟩ := hSw; first | (go_simp; done) | go_simp⟩) (by assumption) ?_
    (try simp only [Act.put, List.setIfInBounds_toArray, List.set_cons_zero, List.set_cons_succ])
    refine wpAnyH_take (i := 2) (oi := { dst := some 82, op := _, type := _, pos := _, after := _, guard := _ }) (v := .bool false) rfl (by kernel_rfl) (by kernel_rfl) (by kernel_rfl) (fun _ _ _ h => h) (Or.inl ⟨by rfl, fun w hSw => by obtain ⟨y0, y1, y2, y3, y4⟩ := hSw; first | (go_simp; done) | go_simp⟩) (by assumption) ?_
    (try simp only [Act.put, List.setIfInBounds_toArray, List.set_cons_zero, List.set_cons_succ])
    refine wpAnyH_take (i := 3) (oi := { dst := some 83, op := _, type := _, pos := _, after := _, guard := _ }) (v := undef) rfl (by kernel_rfl) (by kernel_rfl) (by kernel_rfl) (fun _ _ _ h => h) (Or.inr ⟨by rfl, rfl⟩) (by assumption) ?_
    (try simp only [Act.put, List.setIfInBounds_toArray, List.set_cons_zero, List.set_cons_succ])
    refine wpAnyH_take (i := 4) (oi := { dst := some 84, op := _, type := _, pos := _, after := _, guard := _ }) (v := undef) rfl (by kernel_rfl) (by kernel_rfl) (by kernel_rfl) (fun _ _ _ h => h) (Or.inr ⟨by rfl, rfl⟩) (by assumption) ?_
    (try simp only [Act.put, List.setIfInBounds_toArray, List.set_cons_zero, List.set_cons_succ])
    refine wpAnyH_take (i := 5) (oi := { dst := some 85, op := _, type := _, pos := _, after := _, guard := _ }) (v := undef) rfl (by kernel_rfl) (by kernel_rfl) (by kernel_rfl) (fun _ _ _ h => h) (Or.inr ⟨by rfl, rfl⟩) (by assumption) ?_
    (try simp only [Act.put, List.setIfInBounds_toArray, List.set_cons_zero, List.set_cons_succ])
    refine wpAnyH_take (i := 6) (oi := { dst := some 86, op := _, type := _, pos := _, after := _, guard := _ }) (v := .bool false) rfl (by kernel_rfl) (by kernel_rfl) (by kernel_rfl) (fun _ _ _ h => h) (Or.inl ⟨by rfl, fun w hSw => by obtain ⟨y0, y1, y2, y3, y4⟩ := hSw; first | (go_simp; done) | go_simp⟩) (by assumption) ?_
    (try simp only [Act.put, List.setIfInBounds_toArray, List.set_cons_zero, List.set_cons_succ])
    refine wpAnyH_take (i := 7) (oi := { dst := some 87, op := _, type := _, pos := _, after := _, guard := _ }) (v := .bool false) rfl (by kernel_rfl) (by kernel_rfl) (by kernel_rfl) (fun _ _ _ h => h) (Or.inl ⟨by rfl, fun w hSw => by obtain ⟨y0, y1, y2, y3, y4⟩ := hSw; first | (go_simp; done) | go_simp⟩) (by assumption) ?_
    (try simp only [Act.put, List.setIfInBounds_toArray, List.set_cons_zero, List.set_cons_succ])
    refine wpAnyH_take (i := 8) (oi := { dst := some 88, op := _, type := _, pos := _, after := _, guard := _ }) (v := .int .i64 (k : Int)) rfl (by kernel_rfl) (by kernel_rfl) (by kernel_rfl) (fun _ _ _ h => h) (Or.inl ⟨by rfl, fun w hSw => by obtain ⟨y0, y1, y2, y3, y4⟩ := hSw; first | (go_simp; done) | go_simp⟩) (by assumption) ?_
    (try simp only [Act.put, List.setIfInBounds_toArray, List.set_cons_zero, List.set_cons_succ])
    refine wpAnyH_take (i := 9) (oi := { dst := some 89, op := _, type := _, pos := _, after := _, guard := _ }) (v := .bool true) rfl (by kernel_rfl) (by kernel_rfl) (by kernel_rfl) (fun _ _ _ h => h) (Or.inl ⟨by rfl, fun w hSw => by obtain ⟨y0, y1, y2, y3, y4⟩ := hSw; first | (go_simp; done) | go_simp⟩) (by assumption) ?_
    (try simp only [Act.put, List.setIfInBounds_toArray, List.set_cons_zero, List.set_cons_succ])
    refine wpAnyH_take (i := 10) (oi := { dst := some 90, op := _, type := _, pos := _, after := _, guard := _ }) (v := .bool true) rfl (by kernel_rfl) (by kernel_rfl) (by kernel_rfl) (fun _ _ _ h => h) (Or.inl ⟨by rfl, fun w hSw => by obtain ⟨y0, y1, y2, y3, y4⟩ := hSw; first | (go_simp; done) | go_simp⟩) (by assumption) ?_
    (try simp only [Act.put, List.setIfInBounds_toArray, List.set_cons_zero, List.set_cons_succ])
    refine wpAnyH_take (i := 11) (oi := { dst := some 91, op := _, type := _, pos := _, after := _, guard := _ }) (v := .slice a5 N c5) rfl (by kernel_rfl) (by kernel_rfl) (by kernel_rfl) (fun _ _ _ h => h) (Or.inl ⟨by rfl, fun w hSw => by obtain ⟨y0, y1, y2, y3, y4⟩ := hSw; first | (go_simp; done) | go_simp⟩) (by assumption) ?_
    (try simp only [Act.put, List.setIfInBounds_toArray, List.set_cons_zero, List.set_cons_succ])
    refine wpAnyH_take (i := 12) (oi := { dst := some 92, op := _, type := _, pos := _, after := _, guard := _ }) (v := .string (stY X)) rfl (by kernel_rfl) (by kernel_rfl) (by kernel_rfl) (fun _ _ _ h => h) (Or.inl ⟨by rfl, fun w hSw => by obtain ⟨y0, y1, y2, y3, y4⟩ := hSw; first | (go_simp; done) | go_simp⟩) (by assumption) ?_
    (try simp only [Act.put, List.setIfInBounds_toArray, List.set_cons_zero, List.set_cons_succ])
    refine wpAnyH_take (i := 13) (oi := { dst := some 93, op := _, type := _, pos := _, after := _, guard := _ }) (v := .slice aB n c) rfl (by kernel_rfl) (by kernel_rfl) (by kernel_rfl) (fun _ _ _ h => h) (Or.inl ⟨by rfl, fun w hSw => by obtain ⟨y0, y1, y2, y3, y4⟩ := hSw; first | (go_simp; done) | go_simp⟩) (by assumption) ?_
    (try simp only [Act.put, List.setIfInBounds_toArray, List.set_cons_zero, List.set_cons_succ])
    refine wpAnyH_take (i := 14) (oi := { dst := some 94, op := _, type := _, pos := _, after := _, guard := _ }) (v := .agg #[.int .i64 A, .int .i64 D, .slice aI m cI]) rfl (by kernel_rfl) (by kernel_rfl) (by kernel_rfl) (fun _ _ _ h => h) (Or.inl ⟨by rfl, fun w hSw => by obtain ⟨y0, y1, y2, y3, y4⟩ := hSw; first | (go_simp; done) | go_simp⟩) (by assumption) ?_
    (try simp only [Act.put, List.setIfInBounds_toArray, List.set_cons_zero, List.set_cons_succ])
    refine wpAnyH_ready (rs := [15]) (by kernel_rfl) (by simp) ?_
    refine AllReadyH.cons rfl (fun K hK => ?_) AllReadyH.nil
    rw [if_pos (by rfl)]
    go_simp
    refine Calls.mono (HRS.out _ HO7.out.drew) ?_
    rintro e w8 ⟨a8, c8, rfl, hown8, ho8⟩
    have H8 : Hid (Only (fun _ => False) w6 w8) := Only.trans (Only.refl _ _).drew ho8
    have s8 : (convert 22 9 (.slice a8 N c8)).run Try.prog w8 = .ok (.string (stY X)) w8 := str_any X N c8 a8 w8 HX.out.1 (own_vw hown8)
    clear hown8 ho8
    refine hK.out _ _ (HSS.out _ H8.out) (fun hHeld => ?_)
    clear hK
    (try simp only [Act.put, List.setIfInBounds_toArray, List.set_cons_zero, List.set_cons_succ])
    refine wpAnyH_ready (rs := [16]) (by kernel_rfl) (by simp) ?_
    refine AllReadyH.cons rfl (fun K hK => ?_) AllReadyH.nil
    rw [if_pos (by rfl)]
    go_simp
    refine hK.out _ _ (HSS.out _ H8.out) (fun hHeld => ?_)
    clear hK
    (try simp only [Act.put, List.setIfInBounds_toArray, List.set_cons_zero, List.set_cons_succ])
    refine wpAnyH_take (i := 17) (oi := { dst := some 97, op := _, type := _, pos := _, after := _, guard := _ }) (v := .bool true) rfl (by kernel_rfl) (by kernel_rfl) (by kernel_rfl) (fun _ _ _ h => h) (Or.inl ⟨by rfl, fun w hSw => by obtain ⟨y0, y1, y2, y3, y4⟩ := hSw; first | (go_simp; done) | go_simp⟩) (by assumption) ?_
    (try simp only [Act.put, List.setIfInBounds_toArray, List.set_cons_zero, List.set_cons_succ])
    refine wpAnyH_take (i := 18) (oi := { dst := some 98, op := _, type := _, pos := _, after := _, guard := _ }) (v := .bool true) rfl (by kernel_rfl) (by kernel_rfl) (by kernel_rfl) (fun _ _ _ h => h) (Or.inl ⟨by rfl, fun w hSw => by obtain ⟨y0, y1, y2, y3, y4⟩ := hSw; first | (go_simp; done) | go_simp⟩) (by assumption) ?_
    (try simp only [Act.put, List.setIfInBounds_toArray, List.set_cons_zero, List.set_cons_succ])
    refine wpAnyH_take (i := 19) (oi := { dst := some 99, op := _, type := _, pos := _, after := _, guard := _ }) (v := .bool true) rfl (by kernel_rfl) (by kernel_rfl) (by kernel_rfl) (fun _ _ _ h => h) (Or.inl ⟨by rfl, fun w hSw => by obtain ⟨y0, y1, y2, y3, y4⟩ := hSw; first | (go_simp; done) | go_simp⟩) (by assumption) ?_
    (try simp only [Act.put, List.setIfInBounds_toArray, List.set_cons_zero, List.set_cons_succ])
    refine wpAnyH_take (i := 20) (oi := { dst := some 4, op := _, type := _, pos := _, after := _, guard := _ }) (v := .bool true) rfl (by kernel_rfl) (by kernel_rfl) (by kernel_rfl) (fun _ _ _ h => h) (Or.inl ⟨by rfl, fun w hSw => by obtain ⟨y0, y1, y2, y3, y4⟩ := hSw; first | (go_simp; done) | go_simp⟩) (by assumption) ?_
    (try simp only [Act.put, List.setIfInBounds_toArray, List.set_cons_zero, List.set_cons_succ])
    refine wpAnyH_done (by kernel_rfl) ?_ _
    clear hHeld
    go_wp2_with fail
    go_ret
    exact ⟨rfl, HO7.out.trans H8.out⟩
  · have t1 : ((k : Int) == 0) = false := by rw [beq_eq_false_iff_ne]; omega
    have t3 : ((k : Int) != 0) = true := by rw [bne, t1]; rfl
    have t4 : (k == 0) = false := by rw [beq_eq_false_iff_ne]; exact k0
    have t5 : (k != 0) = true := by rw [bne, t4]; rfl
    have t6 : decide ((k : Int) = 0) = false := decide_eq_false (by omega)
    have t7 : decide (k = 0) = false := decide_eq_false k0
    have eN : N = 0 := by
      obtain ⟨q0, q2, q3, q4⟩ := HN.out
      rw [HX.out.1, HX.out.2.1]
      unfold Ed.any
      rw [← q0, ← q2, HX.out.2.2, if_neg k0]
      rfl
    have t2 : ((N : Int) == 0) = true := by rw [beq_iff_eq]; omega
    clear eN k0
    go_quiet (fail)
    go_wp2_with fail
    go_ret
    exact ⟨rfl, HO7.out.drewN _⟩
set_option maxRecDepth 100000 in
set_option maxHeartbeats 4000000 in
theorem walk0 (n m c cI : Nat) (A D : Int) (aB aI : Option Addr) (w : World) (h : 6000 < n ∨ 6000 < m) :
    Calls Try.prog 4 #[.slice aB n c, .agg #[.int .i64 A, .int .i64 D, .slice aI m cI]] w fun e w' => e = .returned (.bool true) ∧ Only (fun _ => False) w w' := by
  by_cases c1 : (6000 : Int) < (n : Int)
  · skip
    go_enter Try.func4, Try.ntmps4
    go_upto_region 1 with fail
    obtain ⟨R, w0, hw0, hR, H0, -, -, -, lR⟩ := box3 w (.int .i64 A) (.int .i64 D) (.slice aI m cI) 24
    rw [hw0, hR]
    clear hw0 hR
    go_wp2_with fail
    refine Calls.mono (awake19_any _) ?_
    rintro e w1 ⟨rfl, ho1⟩
    have H1 : Hid (Only (fun _ => False) w w1) := H0.out.2.1.trans ho1
    obtain ⟨-, -, r2, lR2⟩ := blk_three (blk_keep ho1 H0.out.1)
    clear ho1
    go_wp2_with fail
    go_ret
    exact ⟨rfl, H1.out⟩
  · have d1 : decide ((6000 : Int) < (n : Int)) = false := decide_eq_false c1
    have d2 : (6000 : Int) < (m : Int) := by omega
    go_enter Try.func4, Try.ntmps4
    go_upto_region 1 with fail
    obtain ⟨R, w0, hw0, hR, H0, -, -, -, lR⟩ := box3 w (.int .i64 A) (.int .i64 D) (.slice aI m cI) 24
    rw [hw0, hR]
    clear hw0 hR
    go_wp2_with fail
    refine Calls.mono (awake19_any _) ?_
    rintro e w1 ⟨rfl, ho1⟩
    have H1 : Hid (Only (fun _ => False) w w1) := H0.out.2.1.trans ho1
    obtain ⟨-, -, r2, lR2⟩ := blk_three (blk_keep ho1 H0.out.1)
    clear ho1
    go_wp2_with fail
    go_ret
    exact ⟨rfl, H1.out⟩
theorem walk (L : List Nat) (aB : Option Addr) (c : Nat) (E : EdV) (w : World) (hVB : Vw w aB (u8s L)) (hc : L.length ≤ c) (hc2 : c ≤ maxLen) (hnB : aB = none → L.length = 0 ∧ c = 0) (hs : L.length ≤ 140737488351232) (hE : E.Ok w) :
    Calls Try.prog 4 #[.slice aB L.length c, E.val] w fun e w' => e = .returned (.bool true) ∧ Only (fun _ => False) w w' := by
  by_cases h : 6000 < L.length ∨ 6000 < E.M.length
  · exact walk0 _ _ c E.c E.A E.D aB E.a w h
  · exact walk1 L E.M _ _ c E.c E.A E.D aB E.a w rfl rfl hVB hE.vM (by omega) (by omega) hE.rA hE.rD
end editSplices
end Go.Proofs.Ytmhnghkodneodaa
