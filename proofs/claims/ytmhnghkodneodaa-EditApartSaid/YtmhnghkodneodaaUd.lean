/-
  edit.Splice.
-/
import Derived.Test.YtmhnghkodneodaaUc
namespace Go.Proofs.Ytmhnghkodneodaa
open Go.RowKit Go.Maps
set_option linter.unusedVariables false
set_option linter.unusedSimpArgs false
set_option maxRecDepth 100000 in
set_option maxHeartbeats 4000000 in
theorem splice_bad (n c m cI k : Nat) (aB aI : Option Addr) (A D : Int) (w : World) (hA : -9223372036854775808 ≤ A ∧ A ≤ 9223372036854775807) (hD : -9223372036854775808 ≤ D ∧ D ≤ 9223372036854775807) (hn : n ≤ 2147483647) (hm : m ≤ 2147483647) (hk : Ed.code n A D m = k) (h0 : k ≠ 0) :
    Calls Try.prog 12 #[.slice aB n c, .agg #[.int .i64 A, .int .i64 D, .slice aI m cI]] w fun e w' => e = .returned (.tuple #[.slice none 0 0, .int .i64 (k : Int)]) ∧ Only (fun _ => False) w w' := by
  have HC : Hid (∀ W, Calls Try.prog 10 #[.int .i64 (n : Int), .agg #[.int .i64 A, .int .i64 D, .slice aI m cI]] W fun e w' => e = .returned (.int .i64 (k : Int)) ∧ Only (fun _ => False) W w') := fun W => by
    have h := check_any n m cI A D aI W hA hD hn hm
    rw [hk] at h
    exact h
  have t1 : ((k : Int) == 0) = false := by rw [beq_eq_false_iff_ne]; omega
  clear hk
  go_enter Try.func12, Try.ntmps12
  go_upto_region 1 with fail
  obtain ⟨R, w0, hw0, hR, H0, r0, r1, r2, lR⟩ := box3 w (.int .i64 A) (.int .i64 D) (.slice aI m cI) 24
  rw [hw0, hR]
  clear hw0 hR
  go_wp2_with fail
  refine Calls.mono (HC.out _) ?_
  rintro e w2 ⟨rfl, ho2⟩
  have H2 : Hid (Only (fun _ => False) w w2) := H0.out.2.1.trans ho2
  clear ho2
  go_wp2_with fail
  go_ret2
  exact ⟨rfl, H2.out⟩
/-- what stands behind a boundary, as it is cut. -/
theorem vw_tailY {w : World} {a : Option Addr} {L : List Nat} {n c s : Nat} (h : Vw w a (u8s L)) (hn : n = L.length) (hc : n ≤ c) (hs : s ≤ n) : Vw w (if c = s then a else Option.map (fun x => x.add s) a) (u8s (L.drop s)) := by
  split
  · have e : L.drop s = [] := List.drop_eq_nil_of_le (by omega)
    rw [e]
    exact Vw.nil _ _
  · have h2 := vw_cutY h s (n - s)
    have e : (L.drop s).take (n - s) = L.drop s := List.take_of_length_le (by rw [List.length_drop]; omega)
    rw [e] at h2
    exact h2
/-- the three parts of a text that is changed. -/
theorem parts_any (L M : List Nat) (n c m cI a s d N : Nat) (aB aI : Option Addr) (w w2 : World) (hn : n = L.length) (hm : m = M.length) (hVB : Vw w aB (u8s L)) (hVI : Vw w aI (u8s M)) (hc : n ≤ c) (hs : s = a + d) (hs2 : s ≤ n) (hN : n - d + m = N) (h4 : N ≤ 1000000) (ho : Only (fun _ => False) w w2) :
    Calls Try.prog 16 #[.slice (some ⟨w2.heap.size, 0, none⟩) 3 3] (w2.alloc (.cells #[.slice aB a c, .slice aI m cI, .slice (if c = s then aB else Option.map (fun x => x.add s) aB) (n - s) (c - s)] 22)).drew fun e w' => ∃ a' c', e = .returned (.slice a' N c') ∧ w'.ownsRow w.heap.size 5 1 (.slice a' N c') N (u8s (Ed.spl L a d M)) ∧ Only (fun _ => False) w w' ∧ Only (fun _ => False) w2 w' := by
  have e1 : (L.take a).length = a := by rw [List.length_take]; omega
  have e3 : (L.drop s).length = n - s := by rw [List.length_drop]; omega
  have eF : [L.take a, M, L.drop s].flatten = Ed.spl L a d M := by
    unfold Ed.spl
    rw [hs]
    simp
  have eN : N = (Ed.spl L a d M).length := by rw [Ed.spl_len M (by omega), ← hn, ← hm]; exact hN.symm
  have hW : Only (fun _ => False) w (w2.alloc (.cells #[.slice aB a c, .slice aI m cI, .slice (if c = s then aB else Option.map (fun x => x.add s) aB) (n - s) (c - s)] 22)).drew := (ho.alloc _).drew
  have hb : (w2.alloc (.cells #[.slice aB a c, .slice aI m cI, .slice (if c = s then aB else Option.map (fun x => x.add s) aB) (n - s) (c - s)] 22)).drew.heap[w2.heap.size]? = some (.cells #[.slice aB a c, .slice aI m cI, .slice (if c = s then aB else Option.map (fun x => x.add s) aB) (n - s) (c - s)] 22 (0, 0)) := heap_alloc_new w2 _
  obtain ⟨q0, q1, q2, q3⟩ := blk_three hb
  refine (concat_any [L.take a, M, L.drop s] 3 N w2.heap.size 3 _ rfl (by rw [eF]; exact eN) (fun i X hX => ?_) q3 h4 (by decide)).mono ?_
  · match i, hX with
    | 0, hX =>
      injection hX with hX
      subst hX
      rw [e1]
      exact ⟨_, _, q0, (vw_headY hVB a).keep hW⟩
    | 1, hX =>
      injection hX with hX
      subst hX
      rw [← hm]
      exact ⟨_, _, q1, hVI.keep hW⟩
    | 2, hX =>
      injection hX with hX
      subst hX
      rw [e3]
      exact ⟨_, _, q2, (vw_tailY hVB hn hc hs2).keep hW⟩
    | _ + 3, hX => cases hX
  · rintro e w' ⟨a', c', he, hown, ho'⟩
    rw [eF] at hown
    exact ⟨a', c', he, own_base2 hown hW.size, hW.trans ho', (((Only.refl _ _).alloc _).drew).trans ho'⟩
set_option maxRecDepth 100000 in
set_option maxHeartbeats 4000000 in
theorem splice_ok (L M : List Nat) (n c m cI a d N : Nat) (aB aI : Option Addr) (w : World) (hn : n = L.length) (hm : m = M.length) (hVB : Vw w aB (u8s L)) (hVI : Vw w aI (u8s M)) (hc : n ≤ c) (hc2 : c ≤ maxLen) (ha : a + d ≤ n) (hN : n - d + m = N) (h4 : N ≤ 4096) (hn2 : n ≤ 1000000) :
    Calls Try.prog 12 #[.slice aB n c, .agg #[.int .i64 (a : Int), .int .i64 (d : Int), .slice aI m cI]] w fun e w' => ∃ a' c', e = .returned (.tuple #[.slice a' N c', .int .i64 0]) ∧ w'.ownsRow w.heap.size 5 1 (.slice a' N c') N (u8s (Ed.spl L a d M)) ∧ Only (fun _ => False) w w' := by
  have t1 : ((0 : Int) == 0) = true := rfl
  unfold maxLen at hc2
  have HN : Hid (n = L.length ∧ m = M.length ∧ Vw w aB (u8s L) ∧ Vw w aI (u8s M) ∧ n - d + m = N) := ⟨hn, hm, hVB, hVI, hN⟩
  have hm2 : m ≤ N := by omega
  clear hn hm hVB hVI hN
  have HC : Hid (∀ W, Calls Try.prog 10 #[.int .i64 (n : Int), .agg #[.int .i64 (a : Int), .int .i64 (d : Int), .slice aI m cI]] W fun e w' => e = .returned (.int .i64 0) ∧ Only (fun _ => False) W w') := fun W => by
    have h := check_any n m cI a d aI W (by omega) (by omega) (by omega) (by omega)
    rw [Ed.code_nat ha (by rw [HN.out.2.2.2.2]; omega)] at h
    exact h
  obtain ⟨s, hs⟩ : ∃ s, s = a + d := ⟨_, rfl⟩
  have m1 : IntKind.i64.wrap ((a : Int) + (d : Int)) = (s : Int) := by rw [IntKind.wrap_i64]; omega
  have hs2 : s ≤ n := by omega
  have ha2 : a ≤ n := by omega
  have HSA : Hid (s = a + d) := hs
  clear hs
  go_enter Try.func12, Try.ntmps12
  go_upto_region 1 with fail
  obtain ⟨R, w0, hw0, hR, H0, r0, r1, r2, lR⟩ := box3 w (.int .i64 (a : Int)) (.int .i64 (d : Int)) (.slice aI m cI) 24
  rw [hw0, hR]
  clear hw0 hR
  go_wp2_with fail
  refine Calls.mono (HC.out _) ?_
  rintro e w2 ⟨rfl, ho2⟩
  have H2 : Hid (Only (fun _ => False) w w2 ∧ w2.heap[R]? = some (.cells #[.int .i64 (a : Int), .int .i64 (d : Int), .slice aI m cI] 24 (0, 0))) := ⟨H0.out.2.1.trans ho2, blk_keep ho2 H0.out.1⟩
  clear ho2 r0 r1 r2 lR
  have HS : Hid (∀ W, Only (fun _ => False) w2 W → W.cell? ⟨R, 0, none⟩ = some (.int .i64 (a : Int)) ∧ W.cell? ⟨R, 1, none⟩ = some (.int .i64 (d : Int)) ∧ W.cell? ⟨R, 2, none⟩ = some (.slice aI m cI) ∧ R < W.heap.size) := fun W ho => blk_three (blk_keep ho H2.out.2)
  obtain ⟨r0, r1, r2, lR⟩ := HS.out w2 (Only.refl _ _)
  go_wp2_with fail
  have i0 : (0 : Int) ≤ (a : Int) := by omega
  have i1 : (a : Int) ≤ (c : Int) := by omega
  have i2 : (0 : Int) ≤ (s : Int) := by omega
  have i3 : (s : Int) ≤ (n : Int) := by omega
  have i4 : (n : Int) ≤ (c : Int) := by omega
  have HCC0 := parts_any L M n c m cI a s d N aB aI w w2 HN.out.1 HN.out.2.1 HN.out.2.2.1 HN.out.2.2.2.1 hc HSA.out hs2 HN.out.2.2.2.2 (by omega) H2.out.1
  obtain ⟨aT, haT⟩ : ∃ x, (if c = s then aB else Option.map (fun x => x.add s) aB) = x := ⟨_, rfl⟩
  rw [haT] at HCC0
  have HCC : Hid _ := HCC0
  clear HCC0
  go_region_held3 (fun W' => W'.cell? ⟨R, 0, none⟩ = some (.int .i64 (a : Int)) ∧ W'.cell? ⟨R, 1, none⟩ = some (.int .i64 (d : Int)) ∧ W'.cell? ⟨R, 2, none⟩ = some (.slice aI m cI) ∧ R < W'.heap.size) ((first | exact HS.out _ (Only.refl _ _).drew | exact HS.out _ ((Only.refl _ _).alloc _).drew | exact HS.out _ ((Only.refl _ _).drew.alloc _) | exact HS.out _ H5.out.2.2)) ((first | (go_at_call 16; refine Calls.mono HCC.out ?_; rintro e w5 ⟨a5, c5, rfl, hown5, ho5, ho6⟩; have H5 : Hid (w5.ownsRow w.heap.size 5 1 (.slice a5 N c5) N (u8s (Ed.spl L a d M)) ∧ Only (fun _ => False) w w5 ∧ Only (fun _ => False) w2 w5) := ⟨hown5, ho5, ho6⟩; clear hown5 ho5 ho6)))
  go_wp2_with fail
  go_ret2
  exact ⟨_, _, rfl, H5.out.1, H5.out.2.1⟩
end Go.Proofs.Ytmhnghkodneodaa
