/-
  Bytes as strings; layer 19's Awake; EditChecks' walk.
-/
import Derived.Test.YtmhnghkodneodaaUf
import Derived.Laws.BytesArg
import Derived.Lib.SlBytesConst
namespace Go.Proofs.Ytmhnghkodneodaa
open Go.RowKit Go.Maps
set_option linter.unusedVariables false
set_option linter.unusedSimpArgs false
/-- bytes as a string. -/
def stY (L : List Nat) : ByteArray := strOfNums (L.map fun (x : Nat) => (x : Int))
theorem stY_app (L M : List Nat) : (stY L ++ stY M) = stY (L ++ M) := by
  unfold stY strOfNums
  apply ByteArray.ext
  simp [ByteArray.data_append]
theorem str_any (L : List Nat) (n c : Nat) (a : Option Addr) (w : World) (hn : n = L.length) (hV : Vw w a (u8s L)) : (convert 22 9 (.slice a n c)).run Try.prog w = .ok (.string (stY L)) w := by
  subst hn
  by_cases h0 : 0 < L.length
  · obtain ⟨b, off, rfl, hb, hc⟩ := hV.cells (by rw [u8s_len]; exact h0)
    refine run_convert_bytes_arg w 22 5 Try.underlying22 Try.underlying5 b off L.length c (L.map fun (x : Nat) => (x : Int)) (by simp) (fun i hi => ?_) 9 Try.underlying9
    rw [hc i _ (u8s_at (List.getElem?_eq_getElem hi))]
    simp [hi]
  · have hl : L = [] := List.eq_nil_of_length_eq_zero (by omega)
    subst hl
    cases a with
    | none => exact run_convert_bytes_nil w 22 5 Try.underlying22 Try.underlying5 _ c 9 Try.underlying9
    | some y =>
      rw [run_convert_bytes_string w 22 9 5 (some y) _ c Try.underlying22 Try.underlying5 Try.underlying9]
      exact run_bytesToString w y 0 c [] (by simp [loadCells, loadCellsFrom])
theorem kc0 (w : World) (C : Array Value) (n c : Nat) : (convert 22 22 (.slice (some ⟨w.heap.size, 0, none⟩) n c)).run Try.prog (w.alloc (.cells C 5)) = .ok (.slice (some ⟨w.heap.size, 0, none⟩) n c) (w.alloc (.cells C 5 (C.size, C.size + 1))) := Lib.run_convert_bytes_const w 22 5 C n c Try.underlying22 Try.underlying5
theorem kc1 (w : World) (o : Obj) (C : Array Value) (n c : Nat) : (convert 22 22 (.slice (some ⟨w.heap.size + 1, 0, none⟩) n c)).run Try.prog ((w.alloc o).alloc (.cells C 5)) = .ok (.slice (some ⟨w.heap.size + 1, 0, none⟩) n c) ((w.alloc o).alloc (.cells C 5 (C.size, C.size + 1))) := by
  have h := kc0 (w.alloc o) C n c
  rw [size_alloc1] at h
  exact h
theorem vw_blkF {w : World} {b : Nat} {xs : List Value} {t : TypeId} {fr : Nat × Nat} (h : w.heap[b]? = some (.cells xs.toArray t fr)) : Vw w (some ⟨b, 0, none⟩) xs := Or.inr ⟨b, 0, rfl, fun j u hj => by rw [Nat.zero_add, cell_of_row _ _ _ _ _ _ h]; simpa using hj⟩
theorem two_lits (w : World) (xs ys : List Value) (f g : Nat × Nat) : Vw ((w.alloc (.cells xs.toArray 5 f)).alloc (.cells ys.toArray 5 g)) (some ⟨w.heap.size, 0, none⟩) xs ∧ Vw ((w.alloc (.cells xs.toArray 5 f)).alloc (.cells ys.toArray 5 g)) (some ⟨w.heap.size + 1, 0, none⟩) ys := by
  refine ⟨(vw_blkF (heap_alloc_new w _)).keep ((Only.refl _ _).alloc _), ?_⟩
  have h := heap_alloc_new (w.alloc (.cells xs.toArray 5 f)) (.cells ys.toArray 5 g)
  rw [size_alloc1] at h
  exact vw_blkF h
/-- a change that came in: its numbers, its bytes and where they lie. -/
structure EdV where
  A : Int
  D : Int
  M : List Nat
  a : Option Addr
  c : Nat
def EdV.val (E : EdV) : Value := .agg #[.int .i64 E.A, .int .i64 E.D, .slice E.a E.M.length E.c]
structure EdV.Ok (E : EdV) (w : World) : Prop where
  rA : -9223372036854775808 ≤ E.A ∧ E.A ≤ 9223372036854775807
  rD : -9223372036854775808 ≤ E.D ∧ E.D ≤ 9223372036854775807
  vM : Vw w E.a (u8s E.M)
  bM : ∀ x ∈ E.M, x < 256
  cap : E.M.length ≤ E.c
  capm : E.c ≤ maxLen
  few : E.M.length ≤ 140737488351232
  nil : E.a = none → E.M.length = 0 ∧ E.c = 0
theorem st_axd : stY [97, 120, 100] = ⟨#[97, 120, 100]⟩ := by decide
theorem st_bc : stY [98, 99] = ⟨#[98, 99]⟩ := by decide
theorem spl_axd : Ed.spl [97, 98, 99, 100] 1 2 [120] = [97, 120, 100] := by decide
theorem gone_bc : Ed.gone [97, 98, 99, 100] 1 2 = [98, 99] := by decide
set_option maxRecDepth 100000 in
set_option maxHeartbeats 4000000 in
theorem awake19_any (w : World) : Calls Try.prog 9 #[] w fun e w' => e = .returned (.bool true) ∧ Only (fun _ => False) w w' := by
  have k0 := kc0
  have k1 := kc1
  have h1 := fun (w : World) (f g : Nat × Nat) => two_lits w (u8s [97, 98, 99, 100]) (u8s [120]) f g
  have HL : Hid _ := h1
  clear h1
  have HSP : Hid (∀ (aB aI : Option Addr) (W : World), Vw W aB (u8s [97, 98, 99, 100]) → Vw W aI (u8s [120]) → Calls Try.prog 12 #[.slice aB 4 4, .agg #[.int .i64 1, .int .i64 2, .slice aI 1 1]] W fun e w' => ∃ a' c', e = .returned (.tuple #[.slice a' 3 c', .int .i64 0]) ∧ w'.ownsRow W.heap.size 5 1 (.slice a' 3 c') 3 (u8s [97, 120, 100]) ∧ Only (fun _ => False) W w') := fun aB aI W h1 h2 => by
    have h := splice_ok [97, 98, 99, 100] [120] 4 4 1 1 1 2 3 aB aI W rfl rfl h1 h2 (by decide) (by decide) (by decide) (by decide) (by decide) (by decide)
    rw [spl_axd] at h
    exact h
  have HUN : Hid (∀ (b : Nat) (aI : Option Addr) (W : World), Vw W (some ⟨b, 0, none⟩) (u8s [97, 98, 99, 100]) → Calls Try.prog 15 #[.slice (some ⟨b, 0, none⟩) 4 4, .agg #[.int .i64 1, .int .i64 2, .slice aI 1 1]] W fun e w' => ∃ a' c', e = .returned (.tuple #[.agg #[.int .i64 1, .int .i64 1, .slice a' 2 c'], .int .i64 0]) ∧ w'.ownsRow W.heap.size 5 1 (.slice a' 2 c') 2 (u8s [98, 99]) ∧ Only (fun _ => False) W w') := fun b aI W h1 => by
    have h := undo_ok [97, 98, 99, 100] 4 4 1 1 1 2 (some ⟨b, 0, none⟩) aI W rfl h1 (by decide) (by decide) (fun h => by cases h) (by decide) (by decide) (by decide)
    rw [gone_bc] at h
    exact h
  go_enter Try.func9, Try.ntmps9
  go_wp2_with fail
  refine Calls.mono (HSP.out _ _ _ (HL.out w _ _).1 (HL.out w _ _).2) ?_
  rintro e w1 ⟨a1, c1, rfl, hown1, ho1⟩
  have H1 : Hid (Vw w1 a1 (u8s [97, 120, 100]) ∧ Only (fun _ => False) w w1) := ⟨own_vw hown1, (((Only.refl _ _).alloc _).alloc _).trans ho1⟩
  clear hown1 ho1
  go_wp2_with fail
  refine Calls.mono (HUN.out _ _ _ (HL.out w1 _ _).1) ?_
  rintro e w2 ⟨a2, c2, rfl, hown2, ho2⟩
  have ho3 : Only (fun _ => False) w1 w2 := (((Only.refl _ _).alloc _).alloc _).trans ho2
  have H2 : Hid (Vw w2 a1 (u8s [97, 120, 100]) ∧ Vw w2 a2 (u8s [98, 99]) ∧ Only (fun _ => False) w w2) := ⟨H1.out.1.keep ho3, own_vw hown2, H1.out.2.trans ho3⟩
  clear hown2 ho2 ho3
  have s1 : ∀ o, (convert 22 9 (.slice a1 3 c1)).run Try.prog (w2.alloc o) = .ok (.string ⟨#[97, 120, 100]⟩) (w2.alloc o) := fun o => by
    rw [← st_axd]
    exact str_any [97, 120, 100] 3 c1 a1 _ rfl (H2.out.1.keep ((Only.refl _ _).alloc _))
  have s2 : ∀ o, (convert 22 9 (.slice a2 2 c2)).run Try.prog (w2.alloc o) = .ok (.string ⟨#[98, 99]⟩) (w2.alloc o) := fun o => by
    rw [← st_bc]
    exact str_any [98, 99] 2 c2 a2 _ rfl (H2.out.2.1.keep ((Only.refl _ _).alloc _))
  clear k0 k1
  go_wp2_with fail
  go_ret
  exact ⟨rfl, H2.out.2.2.alloc _⟩
namespace editChecks
set_option maxRecDepth 100000 in
set_option maxHeartbeats 4000000 in
theorem walk1 (n m c : Nat) (A D : Int) (aI : Option Addr) (w : World) (hA : -9223372036854775808 ≤ A ∧ A ≤ 9223372036854775807) (hD : -9223372036854775808 ≤ D ∧ D ≤ 9223372036854775807) (hn : n ≤ 2147483647) (hm : m ≤ 1048576) :
    Calls Try.prog 3 #[.int .i64 (n : Int), .agg #[.int .i64 A, .int .i64 D, .slice aI m c]] w fun e w' => e = .returned (.bool true) ∧ Only (fun _ => False) w w' := by
  obtain ⟨k, hk⟩ : ∃ k, Ed.code n A D m = k := ⟨_, rfl⟩
  have HC : Hid (∀ W, Calls Try.prog 10 #[.int .i64 (n : Int), .agg #[.int .i64 A, .int .i64 D, .slice aI m c]] W fun e w' => e = .returned (.int .i64 (k : Int)) ∧ Only (fun _ => False) W w') := fun W => by
    have h := check_any n m c A D aI W hA hD hn (by omega)
    rw [hk] at h
    exact h
  have HR : Hid (∀ W, Calls Try.prog 11 #[.int .i64 (n : Int), .agg #[.int .i64 A, .int .i64 D, .slice aI m c]] W fun e w' => e = .returned (.int .i64 (k : Int)) ∧ Only (fun _ => False) W w') := fun W => by
    have h := refEdit_any n m c A D aI W hA hD hn (by omega)
    rw [hk] at h
    exact h
  clear hk
  have d1 : decide ((n : Int) < 0) = false := decide_eq_false (by omega)
  have d2 : decide ((2147483647 : Int) < (n : Int)) = false := decide_eq_false (by omega)
  have d3 : decide ((1048576 : Int) < (m : Int)) = false := decide_eq_false (by omega)
  go_enter Try.func3, Try.ntmps3
  go_upto_region 1 with fail
  obtain ⟨R, w0, hw0, hR, H0, -, -, -, lR⟩ := box3 w (.int .i64 A) (.int .i64 D) (.slice aI m c) 24
  rw [hw0, hR]
  clear hw0 hR
  go_wp2_with fail
  refine Calls.mono (awake19_any _) ?_
  rintro e w1 ⟨rfl, ho1⟩
  have HS : Hid (∀ W, Only (fun _ => False) w1 W → W.cell? ⟨R, 0, none⟩ = some (.int .i64 A) ∧ W.cell? ⟨R, 1, none⟩ = some (.int .i64 D) ∧ W.cell? ⟨R, 2, none⟩ = some (.slice aI m c) ∧ R < W.heap.size) := fun W ho => blk_three (blk_keep (ho1.trans ho) H0.out.1)
  have H1 : Hid (Only (fun _ => False) w w1) := H0.out.2.1.trans ho1
  clear ho1 lR
  obtain ⟨r0, r1, r2, lR⟩ := HS.out w1 (Only.refl _ _)
  go_wp2_with fail
  go_region_held3 (fun W' => (W'.cell? ⟨R, 0, none⟩ = some (.int .i64 A) ∧ W'.cell? ⟨R, 1, none⟩ = some (.int .i64 D) ∧ W'.cell? ⟨R, 2, none⟩ = some (.slice aI m c) ∧ R < W'.heap.size) ∧ Hid (Only (fun _ => False) w1 W')) ((first | exact ⟨HS.out _ (Only.refl _ _).drew, (Only.refl _ _).drew⟩ | exact ⟨HS.out _ H2.out, H2.out⟩ | exact ⟨HS.out _ H3.out, H3.out⟩)) ((first | (go_at_call 10; refine Calls.mono (HC.out _) ?_; rintro e w2 ⟨rfl, ho2⟩; have H2 : Hid (Only (fun _ => False) w1 w2) := Only.trans (Hid.out (And.right (by assumption))) ho2; clear ho2) | (go_at_call 11; refine Calls.mono (HR.out _) ?_; rintro e w3 ⟨rfl, ho3⟩; have H3 : Hid (Only (fun _ => False) w1 w3) := Only.trans (Hid.out (And.right (by assumption))) ho3; clear ho3)))
  go_wp2_with fail
  go_ret
  exact ⟨rfl, H1.out.trans H3.out⟩
set_option maxRecDepth 100000 in
set_option maxHeartbeats 4000000 in
theorem walk0 (z A D : Int) (m c : Nat) (aI : Option Addr) (w : World) (h : z < 0 ∨ 2147483647 < z ∨ 1048576 < m) :
    Calls Try.prog 3 #[.int .i64 z, .agg #[.int .i64 A, .int .i64 D, .slice aI m c]] w fun e w' => e = .returned (.bool true) ∧ Only (fun _ => False) w w' := by
  have HT : ∀ w0 w1 R, Hid (w0.heap[R]? = some (.cells #[.int .i64 A, .int .i64 D, .slice aI m c] 24 (0, 0)) ∧ Only (fun _ => False) w w0 ∧ R = w.heap.size) → Only (fun _ => False) w0 w1 → Hid (Only (fun _ => False) w w1) ∧ w1.cell? ⟨R, 2, none⟩ = some (.slice aI m c) ∧ R < w1.heap.size := fun w0 w1 R H0 ho => ⟨H0.out.2.1.trans ho, (blk_three (blk_keep ho H0.out.1)).2.2⟩
  have HT2 : Hid _ := HT
  clear HT
  by_cases c1 : z < 0
  · go_enter Try.func3, Try.ntmps3
    go_upto_region 1 with fail
    obtain ⟨R, w0, hw0, hR, H0, -, -, -, lR⟩ := box3 w (.int .i64 A) (.int .i64 D) (.slice aI m c) 24
    rw [hw0, hR]
    clear hw0 hR
    go_wp2_with fail
    refine Calls.mono (awake19_any _) ?_
    rintro e w1 ⟨rfl, ho1⟩
    obtain ⟨H1, r2, lR2⟩ := HT2.out w0 w1 R H0 ho1
    clear ho1
    go_wp2_with fail
    go_ret
    exact ⟨rfl, H1.out⟩
  · have d1 : decide (z < 0) = false := decide_eq_false c1
    by_cases c2 : 2147483647 < z
    · go_enter Try.func3, Try.ntmps3
      go_upto_region 1 with fail
      obtain ⟨R, w0, hw0, hR, H0, -, -, -, lR⟩ := box3 w (.int .i64 A) (.int .i64 D) (.slice aI m c) 24
      rw [hw0, hR]
      clear hw0 hR
      go_wp2_with fail
      refine Calls.mono (awake19_any _) ?_
      rintro e w1 ⟨rfl, ho1⟩
      obtain ⟨H1, r2, lR2⟩ := HT2.out w0 w1 R H0 ho1
      clear ho1
      go_wp2_with fail
      go_ret
      exact ⟨rfl, H1.out⟩
    · have d2 : decide (2147483647 < z) = false := decide_eq_false c2
      have c3 : (1048576 : Int) < (m : Int) := by omega
      go_enter Try.func3, Try.ntmps3
      go_upto_region 1 with fail
      obtain ⟨R, w0, hw0, hR, H0, -, -, -, lR⟩ := box3 w (.int .i64 A) (.int .i64 D) (.slice aI m c) 24
      rw [hw0, hR]
      clear hw0 hR
      go_wp2_with fail
      refine Calls.mono (awake19_any _) ?_
      rintro e w1 ⟨rfl, ho1⟩
      obtain ⟨H1, r2, lR2⟩ := HT2.out w0 w1 R H0 ho1
      clear ho1
      go_wp2_with fail
      go_ret
      exact ⟨rfl, H1.out⟩
/-- a change, as it came in. -/
theorem walk (z : Int) (E : EdV) (w : World) (hz : -9223372036854775808 ≤ z ∧ z ≤ 9223372036854775807) (hE : E.Ok w) :
    Calls Try.prog 3 #[.int .i64 z, E.val] w fun e w' => e = .returned (.bool true) ∧ Only (fun _ => False) w w' := by
  by_cases h : z < 0 ∨ 2147483647 < z ∨ 1048576 < E.M.length
  · exact walk0 z E.A E.D E.M.length E.c E.a w h
  · obtain ⟨n, rfl⟩ : ∃ n : Nat, z = (n : Int) := ⟨z.toNat, by omega⟩
    exact walk1 n E.M.length E.c E.A E.D E.a w hE.rA hE.rD (by omega) (by omega)
end editChecks
end Go.Proofs.Ytmhnghkodneodaa
