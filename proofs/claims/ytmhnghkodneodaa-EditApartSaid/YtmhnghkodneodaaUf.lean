/-
  The document's Splice; the laws' fit.
-/
import Derived.Test.YtmhnghkodneodaaUe
namespace Go.Proofs.Ytmhnghkodneodaa
open Go.RowKit Go.Maps
set_option linter.unusedVariables false
set_option linter.unusedSimpArgs false
theorem tail_next {L : List Nat} {s k x : Nat} (h : L[s + k]? = some x) : (L.drop s).take (k + 1) = (L.drop s).take k ++ [x] := take_snoc (by rw [List.getElem?_drop]; exact h)
theorem grow_tail (X : List Nat) {L : List Nat} {s k j x : Nat} (h : L[j]? = some x) (e : j = s + k) : X ++ (L.drop s).take (k + 1) = X ++ (L.drop s).take k ++ [x] := by
  subst e
  rw [tail_next h, List.append_assoc]
theorem spl_full (M : List Nat) {L : List Nat} {i d s k : Nat} (hs : s = i + d) (hk : L.length ≤ s + k) : L.take i ++ M ++ (L.drop s).take k = Ed.spl L i d M := by
  have e : (L.drop s).take k = L.drop s := List.take_of_length_le (by rw [List.length_drop]; omega)
  rw [e, hs, List.append_assoc]
  rfl
set_option maxRecDepth 100000 in
set_option maxHeartbeats 4000000 in
theorem refSplice_any (L M : List Nat) (n c m cI a d N : Nat) (aB aI : Option Addr) (w : World) (hn : n = L.length) (hm : m = M.length) (hVB : Vw w aB (u8s L)) (hVI : Vw w aI (u8s M)) (ha : a + d ≤ n) (hN : n - d + m = N) (hn2 : n ≤ 100000) (hm2 : m ≤ 100000) :
    Calls Try.prog 13 #[.slice aB n c, .agg #[.int .i64 (a : Int), .int .i64 (d : Int), .slice aI m cI]] w fun e w' => ∃ a' c', e = .returned (.slice a' N c') ∧ w'.ownsRow w.heap.size 5 1 (.slice a' N c') N (u8s (Ed.spl L a d M)) ∧ Only (fun _ => False) w w' := by
  obtain ⟨s, hs⟩ : ∃ s, s = a + d := ⟨_, rfl⟩
  have m1 : IntKind.i64.wrap ((a : Int) + (d : Int)) = (s : Int) := by rw [IntKind.wrap_i64]; omega
  have hs2 : s ≤ n := by omega
  have ha2 : a ≤ n := by omega
  have HN : Hid (n = L.length ∧ m = M.length ∧ Vw w aB (u8s L) ∧ Vw w aI (u8s M) ∧ n - d + m = N ∧ s = a + d) := ⟨hn, hm, hVB, hVI, hN, hs⟩
  have HX : Hid (∀ i, i < n → ∃ x, L[i]? = some x) := fun i hi => ⟨_, List.getElem?_eq_getElem (by rw [← hn]; exact hi)⟩
  clear hn hm hVB hVI hN hs
  go_enter Try.func13, Try.ntmps13
  go_upto_region 1 with fail
  obtain ⟨R, w0, hw0, hR, H0, r0, r1, r2, lR⟩ := box3 w (.int .i64 (a : Int)) (.int .i64 (d : Int)) (.slice aI m cI) 24
  rw [hw0, hR]
  clear hw0 hR
  have HS : Hid (∀ W, Only (fun g => w0.heap.size ≤ g) w0 W → Only (fun _ => False) w W ∧ W.cell? ⟨R, 0, none⟩ = some (.int .i64 (a : Int)) ∧ W.cell? ⟨R, 1, none⟩ = some (.int .i64 (d : Int)) ∧ W.cell? ⟨R, 2, none⟩ = some (.slice aI m cI) ∧ R < W.heap.size) := fun W ho => by
    have h2 : Only (fun _ => False) w0 W := ho.old (fun b hb => Or.inl hb)
    exact ⟨H0.out.2.1.trans h2, blk_three (blk_keep h2 H0.out.1)⟩
  have H1 : Hid (w0.ownsRow w0.heap.size 5 1 (.slice none 0 0) 0 (u8s [])) := own_nilY _ _
  go_wp2_with fail
  go_loopg [5, 6] a (fun gh v5 v6 wr => ∃ (i : Nat) (al : Option Addr) (cl : Nat) (W : World), W = wr ∧ gh = a - i ∧ i ≤ a ∧ v5 = .slice al i cl ∧ v6 = .int .i64 (i : Int) ∧ W.ownsRow w0.heap.size 5 1 (.slice al i cl) i (u8s (L.take i)) ∧ Only (fun g => w0.heap.size ≤ g) w0 W)
  case atStart => exact ⟨0, none, 0, _, rfl, rfl, Nat.zero_le _, rfl, rfl, H1.out, Only.refl _ _⟩
  case round =>
    obtain ⟨i, al, cl, W, hW, rfl, hi, rfl, rfl, hown, hoW⟩ := hrel
    subst hW
    have HG : Hid (W.ownsRow w0.heap.size 5 1 (.slice al i cl) i (u8s (L.take i)) ∧ Only (fun g => w0.heap.size ≤ g) w0 W) := ⟨hown, hoW⟩
    have hsz := hoW.size
    clear hown hoW r0 r1 r2 lR
    obtain ⟨hoo, r0, r1, r2, lR⟩ := HS.out W HG.out.2
    have HO : Hid (Only (fun _ => False) w W) := hoo
    clear hoo
    by_cases hlt : i < a
    · have t1 : (i : Int) < (a : Int) := by omega
      obtain ⟨x, hx⟩ := HX.out i (by omega)
      obtain ⟨g, off, rfl, hg, c0⟩ := vw_byte (HN.out.2.2.1.keep HO.out) hx
      have HT : Hid (L.take (i + 1) = L.take i ++ [x]) := take_snoc hx
      have t2 : (i : Int) < (n : Int) := by omega
      clear hx
      have HVA : Hid (Vw (W.alloc (.cells #[.int .u8 (x : Int)] 5)) (some ⟨W.heap.size, 0, none⟩) (u8s [x])) := vw_blk (heap_alloc_new W _)
      go_wp2_with (at_builtin; (refine wpList_appY rfl _ _ rfl w0.heap.size (by rw [size_alloc1]; omega) al i cl (L.take i) rfl (HG.out.1.alloc _) (some ⟨W.heap.size, 0, none⟩) 1 1 [x] rfl rfl HVA.out (i + 1) rfl (by omega) ?_; intro a5 c5 w5 hown5 ho5; have H5 : Hid (w5.ownsRow w0.heap.size 5 1 (.slice a5 (i + 1) c5) (i + 1) (u8s (L.take (i + 1))) ∧ Only (fun g => w0.heap.size ≤ g) w0 w5) := ⟨by rw [HT.out]; exact hown5, appY_only (HG.out.1.alloc _) ho5 (HG.out.2.alloc _)⟩; clear hown5 ho5))
      go_roundg (a - (i + 1))
      case measure => omega
      case rel => exact ⟨i + 1, _, _, _, rfl, rfl, by omega, rfl, by go_num, H5.out.1, H5.out.2⟩
    · have t1 : decide ((i : Int) < (a : Int)) = false := decide_eq_false (by omega)
      have hia : i = a := by omega
      subst hia
      obtain ⟨q, hq⟩ : ∃ q, i + m = q := ⟨_, rfl⟩
      have HQ : Hid (i + m = q) := hq
      have hq2 : q ≤ 200000 := by omega
      clear hq
      go_wp2_with (at_builtin; (refine wpList_appY rfl _ _ rfl w0.heap.size hsz al i cl (L.take i) rfl HG.out.1 aI m cI M rfl HN.out.2.1 (HN.out.2.2.2.1.keep HO.out) q HQ.out (by omega) ?_; intro a5 c5 w5 hown5 ho5; have H5 : Hid (w5.ownsRow w0.heap.size 5 1 (.slice a5 q c5) q (u8s (L.take i ++ M)) ∧ Only (fun g => w0.heap.size ≤ g) w0 w5) := ⟨hown5, appY_only HG.out.1 ho5 HG.out.2⟩; clear hown5 ho5; clear r0 r1 r2 lR; obtain ⟨-, r0, r1, r2, lR⟩ := HS.out w5 H5.out.2))
      clear HG HO hsz t1
      go_loopg [5, 7] (n - s) (fun gh v5 v7 wr => ∃ (k j z : Nat) (al : Option Addr) (cl : Nat) (W : World), W = wr ∧ gh = n - j ∧ j = s + k ∧ z = q + k ∧ j ≤ n ∧ v5 = .slice al z cl ∧ v7 = .int .i64 (j : Int) ∧ W.ownsRow w0.heap.size 5 1 (.slice al z cl) z (u8s (L.take i ++ M ++ (L.drop s).take k)) ∧ Only (fun g => w0.heap.size ≤ g) w0 W)
      case atStart => exact ⟨0, s, q, _, _, _, rfl, rfl, rfl, rfl, hs2, rfl, rfl, by rw [List.take_zero, List.append_nil]; exact H5.out.1, H5.out.2⟩
      case round =>
        obtain ⟨k, j, z, al, cl, W, hW, rfl, hjk, hz, hj, rfl, rfl, hown, hoW⟩ := hrel
        subst hW
        have HG : Hid (W.ownsRow w0.heap.size 5 1 (.slice al z cl) z (u8s (L.take i ++ M ++ (L.drop s).take k)) ∧ Only (fun g => w0.heap.size ≤ g) w0 W ∧ j = s + k ∧ z = q + k) := ⟨hown, hoW, hjk, hz⟩
        have hz2 : z ≤ 300000 := by omega
        have hsz := hoW.size
        clear hown hoW r0 r1 r2 lR hjk hz
        obtain ⟨hoo, r0, r1, r2, lR⟩ := HS.out W HG.out.2.1
        have HO : Hid (Only (fun _ => False) w W) := hoo
        clear hoo
        by_cases hlt : j < n
        · have t1 : (j : Int) < (n : Int) := by omega
          obtain ⟨x, hx⟩ := HX.out j hlt
          obtain ⟨g, off, rfl, hg, c0⟩ := vw_byte (HN.out.2.2.1.keep HO.out) hx
          have HT : Hid (L.take i ++ M ++ (L.drop s).take (k + 1) = L.take i ++ M ++ (L.drop s).take k ++ [x]) := grow_tail _ hx HG.out.2.2.1
          clear hx
          have HVA : Hid (Vw (W.alloc (.cells #[.int .u8 (x : Int)] 5)) (some ⟨W.heap.size, 0, none⟩) (u8s [x])) := vw_blk (heap_alloc_new W _)
          go_wp2_with (at_builtin; (refine wpList_appY rfl _ _ rfl w0.heap.size (by rw [size_alloc1]; omega) al z cl _ rfl (HG.out.1.alloc _) (some ⟨W.heap.size, 0, none⟩) 1 1 [x] rfl rfl HVA.out (z + 1) rfl (by omega) ?_; intro a5 c5 w5 hown5 ho5; have H6 : Hid (w5.ownsRow w0.heap.size 5 1 (.slice a5 (z + 1) c5) (z + 1) (u8s (L.take i ++ M ++ (L.drop s).take (k + 1))) ∧ Only (fun g => w0.heap.size ≤ g) w0 w5) := ⟨by rw [HT.out]; exact hown5, appY_only (HG.out.1.alloc _) ho5 (HG.out.2.1.alloc _)⟩; clear hown5 ho5))
          go_roundg (n - (j + 1))
          case measure => omega
          case rel =>
            have e1 := HG.out.2.2.1
            have e2 := HG.out.2.2.2
            exact ⟨k + 1, j + 1, z + 1, _, _, _, rfl, rfl, by omega, by omega, by omega, rfl, by go_num, H6.out.1, H6.out.2⟩
        · have t1 : decide ((j : Int) < (n : Int)) = false := decide_eq_false (by omega)
          have HZ : Hid (z = N ∧ L.take i ++ M ++ (L.drop s).take k = Ed.spl L i d M) := by
            have e1 := HG.out.2.2.1
            have e2 := HG.out.2.2.2
            have e3 := HQ.out
            have e4 := HN.out.2.2.2.2
            have e5 := HN.out.1
            exact ⟨by omega, spl_full M e4.2 (by omega)⟩
          go_wp2_with fail
          go_ret
          have h1 := HG.out.1
          obtain ⟨hz1, hz2⟩ := HZ.out
          rw [hz2] at h1
          subst hz1
          exact ⟨al, cl, rfl, own_base2 h1 H0.out.2.1.size, HO.out⟩
/-- a change that may be, of any one. -/
theorem mod_fit (A : Int) (n : Nat) (h : n ≤ 1000000) (hA : -9223372036854775808 ≤ A ∧ A ≤ 9223372036854775807) : ∃ U r n1 : Nat, n1 = n + 1 ∧ IntKind.u64.wrap A = (U : Int) ∧ IntKind.i64.wrap ((n : Int) + 1) = (n1 : Int) ∧ IntKind.u64.wrap (n1 : Int) = (n1 : Int) ∧ (U : Int).tmod (n1 : Int) = (r : Int) ∧ IntKind.u64.wrap (r : Int) = (r : Int) ∧ IntKind.i64.wrap (r : Int) = (r : Int) ∧ r ≤ n := by
  have hw : IntKind.u64.wrap A = A % 18446744073709551616 := rfl
  refine ⟨(A % 18446744073709551616).toNat, (A % 18446744073709551616).toNat % (n + 1), n + 1, rfl, by rw [hw]; omega, by rw [IntKind.wrap_i64]; omega, ?_, ?_, ?_, ?_, by have := Nat.mod_lt (A % 18446744073709551616).toNat (show 0 < n + 1 by omega); omega⟩
  · show (((n + 1 : Nat) : Int)) % 18446744073709551616 = _
    omega
  · rw [Int.tmod_eq_emod_of_nonneg (by omega)]
    rfl
  · have := Nat.mod_lt (A % 18446744073709551616).toNat (show 0 < n + 1 by omega)
    show (((A % 18446744073709551616).toNat % (n + 1) : Nat) : Int) % 18446744073709551616 = _
    omega
  · have := Nat.mod_lt (A % 18446744073709551616).toNat (show 0 < n + 1 by omega)
    rw [IntKind.wrap_i64]
    omega
set_option maxRecDepth 100000 in
set_option maxHeartbeats 4000000 in
theorem fit_any (n c m cI : Nat) (aB aI : Option Addr) (A D : Int) (w : World) (hA : -9223372036854775808 ≤ A ∧ A ≤ 9223372036854775807) (hD : -9223372036854775808 ≤ D ∧ D ≤ 9223372036854775807) (hn : n ≤ 100000) :
    Calls Try.prog 14 #[.slice aB n c, .agg #[.int .i64 A, .int .i64 D, .slice aI m cI]] w fun e w' => ∃ a d : Nat, e = .returned (.agg #[.int .i64 (a : Int), .int .i64 (d : Int), .slice aI m cI]) ∧ a + d ≤ n ∧ Only (fun _ => False) w w' := by
  obtain ⟨U, a, n1, hn1, u1, u2, u3, u4, u5, u6, hle⟩ := mod_fit A n (by omega) hA
  obtain ⟨x, hx⟩ : ∃ x, x = n - a := ⟨_, rfl⟩
  obtain ⟨V, d, n2, hn2, v1, v2, v3, v4, v5, v6, hld⟩ := mod_fit D x (by omega) hD
  have v0 : IntKind.i64.wrap ((n : Int) - (a : Int)) = (x : Int) := by rw [IntKind.wrap_i64]; omega
  have z1 : ¬ n1 = 0 := by omega
  have z2 : ¬ n2 = 0 := by omega
  have HA : Hid (a + d ≤ n) := by show a + d ≤ n; omega
  clear hn1 hn2 hx hle hld
  go_enter Try.func14, Try.ntmps14
  go_upto_region 1 with fail
  obtain ⟨R, b, w0, hw0, hb, hR, H0, lRb, lb⟩ := box33 w (.int .i64 A) (.int .i64 D) (.slice aI m cI) (.int .i64 0) (.int .i64 0) (.slice none 0 0) 24 24
  rw [hw0, hb, hR]
  clear hw0 hb hR
  obtain ⟨r0, r1, r2, lR⟩ := blk_three H0.out.1
  have fR : ∀ x, w0.frozen? ⟨R, x, none⟩ = false := fun x => fz_blk H0.out.1 x
  have HB : Hid (((w0.setCell ⟨R, 0, none⟩ (.int .i64 (a : Int))).setCell ⟨R, 1, none⟩ (.int .i64 (d : Int))).heap[b]? = some (.cells #[.int .i64 0, .int .i64 0, .slice none 0 0] 24 (0, 0)) ∧ w.heap.size ≤ R ∧ w.heap.size ≤ b) := by
    have ho : Only (fun q => q = R) w0 ((w0.setCell ⟨R, 0, none⟩ (.int .i64 (a : Int))).setCell ⟨R, 1, none⟩ (.int .i64 (d : Int))) := ((Only.refl (fun q => q = R) w0).setCell (p := ⟨R, 0, none⟩) rfl _).setCell (p := ⟨R, 1, none⟩) rfl _
    have h3 := H0.out.2.2.2
    exact ⟨(ho.block b lb (by omega)).trans H0.out.2.1, by omega, by omega⟩
  go_wp2_with (refine wpList_store_row rfl 24 _ _ rfl b #[.int .i64 (a : Int), .int .i64 (d : Int), .slice aI m cI] rfl rfl 24 _ HB.out.1 (by kernel_rfl) rfl (ed_one _ _ _ _ _) ?_)
  refine bodyPost_ret (v := .agg #[.int .i64 (a : Int), .int .i64 (d : Int), .slice aI m cI]) (results_cell_row rfl _ _ b 24 #[.int .i64 (a : Int), .int .i64 (d : Int), .slice aI m cI] (0, 0) _ rfl (setRow_heap _ _ _ _ _ _ HB.out.1) Try.underlying24 rfl (by kernel_rfl)) rfl ⟨a, d, rfl, HA.out, ?_⟩
  exact ((H0.out.2.2.1.setNew (p := ⟨R, 0, none⟩) HB.out.2.1 _).setNew (p := ⟨R, 1, none⟩) HB.out.2.1 _).setRowNew HB.out.2.2 _
end Go.Proofs.Ytmhnghkodneodaa
