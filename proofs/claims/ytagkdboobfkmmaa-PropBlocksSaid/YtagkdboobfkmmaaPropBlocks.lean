/-
  stanzalaw02.PropBlocks returns true at every slice of ranges, which reads afterwards as it read before; no condition.
-/
import Derived.Test.YtagkdboobfkmmaaRows
import Derived.Test.YtagkdboobfkmmaaSeen
namespace Go.Proofs.Ytagkdboobfkmmaa.propBlocks
open Go.ChangeShapes Go.WideShapes Go.ChangeAt Go.RowKit Go.Maps
set_option linter.unusedVariables false
set_option linter.unusedSimpArgs false

theorem made4 {w3 w4 : World} (h : w4.ownsRow (w3.heap.size + 1) 5 1 (.slice (some ⟨(w3.alloc (.map #[] 0)).heap.size, 0, none⟩) 256 256) 256 (madeCells (Value.int .u8 0).cells (256 * 1)).toList) : w4.heap[w3.heap.size + 1]? = some (.cells (bC Pr.zeros) 5 (0, 0)) := by
  have h := row_heap h
  rw [made_zeros, show (w3.alloc (.map #[] 0)).heap.size = w3.heap.size + 1 by simp] at h
  exact h
theorem i32_and255 (n : Int) : bits .and .i32 n 255 = n % 256 := by
  have h255 : (BitVec.ofInt 32 255).toNat = 2 ^ 8 - 1 := by decide
  have key : (BitVec.ofInt 32 n &&& BitVec.ofInt 32 255).toNat = (n % ((2 ^ 32 : Nat) : Int)).toNat % 2 ^ 8 := by
    rw [BitVec.toNat_and, BitVec.toNat_ofInt, h255, Nat.and_two_pow_sub_one_eq_mod]
  show IntKind.i32.wrap ((BitVec.ofInt 32 n &&& BitVec.ofInt 32 255).toNat : Nat) = n % 256
  rw [key, IntKind.wrap_i32]
  omega
theorem zlen : Pr.zeros.length = 256 := by simp [Pr.zeros]

set_option maxRecDepth 100000 in
set_option maxHeartbeats 4000000 in
theorem walk (L : List Rg) (a : Option Addr) (b off cap : Nat) (w : World) (hS : Sees w L a b off cap) (hF : Fit L) :
    Calls Try.prog 6 #[.slice a L.length cap] w fun e w' => e = .returned (.bool true) ∧ Below w.heap.size w w' := by
  obtain ⟨i0, hi, hz0, hz1, hz2⟩ := info_parts info5
  have hmm := @run_makeMap Try.prog
  go_enter Try.func6, Try.ntmps6
  go_wp2_with (go_at_call 9; refine (awake_any _).mono ?_; rintro e w1 ⟨rfl, hb1⟩)
  refine (right_any L 3 a b off cap w1 (hS.kept hb1) hF (by omega) (by omega)).mono ?_
  rintro e w2 ⟨M, v, rfl, hown2, hM, hok, hb2⟩
  obtain ⟨a2, g2, cap2, rfl, hS2, _, _⟩ := row_sees hown2
  have hs1 := hb1.size
  have hs2 := hb2.size
  have hB2 : Hid (Below w.heap.size w w2) := hb1.trans (hb2.mono hs1)
  have HO : Hid (Pr.okFrom 3 (-1) M = true) := hok
  have hOk : Pr.ok 3 M = true := by unfold Pr.ok; rw [hok, Bool.and_true, decide_eq_true_eq]; omega
  have hmk := make_ok M 3 a2 g2 0 cap2 w2 hS2 (by omega) hOk
  obtain ⟨m, hm'⟩ : ∃ m, m = M.length := ⟨_, rfl⟩
  have HM : Hid (m = M.length) := hm'
  rw [← hm'] at hmk hM ⊢
  have hSH : Hid (Sees w2 M a2 g2 0 cap2) := hS2
  clear hm' hown2 hb1 hb2 hok hOk hS hF hS2
  go_wp2_with fail
  refine hmk.mono ?_
  rintro e w3 ⟨T, rfl, hT, hb3⟩
  have hs3 := hb3.size
  have hB3 : Hid (Below w.heap.size w w3) := hB2.out.trans (hb3.mono (by omega))
  have hS3 : Hid (Sees w3 M a2 g2 0 cap2) := hSH.out.kept hb3
  have hT3 : Hid (Tab w3 w2.heap.size T M) := hT
  clear hmk hb3 hT
  go_wp2_with (first | (at_make; refine wpList_make_full _ rfl _ _ 45 rfl (w3.heap.size + 1) 5 i0 (.int .u8 0) 1 Try.underlying45 hi hz0 hz1 .i64 .i64 _ _ 256 rfl rfl rfl rfl (by rw [hz2]; omega) (by unfold maxLen; omega) (by simp) ?_; intro w4 hown4 hg4; have hcv := conv_blk (made4 hown4) zlen; have hmap4 : Hid (w4.ownsMap Try.prog 9 (plainElem Try.prog 4) w3.heap.size 0 (DataW.map [] : DataW Unit)) := (World.ownsMap_made w3 Try.prog 9 (plainElem Try.prog 4)).kept hg4 (by simp); have hb4 : Hid (Below w3.heap.size w3 w4) := ((Below.refl w3.heap.size w3).alloc (Nat.le_refl _) _).grown hg4 (by simp) (fun k hk => by cases hk); clear hown4 hg4) | (refine wpList_insert_own _ rfl _ _ _ 46 rfl 9 4 law9 Try.underlying46 _ w3.heap.size 0 (DataW.map [] : DataW Unit) rfl hmap4.out (by unfold maxLen; omega) _ _ _ rfl rfl (sk_key zeros_byt) _ [] (plainElem_bool Try.underlying4 true) ?_; intro w5 hmap5 hg5))
  obtain ⟨N, hN⟩ : ∃ N, N = w3.heap.size := ⟨_, rfl⟩
  have HN : Hid (N = w3.heap.size) := hN
  rw [← hN] at hmap5 ⊢
  have hb5 : Hid (Below N w3 w5) := (by rw [hN]; exact hb4.out.grown hg5 hb4.out.size (fun k hk => by injection hk with hk; omega) : Below N w3 w5)
  have hmH5 : Hid (w5.ownsMap Try.prog 9 (plainElem Try.prog 4) N (0 + 1) ((.map [] : DataW Unit).put (sk Pr.zeros) (.lit (.bool true)))) := hmap5
  have hsN : w.heap.size ≤ N := by omega
  clear hg5 hmap4 hb4 hmap5 hcv hN
  go_wp2_with fail
  go_loopw [6] (fun i wr => ∃ (k : Nat) (D : DataW Unit) (S : List (List Int)) (W : World), W = wr ∧ k ≤ 4352 ∧ i = .int .i32 k ∧ wr.ownsMap Try.prog 9 (plainElem Try.prog 4) N (k + 1) D ∧ Hid (SD D S) ∧ Hid (Sn M k S) ∧ Below N w3 wr) (fun i _ => 4352 - (intOf i).toNat)
  case atStart => exact ⟨0, _, add [] Pr.zeros, _, rfl, Nat.zero_le _, rfl, hmH5.out, sd_put sd_start zeros_byt, sn_start M, hb5.out⟩
  case round =>
    obtain ⟨k, D, S, W, rfl, hk, rfl, hmap, hsd, hsn, hbel⟩ := hrel
    have hS' : Hid (Sees W M a2 g2 0 cap2) := hS3.out.kept (by rw [← HN.out]; exact hbel)
    have hT' : Hid (Tab W w2.heap.size T M) := hT3.out.kept (by rw [← HN.out]; exact hbel)
    have hmH : Hid (W.ownsMap Try.prog 9 (plainElem Try.prog 4) N (k + 1) D) := hmap
    have hbH : Hid (Below N w3 W) := hbel
    have hsz := hbel.size
    clear hmap hbel
    by_cases hlt : k < 4352
    · have hltI : (k : Int) < 4352 := by omega
      by_cases h0 : m = 0
      · have hM0 : M = [] := List.eq_nil_of_length_eq_zero (by rw [← HM.out]; exact h0)
        have HZ0 : Hid (∀ i, k ≤ i → i < 4352 → Pr.blk M i = Pr.zeros) := fun i h1 h2 => blk_far (k := k) (fun x hx => by rw [hM0] at hx; exact absurd hx List.not_mem_nil) h1
        clear hM0
        subst h0
        go_wp2_with fail
        refine (blocks_any M _ T W hT'.out).mono ?_
        rintro e w' ⟨B, hB, rfl, hBl, rfl⟩
        have hsz2 : Maps.size D = B.length + 1 := hsd.out.2.2.trans (sn_end hsn.out hk HZ0.out hB)
        have HB : Hid (Pr.Bs M B) := hB
        clear hB
        go_wp2_with (at_len; refine wpList_len_own _ rfl _ 46 rfl 9 4 Try.underlying46 _ N (k + 1) D rfl hmH.out ?_)
        go_ret
        exact ⟨ret_bool (by simp [hsz2]), hB3.out.trans (hbH.out.mono hsN)⟩
      · have t0 : ((m : Int) == 0) = false := by simp; omega
        have hm1 : 1 ≤ m := by omega
        obtain rfl := hS'.out.adr (by rw [← HM.out]; omega)
        obtain ⟨x, hx⟩ : ∃ x, M[m - 1]? = some x := ⟨M[m - 1]'(by rw [← HM.out]; omega), List.getElem?_eq_getElem _⟩
        have d1 := hS'.out.c1 (m - 1) x hx
        simp only [Nat.zero_add] at d1
        obtain ⟨ylo, yhi, yto⟩ := x
        simp only at d1
        have hX : Hid (M[m - 1]? = some ⟨ylo, yhi, yto⟩) := hx
        clear hx
        by_cases hbrk : yhi < (k : Int) * 256
        · have t1 : decide (yhi < (k : Int) * 256) = true := by simp; omega
          have HZ0 : Hid (∀ i, k ≤ i → i < 4352 → Pr.blk M i = Pr.zeros) := fun i h1 h2 => blk_far (k := k) (fun x hx => by have h := last_hi HO.out (by rw [← HM.out]; exact hX.out) x hx; simp only at h; omega) h1
          go_wp2_with fail
          refine (blocks_any M _ T W hT'.out).mono ?_
          rintro e w' ⟨B, hB, rfl, hBl, rfl⟩
          have hsz2 : Maps.size D = B.length + 1 := hsd.out.2.2.trans (sn_end hsn.out hk HZ0.out hB)
          have HB : Hid (Pr.Bs M B) := hB
          clear hB
          go_wp2_with (at_len; refine wpList_len_own _ rfl _ 46 rfl 9 4 Try.underlying46 _ N (k + 1) D rfl hmH.out ?_)
          go_ret
          exact ⟨ret_bool (by simp [hsz2]), hB3.out.trans (hbH.out.mono hsN)⟩
        · have t1 : decide (yhi < (k : Int) * 256) = false := by simp; omega
          go_wp2_with (at_make; refine wpList_make_full _ rfl _ _ 45 rfl W.heap.size 5 i0 (.int .u8 0) 1 Try.underlying45 hi hz0 hz1 .i64 .i64 _ _ 256 rfl rfl rfl rfl (by rw [hz2]; omega) (by unfold maxLen; omega) (Nat.le_refl _) ?_; intro w6 hown6 hg6)
          have hz6 : Hid (w6.heap[W.heap.size]? = some (.cells (bC Pr.zeros) 5 (0, 0))) := (by have h := row_heap hown6; rw [made_zeros] at h; exact h : w6.heap[W.heap.size]? = some (.cells (bC Pr.zeros) 5 (0, 0)))
          have hb6 : Hid (Below W.heap.size W w6) := (Below.refl W.heap.size W).grown hg6 (Nat.le_refl _) (fun k hk => by cases hk)
          have hs6 : W.heap.size + 1 ≤ w6.heap.size := (Array.getElem?_eq_some_iff.1 hz6.out).1
          clear hown6 hg6 d1
          go_loopw [48] (fun i wr => ∃ (j : Nat) (f : List Int), j ≤ m ∧ i = .int .i64 j ∧ Hid (f = fO (M.take j) ((k : Int) * 256)) ∧ Hid (wr.heap[W.heap.size]? = some (.cells (bC f) 5 (0, 0))) ∧ W.heap.size + 1 ≤ wr.heap.size ∧ Below W.heap.size W wr) (fun i _ => m - (intOf i).toNat)
          case atStart => exact ⟨0, Pr.zeros, Nat.zero_le _, rfl, rfl, hz6.out, hs6, hb6.out⟩
          case round =>
            obtain ⟨j, f, hj, rfl, hf, h1, hsz1, hbel1⟩ := hrel
            have hlen : Hid (f.length = 256) := (by rw [hf.out]; simp [fO] : f.length = 256)
            by_cases hjl : j < m
            · have hjI : (j : Int) < (m : Int) := by omega
              obtain ⟨x, hx⟩ : ∃ x, M[j]? = some x := ⟨M[j]'(by rw [← HM.out]; omega), List.getElem?_eq_getElem _⟩
              have hS1 := hS'.out.kept hbel1
              have d0 := hS1.c0 j x hx
              have d1 := hS1.c1 j x hx
              have d2 := hS1.c2 j x hx
              simp only [Nat.zero_add] at d0 d1 d2
              have hfit := Pr.ok_mem HO.out _ (List.mem_of_getElem? hx)
              obtain ⟨xlo, xhi, xto⟩ := x
              simp only at d0 d1 d2
              have hto0 : 0 ≤ xto := hfit.2.2.2.1
              have hto1 : xto ≤ 255 := hfit.2.2.2.2.2
              have hhi1 : xhi ≤ 1114111 := hfit.2.2.1
              have hlohi : xlo ≤ xhi := hfit.2.1
              have hlo0 : 0 ≤ xlo := by have := hfit.1; simp only at this; omega
              have hX2 : Hid (M[j]? = some ⟨xlo, xhi, xto⟩) := hx
              have hBH1 : Hid (Below W.heap.size W wr) := hbel1
              clear hx hbel1 hS1 hfit
              go_wp2_with fail
              obtain ⟨A, hA⟩ : ∃ A, A = max xlo ((k : Int) * 256) := ⟨_, rfl⟩
              have hA1 : xlo ≤ A := by omega
              have hA2 : (k : Int) * 256 ≤ A := by omega
              have hA3 : Hid (A = xlo ∨ A = (k : Int) * 256) := (by omega : A = xlo ∨ A = (k : Int) * 256)
              have HA : Hid (A = max xlo ((k : Int) * 256)) := hA
              obtain ⟨G, hG⟩ : ∃ G, G = wr.heap.size := ⟨_, rfl⟩
              have HG : Hid (G = wr.heap.size) := hG
              have hGN : W.heap.size + 1 ≤ G := by omega
              have hA5 : A ≤ 1114112 := by have := hA3.out; omega
              rw [← hA, ← hG]
              clear hA hG
              go_loopw [10] (fun r wr => ∃ (q : Nat) (g : List Int), r = .int .i32 ((k : Int) * 256 + q) ∧ A ≤ (k : Int) * 256 + q ∧ ((k : Int) * 256 + q ≤ A ∨ (k : Int) * 256 + q ≤ xhi + 1) ∧ Hid (g = mix f ((k : Int) * 256) A ((k : Int) * 256 + q) xto) ∧ Hid (wr.heap[W.heap.size]? = some (.cells (bC g) 5 (0, 0))) ∧ Hid (wr.heap[G]? = some (.cells #[.int .i32 xlo, .int .i32 xhi, .int .i64 xto] 33 (0, 0))) ∧ G + 1 ≤ wr.heap.size ∧ Below W.heap.size W wr) (fun r _ => (A + xhi + 2 - intOf r).toNat)
              case atStart => exact ⟨(A - (k : Int) * 256).toNat, f, by congr 1; omega, by omega, by omega, mix_start hlen.out _ _ _ _ (by omega), (heap_alloc_old _ _ (by omega)).trans h1.out, (by rw [HG.out]; exact heap_alloc_new _ _), (by rw [HG.out]; simp), hBH1.out.alloc (by omega) _⟩
              case round =>
                obtain ⟨q, g, rfl, hq1, hq2, hg, g1, g2', hsz2, hbel2⟩ := hrel
                have hglen : Hid (g.length = 256) := (by rw [hg.out]; exact mix_len _ _ _ _ _ : g.length = 256)
                have hB2' : Hid (Below W.heap.size W wr) := hbel2
                have e1 : wr.cell? ⟨G, 1, none⟩ = some (.int .i32 xhi) := cell_of_row _ _ 1 _ _ _ g2'.out
                have e2 : wr.cell? ⟨G, 2, none⟩ = some (.int .i64 xto) := cell_of_row _ _ 2 _ _ _ g2'.out
                clear hbel2 d0 d1 d2
                by_cases hin : (k : Int) * 256 + q ≤ xhi ∧ q ≤ 255
                · have t2 : decide ((k : Int) * 256 + (q : Int) ≤ min xhi ((k : Int) * 256 + 255)) = true := by simp; omega
                  have hin1 : (k : Int) * 256 + q ≤ xhi := hin.1
                  have hin2 : q ≤ 255 := hin.2
                  have hqI : (q : Int) < 256 := by omega
                  have hbit : bits .and .i32 ((k : Int) * 256 + (q : Int)) 255 = (q : Int) := by rw [i32_and255]; omega
                  have e3 : wr.cell? ⟨W.heap.size, q, none⟩ = some (.int .u8 (g.getD q 0)) := (cell_of_row _ _ q _ _ _ g1.out).trans (bC_at hglen.out (by omega))
                  have e4 : wr.frozen? ⟨W.heap.size, q, none⟩ = false := frozen_row _ _ _ _ _ g1.out
                  clear hin
                  go_wp2
                  go_roundw
                  case rel =>
                    refine ⟨q + 1, g.set q xto, by congr 1 <;> omega, by omega, by omega, ?_, ?_, ?_, ?_, hB2'.out.setCell (by show W.heap.size ≤ W.heap.size; omega) _⟩
                    · rw [hg.out]
                      exact mix_step _ _ _ _ _ (by omega) hq1
                    · rw [← bC_set]
                      exact heap_setCell_row _ _ _ _ _ _ _ g1.out
                    · exact (Below.heap_setCell _ _ _ _ (by show G ≠ W.heap.size; omega)).trans g2'.out
                    · simp [World.setCell]; omega
                  case measure => simp [intOf] <;> omega
                · have t2 : decide ((k : Int) * 256 + (q : Int) ≤ min xhi ((k : Int) * 256 + 255)) = false := by simp; omega
                  have HI : Hid (xhi < (k : Int) * 256 + q ∨ (k : Int) * 256 + 255 < (k : Int) * 256 + q) := (by omega : xhi < (k : Int) * 256 + q ∨ (k : Int) * 256 + 255 < (k : Int) * 256 + q)
                  clear hin
                  go_wp2
                  go_roundw
                  case rel => exact ⟨j + 1, g, by omega, by go_num, by rw [hg.out, hf.out]; exact mix_end HO.out hX2.out hA1 hA2 hA3.out hq2 HI.out, g1.out, by omega, hB2'.out⟩
                  case measure => simp [intOf]; omega
            · have hjm : j = m := by omega
              have hfe : Hid (f = Pr.blk M k) := (by
                rw [hf.out, List.take_of_length_le (by rw [← HM.out]; omega)]
                have h := fO_blk (most := 3) (a := -1) (L := M) (j := 0) (k := k) (fun x hx => by simp at hx)
                rw [List.drop_zero] at h
                rw [Int.mul_comm]
                exact h : f = Pr.blk M k)
              have hfb : Hid (Byt f) := (by rw [hfe.out]; exact blk_byt HO.out k : Byt f)
              have hcv := conv_blk h1.out hlen.out
              have hm6 : Hid (wr.ownsMap Try.prog 9 (plainElem Try.prog 4) N (k + 1) D) := hmH.out.kept (grown_below hbel1) (by simp)
              have hBH1 : Hid (Below W.heap.size W wr) := hbel1
              clear hbel1
              go_wp2_with (at_mapUpdate; refine wpList_mapUpdate_own _ rfl _ _ _ 46 rfl 9 4 law9 Try.underlying46 _ N (k + 1) D rfl hm6.out (by unfold maxLen; omega) _ _ _ rfl rfl (sk_key hfb.out) _ [] (plainElem_bool Try.underlying4 true) ?_; intro w8 hmap8 hg8)
              go_roundw
              case rel => exact ⟨k + 1, _, add S f, _, rfl, by omega, by go_num, hmap8, sd_put hsd.out hfb.out, by rw [hfe.out]; exact sn_next hsn.out, (hbH.out.trans (hBH1.out.mono (by rw [HN.out]; exact hsz))).grown hg8 (by have := hBH1.out.size; have := HN.out; omega) (fun k' hk' => by injection hk' with hk'; omega)⟩
              case measure => simp [intOf]; omega
    · have hk4 : k = 4352 := by omega
      have HZ0 : Hid (∀ i, k ≤ i → i < 4352 → Pr.blk M i = Pr.zeros) := fun i h1 h2 => by omega
      go_wp2_with fail
      refine (blocks_any M _ T W hT'.out).mono ?_
      rintro e w' ⟨B, hB, rfl, hBl, rfl⟩
      have hsz2 : Maps.size D = B.length + 1 := hsd.out.2.2.trans (sn_end hsn.out hk HZ0.out hB)
      have HB : Hid (Pr.Bs M B) := hB
      clear hB
      go_wp2_with (at_len; refine wpList_len_own _ rfl _ 46 rfl 9 4 Try.underlying46 _ N (k + 1) D rfl hmH.out ?_)
      go_ret
      exact ⟨ret_bool (by simp [hsz2]), hB3.out.trans (hbH.out.mono hsN)⟩
theorem contract (H : Type) (enc : TypeId × Value → H) (W : World) (base : Nat) (args : Array Value) (ds gs : List (DataW H)) (before : List MemPlace)
    (hval : ∀ (j : Nat) t v, Try.f6.params[j]? = some t → args[j]? = some v → Value.okWide Try.prog W .any base t v)
    (hW : DataW.Whole enc Try.prog Try.f6.params.toList Rows.propBlocksSpec.vars false W args.toList ds gs before) :
    Calls Try.prog 6 args W fun e W' => ∃ v, e = .returned v ∧ Rows.propBlocksSpec.post enc Try.prog Try.f6 false true false false W args v W' := by
  have hW' := hW
  obtain ⟨p, q, hA0, hV, rfl, hfz, hnd⟩ := hW
  have hA : DataW.TrodAll enc Try.prog W 0 (fun _ => true) true Try.f6.params.toList args.toList ds p := hA0
  rw [Try.params6] at hA hval
  obtain ⟨v0, vs0, d0, ds0, p0, q0, hargs, rfl, rfl, h0, r0⟩ := trodAll_cons hA
  obtain ⟨rfl, rfl, rfl⟩ := trodAll_nil r0
  obtain rfl : args = #[v0] := by cases args; simp_all
  obtain ⟨rfl, rfl⟩ := trodVars_none hV
  obtain ⟨a0, len0, cap0, rfl⟩ := okWide_slice Try.underlying22 (hval 0 22 v0 rfl rfl)
  have k0 := h0
  have lt0 : ∀ x ∈ p0, x.block < W.heap.size := by obtain ⟨m, hm⟩ := k0; exact DataW.trod_lt m _ _ _ hm
  obtain ⟨L0, b0, off0, rfl, hS0, hF0, hmax0, hnone0⟩ := ranges_view h0
  clear hA0
  refine (walk L0 a0 b0 off0 cap0 W hS0 hF0).mono fun e W' ⟨he, bel⟩ => ?_
  subst he
  exact ⟨_, rfl, _, _, _, [], _, [], hW', trodAll_mk1 (shut_bool Try.underlying4 _), (trodAll_cons_mk (Below.trod laidOut (by kernel_rfl) (of_decide_eq_true (by kernel_rfl)) k0 bel lt0) trodAll_mk0), rfl, bel.frame _, fun h => by cases h⟩

set_option maxRecDepth 100000 in
theorem lifted (os : Os) (started : os.Started) (H : Type) (enc : TypeId × Value → H) :
    ReturnsInHanded {} Try.checked os 6 .any (Rows.propBlocksSpec.pre6 enc Try.prog Try.f6 Rows.propBlocksRow.domain false) (Rows.propBlocksSpec.post enc Try.prog Try.f6 false true false false) := by
  refine returnsInHanded_of_change (C := Try.checked) own started (by kernel_rfl) Try.func6
    (ChangeSpec.witness6 (enc := enc) (C := Try.checked) false ⟨#[], #[.slice none 0 0], []⟩ 8 (by kernel_rfl) (by kernel_rfl) (by kernel_rfl) (by kernel_rfl)) ?_
  intro W base args ds gs before hval hW _ _
  exact contract H enc W base args ds gs before hval hW

theorem over : Rows.propBlocksRow.holds Try.pinned (OpenSpec.ofChange Rows.propBlocksSpec) :=
  OpenClaim.holds_of_wide 6 Try.f6 rfl rfl rfl rfl rfl rfl rfl ⟨rfl, rfl, rfl, rfl, rfl⟩ rfl rfl rfl rfl rfl (by kernel_rfl) Try.func6 (by kernel_rfl)
    (of_decide_eq_true (by kernel_rfl)) (by unfold Func.isWrapper; first | (rw [if_pos (by decide +kernel)]; kernel_rfl) | (rw [if_neg (by decide +kernel)]; exact ⟨rfl, rfl⟩))
    (fun os started H enc _ => lifted os started H enc)
end Go.Proofs.Ytagkdboobfkmmaa.propBlocks
namespace Go.Proofs.Ytagkdboobfkmmaa
/-- THE STATEMENT. -/
theorem propBlocks_holds : Rows.PropBlocksSaid := propBlocks.over
#print axioms propBlocks_holds
end Go.Proofs.Ytagkdboobfkmmaa
