/-
  stanzalaw14.FirstHyphens: its walk.
-/
import Derived.Test.YtjahocnkpomlpaaAw
import Derived.Test.YtjahocnkpomlpaaPc
import Derived.Test.YtjahocnkpomlpaaFe
import Derived.Test.YtjahocnkpomlpaaSh
namespace Go.Proofs.Ytjahocnkpomlpaa.firstHyphens
open Go.RowKit Go.Maps
set_option linter.unusedVariables false
set_option linter.unusedSimpArgs false
def B3 : Bt := ⟨1, 0, 0, 3⟩
theorem cts_at : ∀ (L : List Bt) (p i : Nat) (b : Bt), L[i]? = some b → ∃ pl ln, (Pa.cts L p)[i]? = some ⟨pl, ln, ((b.cells % 3 : Nat) : Int), b.kind % 3⟩
  | [], _, _, _, h => by simp at h
  | c :: L, p, 0, b, h => by
    simp at h
    subst h
    exact ⟨_, _, rfl⟩
  | c :: L, p, i + 1, b, h => by
    obtain ⟨pl, ln, e⟩ := cts_at L (p + (1 + c.len % 4)) i b (by simpa using h)
    exact ⟨pl, ln, by simpa [Pa.cts] using e⟩
theorem ones_rep (n : Nat) : Sp.Ones (Pa.cts (List.replicate n B3) 0) n := fun i hi => by
  obtain ⟨pl, ln, e⟩ := cts_at (List.replicate n B3) 0 i B3 (by rw [List.getElem?_replicate, if_pos hi])
  rw [at_some e]
  exact ⟨rfl, rfl⟩
theorem pts_rep (n : Nat) : Sp.Pts (Pa.ops (List.replicate n B3) n ++ [2]) n := by
  refine ⟨fun i h0 h1 => ?_, ops_end _ n⟩
  rw [List.getD_eq_getElem?_getD, List.getElem?_append_left (by rw [Pa.ops_len]; exact h1)]
  unfold Pa.ops
  rw [List.getElem?_map, List.getElem?_range h1]
  show Pa.op (List.replicate n B3) i = 3
  unfold Pa.op
  rw [if_neg (by omega), List.getElem?_replicate, if_pos (by omega)]
  rfl
set_option maxRecDepth 100000 in
set_option maxHeartbeats 8000000 in
theorem walk1 (na nb : Nat) (w : World) (ha : na ≤ 255) (hb : nb ≤ 255) : Calls Try.prog 7 #[.int .u8 (na : Int), .int .u8 (nb : Int)] w fun e w' => e = .returned (.bool true) ∧ Only (fun _ => False) w w' := by
  obtain ⟨i3, g3, g30, g31, g32⟩ := info_parts infoBit
  obtain ⟨kk, hkk⟩ : ∃ x, x = na % 100 := ⟨_, rfl⟩
  obtain ⟨wq, hwq⟩ : ∃ x, x = nb % 20 := ⟨_, rfl⟩
  obtain ⟨w1, hw1⟩ : ∃ x, x = 1 + wq := ⟨_, rfl⟩
  have p1 : (na : Int).tmod 100 = (kk : Int) := by rw [Int.tmod_eq_emod_of_nonneg (by omega)]; omega
  have p2 : (nb : Int).tmod 20 = (wq : Int) := by rw [Int.tmod_eq_emod_of_nonneg (by omega)]; omega
  have p3 : 1 + (wq : Int) = (w1 : Int) := by omega
  have hk1 : kk < 100 := by omega
  have hw2 : w1 ≤ 20 := by omega
  have hw3 : 1 ≤ w1 := by omega
  have hwq2 : wq < 20 := by omega
  obtain ⟨C, hC⟩ : ∃ x, x = Pa.cts (List.replicate kk B3) 0 := ⟨_, rfl⟩
  obtain ⟨O, hO⟩ : ∃ x, x = Pa.ops (List.replicate kk B3) kk ++ [2] := ⟨_, rfl⟩
  have HCO : Hid (Sp.Ones C kk ∧ Sp.Pts O kk) := ⟨by rw [hC]; exact ones_rep kk, by rw [hO]; exact pts_rep kk⟩
  obtain ⟨Ls, hLs⟩ : ∃ l, l = Sp.lines C O 8 w1 0 kk := ⟨_, rfl⟩
  obtain ⟨nL, hnL⟩ : ∃ l, l = Ls.length := ⟨_, rfl⟩
  have hnL2 : nL ≤ 100 := by rw [hnL, hLs]; exact Nat.le_trans (lines_len C O 8 w1 kk 0) (by omega)
  have HLL : Hid (Ls = Sp.lines C O 8 w1 0 kk ∧ nL = Ls.length) := ⟨hLs, hnL⟩
  have HPA : Hid (∀ W a c, Vw W a (btC (List.replicate kk B3)) → Calls Try.prog 9 #[.slice a kk c] W fun e w' => ∃ aC aO cC cO, e = .returned (.agg #[.slice aC kk cC, .slice aO (kk + 1) cO]) ∧ Pv w' C O kk (kk + 1) aC aO cC cO ∧ Only (fun _ => False) W w') := fun W a c hV => by
    refine (para_pv (List.replicate kk B3) kk a c W (by rw [List.length_replicate]) hV (fun b hb => by rw [List.eq_of_mem_replicate hb]; decide) (by omega)).mono ?_
    rintro e w' ⟨k, aC, aO, cC, cO, he, hk, hs, hPv, ho⟩
    have hkk2 : k = kk := by
      rcases hs with h | h
      · exact h
      · have := cts_sum ((List.replicate kk B3).take k) 0
        have h2 : ((List.replicate kk B3).take k).length ≤ kk := by rw [List.length_take, List.length_replicate]; omega
        omega
    subst hkk2
    rw [List.take_of_length_le (by rw [List.length_replicate]; exact Nat.le_refl _), ← hC, ← hO] at hPv
    exact ⟨aC, aO, cC, cO, he, hPv, ho⟩
  have HBK : Hid (∀ W aC aO cC cO, Pv W C O kk (kk + 1) aC aO cC cO → Calls Try.prog 13 #[.agg #[.slice aC kk cC, .slice aO (kk + 1) cO], .int .i64 0, .int .i64 (kk : Int), .agg #[.int .i64 (w1 : Int), .int .i64 8, .int .u8 0, .int .i64 0, .int .i64 0, .float .f64 0]] W fun e w' => ∃ (a : Option Addr) (c : Nat), e = .returned (.slice a nL c) ∧ Vw w' a (lnC Ls) ∧ Only (fun _ => False) W w') := fun W aC aO cC cO hP => by
    refine (break_any C O kk (kk + 1) aC aO cC cO 0 kk w1 8 0 0 0 0 W hP (by omega) (Nat.zero_le _) (Nat.le_refl _) (by omega) (by decide) (by decide)).mono ?_
    rintro e w' ⟨n, a, c, hn, he, hown, ho⟩
    rw [← hLs, ← hnL] at hn
    subst hn
    rw [← hLs] at hown
    exact ⟨a, c, he, own_vw hown, ho⟩
  clear hkk hwq hw1 hC hO hLs hnL
  go_enter Try.func7, Try.ntmps7
  go_wp2_with fail
  refine Calls.mono (awake14_any _) ?_
  rintro e w2 ⟨rfl, ho2⟩
  have HW2 : Hid (Only (fun _ => False) w w2) := ho2
  clear ho2
  go_wp2_with fail
  go_loopg [7, 26] kk (fun gh v7 v26 wr => ∃ (j : Nat) (al : Option Addr) (c : Nat) (W : World), W = wr ∧ gh = kk - j ∧ j ≤ kk ∧ v7 = .slice al j c ∧ v26 = .int .i64 (j : Int) ∧ W.ownsRow w2.heap.size 49 4 (.slice al j c) j (btC (List.replicate j B3)) ∧ Only (fun g => w2.heap.size ≤ g) w2 W)
  case atStart => exact ⟨0, none, 0, _, rfl, rfl, Nat.zero_le _, rfl, rfl, ⟨rfl, Or.inl ⟨rfl, rfl⟩⟩, Only.refl _ _⟩
  case round =>
    obtain ⟨j, al, c, W, hW, rfl, hj, rfl, rfl, hown, hoW⟩ := hrel
    subst hW
    have HG : Hid (W.ownsRow w2.heap.size 49 4 (.slice al j c) j (btC (List.replicate j B3)) ∧ Only (fun g => w2.heap.size ≤ g) w2 W ∧ Only (fun _ => False) w W) := ⟨hown, hoW, HW2.out.trans (hoW.old (fun b hb => Or.inl hb))⟩
    have hsz := hoW.size
    clear hown hoW
    by_cases hlt : j < kk
    · have t1 : (j : Int) < (kk : Int) := by omega
      have HVA : Hid _ := blk1 W (.cells #[.int .u8 1, .int .u8 0, .int .u8 0, .int .u8 3] 49)
      have HT : Hid (List.replicate (j + 1) B3 = List.replicate j B3 ++ [B3]) := List.replicate_succ'
      go_wp2_with (at_builtin; (refine wpList_append_lies _ rfl _ _ 22 rfl w2.heap.size 49 i3 (.agg #[.int .u8 0, .int .u8 0, .int .u8 0, .int .u8 0]) 4 4 Try.underlying22 g3 g30 g31 g32 rfl (by decide) (.slice al j c) j (btC (List.replicate j B3)) rfl (HG.out.1.alloc _) ⟨W.heap.size, 0, none⟩ 1 1 [.int .u8 1, .int .u8 0, .int .u8 0, .int .u8 3] rfl rfl (World.news_of_block (cs := #[.int .u8 1, .int .u8 0, .int .u8 0, .int .u8 3]) HVA.out.1) (fun u hu => by simp at hu; rcases hu with rfl | rfl | rfl | rfl <;> rfl) (by decide) (by unfold maxLen; omega) (by omega) (by rw [HVA.out.2]; omega) (W.heap.size + 1) HVA.out.2 ?_; intro g5 cap5 w5 hown5 hgrow5 hat5 hlt5; have hoo : Only (fun g => (Value.slice al j c).ownBlock = some g) W w5 := (((Only.refl (fun g => (Value.slice al j c).ownBlock = some g) W).alloc _)).grown hgrow5 (fun k hk => hk); have H5 : Hid (w5.ownsRow w2.heap.size 49 4 (.slice (some ⟨g5, 0, none⟩) (j + 1) cap5) (j + 1) (btC (List.replicate (j + 1) B3)) ∧ Only (fun g => w2.heap.size ≤ g) w2 w5) := ⟨by rw [HT.out, btC_snoc]; exact hown5, HG.out.2.1.trans (hoo.mono (fun g hg => (own_own HG.out.1 hg).1))⟩; clear hown5 hgrow5 hat5 hoo))
      go_roundg (kk - (j + 1))
      case measure => omega
      case rel => exact ⟨j + 1, _, _, _, rfl, rfl, by omega, rfl, by go_num, H5.out.1, H5.out.2⟩
    · have t1 : decide ((j : Int) < (kk : Int)) = false := decide_eq_false (by omega)
      have hjk : j = kk := by omega
      subst hjk
      go_wp2_with fail
      refine Calls.mono (HPA.out _ _ _ (own_vw HG.out.1)) ?_
      rintro e w3 ⟨aC, aO, cC, cO, rfl, hPv, ho3⟩
      have H3 : Hid (Pv w3 C O j (j + 1) aC aO cC cO ∧ Only (fun _ => False) w w3) := ⟨hPv, HG.out.2.2.trans ho3⟩
      clear hPv ho3
      go_wp2_with fail
      refine Calls.mono (HBK.out _ _ _ _ _ H3.out.1) ?_
      rintro e w4 ⟨aL, cL, rfl, hV4, ho4⟩
      have H4 : Hid (Vw w4 aL (lnC Ls) ∧ Only (fun _ => False) w w4) := ⟨hV4, H3.out.2.trans ho4⟩
      clear hV4 ho4
      go_wp2_with fail
      go_loopg [9, 41] nL (fun gh v9 v41 wr => ∃ (i q : Nat) (V : World), V = wr ∧ gh = nL - i ∧ i ≤ nL ∧ q ≤ j ∧ v9 = .int .i64 (q : Int) ∧ v41 = .int .i64 (i : Int) ∧ Ls.drop i = Sp.lines C O 8 w1 q j ∧ Only (fun _ => False) w4 V)
      case atStart => exact ⟨0, 0, _, rfl, rfl, Nat.zero_le _, Nat.zero_le _, rfl, rfl, HLL.out.1, Only.refl _ _⟩
      case round =>
        obtain ⟨i, q, V, hV, rfl, hi, hq, rfl, rfl, hdr, hoV⟩ := hrel
        subst hV
        have HGV : Hid (Ls.drop i = Sp.lines C O 8 w1 q j ∧ Only (fun _ => False) w4 V) := ⟨hdr, hoV⟩
        clear hdr hoV
        by_cases hil : i < nL
        · have t2 : (i : Int) < (nL : Int) := by omega
          obtain ⟨hqj, hat, hnx⟩ := Sp.lines_at HGV.out.1 (by rw [← HLL.out.2]; exact hil)
          obtain ⟨rs, hrs⟩ : ∃ x, x = j - q := ⟨_, rfl⟩
          have e1 : (j : Int) - (q : Int) = (rs : Int) := by omega
          have hrs1 : rs ≤ 100 := by omega
          by_cases hr : rs ≤ w1
          · have hn : Sp.nxt C O 8 w1 q j = (j, 2) := Sp.hy_last HCO.out.1 HCO.out.2 hqj (by omega)
            have hl : Sp.ln C O 8 w1 q j = ⟨q, j, rs, 2⟩ := by unfold Sp.ln; rw [hn]; show (⟨q, j, Sp.wde C 8 q (j) 2, 2⟩ : Ln) = _; rw [Sp.hy_wide HCO.out.1 (by omega) (by omega)]; congr 1; rw [if_neg (by decide)]; omega
            rw [hl] at hat
            rw [hn] at hnx
            have HNX : Hid (Ls.drop (i + 1) = Sp.lines C O 8 w1 (j) j) := hnx
            obtain ⟨g, off, rfl, hg, c0, c1, c2, c3⟩ := (H4.out.1.keep HGV.out.2).line hat
            simp only at c0 c1 c2 c3
            have c3' : V.cell? ⟨g, off + i * 4 + 3, none⟩ = some (.int .u8 2) := c3
            have mn : min (rs : Int) (w1 : Int) = (rs : Int) := by omega
            have t3 : decide ((w1 : Int) < (rs : Int)) = false := decide_eq_false (by omega)
            have t4 : (q : Int) + (rs : Int) = (j : Int) := by omega
            clear hn hl hat hnx hrs c3
            go_wp2_with fail
            go_roundg (nL - (i + 1))
            case measure => omega
            case rel => exact ⟨i + 1, j, _, rfl, rfl, by omega, by omega, rfl, by go_num, HNX.out, HGV.out.2.alloc _⟩
          · have t3 : (w1 : Int) < (rs : Int) := by omega
            have mn : min (rs : Int) (w1 : Int) = (w1 : Int) := by omega
            by_cases hw : w1 = 1
            · have hx1 : ∃ x1, x1 = q + 1 := ⟨_, rfl⟩
              obtain ⟨x1, hx1⟩ := hx1
              have hn : Sp.nxt C O 8 w1 q j = (x1, 4) := by rw [hx1, hw]; exact Sp.hy_one HCO.out.1 HCO.out.2 hqj (by omega)
              have hl : Sp.ln C O 8 w1 q j = ⟨q, x1, 1, 4⟩ := by unfold Sp.ln; rw [hn]; show (⟨q, x1, Sp.wde C 8 q (x1) 4, 4⟩ : Ln) = _; rw [Sp.hy_wide HCO.out.1 (by omega) (by omega)]; congr 1; rw [if_neg (by decide)]; omega
              rw [hl] at hat
              rw [hn] at hnx
              have HNX : Hid (Ls.drop (i + 1) = Sp.lines C O 8 w1 (x1) j) := hnx
              obtain ⟨g, off, rfl, hg, c0, c1, c2, c3⟩ := (H4.out.1.keep HGV.out.2).line hat
              simp only at c0 c1 c2 c3
              have c3' : V.cell? ⟨g, off + i * 4 + 3, none⟩ = some (.int .u8 4) := c3
              have c2' : V.cell? ⟨g, off + i * 4 + 2, none⟩ = some (.int .i64 1) := c2
              have t5 : ((w1 : Int) == 1) = true := by rw [beq_iff_eq]; omega
              have t4 : (q : Int) + 1 = (x1 : Int) := by omega
              have hx3 : x1 ≤ j := by omega
              clear hn hl hat hnx hrs c3 c2 hw hx1
              go_wp2_with fail
              go_roundg (nL - (i + 1))
              case measure => omega
              case rel => exact ⟨i + 1, x1, _, rfl, rfl, by omega, by omega, rfl, by go_num, HNX.out, HGV.out.2.alloc _⟩
            · obtain ⟨wm, hwm⟩ : ∃ x, x = w1 - 1 := ⟨_, rfl⟩
              obtain ⟨x1, hx1⟩ : ∃ x, x = q + wm := ⟨_, rfl⟩
              have hn : Sp.nxt C O 8 w1 q j = (x1, 3) := by rw [hx1, hwm]; exact Sp.hy_mid HCO.out.1 HCO.out.2 hqj (by omega) (by omega)
              have hl : Sp.ln C O 8 w1 q j = ⟨q, x1, w1, 3⟩ := by unfold Sp.ln; rw [hn]; show (⟨q, x1, Sp.wde C 8 q (x1) 3, 3⟩ : Ln) = _; rw [Sp.hy_wide HCO.out.1 (by omega) (by omega)]; congr 1; rw [if_pos rfl]; omega
              rw [hl] at hat
              rw [hn] at hnx
              have HNX : Hid (Ls.drop (i + 1) = Sp.lines C O 8 w1 (x1) j) := hnx
              obtain ⟨g, off, rfl, hg, c0, c1, c2, c3⟩ := (H4.out.1.keep HGV.out.2).line hat
              simp only at c0 c1 c2 c3
              have c3' : V.cell? ⟨g, off + i * 4 + 3, none⟩ = some (.int .u8 3) := c3
              have t5 : ((w1 : Int) == 1) = false := by rw [beq_eq_false_iff_ne]; omega
              have t6 : (w1 : Int) - 1 = (wm : Int) := by omega
              have t7 : (wm : Int) + 1 = (w1 : Int) := by omega
              have t4 : (q : Int) + (wm : Int) = (x1 : Int) := by omega
              have hx3 : x1 ≤ j := by omega
              have hwm2 : wm ≤ 20 := by omega
              clear hn hl hat hnx hrs c3 hw hx1 hwm
              go_wp2_with fail
              go_roundg (nL - (i + 1))
              case measure => omega
              case rel => exact ⟨i + 1, x1, _, rfl, rfl, by omega, by omega, rfl, by go_num, HNX.out, HGV.out.2.alloc _⟩
        · have t2 : decide ((i : Int) < (nL : Int)) = false := decide_eq_false (by omega)
          have hend := Sp.lines_end HGV.out.1 (by rw [← HLL.out.2]; omega)
          have hqj : q = j := by omega
          subst hqj
          go_wp2_with fail
          go_ret
          exact ⟨by simp, H4.out.2.trans HGV.out.2⟩
theorem walk (a b : Int) (w : World) (ha : 0 ≤ a ∧ a ≤ 255) (hb : 0 ≤ b ∧ b ≤ 255) : Calls Try.prog 7 #[.int .u8 a, .int .u8 b] w fun e w' => e = .returned (.bool true) ∧ Only (fun _ => False) w w' := by
  obtain ⟨na, rfl⟩ : ∃ n : Nat, a = (n : Int) := ⟨a.toNat, by omega⟩
  obtain ⟨nb, rfl⟩ : ∃ n : Nat, b = (n : Int) := ⟨b.toNat, by omega⟩
  exact walk1 na nb w (by omega) (by omega)
end Go.Proofs.Ytjahocnkpomlpaa.firstHyphens

