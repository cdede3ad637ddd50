/-
  stanzaref04.Ends: a class of a set.
-/
import Derived.Test.YtfbcijnacbfjpaaEn4z
import Derived.Deep.RegionHeld3
import Derived.BigRegion
import Derived.BigQuiet
namespace Go.Proofs.Ytfbcijnacbfjpaa
open Go.RowKit Go.Maps
set_option linter.unusedVariables false
set_option linter.unusedSimpArgs false
open Rl (Ex)
theorem Iw.at {w : World} {a : Option Addr} {L : Nat} {C : List Int} (h : Iw w a L C) {i : Nat} (hi : i < L) : ∃ b off x, a = some ⟨b, off, none⟩ ∧ b < w.heap.size ∧ C[i]? = some x ∧ ∀ W, Only (fun _ => False) w W → W.cell? ⟨b, off + i, none⟩ = some (.int .i64 x) := by
  obtain ⟨hl, b, off, h1, h2⟩ := h
  obtain ⟨x, hx⟩ : ∃ x, C[i]? = some x := ⟨_, List.getElem?_eq_getElem (by omega)⟩
  refine ⟨b, off, x, (h1 (by omega)).1, (h1 (by omega)).2, hx, fun W ho => ?_⟩
  exact (World.cell?_of_block (a := ⟨b, off + i, none⟩) (ho.block b (h1 (by omega)).2 (fun h => h))).trans (h2 i x hx)
theorem tmod2 {s : Int} {k : Nat} (h : 0 ≤ s) : (s / 2 ^ k).tmod 2 = s / 2 ^ k % 2 := Int.tmod_eq_emod_of_nonneg (Int.ediv_nonneg h (Int.pow_nonneg (by decide)))
theorem bA_low0 {n x i : Nat} (h : x.testBit i = false) : (bA n x).setIfInBounds i (.bool false) = bA n x := bA_setb false (fun _ _ _ => rfl) (fun _ => h)
theorem Au.sh_top (C : List Int) (set : Int) (s k : Nat) : (Au.sh C set s k).testBit (k + 1) = false := by
  cases h : (Au.sh C set s k).testBit (k + 1) with
  | false => rfl
  | true =>
    obtain ⟨i, h1, _, h2, _⟩ := (Au.sh_bit C set s k (k + 1)).1 h
    omega
set_option maxRecDepth 100000 in
set_option maxHeartbeats 8000000 in
theorem end_set (C : List Int) (set : Int) (K : Nat) (a : Option Addr) (c : Nat) (w : World) (aC : Option Addr) (L cC n fb fc s : Nat) (h0 : 0 ≤ set) (h1 : set < 4294967296)
    (hI : Iw w aC L C) (hnL : n = L + 1) (hn : n ≤ 200) (hB : Bn w fb n s) (hs : s < 2 ^ n) :
    Calls Try.prog 33 #[.agg #[.int .u8 1, .int .u32 set, .slice a K c], .slice aC L cC, .slice (some ⟨fb, 0, none⟩) n fc] w fun e' w' => ∃ rb, e' = .returned (.slice (some ⟨rb, 0, none⟩) n n) ∧ Bk w' rb n (Au.sh C set s L) ∧ w.heap.size ≤ rb ∧ Only (fun _ => False) w w' := by
  have HI : Hid (Iw w aC L C) := hI
  have HB : Hid (Bn w fb n s) := hB
  have HE : Hid (Bk ((w.alloc (.cells #[.int .u8 1, .int .u32 set, .slice a K c] 49)).alloc (.cells (madeCells #[.bool false] n) 4)) (w.heap.size + 1) n 0) := bk_made _ _ _
  have HX : Hid (((w.alloc (.cells #[.int .u8 1, .int .u32 set, .slice a K c] 49)).alloc (.cells (madeCells #[.bool false] n) 4)).heap[w.heap.size]? = some (.cells #[.int .u8 1, .int .u32 set, .slice a K c] 49 (0, 0))) := bx_made _ _ _
  have HNL : Hid (n = L + 1) := hnL
  clear hI hB hs hnL
  have hmk := fun (w : World) => run_make_row' (P := Try.prog) 86 4 (.bool false) 1 Try.underlying86 info4 rfl .i64 .i64 n (by omega) (by omega) w
  go_enter Try.func33, Try.ntmps33
  go_wp2_with fail
  clear hmk
  go_loopg [8] L (fun gh vi wr => ∃ (i : Nat) (W : World), W = wr ∧ gh = L - i ∧ i ≤ L ∧ vi = .int .i64 (i : Int) ∧ Bk W (w.heap.size + 1) n (Au.sh C set s i) ∧ W.heap[w.heap.size]? = some (.cells #[.int .u8 1, .int .u32 set, .slice a K c] 49 (0, 0)) ∧ Only (fun _ => False) w W)
  case atStart => exact ⟨0, _, rfl, rfl, Nat.zero_le _, rfl, HE.out, HX.out, ((Only.refl _ _).alloc _).alloc _⟩
  case round =>
    obtain ⟨i, W, hW, rfl, hi, rfl, hb, hx, ho⟩ := hrel
    subst hW
    have HB2 : Hid (Bk W (w.heap.size + 1) n (Au.sh C set s i)) := hb
    have HX2 : Hid (W.heap[w.heap.size]? = some (.cells #[.int .u8 1, .int .u32 set, .slice a K c] 49 (0, 0))) := hx
    have HO : Hid (Only (fun _ => False) w W) := ho
    have e1 : W.cell? ⟨w.heap.size, 1, none⟩ = some (.int .u32 set) := cell_blk hx
    have el : w.heap.size < W.heap.size := (Array.getElem?_eq_some_iff.1 hx).1
    have el2 : w.heap.size + 1 < W.heap.size := hb.lt
    have hfz := hb.fz (i + 1)
    clear hb hx ho
    have hnL := HNL.out
    by_cases hlt : i < L
    · have t1 : (i : Int) + 1 < (n : Int) := by omega
      have i1 : i < n := by omega
      have i2 : i + 1 < n := by omega
      obtain ⟨cb, co, x, rfl, hcl, hCx, hcell⟩ := HI.out.at hlt
      have hc := hcell W HO.out
      have k1 := (HB.out.keep HO.out).2 i i1
      have k3 := HB2.out.cell (i + 1) i2
      have lf := (HB.out.keep HO.out).1
      have hne1 : ¬ fb = w.heap.size + 1 := by have := HB.out.1; omega
      have hne2 : ¬ cb = w.heap.size + 1 := by omega
      have hne3 : ¬ w.heap.size + 1 = fb := by omega
      have hne4 : ¬ w.heap.size + 1 = cb := by omega
      have hnw : w.heap.size ≤ w.heap.size + 1 := Nat.le_succ _
      have hnb : w.heap.size ≠ w.heap.size + 1 := by omega
      have lc : cb < W.heap.size := Nat.lt_of_lt_of_le hcl HO.out.size
      have HCX : Hid (C[i]? = some x) := hCx
      clear hcell hCx hnL
      cases hx : s.testBit i with
      | false =>
        rw [hx] at k1
        have HSX : Hid (s.testBit i = false) := hx
        clear hx
        have HH : Hid (¬ (s.testBit i = true ∧ Au.hit C set i)) := fun h => by rw [HSX.out] at h; cases h.1
        have HSET : Hid (Bk (W.setCell ⟨w.heap.size + 1, i + 1, none⟩ (.bool false)) (w.heap.size + 1) n (Au.sh C set s (i + 1))) := HB2.out.setb false (by rw [Au.sh_no HH.out]; exact bA_low0 (Au.sh_top C set s i))
        have HBX : Hid ((W.setCell ⟨w.heap.size + 1, i + 1, none⟩ (.bool false)).heap[w.heap.size]? = some (.cells #[.int .u8 1, .int .u32 set, .slice a K c] 49 (0, 0))) := (Below.heap_setCell _ _ _ _ hnb).trans HX2.out
        go_wp2_with fail
        go_region
        all_goals
          go_wp2_with fail
          go_roundg (L - (i + 1))
          case measure => omega
          case rel => exact ⟨i + 1, _, rfl, rfl, by omega, by go_num, HSET.out, HBX.out, (HO.out.setNew hnw _).drew⟩
      | true =>
        rw [hx] at k1
        have HSX : Hid (s.testBit i = true) := hx
        clear hx
        by_cases hx0 : 0 ≤ x
        · by_cases hx32 : x < 32
          · by_cases hbit : set / 2 ^ x.toNat % 2 = 1
            · have HH : Hid (s.testBit i = true ∧ Au.hit C set i) := ⟨HSX.out, (Au.hit_iff _ _ _).2 ⟨x, HCX.out, hx0, hx32, hbit⟩⟩
              have HSET : Hid (Bk (W.setCell ⟨w.heap.size + 1, i + 1, none⟩ (.bool true)) (w.heap.size + 1) n (Au.sh C set s (i + 1))) := HB2.out.setb true (by rw [Au.sh_yes HH.out]; exact bA_or _ _ _)
              have HBX : Hid ((W.setCell ⟨w.heap.size + 1, i + 1, none⟩ (.bool true)).heap[w.heap.size]? = some (.cells #[.int .u8 1, .int .u32 set, .slice a K c] 49 (0, 0))) := (Below.heap_setCell _ _ _ _ hnb).trans HX2.out
              have tb : ((set / 2 ^ x.toNat).tmod 2 == 1) = true := by rw [tmod2 h0, hbit]; rfl
              clear hbit
              go_wp2_with fail
              go_region
              all_goals
                go_wp2_with fail
                go_roundg (L - (i + 1))
                case measure => omega
                case rel => exact ⟨i + 1, _, rfl, rfl, by omega, by go_num, HSET.out, HBX.out, (HO.out.setNew hnw _).drew⟩
            · have HH : Hid (¬ (s.testBit i = true ∧ Au.hit C set i)) := fun h => by
                obtain ⟨c, hc, h1, h2, h3⟩ := (Au.hit_iff _ _ _).1 h.2
                rw [HCX.out] at hc
                injection hc with hc
                subst hc
                exact hbit h3
              have HSET : Hid (Bk (W.setCell ⟨w.heap.size + 1, i + 1, none⟩ (.bool false)) (w.heap.size + 1) n (Au.sh C set s (i + 1))) := HB2.out.setb false (by rw [Au.sh_no HH.out]; exact bA_low0 (Au.sh_top C set s i))
              have HBX : Hid ((W.setCell ⟨w.heap.size + 1, i + 1, none⟩ (.bool false)).heap[w.heap.size]? = some (.cells #[.int .u8 1, .int .u32 set, .slice a K c] 49 (0, 0))) := (Below.heap_setCell _ _ _ _ hnb).trans HX2.out
              have tb : ((set / 2 ^ x.toNat).tmod 2 == 1) = false := by rw [tmod2 h0]; exact beq_eq_false_iff_ne.2 hbit
              clear hbit
              go_wp2_with fail
              go_region
              all_goals
                go_wp2_with fail
                go_roundg (L - (i + 1))
                case measure => omega
                case rel => exact ⟨i + 1, _, rfl, rfl, by omega, by go_num, HSET.out, HBX.out, (HO.out.setNew hnw _).drew⟩
          · have HH : Hid (¬ (s.testBit i = true ∧ Au.hit C set i)) := fun h => by
              obtain ⟨c, hc, h1, h2, h3⟩ := (Au.hit_iff _ _ _).1 h.2
              rw [HCX.out] at hc
              injection hc with hc
              subst hc
              exact hx32 h2
            have HSET : Hid (Bk (W.setCell ⟨w.heap.size + 1, i + 1, none⟩ (.bool false)) (w.heap.size + 1) n (Au.sh C set s (i + 1))) := HB2.out.setb false (by rw [Au.sh_no HH.out]; exact bA_low0 (Au.sh_top C set s i))
            have HBX : Hid ((W.setCell ⟨w.heap.size + 1, i + 1, none⟩ (.bool false)).heap[w.heap.size]? = some (.cells #[.int .u8 1, .int .u32 set, .slice a K c] 49 (0, 0))) := (Below.heap_setCell _ _ _ _ hnb).trans HX2.out
            have q2 : decide (x < 32) = false := decide_eq_false hx32
            clear hx32
            go_wp2_with fail
            go_region
            all_goals
              go_wp2_with fail
              go_roundg (L - (i + 1))
              case measure => omega
              case rel => exact ⟨i + 1, _, rfl, rfl, by omega, by go_num, HSET.out, HBX.out, (HO.out.setNew hnw _).drew⟩
        · have HH : Hid (¬ (s.testBit i = true ∧ Au.hit C set i)) := fun h => by
            obtain ⟨c, hc, h1, h2, h3⟩ := (Au.hit_iff _ _ _).1 h.2
            rw [HCX.out] at hc
            injection hc with hc
            subst hc
            exact hx0 h1
          have HSET : Hid (Bk (W.setCell ⟨w.heap.size + 1, i + 1, none⟩ (.bool false)) (w.heap.size + 1) n (Au.sh C set s (i + 1))) := HB2.out.setb false (by rw [Au.sh_no HH.out]; exact bA_low0 (Au.sh_top C set s i))
          have HBX : Hid ((W.setCell ⟨w.heap.size + 1, i + 1, none⟩ (.bool false)).heap[w.heap.size]? = some (.cells #[.int .u8 1, .int .u32 set, .slice a K c] 49 (0, 0))) := (Below.heap_setCell _ _ _ _ hnb).trans HX2.out
          have q1 : decide (0 ≤ x) = false := decide_eq_false hx0
          clear hx0
          go_wp2_with fail
          go_region
          all_goals
            go_wp2_with fail
            go_roundg (L - (i + 1))
            case measure => omega
            case rel => exact ⟨i + 1, _, rfl, rfl, by omega, by go_num, HSET.out, HBX.out, (HO.out.setNew hnw _).drew⟩
    · have t2 : decide ((i : Int) + 1 < (n : Int)) = false := decide_eq_false (by omega)
      obtain rfl : i = L := by omega
      clear hnL
      go_wp2_with fail
      · exfalso
        have h9 := HNL.out
        have hw : wrap64 ((i : Int) + 1) = (i : Int) + 1 := by unfold wrap64; omega
        omega
      go_ret
      exact ⟨w.heap.size + 1, rfl, HB2.out, by omega, HO.out⟩
theorem iwlen {w : World} {a : Option Addr} {L : Nat} {C : List Int} (h : Iw w a L C) : C.length = L := h.1
theorem end_nil (op : Int) (hop : op = 4 ∨ op = 6) (set : Int) (a : Option Addr) (c : Nat) (w : World) (aC : Option Addr) (L cC n fb fc s : Nat) (hn : n ≤ 200) (hB : Bn w fb n s) :
    Calls Try.prog 33 #[.agg #[.int .u8 op, .int .u32 set, .slice a 0 c], .slice aC L cC, .slice (some ⟨fb, 0, none⟩) n fc] w fun e' w' => ∃ rb, e' = .returned (.slice (some ⟨rb, 0, none⟩) n n) ∧ Bk w' rb n s ∧ w.heap.size ≤ rb ∧ Only (fun _ => False) w w' := by
  have hmk := fun (w : World) => run_make_row' (P := Try.prog) 86 4 (.bool false) 1 Try.underlying86 info4 rfl .i64 .i64 n (by omega) (by omega) w
  obtain ⟨W, hcp, hg, hO, hbx, hsz⟩ := copied w (.cells #[.int .u8 op, .int .u32 set, .slice a 0 c] 49) n fb fc s hB
  have HG : Hid (Bk W (w.heap.size + 1) n s) := hg
  have HO : Hid (Only (fun _ => False) w W) := hO
  have e0 : W.cell? ⟨w.heap.size, 0, none⟩ = some (.int .u8 op) := cell_blk hbx
  have e2 : W.cell? ⟨w.heap.size, 2, none⟩ = some (.slice a 0 c) := cell_blk hbx
  have el : w.heap.size < W.heap.size := by omega
  clear hg hO hbx hB hsz
  rcases hop with rfl | rfl
  all_goals
    go_enter Try.func33, Try.ntmps33
    go_wp2_with fail
    go_ret
    exact ⟨w.heap.size + 1, rfl, HG.out, by omega, HO.out⟩
theorem end_nil5 (set : Int) (a : Option Addr) (c : Nat) (w : World) (aC : Option Addr) (L cC n fb fc : Nat) (hn : n ≤ 200) :
    Calls Try.prog 33 #[.agg #[.int .u8 5, .int .u32 set, .slice a 0 c], .slice aC L cC, .slice (some ⟨fb, 0, none⟩) n fc] w fun e' w' => ∃ rb, e' = .returned (.slice (some ⟨rb, 0, none⟩) n n) ∧ Bk w' rb n 0 ∧ w.heap.size ≤ rb ∧ Only (fun _ => False) w w' := by
  have hmk := fun (w : World) => run_make_row' (P := Try.prog) 86 4 (.bool false) 1 Try.underlying86 info4 rfl .i64 .i64 n (by omega) (by omega) w
  go_enter Try.func33, Try.ntmps33
  go_wp2_with fail
  go_ret
  exact ⟨w.heap.size + 1, rfl, bk_made _ _ _, by omega, ((Only.refl _ _).alloc _).alloc _⟩
theorem ends_any (C : List Int) (e : Ex) : EndOk C e := by
  refine Ex.rec (motive_1 := fun e => EndOk C e) (motive_2 := fun es => ∀ k ∈ es, EndOk C k) ?_ ?_ ?_ e
  · intro op set kids ih F v w aC L cC n fb fc s hT hN hI hnL hn hB hs
    obtain ⟨a, cap, rfl, hs0, hs1, hL⟩ := hT.kids
    have hNN := hN
    unfold Nn at hNN
    obtain ⟨hop, hNs⟩ := hNN
    have hlen := iwlen hI
    have hle : ∀ R, Au.Img (Au.mt C (.mk op set kids)) s R → R < 2 ^ n := fun R h => Au.img_lt h hs (fun i j hm hi => by
      have := (Au.mt_le C _ i j hm).2
      omega)
    by_cases h1 : op = 1
    · subst h1
      refine Calls.mono (end_set C set kids.length a cap w aC L cC n fb fc s hs0 hs1 hI hnL hn hB hs) ?_
      rintro e w' ⟨rb, rfl, h1, h2, h3⟩
      have him : Au.Img (Au.mt C (.mk 1 set kids)) s (Au.sh C set s L) := by
        rw [← hlen]
        exact (Au.sh_img C set s (by rw [hlen, ← hnL]; exact hs)).congr (fun i j => by simp [Au.mt])
      exact ⟨rb, _, rfl, h1, hle _ him, him, h2, h3⟩
    by_cases h2 : op = 2
    · subst h2
      refine Calls.mono (end_seq C F set kids a cap w aC L cC n fb fc s ih hL hNs hI hnL hn hB hs) ?_
      rintro e w' ⟨rb, R, rfl, h1, h2, h3, h4⟩
      exact ⟨rb, R, rfl, h1, h2, h3.congr (fun i j => by simp [Au.mt]), h4⟩
    by_cases h3 : op = 3
    · subst h3
      refine Calls.mono (end_alt C F set kids a cap w aC L cC n fb fc s ih hL hNs hI hnL hn hB hs) ?_
      rintro e w' ⟨rb, R, rfl, h1, h2, h3, h4⟩
      exact ⟨rb, R, rfl, h1, h2, h3.congr (fun i j => by simp [Au.mt]), h4⟩
    by_cases h456 : op = 4 ∨ op = 5 ∨ op = 6
    · cases hk : kids with
      | nil =>
        subst hk
        rcases h456 with rfl | rfl | rfl
        · refine Calls.mono (end_nil 4 (Or.inl rfl) set a cap w aC L cC n fb fc s hn hB) ?_
          rintro e w' ⟨rb, rfl, h1, h2⟩
          refine ⟨rb, s, rfl, h1, hs, (Au.Img.id s).congr (fun i j => ?_), h2⟩
          simp only [Au.mt, show ¬ (4 : Int) = 1 by decide, show ¬ (4 : Int) = 2 by decide, show ¬ (4 : Int) = 3 by decide, if_false, if_true]
          constructor
          · rintro rfl; exact .refl i
          · intro h
            cases h with
            | refl => rfl
            | step _ h => simp only [Au.mt1] at h
        · refine Calls.mono (end_nil5 set a cap w aC L cC n fb fc hn) ?_
          rintro e w' ⟨rb, rfl, h1, h2⟩
          refine ⟨rb, 0, rfl, h1, Nat.two_pow_pos n, (Au.Img.none s).congr (fun i j => ?_), h2⟩
          simp [Au.mt, Au.mt1]
        · refine Calls.mono (end_nil 6 (Or.inr rfl) set a cap w aC L cC n fb fc s hn hB) ?_
          rintro e w' ⟨rb, rfl, h1, h2⟩
          refine ⟨rb, s, rfl, h1, hs, (Au.Img.id s).congr (fun i j => ?_), h2⟩
          simp [Au.mt, Au.mt1]
      | cons kd ks =>
        have h0 : kids[0]? = some kd := by rw [hk]; rfl
        have hkd : EndOk C kd := ih kd (by rw [hk]; exact List.mem_cons_self ..)
        have hnk : Nn kd := Nns.at hNs h0
        have hm1 : Au.mt1 C kids = Au.mt C kd := mt1_at h0
        rw [← hk]
        rcases h456 with rfl | rfl | rfl
        · refine Calls.mono (end_star C F set kids kd a cap w aC L cC n fb fc s hkd hL hnk h0 hI hnL hn hB hs) ?_
          rintro e w' ⟨rb, R, rfl, h1, h2, h3, h4⟩
          exact ⟨rb, R, rfl, h1, h2, h3.congr (fun i j => by simp [Au.mt, hm1]), h4⟩
        · refine Calls.mono (end_plus C F set kids kd a cap w aC L cC n fb fc s hkd hL hnk h0 hI hnL hn hB hs) ?_
          rintro e w' ⟨rb, R, rfl, h1, h2, h3, h4⟩
          exact ⟨rb, R, rfl, h1, h2, h3.congr (fun i j => by simp [Au.mt, hm1]), h4⟩
        · refine Calls.mono (end_opt C F set kids kd a cap w aC L cC n fb fc s hkd hL hnk h0 hI hnL hn hB hs) ?_
          rintro e w' ⟨rb, R, rfl, h1, h2, h3, h4⟩
          exact ⟨rb, R, rfl, h1, h2, h3.congr (fun i j => by simp [Au.mt, hm1]), h4⟩
    · refine Calls.mono (end_other op set kids.length a cap w aC L cC n fb fc s hn hB (by omega)) ?_
      rintro e w' ⟨rb, rfl, g1, g2⟩
      refine ⟨rb, s, rfl, g1, hs, (Au.Img.id s).congr (fun i j => ?_), g2⟩
      simp only [Au.mt]
      rw [if_neg h1, if_neg h2, if_neg h3, if_neg (by omega), if_neg (by omega), if_neg (by omega)]
  · intro k hk
    cases hk
  · intro e es he ih k hk
    rcases List.mem_cons.1 hk with rfl | hk
    · exact he
    · exact ih k hk
end Go.Proofs.Ytfbcijnacbfjpaa
namespace Go.Proofs.Ytfbcijnacbfjpaa
open Go.RowKit Go.Maps
set_option linter.unusedVariables false
set_option linter.unusedSimpArgs false
open Rl (Ex)
theorem ones_lt (i n : Nat) (h : i ≤ n) : 2 ^ i - 1 < 2 ^ n := by
  have := Nat.two_pow_pos i
  have := Au.pow_le h
  omega
theorem ones_set (n i : Nat) : (bA n (2 ^ i - 1)).setIfInBounds i (.bool true) = bA n (2 ^ (i + 1) - 1) := by
  apply bA_setb
  · intro j hj hn
    rw [Nat.testBit_two_pow_sub_one, Nat.testBit_two_pow_sub_one]
    apply decide_eq_decide.2
    omega
  · intro _
    rw [Nat.testBit_two_pow_sub_one]
    simp
theorem bk_one (w : World) (o : Obj) (n : Nat) : Bk ((w.alloc o).alloc (.cells (madeCells #[.bool false] n) 4)) (w.heap.size + 1) n (2 ^ 0 - 1) := bk_made w o n
set_option maxRecDepth 100000 in
set_option maxHeartbeats 4000000 in
theorem endsSo_any (C : List Int) (e : Ex) (F : Nat → Prop) (op set : Int) (a : Option Addr) (m c : Nat) (w : World) (aC : Option Addr) (L cC : Nat) (hT : Te w F e (.agg #[.int .u8 op, .int .u32 set, .slice a m c])) (hN : Nn e) (hI : Iw w aC L C) (hL : L ≤ 199) :
    Calls Try.prog 16 #[.agg #[.int .u8 op, .int .u32 set, .slice a m c], .slice aC L cC] w fun e' w' => ∃ b, e' = .returned (.bool b) ∧ (b = true ↔ ∃ i, Au.mt C e i C.length) ∧ Only (fun _ => False) w w' := by
  have HT : Hid (Te w F e (.agg #[.int .u8 op, .int .u32 set, .slice a m c])) := hT
  have HN : Hid (Nn e) := hN
  have HI : Hid (Iw w aC L C) := hI
  obtain ⟨n, hn⟩ : ∃ n, n = L + 1 := ⟨_, rfl⟩
  have HNL : Hid (n = L + 1) := hn
  have hn2 : n ≤ 200 := by omega
  have hnI : wrap64 ((L : Int) + 1) = (n : Int) := by unfold wrap64; omega
  have hnJ : IntKind.i64.wrap ((L : Int) + 1) = (n : Int) := by rw [hn]; push_cast; exact wrap_small _ (by omega) (by omega)
  have hLn : (L : Int) < (n : Int) := by omega
  have HB0 : Hid (Bk ((w.alloc (.cells #[.int .u8 op, .int .u32 set, .slice a m c] 49)).alloc (.cells (madeCells #[.bool false] n) 4)) (w.heap.size + 1) n (2 ^ 0 - 1)) := bk_one _ _ _
  have HX0 : Hid (((w.alloc (.cells #[.int .u8 op, .int .u32 set, .slice a m c] 49)).alloc (.cells (madeCells #[.bool false] n) 4)).heap[w.heap.size]? = some (.cells #[.int .u8 op, .int .u32 set, .slice a m c] 49 (0, 0))) := bx_made _ _ _
  clear hT hN hI hn
  have hmk := fun (w : World) => run_make_row' (P := Try.prog) 86 4 (.bool false) 1 Try.underlying86 info4 rfl .i64 .i64 n (by omega) (by omega) w
  go_enter Try.func16, Try.ntmps16
  go_wp2_with fail
  clear hmk
  go_loopg [6] n (fun gh vi wr => ∃ (i : Nat) (W : World), W = wr ∧ gh = n - i ∧ i ≤ n ∧ vi = .int .i64 (i : Int) ∧ Bk W (w.heap.size + 1) n (2 ^ i - 1) ∧ W.heap[w.heap.size]? = some (.cells #[.int .u8 op, .int .u32 set, .slice a m c] 49 (0, 0)) ∧ Only (fun _ => False) w W)
  case atStart => exact ⟨0, _, rfl, rfl, Nat.zero_le _, rfl, HB0.out, HX0.out, ((Only.refl _ _).alloc _).alloc _⟩
  case round =>
    obtain ⟨i, W, hW, rfl, hi, rfl, hb, hx, ho⟩ := hrel
    subst hW
    have HB : Hid (Bk W (w.heap.size + 1) n (2 ^ i - 1)) := hb
    have HX : Hid (W.heap[w.heap.size]? = some (.cells #[.int .u8 op, .int .u32 set, .slice a m c] 49 (0, 0))) := hx
    have HO : Hid (Only (fun _ => False) w W) := ho
    have e0 : W.cell? ⟨w.heap.size, 0, none⟩ = some (.int .u8 op) := cell_blk hx
    have e1 : W.cell? ⟨w.heap.size, 1, none⟩ = some (.int .u32 set) := cell_blk hx
    have e2 : W.cell? ⟨w.heap.size, 2, none⟩ = some (.slice a m c) := cell_blk hx
    have el : w.heap.size < W.heap.size := (Array.getElem?_eq_some_iff.1 hx).1
    have el2 : w.heap.size + 1 < W.heap.size := hb.lt
    have hfz := hb.fz i
    have hnb : w.heap.size ≠ w.heap.size + 1 := by omega
    clear hb hx ho
    by_cases hlt : i < n
    · have t1 : (i : Int) < (n : Int) := by omega
      have k3 := HB.out.cell i hlt
      go_wp2_with fail
      go_roundg (n - (i + 1))
      case measure => omega
      case rel => exact ⟨i + 1, _, rfl, rfl, by omega, by go_num, HB.out.setb true (ones_set n i), (Below.heap_setCell _ _ _ _ hnb).trans HX.out, HO.out.setNew (Nat.le_succ _) _⟩
    · have t2 : decide ((i : Int) < (n : Int)) = false := decide_eq_false (by omega)
      obtain rfl : i = n := by omega
      have HC : Hid (Calls Try.prog 33 #[.agg #[.int .u8 op, .int .u32 set, .slice a m c], .slice aC L cC, .slice (some ⟨w.heap.size + 1, 0, none⟩) i i] W fun e' w' => ∃ rb R, e' = .returned (.slice (some ⟨rb, 0, none⟩) i i) ∧ Bk w' rb i R ∧ R < 2 ^ i ∧ Au.Img (Au.mt C e) (2 ^ i - 1) R ∧ W.heap.size ≤ rb ∧ Only (fun _ => False) W w') :=
        ends_any C e F _ W aC L cC i (w.heap.size + 1) i (2 ^ i - 1) (Te.keep (Kp.only HO.out (fun b hb h => h)) (fun _ h => h) _ _ HT.out) HN.out (HI.out.keep HO.out) HNL.out hn2 HB.out.bn (ones_lt i i (Nat.le_refl _))
      go_wp2_with (go_at_call 33; refine Calls.mono HC.out ?_; rintro e w2 ⟨rb, R, rfl, hb2, hl2, hi2, hn2, ho2⟩; have hc2 := hb2.cell L (by have := HNL.out; omega); have hlb := hb2.lt; have HI2 : Hid (Au.Img (Au.mt C e) (2 ^ i - 1) R) := hi2; have HO2 : Hid (Only (fun _ => False) w w2) := HO.out.trans ho2; clear hb2 hl2 hi2 hn2 ho2)
      go_ret
      refine ⟨_, rfl, ?_, HO2.out⟩
      rw [HI.out.1, HI2.out L]
      constructor
      · rintro ⟨j, _, h⟩
        exact ⟨j, h⟩
      · rintro ⟨j, h⟩
        refine ⟨j, ?_, h⟩
        have := (Au.mt_le C e j L h).1
        have := HNL.out
        rw [Nat.testBit_two_pow_sub_one]
        exact decide_eq_true (by omega)
end Go.Proofs.Ytfbcijnacbfjpaa
