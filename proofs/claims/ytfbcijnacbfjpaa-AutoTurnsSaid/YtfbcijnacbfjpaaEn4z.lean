/-
  stanzaref04.Ends: again and again; at will.
-/
import Derived.Test.YtfbcijnacbfjpaaEn3z
namespace Go.Proofs.Ytfbcijnacbfjpaa
open Go.RowKit Go.Maps
set_option linter.unusedVariables false
set_option linter.unusedSimpArgs false
open Rl (Ex)
theorem or_gt {R X j : Nat} (h : X.testBit j = true) (k : R.testBit j = false) : R < R ||| X := by
  have h1 : R ≤ R ||| X := Nat.left_le_or
  have h2 : R ≠ R ||| X := fun e => by
    rw [e, Nat.testBit_or, h, Bool.or_true] at k
    cases k
  omega
/-- the first kid, in every world to come. -/
structure Kd (w : World) (F : Nat → Prop) (kd : Ex) (kb ko : Nat) (op set : Int) (a : Option Addr) (n c : Nat) : Prop where
  all : ∀ W, Only (fun _ => False) w W → W.cell? ⟨kb, ko, none⟩ = some (.int .u8 op) ∧ W.cell? ⟨kb, ko + 1, none⟩ = some (.int .u32 set) ∧ W.cell? ⟨kb, ko + 2, none⟩ = some (.slice a n c) ∧ kb < W.heap.size ∧ Te W F kd (.agg #[.int .u8 op, .int .u32 set, .slice a n c])
theorem kid0 {w : World} {F : Nat → Prop} {kids : List Ex} {a : Option Addr} {c : Nat} (hL : Lf w F kids a c) {kd : Ex} (hi : kids[0]? = some kd) : ∃ kb ko op set a' n' c', a = some ⟨kb, ko, none⟩ ∧ Kd w F kd kb ko op set a' n' c' := by
  obtain ⟨kb, ko, op, set, a', n', c', h1, h2, h3, h4, h5, h6⟩ := kid_at0 hL (Only.refl _ w) hi
  rw [Nat.zero_mul, Nat.add_zero] at h3 h4 h5
  refine ⟨kb, ko, op, set, a', n', c', h1, ⟨fun W ho => ⟨?_, ?_, ?_, Nat.lt_of_lt_of_le h2 ho.size, Te.keep (Kp.only ho (fun b hb h => h)) (fun _ h => h) _ _ h6⟩⟩⟩
  · exact (World.cell?_of_block (a := ⟨kb, ko, none⟩) (ho.block _ h2 (fun h => h))).trans h3
  · exact (World.cell?_of_block (a := ⟨kb, ko + 1, none⟩) (ho.block _ h2 (fun h => h))).trans h4
  · exact (World.cell?_of_block (a := ⟨kb, ko + 2, none⟩) (ho.block _ h2 (fun h => h))).trans h5
theorem mt1_at {C : List Int} {kids : List Ex} {kd : Ex} (h : kids[0]? = some kd) : Au.mt1 C kids = Au.mt C kd := by
  cases kids with
  | nil => simp at h
  | cons k ks =>
    simp only [List.getElem?_cons_zero, Option.some.injEq] at h
    subst h
    funext i j
    simp only [Au.mt1]
def Pls (M : Nat → Nat → Prop) (s X : Nat) : Prop := ∀ j, X.testBit j = true → ∃ i m, s.testBit i = true ∧ Au.Rt M i m ∧ M m j
def Sts (s X : Nat) : Prop := ∀ j, s.testBit j = true → X.testBit j = true
theorem Pls.or {M : Nat → Nat → Prop} {s X Y : Nat} (h : Pls M s X) (k : Pls M s Y) : Pls M s (X ||| Y) := fun j hj => by
  rw [Nat.testBit_or, Bool.or_eq_true] at hj
  exact hj.elim (h j) (k j)
theorem Pls.more {M : Nat → Nat → Prop} {s out next nx2 : Nat} (h : Au.Clo M s out next) (k : Au.Img M (out ||| next) nx2) : Pls M s nx2 := fun j hj => by
  obtain ⟨m, a, b⟩ := (k j).1 hj
  obtain ⟨i, c, d⟩ := h.so m a
  exact ⟨i, m, c, d, b⟩
theorem Pls.first {M : Nat → Nat → Prop} {s next : Nat} (k : Au.Img M s next) : Pls M s next := fun j hj => by
  obtain ⟨i, a, b⟩ := (k j).1 hj
  exact ⟨i, i, a, .refl i, b⟩
theorem sub_of {R X n : Nat} (hX : X < 2 ^ n) (h : ¬ ∃ j, j < n ∧ X.testBit j = true ∧ R.testBit j = false) : ∀ j, X.testBit j = true → R.testBit j = true := fun j hj => by
  have hjn : j < n := Classical.byContradiction fun hn => by
    rw [Nat.testBit_lt_two_pow (Nat.lt_of_lt_of_le hX (Nat.pow_le_pow_right (by decide) (by omega)))] at hj
    cases hj
  cases hr : R.testBit j with
  | true => rfl
  | false => exact (h ⟨j, hjn, hj, hr⟩).elim
set_option maxRecDepth 100000 in
set_option maxHeartbeats 8000000 in
theorem end_star (C : List Int) (F : Nat → Prop) (set : Int) (kids : List Ex) (kd : Ex) (a : Option Addr) (c : Nat) (w : World) (aC : Option Addr) (L cC n fb fc s : Nat) (ih : EndOk C kd) (hL : Lf w F kids a c) (hN : Nn kd) (h0 : kids[0]? = some kd)
    (hI : Iw w aC L C) (hnL : n = L + 1) (hn : n ≤ 200) (hB : Bn w fb n s) (hs : s < 2 ^ n) :
    Calls Try.prog 33 #[.agg #[.int .u8 4, .int .u32 set, .slice a kids.length c], .slice aC L cC, .slice (some ⟨fb, 0, none⟩) n fc] w fun e' w' => ∃ rb R, e' = .returned (.slice (some ⟨rb, 0, none⟩) n n) ∧ Bk w' rb n R ∧ R < 2 ^ n ∧ Au.Img (Au.Rt (Au.mt C kd)) s R ∧ w.heap.size ≤ rb ∧ Only (fun _ => False) w w' := by
  have HIH : Hid (EndOk C kd) := ih
  have HI : Hid (Iw w aC L C) := hI
  have HNL : Hid (n = L + 1) := hnL
  have HSL : Hid (s < 2 ^ n) := hs
  have HN : Hid (Nn kd) := hN
  have HB : Hid (Bn w fb n s) := hB
  have hKm := hL.2.1
  have hK1 := (List.getElem?_eq_some_iff.1 h0).1
  obtain ⟨kb, ko, op', set', a', n', c', rfl, hkd⟩ := kid0 hL h0
  have HK : Hid (Kd w F kd kb ko op' set' a' n' c') := hkd
  obtain ⟨K, hKe⟩ : ∃ K, K = kids.length := ⟨_, rfl⟩
  rw [← hKe] at hKm hK1 ⊢
  unfold maxLen at hKm
  have k0 : ((K : Int) == 0) = false := by simp; omega
  have k1 : (0 : Int) < (K : Int) := by omega
  obtain ⟨M, hM⟩ : ∃ M, M = Au.mt C kd := ⟨_, rfl⟩
  have HMM : Hid (M = Au.mt C kd) := hM
  rw [← hM]
  obtain ⟨W0, hcp, hg, hO, hbx, hsz⟩ := copied w (.cells #[.int .u8 4, .int .u32 set, .slice (some ⟨kb, ko, none⟩) K c] 49) n fb fc s hB
  have HE : Hid (Eo w W0 (.slice (some ⟨kb, ko, none⟩) K c) (w.heap.size + 1) n s) := ⟨hg, hs, by omega, ⟨_, _, hbx⟩, hO⟩
  have e0 : W0.cell? ⟨w.heap.size, 0, none⟩ = some (.int .u8 4) := cell_blk hbx
  have e2 : W0.cell? ⟨w.heap.size, 2, none⟩ = some (.slice (some ⟨kb, ko, none⟩) K c) := cell_blk hbx
  have el : w.heap.size < W0.heap.size := by omega
  clear hg hO hbx hsz
  have HC0 : Hid (Calls Try.prog 33 #[.agg #[.int .u8 op', .int .u32 set', .slice a' n' c'], .slice aC L cC, .slice (some ⟨fb, 0, none⟩) n fc] W0 fun e' w' => ∃ rb R', e' = .returned (.slice (some ⟨rb, 0, none⟩) n n) ∧ Bk w' rb n R' ∧ R' < 2 ^ n ∧ Au.Img M s R' ∧ W0.heap.size ≤ rb ∧ Only (fun _ => False) W0 w') := by
    rw [hM]
    exact HIH.out F _ _ aC L cC n fb fc s (hkd.all _ HE.out.on).2.2.2.2 HN.out (HI.out.keep HE.out.on) HNL.out hn (HB.out.keep HE.out.on) HSL.out
  obtain ⟨d0, d1, d2, dl, _⟩ := hkd.all _ HE.out.on

  clear ih hL hN hKe hI hnL hs hB hkd hM h0
  have hmk := fun (w : World) => run_make_row' (P := Try.prog) 86 4 (.bool false) 1 Try.underlying86 info4 rfl .i64 .i64 n (by omega) (by omega) w
  go_enter Try.func33, Try.ntmps33
  go_wp2_with (go_at_call 33; refine Calls.mono HC0.out ?_; rintro e w2 ⟨rb, R', rfl, hb2, hl2, hi2, hn2, ho2⟩; have HE2 : Hid (Eo w w2 (.slice (some ⟨kb, ko, none⟩) K c) (w.heap.size + 1) n s) := ⟨HE.out.bk.keep ho2, HE.out.lt, HE.out.new, HE.out.bx2 ho2, HE.out.on.trans ho2⟩; have HX : Hid (Bk w2 rb n R' ∧ R' < 2 ^ n) := ⟨hb2, hl2⟩; have HI2 : Hid (Au.Img M s R') := hi2; clear hb2 hl2 hi2 hn2 ho2)
  clear hmk d0 d1 d2 dl
  clear hcp e0 e2 el
  obtain ⟨G, hG⟩ : ∃ G, G = 2 ^ n := ⟨_, rfl⟩
  have HG : Hid (G = 2 ^ n) := hG
  clear hG
  go_loopg [7, 11] (G - s) (fun gh vo vx wr => ∃ (ob R nb X : Nat) (W : World), W = wr ∧ gh = G - R ∧ vo = .slice (some ⟨ob, 0, none⟩) n n ∧ vx = .slice (some ⟨nb, 0, none⟩) n n ∧ Eo w W (.slice (some ⟨kb, ko, none⟩) K c) ob n R ∧ (Bk W nb n X ∧ X < 2 ^ n) ∧ Au.Clo M s R X ∧ Sts s R)
  case atStart => exact ⟨_, s, _, R', _, rfl, rfl, rfl, rfl, HE2.out, HX.out, Au.Clo.star0 HI2.out, fun j h => h⟩
  case round =>
    obtain ⟨ob, R, nb, X, W, hW, rfl, rfl, rfl, hE, hX, hC, hJ⟩ := hrel
    subst hW
    have HE3 : Hid (Eo w W (.slice (some ⟨kb, ko, none⟩) K c) ob n R) := hE
    have HX3 : Hid (Bk W nb n X ∧ X < 2 ^ n) := hX
    have HC : Hid (Au.Clo M s R X) := hC
    have HJ : Hid (Sts s R) := hJ
    have hwl := hE.sz
    have b2 := hE.kids
    have HCM := more_any ob nb n n n R X W hE.bk.bn hX.1.bn hn
    clear hE hX hC hJ
    by_cases hm : ∃ j, j < n ∧ X.testBit j = true ∧ R.testBit j = false
    · have HC48 : Hid (Calls Try.prog 48 #[.slice (some ⟨ob, 0, none⟩) n n, .slice (some ⟨nb, 0, none⟩) n n] W fun e w' => e = .returned (.bool true) ∧ Only (fun _ => False) W w') := by
        refine Calls.mono HCM ?_
        rintro e w' ⟨b, rfl, hb, ho⟩
        rw [hb.2 hm]
        exact ⟨rfl, ho⟩
      have HLT : Hid (R < R ||| X ∧ R ||| X < 2 ^ n) := by
        obtain ⟨j, _, x, y⟩ := hm
        exact ⟨or_gt x y, Nat.or_lt_two_pow HE3.out.lt HX3.out.2⟩
      clear HCM hm
      go_wp2_with (first
        | (go_at_call 48; refine Calls.mono HC48.out ?_; rintro e w1 ⟨rfl, ho1⟩; have HO1 : Hid (Only (fun _ => False) W w1) := ho1; clear ho1)
        | (go_at_call 29; refine Calls.mono (rboth_any ob nb n n n R X _ (HE3.out.bk.keep HO1.out).bn (HX3.out.1.keep HO1.out).bn hn) ?_; rintro e w3 ⟨rfl, hb3, ho3⟩; have HE4 : Hid (Eo w w3 (.slice (some ⟨kb, ko, none⟩) K c) w1.heap.size n (R ||| X)) := ⟨hb3, HLT.out.2, Nat.le_trans HE3.out.on.size HO1.out.size, HE3.out.bx2 (HO1.out.trans ho3), HE3.out.on.trans (HO1.out.trans ho3)⟩; have b3 := HE4.out.kids; have hwl3 := HE4.out.sz; obtain ⟨d0, d1, d2, dl, dT⟩ := HK.out.all w3 HE4.out.on; have HDT : Hid (Te w3 F kd (.agg #[.int .u8 op', .int .u32 set', .slice a' n' c'])) := dT; clear hb3 ho3 dT)
        | (go_at_call 33; refine Calls.mono (HIH.out F _ w3 aC L cC n w1.heap.size n (R ||| X) HDT.out HN.out (HI.out.keep HE4.out.on) HNL.out hn HE4.out.bk.bn HE4.out.lt) ?_; rintro e w4 ⟨rb4, R4, rfl, hb4, hl4, hi4, hn4, ho4⟩; have HE5 : Hid (Eo w w4 (.slice (some ⟨kb, ko, none⟩) K c) w1.heap.size n (R ||| X)) := ⟨HE4.out.bk.keep ho4, HE4.out.lt, HE4.out.new, HE4.out.bx2 ho4, HE4.out.on.trans ho4⟩; have HX5 : Hid (Bk w4 rb4 n R4 ∧ R4 < 2 ^ n) := ⟨hb4, hl4⟩; have HI5 : Hid (Au.Img M (R ||| X) R4) := (by rw [HMM.out]; exact hi4); clear hb4 hl4 hi4 hn4 ho4))
      go_roundg (G - (R ||| X))
      case measure =>
        have h1 := HLT.out
        have h2 := HG.out
        omega
      case rel => exact ⟨_, R ||| X, _, R4, _, rfl, rfl, rfl, rfl, HE5.out, HX5.out, HC.out.more HI5.out, fun j h => by rw [Nat.testBit_or, HJ.out j h]; rfl⟩
    · have HC48 : Hid (Calls Try.prog 48 #[.slice (some ⟨ob, 0, none⟩) n n, .slice (some ⟨nb, 0, none⟩) n n] W fun e w' => e = .returned (.bool false) ∧ Only (fun _ => False) W w') := by
        refine Calls.mono HCM ?_
        rintro e w' ⟨b, rfl, hb, ho⟩
        cases b with
        | true => exact (hm (hb.1 rfl)).elim
        | false => exact ⟨rfl, ho⟩
      have HNO : Hid (∀ j, X.testBit j = true → R.testBit j = true) := sub_of HX3.out.2 hm
      clear HCM hm
      go_wp2_with (go_at_call 48; refine Calls.mono HC48.out ?_; rintro e w1 ⟨rfl, ho1⟩; have HO1 : Hid (Only (fun _ => False) W w1) := ho1; clear ho1)
      go_ret
      exact ⟨ob, R, rfl, HE3.out.bk.keep HO1.out, HE3.out.lt, HC.out.star HJ.out HNO.out, HE3.out.new, HE3.out.on.trans HO1.out⟩
set_option maxRecDepth 100000 in
set_option maxHeartbeats 8000000 in
theorem end_plus (C : List Int) (F : Nat → Prop) (set : Int) (kids : List Ex) (kd : Ex) (a : Option Addr) (c : Nat) (w : World) (aC : Option Addr) (L cC n fb fc s : Nat) (ih : EndOk C kd) (hL : Lf w F kids a c) (hN : Nn kd) (h0 : kids[0]? = some kd)
    (hI : Iw w aC L C) (hnL : n = L + 1) (hn : n ≤ 200) (hB : Bn w fb n s) (hs : s < 2 ^ n) :
    Calls Try.prog 33 #[.agg #[.int .u8 5, .int .u32 set, .slice a kids.length c], .slice aC L cC, .slice (some ⟨fb, 0, none⟩) n fc] w fun e' w' => ∃ rb R, e' = .returned (.slice (some ⟨rb, 0, none⟩) n n) ∧ Bk w' rb n R ∧ R < 2 ^ n ∧ Au.Img (fun i j => ∃ m, Au.Rt (Au.mt C kd) i m ∧ Au.mt C kd m j) s R ∧ w.heap.size ≤ rb ∧ Only (fun _ => False) w w' := by
  have HIH : Hid (EndOk C kd) := ih
  have HI : Hid (Iw w aC L C) := hI
  have HNL : Hid (n = L + 1) := hnL
  have HSL : Hid (s < 2 ^ n) := hs
  have HN : Hid (Nn kd) := hN
  have HB : Hid (Bn w fb n s) := hB
  have hKm := hL.2.1
  have hK1 := (List.getElem?_eq_some_iff.1 h0).1
  obtain ⟨kb, ko, op', set', a', n', c', rfl, hkd⟩ := kid0 hL h0
  have HK : Hid (Kd w F kd kb ko op' set' a' n' c') := hkd
  obtain ⟨K, hKe⟩ : ∃ K, K = kids.length := ⟨_, rfl⟩
  rw [← hKe] at hKm hK1 ⊢
  unfold maxLen at hKm
  have k0 : ((K : Int) == 0) = false := by simp; omega
  have k1 : (0 : Int) < (K : Int) := by omega
  obtain ⟨M, hM⟩ : ∃ M, M = Au.mt C kd := ⟨_, rfl⟩
  have HMM : Hid (M = Au.mt C kd) := hM
  rw [← hM]
  have HE : Hid (Eo w ((w.alloc (.cells #[.int .u8 5, .int .u32 set, .slice (some ⟨kb, ko, none⟩) K c] 49)).alloc (.cells (madeCells #[.bool false] n) 4)) (.slice (some ⟨kb, ko, none⟩) K c) (w.heap.size + 1) n 0) := ⟨bk_made _ _ _, Nat.two_pow_pos n, by omega, ⟨_, _, bx_made _ _ _⟩, ((Only.refl _ _).alloc _).alloc _⟩
  have HC0 : Hid (Calls Try.prog 33 #[.agg #[.int .u8 op', .int .u32 set', .slice a' n' c'], .slice aC L cC, .slice (some ⟨fb, 0, none⟩) n fc] ((w.alloc (.cells #[.int .u8 5, .int .u32 set, .slice (some ⟨kb, ko, none⟩) K c] 49)).alloc (.cells (madeCells #[.bool false] n) 4)) fun e' w' => ∃ rb R', e' = .returned (.slice (some ⟨rb, 0, none⟩) n n) ∧ Bk w' rb n R' ∧ R' < 2 ^ n ∧ Au.Img M s R' ∧ ((w.alloc (.cells #[.int .u8 5, .int .u32 set, .slice (some ⟨kb, ko, none⟩) K c] 49)).alloc (.cells (madeCells #[.bool false] n) 4)).heap.size ≤ rb ∧ Only (fun _ => False) ((w.alloc (.cells #[.int .u8 5, .int .u32 set, .slice (some ⟨kb, ko, none⟩) K c] 49)).alloc (.cells (madeCells #[.bool false] n) 4)) w') := by
    rw [hM]
    exact HIH.out F _ _ aC L cC n fb fc s (hkd.all _ HE.out.on).2.2.2.2 HN.out (HI.out.keep HE.out.on) HNL.out hn (HB.out.keep HE.out.on) HSL.out
  obtain ⟨d0, d1, d2, dl, _⟩ := hkd.all _ HE.out.on

  clear ih hL hN hKe hI hnL hs hB hkd hM h0
  have hmk := fun (w : World) => run_make_row' (P := Try.prog) 86 4 (.bool false) 1 Try.underlying86 info4 rfl .i64 .i64 n (by omega) (by omega) w
  go_enter Try.func33, Try.ntmps33
  go_wp2_with (go_at_call 33; refine Calls.mono HC0.out ?_; rintro e w2 ⟨rb, R', rfl, hb2, hl2, hi2, hn2, ho2⟩; have HE2 : Hid (Eo w w2 (.slice (some ⟨kb, ko, none⟩) K c) (w.heap.size + 1) n 0) := ⟨HE.out.bk.keep ho2, HE.out.lt, HE.out.new, HE.out.bx2 ho2, HE.out.on.trans ho2⟩; have HX : Hid (Bk w2 rb n R' ∧ R' < 2 ^ n) := ⟨hb2, hl2⟩; have HI2 : Hid (Au.Img M s R') := hi2; clear hb2 hl2 hi2 hn2 ho2)
  clear hmk d0 d1 d2 dl
  
  obtain ⟨G, hG⟩ : ∃ G, G = 2 ^ n := ⟨_, rfl⟩
  have HG : Hid (G = 2 ^ n) := hG
  clear hG
  go_loopg [7, 11] (G - 0) (fun gh vo vx wr => ∃ (ob R nb X : Nat) (W : World), W = wr ∧ gh = G - R ∧ vo = .slice (some ⟨ob, 0, none⟩) n n ∧ vx = .slice (some ⟨nb, 0, none⟩) n n ∧ Eo w W (.slice (some ⟨kb, ko, none⟩) K c) ob n R ∧ (Bk W nb n X ∧ X < 2 ^ n) ∧ Au.Clo M s R X ∧ (Pls M s R ∧ Pls M s X))
  case atStart => exact ⟨_, 0, _, R', _, rfl, rfl, rfl, rfl, HE2.out, HX.out, Au.Clo.plus0 HI2.out, ⟨fun j h => by simp at h, Pls.first HI2.out⟩⟩
  case round =>
    obtain ⟨ob, R, nb, X, W, hW, rfl, rfl, rfl, hE, hX, hC, hJ⟩ := hrel
    subst hW
    have HE3 : Hid (Eo w W (.slice (some ⟨kb, ko, none⟩) K c) ob n R) := hE
    have HX3 : Hid (Bk W nb n X ∧ X < 2 ^ n) := hX
    have HC : Hid (Au.Clo M s R X) := hC
    have HJ : Hid ((Pls M s R ∧ Pls M s X)) := hJ
    have hwl := hE.sz
    have b2 := hE.kids
    have HCM := more_any ob nb n n n R X W hE.bk.bn hX.1.bn hn
    clear hE hX hC hJ
    by_cases hm : ∃ j, j < n ∧ X.testBit j = true ∧ R.testBit j = false
    · have HC48 : Hid (Calls Try.prog 48 #[.slice (some ⟨ob, 0, none⟩) n n, .slice (some ⟨nb, 0, none⟩) n n] W fun e w' => e = .returned (.bool true) ∧ Only (fun _ => False) W w') := by
        refine Calls.mono HCM ?_
        rintro e w' ⟨b, rfl, hb, ho⟩
        rw [hb.2 hm]
        exact ⟨rfl, ho⟩
      have HLT : Hid (R < R ||| X ∧ R ||| X < 2 ^ n) := by
        obtain ⟨j, _, x, y⟩ := hm
        exact ⟨or_gt x y, Nat.or_lt_two_pow HE3.out.lt HX3.out.2⟩
      clear HCM hm
      go_wp2_with (first
        | (go_at_call 48; refine Calls.mono HC48.out ?_; rintro e w1 ⟨rfl, ho1⟩; have HO1 : Hid (Only (fun _ => False) W w1) := ho1; clear ho1)
        | (go_at_call 29; refine Calls.mono (rboth_any ob nb n n n R X _ (HE3.out.bk.keep HO1.out).bn (HX3.out.1.keep HO1.out).bn hn) ?_; rintro e w3 ⟨rfl, hb3, ho3⟩; have HE4 : Hid (Eo w w3 (.slice (some ⟨kb, ko, none⟩) K c) w1.heap.size n (R ||| X)) := ⟨hb3, HLT.out.2, Nat.le_trans HE3.out.on.size HO1.out.size, HE3.out.bx2 (HO1.out.trans ho3), HE3.out.on.trans (HO1.out.trans ho3)⟩; have b3 := HE4.out.kids; have hwl3 := HE4.out.sz; obtain ⟨d0, d1, d2, dl, dT⟩ := HK.out.all w3 HE4.out.on; have HDT : Hid (Te w3 F kd (.agg #[.int .u8 op', .int .u32 set', .slice a' n' c'])) := dT; clear hb3 ho3 dT)
        | (go_at_call 33; refine Calls.mono (HIH.out F _ w3 aC L cC n w1.heap.size n (R ||| X) HDT.out HN.out (HI.out.keep HE4.out.on) HNL.out hn HE4.out.bk.bn HE4.out.lt) ?_; rintro e w4 ⟨rb4, R4, rfl, hb4, hl4, hi4, hn4, ho4⟩; have HE5 : Hid (Eo w w4 (.slice (some ⟨kb, ko, none⟩) K c) w1.heap.size n (R ||| X)) := ⟨HE4.out.bk.keep ho4, HE4.out.lt, HE4.out.new, HE4.out.bx2 ho4, HE4.out.on.trans ho4⟩; have HX5 : Hid (Bk w4 rb4 n R4 ∧ R4 < 2 ^ n) := ⟨hb4, hl4⟩; have HI5 : Hid (Au.Img M (R ||| X) R4) := (by rw [HMM.out]; exact hi4); clear hb4 hl4 hi4 hn4 ho4))
      go_roundg (G - (R ||| X))
      case measure =>
        have h1 := HLT.out
        have h2 := HG.out
        omega
      case rel => exact ⟨_, R ||| X, _, R4, _, rfl, rfl, rfl, rfl, HE5.out, HX5.out, HC.out.more HI5.out, ⟨HJ.out.1.or HJ.out.2, Pls.more HC.out HI5.out⟩⟩
    · have HC48 : Hid (Calls Try.prog 48 #[.slice (some ⟨ob, 0, none⟩) n n, .slice (some ⟨nb, 0, none⟩) n n] W fun e w' => e = .returned (.bool false) ∧ Only (fun _ => False) W w') := by
        refine Calls.mono HCM ?_
        rintro e w' ⟨b, rfl, hb, ho⟩
        cases b with
        | true => exact (hm (hb.1 rfl)).elim
        | false => exact ⟨rfl, ho⟩
      have HNO : Hid (∀ j, X.testBit j = true → R.testBit j = true) := sub_of HX3.out.2 hm
      clear HCM hm
      go_wp2_with (go_at_call 48; refine Calls.mono HC48.out ?_; rintro e w1 ⟨rfl, ho1⟩; have HO1 : Hid (Only (fun _ => False) W w1) := ho1; clear ho1)
      go_ret
      exact ⟨ob, R, rfl, HE3.out.bk.keep HO1.out, HE3.out.lt, HC.out.plus HJ.out.1 HNO.out, HE3.out.new, HE3.out.on.trans HO1.out⟩
set_option maxRecDepth 100000 in
set_option maxHeartbeats 8000000 in
theorem end_opt (C : List Int) (F : Nat → Prop) (set : Int) (kids : List Ex) (kd : Ex) (a : Option Addr) (c : Nat) (w : World) (aC : Option Addr) (L cC n fb fc s : Nat) (ih : EndOk C kd) (hL : Lf w F kids a c) (hN : Nn kd) (h0 : kids[0]? = some kd)
    (hI : Iw w aC L C) (hnL : n = L + 1) (hn : n ≤ 200) (hB : Bn w fb n s) (hs : s < 2 ^ n) :
    Calls Try.prog 33 #[.agg #[.int .u8 6, .int .u32 set, .slice a kids.length c], .slice aC L cC, .slice (some ⟨fb, 0, none⟩) n fc] w fun e' w' => ∃ rb R, e' = .returned (.slice (some ⟨rb, 0, none⟩) n n) ∧ Bk w' rb n R ∧ R < 2 ^ n ∧ Au.Img (fun i j => i = j ∨ Au.mt C kd i j) s R ∧ w.heap.size ≤ rb ∧ Only (fun _ => False) w w' := by
  have HIH : Hid (EndOk C kd) := ih
  have HI : Hid (Iw w aC L C) := hI
  have HNL : Hid (n = L + 1) := hnL
  have HSL : Hid (s < 2 ^ n) := hs
  have HN : Hid (Nn kd) := hN
  have HB : Hid (Bn w fb n s) := hB
  have hKm := hL.2.1
  have hK1 := (List.getElem?_eq_some_iff.1 h0).1
  obtain ⟨kb, ko, op', set', a', n', c', rfl, hkd⟩ := kid0 hL h0
  have HK : Hid (Kd w F kd kb ko op' set' a' n' c') := hkd
  obtain ⟨K, hKe⟩ : ∃ K, K = kids.length := ⟨_, rfl⟩
  rw [← hKe] at hKm hK1 ⊢
  unfold maxLen at hKm
  have k0 : ((K : Int) == 0) = false := by simp; omega
  have k1 : (0 : Int) < (K : Int) := by omega
  obtain ⟨M, hM⟩ : ∃ M, M = Au.mt C kd := ⟨_, rfl⟩
  have HMM : Hid (M = Au.mt C kd) := hM
  rw [← hM]
  obtain ⟨W0, hcp, hg, hO, hbx, hsz⟩ := copied w (.cells #[.int .u8 6, .int .u32 set, .slice (some ⟨kb, ko, none⟩) K c] 49) n fb fc s hB
  have HE : Hid (Eo w W0 (.slice (some ⟨kb, ko, none⟩) K c) (w.heap.size + 1) n s) := ⟨hg, hs, by omega, ⟨_, _, hbx⟩, hO⟩
  have e0 : W0.cell? ⟨w.heap.size, 0, none⟩ = some (.int .u8 6) := cell_blk hbx
  have e2 : W0.cell? ⟨w.heap.size, 2, none⟩ = some (.slice (some ⟨kb, ko, none⟩) K c) := cell_blk hbx
  have el : w.heap.size < W0.heap.size := by omega
  clear hg hO hbx hsz
  have HC0 : Hid (Calls Try.prog 33 #[.agg #[.int .u8 op', .int .u32 set', .slice a' n' c'], .slice aC L cC, .slice (some ⟨fb, 0, none⟩) n fc] W0 fun e' w' => ∃ rb R', e' = .returned (.slice (some ⟨rb, 0, none⟩) n n) ∧ Bk w' rb n R' ∧ R' < 2 ^ n ∧ Au.Img M s R' ∧ W0.heap.size ≤ rb ∧ Only (fun _ => False) W0 w') := by
    rw [hM]
    exact HIH.out F _ _ aC L cC n fb fc s (hkd.all _ HE.out.on).2.2.2.2 HN.out (HI.out.keep HE.out.on) HNL.out hn (HB.out.keep HE.out.on) HSL.out
  obtain ⟨d0, d1, d2, dl, _⟩ := hkd.all _ HE.out.on

  clear ih hL hN hKe hI hnL hs hB hkd hM h0
  have hmk := fun (w : World) => run_make_row' (P := Try.prog) 86 4 (.bool false) 1 Try.underlying86 info4 rfl .i64 .i64 n (by omega) (by omega) w
  go_enter Try.func33, Try.ntmps33
  go_wp2_with (first
    | (go_at_call 33; refine Calls.mono HC0.out ?_; rintro e w2 ⟨rb, R', rfl, hb2, hl2, hi2, hn2, ho2⟩; have HE2 : Hid (Eo w w2 (.slice (some ⟨kb, ko, none⟩) K c) (w.heap.size + 1) n s) := ⟨HE.out.bk.keep ho2, HE.out.lt, HE.out.new, HE.out.bx2 ho2, HE.out.on.trans ho2⟩; have HX : Hid (Bk w2 rb n R' ∧ R' < 2 ^ n) := ⟨hb2, hl2⟩; have HI2 : Hid (Au.Img M s R') := hi2; clear hb2 hl2 hi2 hn2 ho2)
    | (go_at_call 29; refine Calls.mono (rboth_any (w.heap.size + 1) rb n n n s R' _ HE2.out.bk.bn HX.out.1.bn hn) ?_; rintro e w3 ⟨rfl, hb3, ho3⟩; have HB3 : Hid (Bk w3 w2.heap.size n (s ||| R')) := hb3; have HO3 : Hid (Only (fun _ => False) w w3) := HE2.out.on.trans ho3; clear hb3 ho3))
  go_ret
  exact ⟨_, s ||| R', rfl, HB3.out, Nat.or_lt_two_pow HSL.out HX.out.2, (Au.Img.id s).or HI2.out, HE2.out.on.size, HO3.out⟩
end Go.Proofs.Ytfbcijnacbfjpaa
