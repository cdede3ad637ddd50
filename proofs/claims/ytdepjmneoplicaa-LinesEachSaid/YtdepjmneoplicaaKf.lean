/-
  best.allRests: the rests of all boundaries of a part.
-/
import Derived.Test.YtdepjmneoplicaaKe
import Derived.Laws.MakeOwn
namespace Go.Proofs.Ytdepjmneoplicaa
open Go.RowKit Go.Maps
set_option linter.unusedVariables false
set_option linter.unusedSimpArgs false
/-- no line ends there, but it isn't where the part begins. -/
def rZ (O : List Nat) (a j : Nat) : Prop := j ≠ a ∧ O.getD j 0 = 0
theorem infoRest : (Try.prog.info? 73).map (fun i => (i.zero, i.size, i.bytes)) = some (some (.agg #[.bool false, .int .i64 0, .int .i64 0]), 3, 24) := by kernel_rfl
set_option maxRecDepth 100000 in
set_option maxHeartbeats 16000000 in
theorem allRests_any (C : List Ct) (O : List Nat) (n m : Nat) (aC aO : Option Addr) (cC cO a b ln wi t mo hy pr lo : Nat) (w : World) (hP : Pv w C O n m aC aO cC cO) (hm : n < m) (hab : a < b) (hb : b ≤ n) (hln : ln = b - a + 1) (hw : wi ≤ 1048576) (h0 : 0 < t) (ht : t ≤ 1000) (hhy : hy ≤ 2097152) (hpr : pr ≤ 1048576) :
    Calls Try.prog 31 #[.agg #[.slice aC n cC, .slice aO m cO], .int .i64 (a : Int), .int .i64 (b : Int), .agg #[.int .i64 (wi : Int), .int .i64 (t : Int), .int .u8 (mo : Int), .int .i64 (hy : Int), .int .i64 (pr : Int), .float .f64 lo]] w fun e w' => ∃ (rb : Nat) (M : Nat → Bool) (S X : Nat → Nat), e = .returned (.slice (some ⟨rb, 0, none⟩) ln ln) ∧ Rw w' rb ln M S X ∧ (∀ j, a ≤ j → j ≤ b → Ds.Rs (bsF C O t wi hy pr lo b) (rZ O a) b j (M (j - a)) (S (j - a)) (X (j - a))) ∧ Only (fun _ => False) w w' := by
  have h1 := hP.few
  have hfO := hP.fewO
  obtain ⟨i3, g3, g30, g31, g32⟩ := info_parts infoRest
  have HP : Hid (Pv w C O n m aC aO cC cO) := hP
  obtain ⟨f, hf⟩ : ∃ f, f = bsF C O t wi hy pr lo b := ⟨_, rfl⟩
  have HEN : Hid (∀ W' k e, Only (fun _ => False) w W' → k ≤ n → O.getD k 0 = e → Calls Try.prog 32 #[.agg #[.slice aC n cC, .slice aO m cO], .int .i64 ((k : Nat) : Int)] W' fun r w' => r = .returned (.tuple #[.int .u8 (e : Int), .bool (decide (e ≠ 0))]) ∧ Only (fun _ => False) W' w') := fun W' k e ho hk he => by
    obtain ⟨e', h1, h2⟩ := getD_some' (O := O) (k := k) (by rw [← hP.hm]; omega)
    have q : e = e' := by rw [← he, h2]
    subst q
    exact ends_any C O n m aC aO cC cO k e W' (hP.keep ho) (by omega) h1
  have HLR : Hid (∀ W' h rb of l2 cr d M S X, Only (fun _ => False) w W' → h < b → Rw W' rb ln M S X → of = d * 3 → l2 = b - h + 1 → ln = d + l2 → (∀ j, h < j → j ≤ b → Ds.Rs f (rZ O a) b j (M (d + (j - h))) (S (d + (j - h))) (X (d + (j - h)))) → Calls Try.prog 45 #[.agg #[.slice aC n cC, .slice aO m cO], .int .i64 ((h : Nat) : Int), .agg #[.int .i64 (wi : Int), .int .i64 (t : Int), .int .u8 (mo : Int), .int .i64 (hy : Int), .int .i64 (pr : Int), .float .f64 lo], .slice (some ⟨rb, of, none⟩) l2 cr] W' fun e w' => ∃ (mm : Bool) (ss xx : Nat), e = .returned (.agg #[.bool mm, .int .i64 (ss : Int), .int .i64 (xx : Int)]) ∧ Ds.Rs f (fun _ => False) b h mm ss xx ∧ Only (fun _ => False) W' w') := fun W' h rb of l2 cr d M S X ho hh hR hof hl2 hN hRs => by
    rw [hf] at hRs ⊢
    exact leastRest_any C O n m aC aO cC cO h b wi t mo hy pr lo rb of l2 cr d ln M S X (rZ O a) W' (hP.keep ho) hm hh hb hw h0 ht hhy hpr hR hof hl2 hN hRs (fun i j hz => Sp.cos_none (Or.inr hz.2))
  rw [← hf]
  have HLN : Hid (ln = b - a + 1) := hln
  have hlnl : ln ≤ 100001 := by omega
  have hanb1 : a + ln ≤ b + 1 := by omega
  have hanb2 : b + 1 ≤ a + ln := by omega
  obtain ⟨nd, hnd⟩ : ∃ x, x = b - a := ⟨_, rfl⟩
  have e1 : (b : Int) - (a : Int) = (nd : Int) := by omega
  have e2 : (nd : Int) + 1 = (ln : Int) := by omega
  have hndl : nd ≤ 100000 := by omega
  have hnd1 : nd < ln := by omega
  have hnd2 : a + nd ≤ b := by omega
  have hnd3 : b ≤ a + nd := by omega
  clear hP hf hln hnd
  go_enter Try.func31, Try.ntmps31
  go_upto_region 1 with fail
  obtain ⟨R, B, w0, hw0, hB, hR, H0, lRB, lB, lB0⟩ := box26 w (.slice aC n cC) (.slice aO m cO) (.int .i64 (wi : Int)) (.int .i64 (t : Int)) (.int .u8 (mo : Int)) (.int .i64 (hy : Int)) (.int .i64 (pr : Int)) (.float .f64 lo) 31 35
  rw [hw0, hB, hR]
  clear hw0 hB hR
  go_upto_region 2 with (refine wpList_make_full _ rfl _ _ 70 rfl w0.heap.size 73 i3 (.agg #[.bool false, .int .i64 0, .int .i64 0]) 3 Try.underlying70 g3 g30 g31 .i64 .i64 _ _ ln rfl rfl (by omega) (by omega) (by rw [g32]; omega) (by unfold maxLen; omega) (Nat.le_refl _) ?_; intro w1 hown1 hg1)
  obtain ⟨rb, hrb⟩ : ∃ x, x = w0.heap.size := ⟨_, rfl⟩
  rw [← hrb] at hown1 ⊢
  obtain ⟨hrw1, -⟩ := Rw.made hown1
  have ho1 : Only (fun _ => False) w0 w1 := (Only.refl _ _).grown hg1 (fun k h => by cases h)
  have HRB : Hid (w.heap.size ≤ rb ∧ R ≠ rb ∧ B ≠ rb) := by
    have := H0.out.2.2.size
    have lR := (Array.getElem?_eq_some_iff.1 H0.out.1).1
    refine ⟨?_, ?_, ?_⟩ <;> omega
  have HSS : Hid (∀ W', Only (fun g => g = rb) w1 W' → (fun W' => (W'.cell? ⟨R, 0, none⟩ = some (.slice aC n cC) ∧ W'.cell? ⟨R, 1, none⟩ = some (.slice aO m cO)) ∧ (W'.cell? ⟨B, 0, none⟩ = some (.int .i64 (wi : Int)) ∧ W'.cell? ⟨B, 1, none⟩ = some (.int .i64 (t : Int)) ∧ W'.cell? ⟨B, 2, none⟩ = some (.int .u8 (mo : Int)) ∧ W'.cell? ⟨B, 3, none⟩ = some (.int .i64 (hy : Int)) ∧ W'.cell? ⟨B, 4, none⟩ = some (.int .i64 (pr : Int)) ∧ W'.cell? ⟨B, 5, none⟩ = some (.float .f64 lo))) W' ∧ R < W'.heap.size ∧ B < W'.heap.size) := fun W' ho => by
    have e1 := blk_far ho (blk_keep ho1 H0.out.1) HRB.out.2.1
    have e2 := blk_far ho (blk_keep ho1 H0.out.2.1) HRB.out.2.2
    exact ⟨⟨⟨(blk_two e1).1, (blk_two e1).2.1⟩, blk_six e2⟩, (blk_two e1).2.2, (Array.getElem?_eq_some_iff.1 e2).1⟩
  have H1 : Hid (Rw w1 rb ln (fun _ => false) (fun _ => 0) (fun _ => 0) ∧ Only (fun _ => False) w w1) := ⟨hrw1, H0.out.2.2.trans ho1⟩
  clear hrw1 ho1 hown1 hg1 hrb g3 g30 g31 g32
  obtain ⟨x0, -, -⟩ := H1.out.1.at (j := nd) hnd1 rfl
  have fx := H1.out.1.fz (nd * 3)
  have lx := H1.out.1.lt
  go_upto_region 3 with fail
  obtain ⟨w2, hw2⟩ : ∃ Y, Y = w1.setCell ⟨rb, nd * 3, none⟩ (.bool true) := ⟨_, rfl⟩
  have H2 : Hid (Rw w2 rb ln (fun i => if i = nd then true else false) (fun _ => 0) (fun _ => 0) ∧ Only (fun _ => False) w w2 ∧ Only (fun g => g = rb) w1 w2) := by
    rw [hw2]
    exact ⟨H1.out.1.may rfl true, H1.out.2.setNew (p := ⟨rb, nd * 3, none⟩) HRB.out.1 _, (Only.refl (fun g => g = rb) w1).setCell (p := ⟨rb, nd * 3, none⟩) rfl _⟩
  rw [← hw2]
  clear hw2 x0 fx lx
  go_wp2_with fail
  go_loopg [10] (b - a) (fun gh v10 wr => ∃ (k : Nat) (M : Nat → Bool) (S X : Nat → Nat) (W : World), W = wr ∧ gh = k - a ∧ a ≤ k ∧ k ≤ b ∧ v10 = .int .i64 ((k : Int) - 1) ∧ Rw W rb ln M S X ∧ (∀ j, k ≤ j → j ≤ b → Ds.Rs f (rZ O a) b j (M (j - a)) (S (j - a)) (X (j - a))) ∧ (∀ j, a ≤ j → j < k → M (j - a) = false) ∧ Only (fun _ => False) w W ∧ Only (fun g => g = rb) w1 W)
  case atStart =>
    refine ⟨b, _, _, _, _, rfl, rfl, Nat.le_of_lt hab, Nat.le_refl _, by go_num, H2.out.1, fun j q1 q2 => ?_, fun j q1 q2 => ?_, H2.out.2.1, H2.out.2.2⟩
    · have e : j = b := by omega
      subst e
      rw [if_pos (by omega)]
      exact Or.inl ⟨rfl, [], Ds.best_end f j, fun h => by omega⟩
    · exact if_neg (by omega)
  case round =>
    obtain ⟨k, M, S, X, W, hW, rfl, hka, hkb, rfl, hrw, hrs, hfa, hoW, hoR⟩ := hrel
    subst hW
    have HK : Hid (Rw W rb ln M S X ∧ (∀ j, k ≤ j → j ≤ b → Ds.Rs f (rZ O a) b j (M (j - a)) (S (j - a)) (X (j - a))) ∧ (∀ j, a ≤ j → j < k → M (j - a) = false) ∧ Only (fun _ => False) w W ∧ Only (fun g => g = rb) w1 W) := ⟨hrw, hrs, hfa, hoW, hoR⟩
    clear hrw hrs hfa hoW hoR
    by_cases hlt : a < k
    · obtain ⟨h, hh⟩ : ∃ h, h = k - 1 := ⟨_, rfl⟩
      have e3 : (k : Int) - 1 = (h : Int) := by omega
      rw [e3]
      have t1 : (a : Int) ≤ (h : Int) := by omega
      have t1n : a ≤ h := by omega
      have hk1 : h + 1 ≤ k := by omega
      have hk2 : k ≤ h + 1 := by omega
      have hhb : h < b := by omega
      obtain ⟨d, hd⟩ : ∃ d, d = h - a := ⟨_, rfl⟩
      have e4 : IntKind.i64.wrap ((h : Int) - (a : Int)) = (d : Int) := by rw [hd]; exact (wrap_sm _ (by omega) (by omega)).trans (by omega)
      have hd1 : a + d ≤ h := by omega
      have hd2 : h ≤ a + d := by omega
      have hdl : d < ln := by omega
      have hdI : (d : Int) < (ln : Int) := by omega
      have hdI2 : (d : Int) ≤ (ln : Int) := by omega
      have hdc : ¬ ln = d := by omega
      obtain ⟨l2, hl2⟩ : ∃ x, x = ln - d := ⟨_, rfl⟩
      have HD : Hid (d = h - a ∧ l2 = ln - d) := ⟨hd, hl2⟩
      obtain ⟨e, he⟩ : ∃ e, e = O.getD h 0 := ⟨_, rfl⟩
      have HE : Hid (O.getD h 0 = e) := he.symm
      clear he hh hd e3
      obtain ⟨⟨⟨r0, r1⟩, k0, k1, k2, k3, k4, k5⟩, lR, lBz⟩ := HSS.out W HK.out.2.2.2.2
      go_wp2_with fail
      refine Calls.mono (HEN.out _ h e HK.out.2.2.2.1 (by omega) HE.out) ?_
      rintro r W2 ⟨rfl, ho2⟩
      have H3 : Hid (Rw W2 rb ln M S X ∧ Only (fun _ => False) w W2 ∧ Only (fun g => g = rb) w1 W2) := ⟨HK.out.1.keep ho2, HK.out.2.2.2.1.trans ho2, HK.out.2.2.2.2.trans (ho2.mono (fun _ h => h.elim))⟩
      clear ho2 r0 r1 k0 k1 k2 k3 k4 k5 lR lBz
      by_cases he0 : e = 0
      · rw [show decide (e ≠ 0) = false from decide_eq_false (by omega)]
        by_cases hha : h = a
        · have t2 : ((h : Int) == (a : Int)) = true := by rw [beq_iff_eq]; omega
          clear hha he0
          go_upto_region 8 with fail
          have HDR : Hid (Only (fun g => g = rb) w1 W2.drew ∧ Rw W2.drew rb ln M S X ∧ Only (fun _ => False) w W2.drew) := ⟨H3.out.2.2.drew, H3.out.1.keep ((Only.refl _ _).drew), H3.out.2.1.drew⟩
          refine wp_region_held_drew (S := (fun W' => (W'.cell? ⟨R, 0, none⟩ = some (.slice aC n cC) ∧ W'.cell? ⟨R, 1, none⟩ = some (.slice aO m cO)) ∧ (W'.cell? ⟨B, 0, none⟩ = some (.int .i64 (wi : Int)) ∧ W'.cell? ⟨B, 1, none⟩ = some (.int .i64 (t : Int)) ∧ W'.cell? ⟨B, 2, none⟩ = some (.int .u8 (mo : Int)) ∧ W'.cell? ⟨B, 3, none⟩ = some (.int .i64 (hy : Int)) ∧ W'.cell? ⟨B, 4, none⟩ = some (.int .i64 (pr : Int)) ∧ W'.cell? ⟨B, 5, none⟩ = some (.float .f64 lo)))) (by kernel_rfl) (HSS.out _ HDR.out.1).1 (fun hHeld => ?_)
          refine wpAnyH_take (i := 0) (oi := { dst := some 43, op := _, type := _, pos := _, after := _, guard := _ }) (v := .slice (some ⟨rb, 0, none⟩) ln ln) rfl (by kernel_rfl) (by kernel_rfl) (by kernel_rfl) (fun _ _ _ h => h) (Or.inl ⟨by rfl, fun w hSw => by obtain ⟨⟨y0, y1⟩, y2, y3, y4, y5, y6, y7⟩ := hSw; first | (go_simp; done) | go_simp⟩) (by assumption) ?_
          (try simp only [Act.put, List.setIfInBounds_toArray, List.set_cons_zero, List.set_cons_succ])
          refine wpAnyH_take (i := 1) (oi := { dst := some 44, op := _, type := _, pos := _, after := _, guard := _ }) (v := .int .i64 (h : Int)) rfl (by kernel_rfl) (by kernel_rfl) (by kernel_rfl) (fun _ _ _ h => h) (Or.inl ⟨by rfl, fun w hSw => by obtain ⟨⟨y0, y1⟩, y2, y3, y4, y5, y6, y7⟩ := hSw; first | (go_simp; done) | go_simp⟩) (by assumption) ?_
          (try simp only [Act.put, List.setIfInBounds_toArray, List.set_cons_zero, List.set_cons_succ])
          refine wpAnyH_take (i := 2) (oi := { dst := some 45, op := _, type := _, pos := _, after := _, guard := _ }) (v := .int .i64 (a : Int)) rfl (by kernel_rfl) (by kernel_rfl) (by kernel_rfl) (fun _ _ _ h => h) (Or.inl ⟨by rfl, fun w hSw => by obtain ⟨⟨y0, y1⟩, y2, y3, y4, y5, y6, y7⟩ := hSw; first | (go_simp; done) | go_simp⟩) (by assumption) ?_
          (try simp only [Act.put, List.setIfInBounds_toArray, List.set_cons_zero, List.set_cons_succ])
          refine wpAnyH_take (i := 3) (oi := { dst := some 46, op := _, type := _, pos := _, after := _, guard := _ }) (v := .int .i64 (d : Int)) rfl (by kernel_rfl) (by kernel_rfl) (by kernel_rfl) (fun _ _ _ h => h) (Or.inl ⟨by rfl, fun w hSw => by obtain ⟨⟨y0, y1⟩, y2, y3, y4, y5, y6, y7⟩ := hSw; first | (go_simp; done) | go_simp⟩) (by assumption) ?_
          (try simp only [Act.put, List.setIfInBounds_toArray, List.set_cons_zero, List.set_cons_succ])
          refine wpAnyH_take (i := 4) (oi := { dst := some 47, op := _, type := _, pos := _, after := _, guard := _ }) (v := .agg #[.slice aC n cC, .slice aO m cO]) rfl (by kernel_rfl) (by kernel_rfl) (by kernel_rfl) (fun _ _ _ h => h) (Or.inl ⟨by rfl, fun w hSw => by obtain ⟨⟨y0, y1⟩, y2, y3, y4, y5, y6, y7⟩ := hSw; first | (go_simp; done) | go_simp⟩) (by assumption) ?_
          (try simp only [Act.put, List.setIfInBounds_toArray, List.set_cons_zero, List.set_cons_succ])
          refine wpAnyH_take (i := 5) (oi := { dst := some 48, op := _, type := _, pos := _, after := _, guard := _ }) (v := .int .i64 (h : Int)) rfl (by kernel_rfl) (by kernel_rfl) (by kernel_rfl) (fun _ _ _ h => h) (Or.inl ⟨by rfl, fun w hSw => by obtain ⟨⟨y0, y1⟩, y2, y3, y4, y5, y6, y7⟩ := hSw; first | (go_simp; done) | go_simp⟩) (by assumption) ?_
          (try simp only [Act.put, List.setIfInBounds_toArray, List.set_cons_zero, List.set_cons_succ])
          refine wpAnyH_take (i := 6) (oi := { dst := some 49, op := _, type := _, pos := _, after := _, guard := _ }) (v := .agg #[.int .i64 (wi : Int), .int .i64 (t : Int), .int .u8 (mo : Int), .int .i64 (hy : Int), .int .i64 (pr : Int), .float .f64 lo]) rfl (by kernel_rfl) (by kernel_rfl) (by kernel_rfl) (fun _ _ _ h => h) (Or.inl ⟨by rfl, fun w hSw => by obtain ⟨⟨y0, y1⟩, y2, y3, y4, y5, y6, y7⟩ := hSw; first | (go_simp; done) | go_simp⟩) (by assumption) ?_
          (try simp only [Act.put, List.setIfInBounds_toArray, List.set_cons_zero, List.set_cons_succ])
          refine wpAnyH_take (i := 7) (oi := { dst := some 50, op := _, type := _, pos := _, after := _, guard := _ }) (v := .slice (some ⟨rb, 0, none⟩) ln ln) rfl (by kernel_rfl) (by kernel_rfl) (by kernel_rfl) (fun _ _ _ h => h) (Or.inl ⟨by rfl, fun w hSw => by obtain ⟨⟨y0, y1⟩, y2, y3, y4, y5, y6, y7⟩ := hSw; first | (go_simp; done) | go_simp⟩) (by assumption) ?_
          (try simp only [Act.put, List.setIfInBounds_toArray, List.set_cons_zero, List.set_cons_succ])
          refine wpAnyH_take (i := 8) (oi := { dst := some 51, op := _, type := _, pos := _, after := _, guard := _ }) (v := .int .i64 (h : Int)) rfl (by kernel_rfl) (by kernel_rfl) (by kernel_rfl) (fun _ _ _ h => h) (Or.inl ⟨by rfl, fun w hSw => by obtain ⟨⟨y0, y1⟩, y2, y3, y4, y5, y6, y7⟩ := hSw; first | (go_simp; done) | go_simp⟩) (by assumption) ?_
          (try simp only [Act.put, List.setIfInBounds_toArray, List.set_cons_zero, List.set_cons_succ])
          refine wpAnyH_take (i := 9) (oi := { dst := some 52, op := _, type := _, pos := _, after := _, guard := _ }) (v := .int .i64 (a : Int)) rfl (by kernel_rfl) (by kernel_rfl) (by kernel_rfl) (fun _ _ _ h => h) (Or.inl ⟨by rfl, fun w hSw => by obtain ⟨⟨y0, y1⟩, y2, y3, y4, y5, y6, y7⟩ := hSw; first | (go_simp; done) | go_simp⟩) (by assumption) ?_
          (try simp only [Act.put, List.setIfInBounds_toArray, List.set_cons_zero, List.set_cons_succ])
          refine wpAnyH_take (i := 10) (oi := { dst := some 53, op := _, type := _, pos := _, after := _, guard := _ }) (v := .int .i64 (d : Int)) rfl (by kernel_rfl) (by kernel_rfl) (by kernel_rfl) (fun _ _ _ h => h) (Or.inl ⟨by rfl, fun w hSw => by obtain ⟨⟨y0, y1⟩, y2, y3, y4, y5, y6, y7⟩ := hSw; first | (go_simp; done) | go_simp⟩) (by assumption) ?_
          (try simp only [Act.put, List.setIfInBounds_toArray, List.set_cons_zero, List.set_cons_succ])
          refine wpAnyH_take (i := 11) (oi := { dst := some 54, op := _, type := _, pos := _, after := _, guard := _ }) (v := .slice (some ⟨rb, d * 3, none⟩) (ln - d) (ln - d)) rfl (by kernel_rfl) (by kernel_rfl) (by kernel_rfl) (fun _ _ _ h => h) (Or.inl ⟨by rfl, fun w hSw => by obtain ⟨⟨y0, y1⟩, y2, y3, y4, y5, y6, y7⟩ := hSw; first | (go_simp; done) | go_simp⟩) (by assumption) ?_
          (try simp only [Act.put, List.setIfInBounds_toArray, List.set_cons_zero, List.set_cons_succ])
          refine wpAnyH_ready (rs := [12]) (by kernel_rfl) (by simp) ?_
          refine AllReadyH.cons rfl (fun K hK => ?_) AllReadyH.nil
          rw [if_pos (by rfl)]
          go_simp
          refine Calls.mono (HLR.out W2.drew h rb (d * 3) (ln - d) (ln - d) d M S X HDR.out.2.2 hhb HDR.out.2.1 rfl (by omega) (by omega) (fun j q1 q2 => by rw [show d + (j - h) = j - a by omega]; exact HK.out.2.1 j (by omega) q2)) ?_
          rintro e' Y ⟨mm, ss, xx, rfl, hnew, hoY⟩
          have H4 : Hid (Ds.Rs f (fun _ => False) b h mm ss xx ∧ Rw Y rb ln M S X ∧ Only (fun _ => False) w Y ∧ Only (fun g => g = rb) w1 Y) := ⟨hnew, HDR.out.2.1.keep hoY, HDR.out.2.2.trans hoY, HDR.out.1.trans (hoY.mono (fun _ h => h.elim))⟩
          clear hnew hoY
          refine hK.out _ _ ((HSS.out _ H4.out.2.2.2).1) (fun hHeld => ?_)
          clear hK
          (try simp only [Act.put, List.setIfInBounds_toArray, List.set_cons_zero, List.set_cons_succ])
          refine wpAnyH_take (i := 13) (oi := { dst := some 56, op := _, type := _, pos := _, after := _, guard := _ }) (v := .pointer (some ⟨rb, d * 3, none⟩)) rfl (by kernel_rfl) (by kernel_rfl) (by kernel_rfl) (fun _ _ _ h => h) (Or.inl ⟨by rfl, fun w hSw => by obtain ⟨⟨y0, y1⟩, y2, y3, y4, y5, y6, y7⟩ := hSw; first | (go_simp; done) | go_simp⟩) (by assumption) ?_
          (try simp only [Act.put, List.setIfInBounds_toArray, List.set_cons_zero, List.set_cons_succ])
          obtain ⟨x0, x1, x2⟩ := H4.out.2.1.at (j := d) hdl rfl
          have fx0 := H4.out.2.1.fz (d * 3)
          have fx1 := H4.out.2.1.fz (d * 3 + 1)
          have fx2 := H4.out.2.1.fz (d * 3 + 2)
          have lx := H4.out.2.1.lt
          refine wpAnyH_ready (rs := [14]) (by kernel_rfl) (by simp) ?_
          refine AllReadyH.cons rfl (fun K hK => ?_) AllReadyH.nil
          rw [if_pos (by rfl)]
          go_simp
          obtain ⟨z, hz⟩ : ∃ Z, Z = ((Y.setCell ⟨rb, d * 3, none⟩ (.bool mm)).setCell ⟨rb, d * 3 + 1, none⟩ (.int .i64 (ss : Int))).setCell ⟨rb, d * 3 + 2, none⟩ (.int .i64 (xx : Int)) := ⟨_, rfl⟩
          have H5 : Hid (Rw z rb ln (fun i => if i = d then mm else M i) (fun i => if i = d then ss else S i) (fun i => if i = d then xx else X i) ∧ Only (fun _ => False) w z ∧ Only (fun g => g = rb) w1 z) := by
            rw [hz]
            exact ⟨H4.out.2.1.set3 rfl mm ss xx, ((H4.out.2.2.1.setNew (p := ⟨rb, d * 3, none⟩) HRB.out.1 _).setNew (p := ⟨rb, d * 3 + 1, none⟩) HRB.out.1 _).setNew (p := ⟨rb, d * 3 + 2, none⟩) HRB.out.1 _, ((H4.out.2.2.2.setCell (p := ⟨rb, d * 3, none⟩) rfl _).setCell (p := ⟨rb, d * 3 + 1, none⟩) rfl _).setCell (p := ⟨rb, d * 3 + 2, none⟩) rfl _⟩
          rw [← hz]
          clear hz x0 x1 x2 fx0 fx1 fx2 lx
          refine hK.out _ _ ((HSS.out _ H5.out.2.2).1) (fun hHeld => ?_)
          clear hK
          (try simp only [Act.put, List.setIfInBounds_toArray, List.set_cons_zero, List.set_cons_succ])
          refine wpAnyH_done (by kernel_rfl) ?_ _
          clear hHeld
          have HN : Hid (∀ j, h ≤ j → j ≤ b → Ds.Rs f (rZ O a) b j ((fun i => if i = d then mm else M i) (j - a)) ((fun i => if i = d then ss else S i) (j - a)) ((fun i => if i = d then xx else X i) (j - a))) := fun j q1 q2 => by
            simp only []
            by_cases q : j = h
            · subst q
              rw [if_pos (by omega), if_pos (by omega), if_pos (by omega)]
              exact H4.out.1.weak
            · rw [if_neg (by omega), if_neg (by omega), if_neg (by omega)]
              exact HK.out.2.1 j (by omega) q2
          go_wp2_with fail
          go_roundg (h - a)
          case measure => omega
          case rel => exact ⟨h, _, _, _, _, rfl, rfl, t1n, by omega, by go_num, H5.out.1, HN.out, fun j q1 q2 => by rw [if_neg (by omega)]; exact HK.out.2.2.1 j q1 (by omega), H5.out.2.1, H5.out.2.2⟩
        · have t2 : ((h : Int) == (a : Int)) = false := by rw [beq_eq_false_iff_ne]; omega
          have HN : Hid (∀ j, h ≤ j → j ≤ b → Ds.Rs f (rZ O a) b j (M (j - a)) (S (j - a)) (X (j - a))) := fun j q1 q2 => by
            by_cases q : j = h
            · subst q
              exact Or.inr ⟨HK.out.2.2.1 j t1n (by omega), Or.inl ⟨hha, by rw [HE.out]; exact he0⟩⟩
            · exact HK.out.2.1 j (by omega) q2
          clear hha he0
          go_wp2_with fail
          go_roundg (h - a)
          case measure => omega
          case rel => exact ⟨h, M, S, X, _, rfl, rfl, t1n, by omega, by go_num, H3.out.1, HN.out, fun j q1 q2 => HK.out.2.2.1 j q1 (by omega), H3.out.2.1, H3.out.2.2⟩
      · rw [show decide (e ≠ 0) = true from decide_eq_true he0]
        clear he0
        go_upto_region 8 with fail
        have HDR : Hid (Only (fun g => g = rb) w1 W2.drew ∧ Rw W2.drew rb ln M S X ∧ Only (fun _ => False) w W2.drew) := ⟨H3.out.2.2.drew, H3.out.1.keep ((Only.refl _ _).drew), H3.out.2.1.drew⟩
        refine wp_region_held_drew (S := (fun W' => (W'.cell? ⟨R, 0, none⟩ = some (.slice aC n cC) ∧ W'.cell? ⟨R, 1, none⟩ = some (.slice aO m cO)) ∧ (W'.cell? ⟨B, 0, none⟩ = some (.int .i64 (wi : Int)) ∧ W'.cell? ⟨B, 1, none⟩ = some (.int .i64 (t : Int)) ∧ W'.cell? ⟨B, 2, none⟩ = some (.int .u8 (mo : Int)) ∧ W'.cell? ⟨B, 3, none⟩ = some (.int .i64 (hy : Int)) ∧ W'.cell? ⟨B, 4, none⟩ = some (.int .i64 (pr : Int)) ∧ W'.cell? ⟨B, 5, none⟩ = some (.float .f64 lo)))) (by kernel_rfl) (HSS.out _ HDR.out.1).1 (fun hHeld => ?_)
        refine wpAnyH_take (i := 0) (oi := { dst := some 43, op := _, type := _, pos := _, after := _, guard := _ }) (v := .slice (some ⟨rb, 0, none⟩) ln ln) rfl (by kernel_rfl) (by kernel_rfl) (by kernel_rfl) (fun _ _ _ h => h) (Or.inl ⟨by rfl, fun w hSw => by obtain ⟨⟨y0, y1⟩, y2, y3, y4, y5, y6, y7⟩ := hSw; first | (go_simp; done) | go_simp⟩) (by assumption) ?_
        (try simp only [Act.put, List.setIfInBounds_toArray, List.set_cons_zero, List.set_cons_succ])
        refine wpAnyH_take (i := 1) (oi := { dst := some 44, op := _, type := _, pos := _, after := _, guard := _ }) (v := .int .i64 (h : Int)) rfl (by kernel_rfl) (by kernel_rfl) (by kernel_rfl) (fun _ _ _ h => h) (Or.inl ⟨by rfl, fun w hSw => by obtain ⟨⟨y0, y1⟩, y2, y3, y4, y5, y6, y7⟩ := hSw; first | (go_simp; done) | go_simp⟩) (by assumption) ?_
        (try simp only [Act.put, List.setIfInBounds_toArray, List.set_cons_zero, List.set_cons_succ])
        refine wpAnyH_take (i := 2) (oi := { dst := some 45, op := _, type := _, pos := _, after := _, guard := _ }) (v := .int .i64 (a : Int)) rfl (by kernel_rfl) (by kernel_rfl) (by kernel_rfl) (fun _ _ _ h => h) (Or.inl ⟨by rfl, fun w hSw => by obtain ⟨⟨y0, y1⟩, y2, y3, y4, y5, y6, y7⟩ := hSw; first | (go_simp; done) | go_simp⟩) (by assumption) ?_
        (try simp only [Act.put, List.setIfInBounds_toArray, List.set_cons_zero, List.set_cons_succ])
        refine wpAnyH_take (i := 3) (oi := { dst := some 46, op := _, type := _, pos := _, after := _, guard := _ }) (v := .int .i64 (d : Int)) rfl (by kernel_rfl) (by kernel_rfl) (by kernel_rfl) (fun _ _ _ h => h) (Or.inl ⟨by rfl, fun w hSw => by obtain ⟨⟨y0, y1⟩, y2, y3, y4, y5, y6, y7⟩ := hSw; first | (go_simp; done) | go_simp⟩) (by assumption) ?_
        (try simp only [Act.put, List.setIfInBounds_toArray, List.set_cons_zero, List.set_cons_succ])
        refine wpAnyH_take (i := 4) (oi := { dst := some 47, op := _, type := _, pos := _, after := _, guard := _ }) (v := .agg #[.slice aC n cC, .slice aO m cO]) rfl (by kernel_rfl) (by kernel_rfl) (by kernel_rfl) (fun _ _ _ h => h) (Or.inl ⟨by rfl, fun w hSw => by obtain ⟨⟨y0, y1⟩, y2, y3, y4, y5, y6, y7⟩ := hSw; first | (go_simp; done) | go_simp⟩) (by assumption) ?_
        (try simp only [Act.put, List.setIfInBounds_toArray, List.set_cons_zero, List.set_cons_succ])
        refine wpAnyH_take (i := 5) (oi := { dst := some 48, op := _, type := _, pos := _, after := _, guard := _ }) (v := .int .i64 (h : Int)) rfl (by kernel_rfl) (by kernel_rfl) (by kernel_rfl) (fun _ _ _ h => h) (Or.inl ⟨by rfl, fun w hSw => by obtain ⟨⟨y0, y1⟩, y2, y3, y4, y5, y6, y7⟩ := hSw; first | (go_simp; done) | go_simp⟩) (by assumption) ?_
        (try simp only [Act.put, List.setIfInBounds_toArray, List.set_cons_zero, List.set_cons_succ])
        refine wpAnyH_take (i := 6) (oi := { dst := some 49, op := _, type := _, pos := _, after := _, guard := _ }) (v := .agg #[.int .i64 (wi : Int), .int .i64 (t : Int), .int .u8 (mo : Int), .int .i64 (hy : Int), .int .i64 (pr : Int), .float .f64 lo]) rfl (by kernel_rfl) (by kernel_rfl) (by kernel_rfl) (fun _ _ _ h => h) (Or.inl ⟨by rfl, fun w hSw => by obtain ⟨⟨y0, y1⟩, y2, y3, y4, y5, y6, y7⟩ := hSw; first | (go_simp; done) | go_simp⟩) (by assumption) ?_
        (try simp only [Act.put, List.setIfInBounds_toArray, List.set_cons_zero, List.set_cons_succ])
        refine wpAnyH_take (i := 7) (oi := { dst := some 50, op := _, type := _, pos := _, after := _, guard := _ }) (v := .slice (some ⟨rb, 0, none⟩) ln ln) rfl (by kernel_rfl) (by kernel_rfl) (by kernel_rfl) (fun _ _ _ h => h) (Or.inl ⟨by rfl, fun w hSw => by obtain ⟨⟨y0, y1⟩, y2, y3, y4, y5, y6, y7⟩ := hSw; first | (go_simp; done) | go_simp⟩) (by assumption) ?_
        (try simp only [Act.put, List.setIfInBounds_toArray, List.set_cons_zero, List.set_cons_succ])
        refine wpAnyH_take (i := 8) (oi := { dst := some 51, op := _, type := _, pos := _, after := _, guard := _ }) (v := .int .i64 (h : Int)) rfl (by kernel_rfl) (by kernel_rfl) (by kernel_rfl) (fun _ _ _ h => h) (Or.inl ⟨by rfl, fun w hSw => by obtain ⟨⟨y0, y1⟩, y2, y3, y4, y5, y6, y7⟩ := hSw; first | (go_simp; done) | go_simp⟩) (by assumption) ?_
        (try simp only [Act.put, List.setIfInBounds_toArray, List.set_cons_zero, List.set_cons_succ])
        refine wpAnyH_take (i := 9) (oi := { dst := some 52, op := _, type := _, pos := _, after := _, guard := _ }) (v := .int .i64 (a : Int)) rfl (by kernel_rfl) (by kernel_rfl) (by kernel_rfl) (fun _ _ _ h => h) (Or.inl ⟨by rfl, fun w hSw => by obtain ⟨⟨y0, y1⟩, y2, y3, y4, y5, y6, y7⟩ := hSw; first | (go_simp; done) | go_simp⟩) (by assumption) ?_
        (try simp only [Act.put, List.setIfInBounds_toArray, List.set_cons_zero, List.set_cons_succ])
        refine wpAnyH_take (i := 10) (oi := { dst := some 53, op := _, type := _, pos := _, after := _, guard := _ }) (v := .int .i64 (d : Int)) rfl (by kernel_rfl) (by kernel_rfl) (by kernel_rfl) (fun _ _ _ h => h) (Or.inl ⟨by rfl, fun w hSw => by obtain ⟨⟨y0, y1⟩, y2, y3, y4, y5, y6, y7⟩ := hSw; first | (go_simp; done) | go_simp⟩) (by assumption) ?_
        (try simp only [Act.put, List.setIfInBounds_toArray, List.set_cons_zero, List.set_cons_succ])
        refine wpAnyH_take (i := 11) (oi := { dst := some 54, op := _, type := _, pos := _, after := _, guard := _ }) (v := .slice (some ⟨rb, d * 3, none⟩) (ln - d) (ln - d)) rfl (by kernel_rfl) (by kernel_rfl) (by kernel_rfl) (fun _ _ _ h => h) (Or.inl ⟨by rfl, fun w hSw => by obtain ⟨⟨y0, y1⟩, y2, y3, y4, y5, y6, y7⟩ := hSw; first | (go_simp; done) | go_simp⟩) (by assumption) ?_
        (try simp only [Act.put, List.setIfInBounds_toArray, List.set_cons_zero, List.set_cons_succ])
        refine wpAnyH_ready (rs := [12]) (by kernel_rfl) (by simp) ?_
        refine AllReadyH.cons rfl (fun K hK => ?_) AllReadyH.nil
        rw [if_pos (by rfl)]
        go_simp
        refine Calls.mono (HLR.out W2.drew h rb (d * 3) (ln - d) (ln - d) d M S X HDR.out.2.2 hhb HDR.out.2.1 rfl (by omega) (by omega) (fun j q1 q2 => by rw [show d + (j - h) = j - a by omega]; exact HK.out.2.1 j (by omega) q2)) ?_
        rintro e' Y ⟨mm, ss, xx, rfl, hnew, hoY⟩
        have H4 : Hid (Ds.Rs f (fun _ => False) b h mm ss xx ∧ Rw Y rb ln M S X ∧ Only (fun _ => False) w Y ∧ Only (fun g => g = rb) w1 Y) := ⟨hnew, HDR.out.2.1.keep hoY, HDR.out.2.2.trans hoY, HDR.out.1.trans (hoY.mono (fun _ h => h.elim))⟩
        clear hnew hoY
        refine hK.out _ _ ((HSS.out _ H4.out.2.2.2).1) (fun hHeld => ?_)
        clear hK
        (try simp only [Act.put, List.setIfInBounds_toArray, List.set_cons_zero, List.set_cons_succ])
        refine wpAnyH_take (i := 13) (oi := { dst := some 56, op := _, type := _, pos := _, after := _, guard := _ }) (v := .pointer (some ⟨rb, d * 3, none⟩)) rfl (by kernel_rfl) (by kernel_rfl) (by kernel_rfl) (fun _ _ _ h => h) (Or.inl ⟨by rfl, fun w hSw => by obtain ⟨⟨y0, y1⟩, y2, y3, y4, y5, y6, y7⟩ := hSw; first | (go_simp; done) | go_simp⟩) (by assumption) ?_
        (try simp only [Act.put, List.setIfInBounds_toArray, List.set_cons_zero, List.set_cons_succ])
        obtain ⟨x0, x1, x2⟩ := H4.out.2.1.at (j := d) hdl rfl
        have fx0 := H4.out.2.1.fz (d * 3)
        have fx1 := H4.out.2.1.fz (d * 3 + 1)
        have fx2 := H4.out.2.1.fz (d * 3 + 2)
        have lx := H4.out.2.1.lt
        refine wpAnyH_ready (rs := [14]) (by kernel_rfl) (by simp) ?_
        refine AllReadyH.cons rfl (fun K hK => ?_) AllReadyH.nil
        rw [if_pos (by rfl)]
        go_simp
        obtain ⟨z, hz⟩ : ∃ Z, Z = ((Y.setCell ⟨rb, d * 3, none⟩ (.bool mm)).setCell ⟨rb, d * 3 + 1, none⟩ (.int .i64 (ss : Int))).setCell ⟨rb, d * 3 + 2, none⟩ (.int .i64 (xx : Int)) := ⟨_, rfl⟩
        have H5 : Hid (Rw z rb ln (fun i => if i = d then mm else M i) (fun i => if i = d then ss else S i) (fun i => if i = d then xx else X i) ∧ Only (fun _ => False) w z ∧ Only (fun g => g = rb) w1 z) := by
          rw [hz]
          exact ⟨H4.out.2.1.set3 rfl mm ss xx, ((H4.out.2.2.1.setNew (p := ⟨rb, d * 3, none⟩) HRB.out.1 _).setNew (p := ⟨rb, d * 3 + 1, none⟩) HRB.out.1 _).setNew (p := ⟨rb, d * 3 + 2, none⟩) HRB.out.1 _, ((H4.out.2.2.2.setCell (p := ⟨rb, d * 3, none⟩) rfl _).setCell (p := ⟨rb, d * 3 + 1, none⟩) rfl _).setCell (p := ⟨rb, d * 3 + 2, none⟩) rfl _⟩
        rw [← hz]
        clear hz x0 x1 x2 fx0 fx1 fx2 lx
        refine hK.out _ _ ((HSS.out _ H5.out.2.2).1) (fun hHeld => ?_)
        clear hK
        (try simp only [Act.put, List.setIfInBounds_toArray, List.set_cons_zero, List.set_cons_succ])
        refine wpAnyH_done (by kernel_rfl) ?_ _
        clear hHeld
        have HN : Hid (∀ j, h ≤ j → j ≤ b → Ds.Rs f (rZ O a) b j ((fun i => if i = d then mm else M i) (j - a)) ((fun i => if i = d then ss else S i) (j - a)) ((fun i => if i = d then xx else X i) (j - a))) := fun j q1 q2 => by
          simp only []
          by_cases q : j = h
          · subst q
            rw [if_pos (by omega), if_pos (by omega), if_pos (by omega)]
            exact H4.out.1.weak
          · rw [if_neg (by omega), if_neg (by omega), if_neg (by omega)]
            exact HK.out.2.1 j (by omega) q2
        go_wp2_with fail
        go_roundg (h - a)
        case measure => omega
        case rel => exact ⟨h, _, _, _, _, rfl, rfl, t1n, by omega, by go_num, H5.out.1, HN.out, fun j q1 q2 => by rw [if_neg (by omega)]; exact HK.out.2.2.1 j q1 (by omega), H5.out.2.1, H5.out.2.2⟩
    · have t1 : decide ((a : Int) ≤ (k : Int) - 1) = false := decide_eq_false (by omega)
      have e5 : k = a := by omega
      subst e5
      go_wp2_with fail
      go_ret
      exact ⟨rb, M, S, X, rfl, HK.out.1, HK.out.2.1, HK.out.2.2.2.1⟩
end Go.Proofs.Ytdepjmneoplicaa
