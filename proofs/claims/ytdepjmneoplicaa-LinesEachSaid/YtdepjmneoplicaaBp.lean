/-
  best.Break: lines that cost least.
-/
import Derived.Test.YtdepjmneoplicaaKf
namespace Go.Proofs.Ytdepjmneoplicaa
open Go.RowKit Go.Maps
set_option linter.unusedVariables false
set_option linter.unusedSimpArgs false
set_option maxRecDepth 100000 in
set_option maxHeartbeats 8000000 in
theorem bbreak_any (C : List Ct) (O : List Nat) (n m : Nat) (aC aO : Option Addr) (cC cO a b wi t mo hy pr lo : Nat) (w : World) (hP : Pv w C O n m aC aO cC cO) (hm : n < m) (hab : a ≤ b) (hb : b ≤ n) (hw : wi ≤ 1048576) (h0 : 0 < t) (ht : t ≤ 1000) (hhy : hy ≤ 2097152) (hpr : pr ≤ 1048576) :
    Calls Try.prog 21 #[.agg #[.slice aC n cC, .slice aO m cO], .int .i64 (a : Int), .int .i64 (b : Int), .agg #[.int .i64 (wi : Int), .int .i64 (t : Int), .int .u8 (mo : Int), .int .i64 (hy : Int), .int .i64 (pr : Int), .float .f64 lo]] w (bsP (bsF C O t wi hy pr lo b) C O t b a w) := by
  obtain ⟨i3, g3, g30, g31, g32⟩ := info_parts infoLn
  have HP : Hid (Pv w C O n m aC aO cC cO) := hP
  have h1 := hP.few
  have hfO := hP.fewO
  obtain ⟨f, hf⟩ : ∃ f, f = bsF C O t wi hy pr lo b := ⟨_, rfl⟩
  obtain ⟨ln, hln⟩ : ∃ x, x = b - a + 1 := ⟨_, rfl⟩
  have HAR : Hid (∀ W', a < b → Only (fun _ => False) w W' → Calls Try.prog 31 #[.agg #[.slice aC n cC, .slice aO m cO], .int .i64 (a : Int), .int .i64 (b : Int), .agg #[.int .i64 (wi : Int), .int .i64 (t : Int), .int .u8 (mo : Int), .int .i64 (hy : Int), .int .i64 (pr : Int), .float .f64 lo]] W' fun e w' => ∃ (rb : Nat) (M : Nat → Bool) (S X : Nat → Nat), e = .returned (.slice (some ⟨rb, 0, none⟩) ln ln) ∧ Rw w' rb ln M S X ∧ (∀ j, a ≤ j → j ≤ b → Ds.Rs f (rZ O a) b j (M (j - a)) (S (j - a)) (X (j - a))) ∧ Only (fun _ => False) W' w') := fun W' hlt ho => by
    rw [hf]
    exact allRests_any C O n m aC aO cC cO a b ln wi t mo hy pr lo W' (hP.keep ho) hm hlt hb hln hw h0 ht hhy hpr
  have HEN : Hid (∀ W' k e, Only (fun _ => False) w W' → k ≤ n → O.getD k 0 = e → Calls Try.prog 32 #[.agg #[.slice aC n cC, .slice aO m cO], .int .i64 ((k : Nat) : Int)] W' fun r w' => r = .returned (.tuple #[.int .u8 (e : Int), .bool (decide (e ≠ 0))]) ∧ Only (fun _ => False) W' w') := fun W' k e ho hk he => by
    obtain ⟨e', h1, h2⟩ := getD_some' (O := O) (k := k) (by rw [← hP.hm]; omega)
    have q : e = e' := by rw [← he, h2]
    subst q
    exact ends_any C O n m aC aO cC cO k e W' (hP.keep ho) (by omega) h1
  have HF0 : Hid (∀ i k, O.getD k 0 = 0 → f i k = none) := fun i k h => by rw [hf]; exact Sp.cos_none (Or.inr h)
  rw [← hf]
  have hlnl : ln ≤ 100001 := by omega
  have hanb1 : a + ln ≤ b + 1 := by omega
  have hanb2 : b + 1 ≤ a + ln := by omega
  clear hP hf hln
  have mn : min (b : Int) (n : Int) = (b : Int) := by omega
  have mx : max (a : Int) 0 = (a : Int) := by omega
  go_enter Try.func21, Try.ntmps21
  go_wp2_with fail
  obtain ⟨R, B, w0, hw0, hB, hR, H0, lRB, lB, lB0⟩ := box26 w (.slice aC n cC) (.slice aO m cO) (.int .i64 (wi : Int)) (.int .i64 (t : Int)) (.int .u8 (mo : Int)) (.int .i64 (hy : Int)) (.int .i64 (pr : Int)) (.float .f64 lo) 31 35
  rw [hw0, hB, hR]
  clear hw0 hB hR
  have HS : Hid (∀ W', Only (fun g => w0.heap.size ≤ g) w0 W' → (W'.cell? ⟨R, 0, none⟩ = some (.slice aC n cC) ∧ W'.cell? ⟨R, 1, none⟩ = some (.slice aO m cO)) ∧ (W'.cell? ⟨B, 0, none⟩ = some (.int .i64 (wi : Int)) ∧ W'.cell? ⟨B, 1, none⟩ = some (.int .i64 (t : Int)) ∧ W'.cell? ⟨B, 2, none⟩ = some (.int .u8 (mo : Int)) ∧ W'.cell? ⟨B, 3, none⟩ = some (.int .i64 (hy : Int)) ∧ W'.cell? ⟨B, 4, none⟩ = some (.int .i64 (pr : Int)) ∧ W'.cell? ⟨B, 5, none⟩ = some (.float .f64 lo)) ∧ R < W'.heap.size ∧ B < W'.heap.size) := fun W' ho => by
    have lR := (Array.getElem?_eq_some_iff.1 H0.out.1).1
    have lB := (Array.getElem?_eq_some_iff.1 H0.out.2.1).1
    have e1 := (ho.block R lR (by omega)).trans H0.out.1
    have e2 := (ho.block B lB (by omega)).trans H0.out.2.1
    exact ⟨⟨(blk_two e1).1, (blk_two e1).2.1⟩, blk_six e2, (blk_two e1).2.2, (Array.getElem?_eq_some_iff.1 e2).1⟩
  obtain ⟨⟨r0, r1⟩, ⟨k0, k1, k2, k3, k4, k5⟩, lR0, lB1⟩ := HS.out w0 (Only.refl _ _)
  by_cases hlt : a < b
  · have t0 : decide ((b : Int) ≤ (a : Int)) = false := decide_eq_false (by omega)
    have t0n : decide (b ≤ a) = false := decide_eq_false (by omega)
    go_quiet (fail)
    go_wp2_with fail
    refine Calls.mono (HAR.out _ hlt (H0.out.2.2.drewN _)) ?_
    rintro e Z ⟨rb, M, S, X, rfl, hrw, hrs, hoZ⟩
    have HZ : Hid (Rw Z rb ln M S X ∧ (∀ j, a ≤ j → j ≤ b → Ds.Rs f (rZ O a) b j (M (j - a)) (S (j - a)) (X (j - a))) ∧ Only (fun _ => False) w Z ∧ Only (fun _ => False) w0 Z) := ⟨hrw, hrs, (H0.out.2.2.drewN _).trans hoZ, ((Only.refl _ _).drewN _).trans hoZ⟩
    clear hrw hrs hoZ r0 r1 k0 k1 k2 k3 k4 k5 lR0 lB1
    have hR0 := HZ.out.2.1 a (Nat.le_refl _) hab
    rw [Nat.sub_self] at hR0
    obtain ⟨m0, hm0⟩ : ∃ x, x = M 0 := ⟨_, rfl⟩
    obtain ⟨x0, -, -⟩ := HZ.out.1.at (j := 0) (c := 0) (by omega) rfl
    have lx := HZ.out.1.lt
    rw [← hm0] at x0 hR0
    clear hm0
    have hlnI : (0 : Int) < (ln : Int) := by omega
    have hlnN : 0 < ln := by omega
    cases m0 with
    | false =>
      have HNO : Hid (Ds.No f b a) := by
        rcases hR0 with ⟨q, _⟩ | ⟨_, q | q⟩
        · cases q
        · exact absurd rfl q.1
        · exact q
      clear hR0
      go_wp2_with fail
      go_ret2
      exact Or.inr ⟨HNO.out, rfl, HZ.out.2.2.1⟩
    | true =>
      obtain ⟨E, hE⟩ : ∃ E, Ds.Best f b a E (S 0) := by
        rcases hR0 with ⟨_, E, h, _⟩ | ⟨q, _⟩
        · exact ⟨E, h⟩
        · cases q
      have HBE : Hid (Ds.Best f b a E (S 0)) := hE
      have HSZ : Hid (∀ W', Only (fun g => Z.heap.size ≤ g) Z W' → Only (fun g => w0.heap.size ≤ g) w0 W' ∧ Only (fun _ => False) w W' ∧ Rw W' rb ln M S X) := fun W' ho => by
        have h2 : Only (fun _ => False) Z W' := ho.old (fun b hb => Or.inl hb)
        exact ⟨(HZ.out.2.2.2.trans h2).mono (fun _ h => h.elim), HZ.out.2.2.1.trans h2, HZ.out.1.keep h2⟩
      clear hE hR0
      go_wp2_with fail
      clear x0 lx
      have hs0 := HZ.out.2.2.1.size
      go_loopg [11, 12] (b - a) (fun gh v11 v12 wr => ∃ (q k : Nat) (D : List Ln) (F : List Nat) (r : Nat) (al : Option Addr) (c : Nat) (W : World), W = wr ∧ gh = b - q ∧ a ≤ q ∧ q ≤ b ∧ v11 = .slice al k c ∧ v12 = .int .i64 (q : Int) ∧ k + a ≤ q ∧ k = D.length ∧ mkL C O t a E = D ++ mkL C O t q F ∧ Ds.Best f b q F r ∧ ¬ rZ O a q ∧ W.ownsRow Z.heap.size 54 4 (.slice al k c) k (lnC D) ∧ Only (fun g => Z.heap.size ≤ g) Z W)
      case atStart => exact ⟨a, 0, [], E, S 0, none, 0, _, rfl, rfl, Nat.le_refl _, hab, rfl, rfl, by omega, rfl, rfl, HBE.out, fun h => h.1 rfl, ⟨rfl, Or.inl ⟨rfl, rfl⟩⟩, Only.refl _ _⟩
      case round =>
        obtain ⟨q, k, D, F, r, al, c, W, hW, rfl, hqa, hqb, rfl, rfl, hkq, hkD, hmk, hbq, hzq, hown, hoW⟩ := hrel
        subst hW
        have HG : Hid (W.ownsRow Z.heap.size 54 4 (.slice al k c) k (lnC D) ∧ Only (fun g => Z.heap.size ≤ g) Z W ∧ Only (fun _ => False) w W ∧ k = D.length ∧ mkL C O t a E = D ++ mkL C O t q F ∧ Ds.Best f b q F r) := ⟨hown, hoW, (HSZ.out W hoW).2.1, hkD, hmk, hbq⟩
        have hsz := hoW.size
        obtain ⟨⟨r0, r1⟩, ⟨k0, k1, k2, k3, k4, k5⟩, lRW, lBW⟩ := HS.out W (HSZ.out W hoW).1
        by_cases hqb2 : q < b
        · have t1 : (q : Int) < (b : Int) := by omega
          obtain ⟨dq, hdq⟩ : ∃ x, x = q - a := ⟨_, rfl⟩
          obtain ⟨x, hx⟩ : ∃ x, x = X dq := ⟨_, rfl⟩
          obtain ⟨F', hF'⟩ : ∃ F', F = x :: F' := by
            have h := HZ.out.2.1 q hqa hqb
            rw [← hdq, ← hx] at h
            rcases h with ⟨_, E', h2, h3⟩ | ⟨_, h2 | h2⟩
            · obtain ⟨F', e⟩ := h3 hqb2
              exact ⟨F', by rw [← e]; exact (hbq.one h2).1⟩
            · exact absurd h2 hzq
            · exact (hbq.no h2).elim
          subst hF'
          obtain ⟨y, r', hy1, -, hbx⟩ := Ds.best_tail hbq
          have hqx : q < x := hbq.row.1
          have hxb : x ≤ b := hbq.row.2.le
          obtain ⟨e, hOe, hDe⟩ := getD_some' (O := O) (k := x) (by rw [← HP.out.hm]; omega)
          have he8 : e < 256 := HP.out.oO e (List.mem_of_getElem? hOe)
          have he0 : e ≠ 0 := fun h => by rw [HF0.out q x (by rw [hDe]; exact h)] at hy1; cases hy1
          obtain ⟨ce, hce⟩ : ∃ z, z = Sp.cel C t q (x - q) e := ⟨_, rfl⟩
          have HNX : Hid (mkL C O t a E = (D ++ [⟨q, x, ce, e⟩]) ++ mkL C O t x F' ∧ Ds.Best f b x F' r' ∧ ¬ rZ O a x ∧ O.getD x 0 = e) := by
            refine ⟨?_, hbx, fun h => he0 (by rw [← hDe]; exact h.2), hDe⟩
            rw [hmk, List.append_assoc, hce, ← wde_cel, ← hDe]
            rfl
          have HMK : Hid (∀ W', Only (fun _ => False) w W' → Calls Try.prog 30 #[.agg #[.slice aC n cC, .slice aO m cO], .int .i64 (q : Int), .int .i64 (x : Int), .int .u8 (e : Int), .int .i64 (t : Int)] W' fun r w' => r = .returned (.agg #[.int .i64 (q : Int), .int .i64 (x : Int), .int .i64 (ce : Int), .int .u8 (e : Int)]) ∧ Only (fun _ => False) W' w') := fun W' ho => by
            rw [hce]
            exact make_any C O n m aC aO cC cO q x t e W' (HP.out.keep ho) (by omega) (by omega) h0 ht he8
          obtain ⟨-, -, x2⟩ := (HSZ.out W hoW).2.2.at (j := dq) (by omega) rfl
          have lx := (HSZ.out W hoW).2.2.lt
          rw [← hx] at x2
          have e1 : (q : Int) - (a : Int) = (dq : Int) := by omega
          have hdI : (dq : Int) < (ln : Int) := by omega
          have hdN : dq < ln := by omega
          have hdl : dq ≤ 100000 := by omega
          clear hown hoW hkD hmk hbq hzq hdq hx hy1 hbx hOe hDe hce he0
          go_wp2_with fail
          refine Calls.mono (HEN.out _ x e HG.out.2.2.1 (by omega) HNX.out.2.2.2) ?_
          rintro e' w2 ⟨rfl, ho2⟩
          obtain ⟨qq, hqq⟩ : ∃ q, q = decide (e ≠ 0) := ⟨_, rfl⟩
          rw [← hqq]
          have H2 : Hid (Only (fun _ => False) W w2 ∧ Only (fun g => Z.heap.size ≤ g) Z w2 ∧ Only (fun _ => False) w w2) := ⟨ho2, HG.out.2.1.trans (ho2.mono (fun _ h => h.elim)), HG.out.2.2.1.trans ho2⟩
          clear ho2 r0 r1 k0 k1 k2 k3 k4 k5 lRW lBW x2 lx hqq
          obtain ⟨⟨s0, s1⟩, ⟨u0, u1, u2, u3, u4, u5⟩, lRW2, lBW2⟩ := HS.out w2 (HSZ.out w2 H2.out.2.1).1
          go_wp2_with fail
          refine Calls.mono (HMK.out _ H2.out.2.2) ?_
          rintro e' w3 ⟨rfl, ho3⟩
          have H3 : Hid (Only (fun _ => False) W w3 ∧ w3.ownsRow Z.heap.size 54 4 (.slice al k c) k (lnC D)) := ⟨H2.out.1.trans ho3, own_only HG.out.1 (H2.out.1.trans ho3) (fun _ _ h => h)⟩
          have HVA : Hid _ := blk1 w3 (.cells #[.int .i64 (q : Int), .int .i64 (x : Int), .int .i64 (ce : Int), .int .u8 (e : Int)] 54)
          clear ho3 s0 s1 u0 u1 u2 u3 u4 u5 lRW2 lBW2
          go_wp2_with (at_builtin; (refine wpList_append_lies _ rfl _ _ 37 rfl Z.heap.size 54 i3 (.agg #[.int .i64 0, .int .i64 0, .int .i64 0, .int .u8 0]) 4 32 Try.underlying37 g3 g30 g31 g32 rfl (by decide) (.slice al k c) k (lnC D) rfl (H3.out.2.alloc _) ⟨w3.heap.size, 0, none⟩ 1 1 [.int .i64 (q : Int), .int .i64 (x : Int), .int .i64 (ce : Int), .int .u8 (e : Int)] rfl rfl (World.news_of_block (cs := #[.int .i64 (q : Int), .int .i64 (x : Int), .int .i64 (ce : Int), .int .u8 (e : Int)]) HVA.out.1) (fun u hu => by simp at hu; rcases hu with rfl | rfl | rfl | rfl <;> rfl) (by decide) (by unfold maxLen; omega) (by omega) (by rw [HVA.out.2]; have := H3.out.1.size; omega) (w3.heap.size + 1) HVA.out.2 ?_; intro g5 cap5 w5 hown5 hgrow5 hat5 hlt5; have hoo : Only (fun g => (Value.slice al k c).ownBlock = some g) w3 w5 := (((Only.refl (fun g => (Value.slice al k c).ownBlock = some g) w3).alloc _)).grown hgrow5 (fun k hk => hk); have H5 : Hid (w5.ownsRow Z.heap.size 54 4 (.slice (some ⟨g5, 0, none⟩) (k + 1) cap5) (k + 1) (lnC (D ++ [⟨q, x, ce, e⟩])) ∧ Only (fun g => Z.heap.size ≤ g) Z w5) := ⟨by rw [lnC_snoc]; exact hown5, HG.out.2.1.trans ((H3.out.1.mono (fun _ h => h.elim)).trans (hoo.mono (fun g hg => (own_own H3.out.2 hg).1)))⟩; clear hown5 hgrow5 hat5 hoo))
          go_roundg (b - x)
          case measure => omega
          case rel => exact ⟨x, k + 1, D ++ [⟨q, x, ce, e⟩], F', r', _, _, _, rfl, rfl, by omega, by omega, rfl, rfl, by omega, by rw [List.length_append, ← HG.out.2.2.2.1]; rfl, HNX.out.1, HNX.out.2.1, HNX.out.2.2.1, H5.out.1, H5.out.2⟩
        · have t1 : decide ((q : Int) < (b : Int)) = false := decide_eq_false (by omega)
          have HL : Hid (mkL C O t a E = D) := by
            have e : q = b := by omega
            subst e
            have e2 := (hbq.one (Ds.best_end f q)).1
            rw [hmk, e2]
            exact List.append_nil _
          have HLE : Hid (k = E.length) := by rw [hkD, ← HL.out, mkL_len]; exact rfl
          clear hown hoW hkD hmk hbq hzq
          go_wp2_with fail
          go_ret2
          exact Or.inl ⟨E, S 0, al, k, c, HBE.out, HLE.out, rfl, by rw [HL.out]; exact own_base2 HG.out.1 hs0, HG.out.2.2.1⟩
  · have t0 : (b : Int) ≤ (a : Int) := by omega
    have t0n : b ≤ a := by omega
    have e : a = b := by omega
    have HB0 : Hid (Ds.Best f b a [] 0) := by rw [e]; exact Ds.best_end f b
    clear e hlt
    go_quiet (fail)
    go_wp2_with fail
    go_ret2
    exact Or.inl ⟨[], 0, none, 0, 0, HB0.out, rfl, rfl, ⟨rfl, Or.inl ⟨rfl, rfl⟩⟩, H0.out.2.2.drewN _⟩
end Go.Proofs.Ytdepjmneoplicaa
