/-
  stanzalaw16.LinesParts: its walk.
-/
import Derived.Test.YtdepjmneoplicaaQz
namespace Go.Proofs.Ytdepjmneoplicaa.linesParts
open Go.RowKit Go.Maps
set_option linter.unusedVariables false
set_option linter.unusedSimpArgs false
theorem sof_pre {C : List Ct} {O : List Nat} {t wi hy pr lo mo : Nat} {P : List Nat} (i : Nat) : ∀ d, ∃ T, (Lv.sof C O t wi hy pr lo mo P (i + d)).1 = (Lv.sof C O t wi hy pr lo mo P i).1 ++ T
  | 0 => ⟨[], by rw [List.append_nil]; rfl⟩
  | d + 1 => by
    obtain ⟨T, h⟩ := sof_pre (C := C) (O := O) (t := t) (wi := wi) (hy := hy) (pr := pr) (lo := lo) (mo := mo) (P := P) i d
    refine ⟨T ++ (Lv.prt C O t wi hy pr lo mo (It.fr P (i + d)) (P.getD (i + d) 0)).1, ?_⟩
    show (Lv.sof C O t wi hy pr lo mo P (i + d)).1 ++ _ = _
    rw [h, List.append_assoc]
    rfl
theorem vw_mid {w : World} {a : Option Addr} {D M T : List Ln} {d : Nat} (h : Vw w a (lnC (D ++ M ++ T))) (hd : d = D.length) : Vw w (a.map (fun x => x.add (d * 4))) (lnC M) := by
  rcases h with h | ⟨b, off, e, hc⟩
  · rw [lnC_append, lnC_append] at h
    have h1 := List.append_eq_nil_iff.1 h
    exact Or.inl (List.append_eq_nil_iff.1 h1.1).2
  · subst e
    refine Or.inr ⟨b, off + d * 4, by rw [Option.map_some, Addr.add_mid], fun j u hj => ?_⟩
    have := hc (d * 4 + j) u (by
      rw [lnC_append, lnC_append, List.append_assoc, List.getElem?_append_right (by rw [lnC_len, hd]; omega), lnC_len, hd, Nat.add_sub_cancel_left, List.getElem?_append_left (List.getElem?_eq_some_iff.1 hj).1]
      exact hj)
    rw [Nat.add_assoc]
    exact this
set_option maxRecDepth 100000 in
set_option maxHeartbeats 8000000 in
theorem walk1 (L : List Bt) (a0 : Option Addr) (c0 : Nat) (K : Wy) (w : World) (hV : Vw w a0 (btC L)) (hB : ∀ b ∈ L, b.cells < 256 ∧ b.kind < 256 ∧ b.len < 256 ∧ b.opp < 256) (h5 : L.length ≤ 300) (hK : K.Ok) :
    Calls Try.prog 4 #[.slice a0 L.length c0, K.val] w fun e w' => e = .returned (.bool true) ∧ Only (fun _ => False) w w' := by
  obtain ⟨wi, tb, mo, hy, pr, lo⟩ := K
  obtain ⟨W1, hW1⟩ : ∃ x, x = 1 + wi := ⟨_, rfl⟩
  obtain ⟨T1, hT1⟩ : ∃ x, x = 1 + tb % 64 := ⟨_, rfl⟩
  obtain ⟨M1, hM1⟩ : ∃ x, x = mo % 2 := ⟨_, rfl⟩
  have HCF : Hid (∀ W, Calls Try.prog 11 #[.agg #[.int .u8 (wi : Int), .int .u8 (tb : Int), .int .u8 (mo : Int), .int .u16 (hy : Int), .int .u16 (pr : Int), .float .f64 lo]] W fun e w' => e = .returned (.agg #[.int .i64 (W1 : Int), .int .i64 (T1 : Int), .int .u8 (M1 : Int), .int .i64 (hy : Int), .int .i64 (pr : Int), .float .f64 lo]) ∧ Only (fun _ => False) W w') := fun W => by
    rw [hW1, hT1, hM1]
    exact config_any ⟨wi, tb, mo, hy, pr, lo⟩ W hK
  obtain ⟨b0, b1, b2, b3, b4, b5⟩ := hK
  simp only at b0 b1 b2 b3 b4 b5
  have hw1 : W1 ≤ 256 := by omega
  have hw0 : 1 ≤ W1 := by omega
  have ht0 : 0 < T1 := by omega
  have ht1 : T1 ≤ 64 := by omega
  have hm1 : M1 ≤ 1 := by omega
  obtain ⟨n0, hn0⟩ : ∃ n, n = L.length := ⟨_, rfl⟩
  have HN : Hid (n0 = L.length) := hn0
  have HPA : Hid (∀ W, Only (fun _ => False) w W → Calls Try.prog 10 #[.slice a0 n0 c0] W fun e w' => ∃ k aC aO cC cO, e = .returned (.agg #[.slice aC k cC, .slice aO (k + 1) cO]) ∧ Made w' L n0 k aC aO cC cO ∧ Only (fun _ => False) W w') := fun W ho => para_made L n0 a0 c0 W hn0 (hV.keep ho) hB (by omega)
  unfold Wy.val
  simp only
  rw [← hn0] at h5 ⊢
  clear hn0 hW1 hT1 hM1 hV hB
  have s0 : decide ((300 : Int) < (n0 : Int)) = false := decide_eq_false (by omega)
  go_enter Try.func4, Try.ntmps4
  go_wp2_with fail
  obtain ⟨R, w0, hw0', hR, H0, lR⟩ := box6 w (.int .u8 (wi : Int)) (.int .u8 (tb : Int)) (.int .u8 (mo : Int)) (.int .u16 (hy : Int)) (.int .u16 (pr : Int)) (.float .f64 lo) 26
  rw [hw0', hR]
  clear hw0' hR
  refine Calls.mono (awake16_any _) ?_
  rintro e w2 ⟨rfl, ho2⟩
  have HW2 : Hid (Only (fun _ => False) w w2) := H0.out.2.1.trans ho2
  have HKS : Hid (∀ W', Only (fun _ => False) w2 W' → (W'.cell? ⟨R, 0, none⟩ = some (.int .u8 (wi : Int)) ∧ W'.cell? ⟨R, 1, none⟩ = some (.int .u8 (tb : Int)) ∧ W'.cell? ⟨R, 2, none⟩ = some (.int .u8 (mo : Int)) ∧ W'.cell? ⟨R, 3, none⟩ = some (.int .u16 (hy : Int)) ∧ W'.cell? ⟨R, 4, none⟩ = some (.int .u16 (pr : Int)) ∧ W'.cell? ⟨R, 5, none⟩ = some (.float .f64 lo))) := fun W' ho => blk_six (blk_keep (ho2.trans ho) H0.out.1)
  clear ho2 lR
  go_wp2_with fail
  go_cut [5, 6] from 24 to 27 (fun v5 v6 wr => ∃ (k B5 B6 : Nat) (aC aO : Option Addr) (cC cO : Nat) (X : World), X = wr ∧ v5 = .pointer (some ⟨B5, 0, none⟩) ∧ v6 = .pointer (some ⟨B6, 0, none⟩) ∧ Made X L n0 k aC aO cC cO ∧ Blk w2 X B5 31 #[.slice aC k cC, .slice aO (k + 1) cO] ∧ Blk w2 X B6 35 #[.int .i64 (W1 : Int), .int .i64 (T1 : Int), .int .u8 (M1 : Int), .int .i64 (hy : Int), .int .i64 (pr : Int), .float .f64 lo] ∧ Only (fun _ => False) w2 X)
  case first =>
    have HXD : Hid (Only (fun _ => False) w2 w2.drew) := (Only.refl _ _).drew
    refine wp_region_held_drew (S := (fun W' => W'.cell? ⟨R, 0, none⟩ = some (.int .u8 (wi : Int)) ∧ W'.cell? ⟨R, 1, none⟩ = some (.int .u8 (tb : Int)) ∧ W'.cell? ⟨R, 2, none⟩ = some (.int .u8 (mo : Int)) ∧ W'.cell? ⟨R, 3, none⟩ = some (.int .u16 (hy : Int)) ∧ W'.cell? ⟨R, 4, none⟩ = some (.int .u16 (pr : Int)) ∧ W'.cell? ⟨R, 5, none⟩ = some (.float .f64 lo))) (by kernel_rfl) (HKS.out _ HXD.out) (fun hHeld => ?_)
    refine wpAnyH_take (i := 0) (oi := { dst := some 24, op := _, type := _, pos := _, after := _, guard := _ }) (v := .slice a0 n0 c0) rfl (by kernel_rfl) (by kernel_rfl) (by kernel_rfl) (fun _ _ _ h => h) (Or.inl ⟨by rfl, fun w hSw => by obtain ⟨y0, y1, y2, y3, y4, y5⟩ := hSw; first | (go_simp; done) | go_simp⟩) (by assumption) ?_
    (try simp only [Act.put, List.setIfInBounds_toArray, List.set_cons_zero, List.set_cons_succ])
    refine wpAnyH_take (i := 2) (oi := { dst := some 26, op := _, type := _, pos := _, after := _, guard := _ }) (v := .agg #[.int .u8 (wi : Int), .int .u8 (tb : Int), .int .u8 (mo : Int), .int .u16 (hy : Int), .int .u16 (pr : Int), .float .f64 lo]) rfl (by kernel_rfl) (by kernel_rfl) (by kernel_rfl) (fun _ _ _ h => h) (Or.inl ⟨by rfl, fun w hSw => by obtain ⟨y0, y1, y2, y3, y4, y5⟩ := hSw; first | (go_simp; done) | go_simp⟩) (by assumption) ?_
    (try simp only [Act.put, List.setIfInBounds_toArray, List.set_cons_zero, List.set_cons_succ])
    refine wpAnyH_ready (rs := [1, 4, 5]) (by kernel_rfl) (by simp) ?_
    refine AllReadyH.cons rfl (fun K hK => ?_) (AllReadyH.cons rfl (fun K hK => ?_) (AllReadyH.cons rfl (fun K hK => ?_) AllReadyH.nil))
    · rw [if_pos (by rfl)]
      go_simp
      refine Calls.mono (HPA.out _ (HW2.out.trans HXD.out)) ?_
      rintro e y1 ⟨k, aC, aO, cC, cO, rfl, hmd, ho⟩
      have HMy1 : Hid (Made y1 L n0 k aC aO cC cO) := hmd
      clear hmd
      have HXy1 : Hid (Only (fun _ => False) w2 y1) := HXD.out.trans ho
      clear ho
      refine hK.out _ _ (HKS.out _ HXy1.out) (fun hHeld => ?_)
      clear hK
      (try simp only [Act.put, List.setIfInBounds_toArray, List.set_cons_zero, List.set_cons_succ])
      refine wpAnyH_ready (rs := [3, 4, 5]) (by kernel_rfl) (by simp) ?_
      refine AllReadyH.cons rfl (fun K hK => ?_) (AllReadyH.cons rfl (fun K hK => ?_) (AllReadyH.cons rfl (fun K hK => ?_) AllReadyH.nil))
      · rw [if_pos (by rfl)]
        go_simp
        refine Calls.mono (HCF.out _) ?_
        rintro e y2 ⟨rfl, ho⟩
        have HMy2 : Hid (Made y2 L n0 k aC aO cC cO) := HMy1.out.keep ho
        have HXy2 : Hid (Only (fun _ => False) w2 y2) := HXy1.out.trans ho
        clear ho
        refine hK.out _ _ (HKS.out _ HXy2.out) (fun hHeld => ?_)
        clear hK
        (try simp only [Act.put, List.setIfInBounds_toArray, List.set_cons_zero, List.set_cons_succ])
        refine wpAnyH_ready (rs := [4, 5]) (by kernel_rfl) (by simp) ?_
        refine AllReadyH.cons rfl (fun K hK => ?_) (AllReadyH.cons rfl (fun K hK => ?_) AllReadyH.nil)
        · rw [if_pos (by rfl)]
          go_simp
          obtain ⟨y3, hy3⟩ : ∃ Y, Y = y2.alloc (.cells #[.slice none 0 0, .slice none 0 0] 31) := ⟨_, rfl⟩
          obtain ⟨B5, hB5⟩ : ∃ b, b = y2.heap.size := ⟨_, rfl⟩
          have ho : Only (fun _ => False) y2 y3 := by rw [hy3]; exact (Only.refl _ _).alloc _
          have HXy3 : Hid (Only (fun _ => False) w2 y3) := HXy2.out.trans ho
          have HB5y3 : Hid (Blk w2 y3 B5 31 #[.slice none 0 0, .slice none 0 0]) := by rw [hy3, hB5]; exact Blk.made HXy2.out _ _
          have HMy3 : Hid (Made y3 L n0 k aC aO cC cO) := HMy2.out.keep ho
          rw [← hy3, ← hB5]
          clear hy3 hB5 ho
          refine hK.out _ _ (HKS.out _ HXy3.out) (fun hHeld => ?_)
          clear hK
          (try simp only [Act.put, List.setIfInBounds_toArray, List.set_cons_zero, List.set_cons_succ])
          refine wpAnyH_ready (rs := [5]) (by kernel_rfl) (by simp) ?_
          refine AllReadyH.cons rfl (fun K hK => ?_) AllReadyH.nil
          rw [if_pos (by rfl)]
          go_simp
          obtain ⟨y4, hy4⟩ : ∃ Y, Y = y3.alloc (.cells #[.int .i64 0, .int .i64 0, .int .u8 0, .int .i64 0, .int .i64 0, .float .f64 0] 35) := ⟨_, rfl⟩
          obtain ⟨B6, hB6⟩ : ∃ b, b = y3.heap.size := ⟨_, rfl⟩
          have ho : Only (fun _ => False) y3 y4 := by rw [hy4]; exact (Only.refl _ _).alloc _
          have HXy4 : Hid (Only (fun _ => False) w2 y4) := HXy3.out.trans ho
          have HB6y4 : Hid (Blk w2 y4 B6 35 #[.int .i64 0, .int .i64 0, .int .u8 0, .int .i64 0, .int .i64 0, .float .f64 0]) := by rw [hy4, hB6]; exact Blk.made HXy3.out _ _
          have HB5y4 : Hid (Blk w2 y4 B5 31 #[.slice none 0 0, .slice none 0 0]) := HB5y3.out.keep ho
          have HMy4 : Hid (Made y4 L n0 k aC aO cC cO) := HMy3.out.keep ho
          rw [← hy4, ← hB6]
          clear hy4 hB6 ho
          refine hK.out _ _ (HKS.out _ HXy4.out) (fun hHeld => ?_)
          clear hK
          (try simp only [Act.put, List.setIfInBounds_toArray, List.set_cons_zero, List.set_cons_succ])
          refine wpAnyH_ready (rs := [6]) (by kernel_rfl) (by simp) ?_
          refine AllReadyH.cons rfl (fun K hK => ?_) AllReadyH.nil
          rw [if_pos (by rfl)]
          have HXa : Hid (Only (fun _ => False) w2 (y4.setRow B5 #[.slice aC k cC, .slice aO (k + 1) cO])) := HXy4.out.setRowNew HB5y4.out.2 _
          refine wp_store_row 31 _ _ rfl B5 #[.slice aC k cC, .slice aO (k + 1) cO] rfl rfl 31 _ HB5y4.out.1 (by kernel_rfl) rfl (two_one _ _ _ _ _ _) ?_
          have HMa : Hid (Made (y4.setRow B5 #[.slice aC k cC, .slice aO (k + 1) cO]) L n0 k aC aO cC cO ∧ Blk w2 (y4.setRow B5 #[.slice aC k cC, .slice aO (k + 1) cO]) B5 31 #[.slice aC k cC, .slice aO (k + 1) cO] ∧ Blk w2 (y4.setRow B5 #[.slice aC k cC, .slice aO (k + 1) cO]) B6 35 #[.int .i64 0, .int .i64 0, .int .u8 0, .int .i64 0, .int .i64 0, .float .f64 0]) := ⟨HMy4.out.store HB5y4.out.1 (by decide) (by decide) _, HB5y4.out.put _, HB6y4.out.far HB5y4.out (by decide) _⟩
          obtain ⟨za, hza⟩ : ∃ Y, Y = y4.setRow B5 #[.slice aC k cC, .slice aO (k + 1) cO] := ⟨_, rfl⟩
          rw [← hza] at HXa HMa ⊢
          clear hza
          refine hK.out _ _ (HKS.out _ HXa.out) (fun hHeld => ?_)
          clear hK
          (try simp only [Act.put, List.setIfInBounds_toArray, List.set_cons_zero, List.set_cons_succ])
          refine wpAnyH_ready (rs := [7]) (by kernel_rfl) (by simp) ?_
          refine AllReadyH.cons rfl (fun K hK => ?_) AllReadyH.nil
          rw [if_pos (by rfl)]
          have HXb : Hid (Only (fun _ => False) w2 (za.setRow B6 #[.int .i64 (W1 : Int), .int .i64 (T1 : Int), .int .u8 (M1 : Int), .int .i64 (hy : Int), .int .i64 (pr : Int), .float .f64 lo])) := HXa.out.setRowNew HMa.out.2.2.2 _
          refine wp_store_row 35 _ _ rfl B6 #[.int .i64 (W1 : Int), .int .i64 (T1 : Int), .int .u8 (M1 : Int), .int .i64 (hy : Int), .int .i64 (pr : Int), .float .f64 lo] rfl rfl 35 _ HMa.out.2.2.1 (by kernel_rfl) rfl (cfg_one _ _ _ _ _ _) ?_
          have HMb : Hid (Made (za.setRow B6 #[.int .i64 (W1 : Int), .int .i64 (T1 : Int), .int .u8 (M1 : Int), .int .i64 (hy : Int), .int .i64 (pr : Int), .float .f64 lo]) L n0 k aC aO cC cO ∧ Blk w2 (za.setRow B6 #[.int .i64 (W1 : Int), .int .i64 (T1 : Int), .int .u8 (M1 : Int), .int .i64 (hy : Int), .int .i64 (pr : Int), .float .f64 lo]) B5 31 #[.slice aC k cC, .slice aO (k + 1) cO] ∧ Blk w2 (za.setRow B6 #[.int .i64 (W1 : Int), .int .i64 (T1 : Int), .int .u8 (M1 : Int), .int .i64 (hy : Int), .int .i64 (pr : Int), .float .f64 lo]) B6 35 #[.int .i64 (W1 : Int), .int .i64 (T1 : Int), .int .u8 (M1 : Int), .int .i64 (hy : Int), .int .i64 (pr : Int), .float .f64 lo]) := ⟨HMa.out.1.store HMa.out.2.2.1 (by decide) (by decide) _, HMa.out.2.1.far HMa.out.2.2 (by decide) _, HMa.out.2.2.put _⟩
          obtain ⟨zb, hzb⟩ : ∃ Y, Y = za.setRow B6 #[.int .i64 (W1 : Int), .int .i64 (T1 : Int), .int .u8 (M1 : Int), .int .i64 (hy : Int), .int .i64 (pr : Int), .float .f64 lo] := ⟨_, rfl⟩
          rw [← hzb] at HXb HMb ⊢
          clear hzb
          refine hK.out _ _ (HKS.out _ HXb.out) (fun hHeld => ?_)
          clear hK
          (try simp only [Act.put, List.setIfInBounds_toArray, List.set_cons_zero, List.set_cons_succ])
          refine wpAnyH_done (by kernel_rfl) ?_ _
          clear hHeld
          go_wp2_with fail
          go_meet
          exact ⟨k, B5, B6, aC, aO, cC, cO, _, rfl, rfl, rfl, HMb.out.1, HMb.out.2.1, HMb.out.2.2, HXb.out⟩
        · rw [if_pos (by rfl)]
          go_simp
          obtain ⟨y3, hy3⟩ : ∃ Y, Y = y2.alloc (.cells #[.int .i64 0, .int .i64 0, .int .u8 0, .int .i64 0, .int .i64 0, .float .f64 0] 35) := ⟨_, rfl⟩
          obtain ⟨B6, hB6⟩ : ∃ b, b = y2.heap.size := ⟨_, rfl⟩
          have ho : Only (fun _ => False) y2 y3 := by rw [hy3]; exact (Only.refl _ _).alloc _
          have HXy3 : Hid (Only (fun _ => False) w2 y3) := HXy2.out.trans ho
          have HB6y3 : Hid (Blk w2 y3 B6 35 #[.int .i64 0, .int .i64 0, .int .u8 0, .int .i64 0, .int .i64 0, .float .f64 0]) := by rw [hy3, hB6]; exact Blk.made HXy2.out _ _
          have HMy3 : Hid (Made y3 L n0 k aC aO cC cO) := HMy2.out.keep ho
          rw [← hy3, ← hB6]
          clear hy3 hB6 ho
          refine hK.out _ _ (HKS.out _ HXy3.out) (fun hHeld => ?_)
          clear hK
          (try simp only [Act.put, List.setIfInBounds_toArray, List.set_cons_zero, List.set_cons_succ])
          refine wpAnyH_ready (rs := [4]) (by kernel_rfl) (by simp) ?_
          refine AllReadyH.cons rfl (fun K hK => ?_) AllReadyH.nil
          rw [if_pos (by rfl)]
          go_simp
          obtain ⟨y4, hy4⟩ : ∃ Y, Y = y3.alloc (.cells #[.slice none 0 0, .slice none 0 0] 31) := ⟨_, rfl⟩
          obtain ⟨B5, hB5⟩ : ∃ b, b = y3.heap.size := ⟨_, rfl⟩
          have ho : Only (fun _ => False) y3 y4 := by rw [hy4]; exact (Only.refl _ _).alloc _
          have HXy4 : Hid (Only (fun _ => False) w2 y4) := HXy3.out.trans ho
          have HB5y4 : Hid (Blk w2 y4 B5 31 #[.slice none 0 0, .slice none 0 0]) := by rw [hy4, hB5]; exact Blk.made HXy3.out _ _
          have HB6y4 : Hid (Blk w2 y4 B6 35 #[.int .i64 0, .int .i64 0, .int .u8 0, .int .i64 0, .int .i64 0, .float .f64 0]) := HB6y3.out.keep ho
          have HMy4 : Hid (Made y4 L n0 k aC aO cC cO) := HMy3.out.keep ho
          rw [← hy4, ← hB5]
          clear hy4 hB5 ho
          refine hK.out _ _ (HKS.out _ HXy4.out) (fun hHeld => ?_)
          clear hK
          (try simp only [Act.put, List.setIfInBounds_toArray, List.set_cons_zero, List.set_cons_succ])
          refine wpAnyH_ready (rs := [6]) (by kernel_rfl) (by simp) ?_
          refine AllReadyH.cons rfl (fun K hK => ?_) AllReadyH.nil
          rw [if_pos (by rfl)]
          have HXa : Hid (Only (fun _ => False) w2 (y4.setRow B5 #[.slice aC k cC, .slice aO (k + 1) cO])) := HXy4.out.setRowNew HB5y4.out.2 _
          refine wp_store_row 31 _ _ rfl B5 #[.slice aC k cC, .slice aO (k + 1) cO] rfl rfl 31 _ HB5y4.out.1 (by kernel_rfl) rfl (two_one _ _ _ _ _ _) ?_
          have HMa : Hid (Made (y4.setRow B5 #[.slice aC k cC, .slice aO (k + 1) cO]) L n0 k aC aO cC cO ∧ Blk w2 (y4.setRow B5 #[.slice aC k cC, .slice aO (k + 1) cO]) B5 31 #[.slice aC k cC, .slice aO (k + 1) cO] ∧ Blk w2 (y4.setRow B5 #[.slice aC k cC, .slice aO (k + 1) cO]) B6 35 #[.int .i64 0, .int .i64 0, .int .u8 0, .int .i64 0, .int .i64 0, .float .f64 0]) := ⟨HMy4.out.store HB5y4.out.1 (by decide) (by decide) _, HB5y4.out.put _, HB6y4.out.far HB5y4.out (by decide) _⟩
          obtain ⟨za, hza⟩ : ∃ Y, Y = y4.setRow B5 #[.slice aC k cC, .slice aO (k + 1) cO] := ⟨_, rfl⟩
          rw [← hza] at HXa HMa ⊢
          clear hza
          refine hK.out _ _ (HKS.out _ HXa.out) (fun hHeld => ?_)
          clear hK
          (try simp only [Act.put, List.setIfInBounds_toArray, List.set_cons_zero, List.set_cons_succ])
          refine wpAnyH_ready (rs := [7]) (by kernel_rfl) (by simp) ?_
          refine AllReadyH.cons rfl (fun K hK => ?_) AllReadyH.nil
          rw [if_pos (by rfl)]
          have HXb : Hid (Only (fun _ => False) w2 (za.setRow B6 #[.int .i64 (W1 : Int), .int .i64 (T1 : Int), .int .u8 (M1 : Int), .int .i64 (hy : Int), .int .i64 (pr : Int), .float .f64 lo])) := HXa.out.setRowNew HMa.out.2.2.2 _
          refine wp_store_row 35 _ _ rfl B6 #[.int .i64 (W1 : Int), .int .i64 (T1 : Int), .int .u8 (M1 : Int), .int .i64 (hy : Int), .int .i64 (pr : Int), .float .f64 lo] rfl rfl 35 _ HMa.out.2.2.1 (by kernel_rfl) rfl (cfg_one _ _ _ _ _ _) ?_
          have HMb : Hid (Made (za.setRow B6 #[.int .i64 (W1 : Int), .int .i64 (T1 : Int), .int .u8 (M1 : Int), .int .i64 (hy : Int), .int .i64 (pr : Int), .float .f64 lo]) L n0 k aC aO cC cO ∧ Blk w2 (za.setRow B6 #[.int .i64 (W1 : Int), .int .i64 (T1 : Int), .int .u8 (M1 : Int), .int .i64 (hy : Int), .int .i64 (pr : Int), .float .f64 lo]) B5 31 #[.slice aC k cC, .slice aO (k + 1) cO] ∧ Blk w2 (za.setRow B6 #[.int .i64 (W1 : Int), .int .i64 (T1 : Int), .int .u8 (M1 : Int), .int .i64 (hy : Int), .int .i64 (pr : Int), .float .f64 lo]) B6 35 #[.int .i64 (W1 : Int), .int .i64 (T1 : Int), .int .u8 (M1 : Int), .int .i64 (hy : Int), .int .i64 (pr : Int), .float .f64 lo]) := ⟨HMa.out.1.store HMa.out.2.2.1 (by decide) (by decide) _, HMa.out.2.1.far HMa.out.2.2 (by decide) _, HMa.out.2.2.put _⟩
          obtain ⟨zb, hzb⟩ : ∃ Y, Y = za.setRow B6 #[.int .i64 (W1 : Int), .int .i64 (T1 : Int), .int .u8 (M1 : Int), .int .i64 (hy : Int), .int .i64 (pr : Int), .float .f64 lo] := ⟨_, rfl⟩
          rw [← hzb] at HXb HMb ⊢
          clear hzb
          refine hK.out _ _ (HKS.out _ HXb.out) (fun hHeld => ?_)
          clear hK
          (try simp only [Act.put, List.setIfInBounds_toArray, List.set_cons_zero, List.set_cons_succ])
          refine wpAnyH_done (by kernel_rfl) ?_ _
          clear hHeld
          go_wp2_with fail
          go_meet
          exact ⟨k, B5, B6, aC, aO, cC, cO, _, rfl, rfl, rfl, HMb.out.1, HMb.out.2.1, HMb.out.2.2, HXb.out⟩
      · rw [if_pos (by rfl)]
        go_simp
        obtain ⟨y2, hy2⟩ : ∃ Y, Y = y1.alloc (.cells #[.slice none 0 0, .slice none 0 0] 31) := ⟨_, rfl⟩
        obtain ⟨B5, hB5⟩ : ∃ b, b = y1.heap.size := ⟨_, rfl⟩
        have ho : Only (fun _ => False) y1 y2 := by rw [hy2]; exact (Only.refl _ _).alloc _
        have HXy2 : Hid (Only (fun _ => False) w2 y2) := HXy1.out.trans ho
        have HB5y2 : Hid (Blk w2 y2 B5 31 #[.slice none 0 0, .slice none 0 0]) := by rw [hy2, hB5]; exact Blk.made HXy1.out _ _
        have HMy2 : Hid (Made y2 L n0 k aC aO cC cO) := HMy1.out.keep ho
        rw [← hy2, ← hB5]
        clear hy2 hB5 ho
        refine hK.out _ _ (HKS.out _ HXy2.out) (fun hHeld => ?_)
        clear hK
        (try simp only [Act.put, List.setIfInBounds_toArray, List.set_cons_zero, List.set_cons_succ])
        refine wpAnyH_ready (rs := [3, 5]) (by kernel_rfl) (by simp) ?_
        refine AllReadyH.cons rfl (fun K hK => ?_) (AllReadyH.cons rfl (fun K hK => ?_) AllReadyH.nil)
        · rw [if_pos (by rfl)]
          go_simp
          refine Calls.mono (HCF.out _) ?_
          rintro e y3 ⟨rfl, ho⟩
          have HMy3 : Hid (Made y3 L n0 k aC aO cC cO) := HMy2.out.keep ho
          have HXy3 : Hid (Only (fun _ => False) w2 y3) := HXy2.out.trans ho
          have HB5y3 : Hid (Blk w2 y3 B5 31 #[.slice none 0 0, .slice none 0 0]) := HB5y2.out.keep ho
          clear ho
          refine hK.out _ _ (HKS.out _ HXy3.out) (fun hHeld => ?_)
          clear hK
          (try simp only [Act.put, List.setIfInBounds_toArray, List.set_cons_zero, List.set_cons_succ])
          refine wpAnyH_ready (rs := [5]) (by kernel_rfl) (by simp) ?_
          refine AllReadyH.cons rfl (fun K hK => ?_) AllReadyH.nil
          rw [if_pos (by rfl)]
          go_simp
          obtain ⟨y4, hy4⟩ : ∃ Y, Y = y3.alloc (.cells #[.int .i64 0, .int .i64 0, .int .u8 0, .int .i64 0, .int .i64 0, .float .f64 0] 35) := ⟨_, rfl⟩
          obtain ⟨B6, hB6⟩ : ∃ b, b = y3.heap.size := ⟨_, rfl⟩
          have ho : Only (fun _ => False) y3 y4 := by rw [hy4]; exact (Only.refl _ _).alloc _
          have HXy4 : Hid (Only (fun _ => False) w2 y4) := HXy3.out.trans ho
          have HB6y4 : Hid (Blk w2 y4 B6 35 #[.int .i64 0, .int .i64 0, .int .u8 0, .int .i64 0, .int .i64 0, .float .f64 0]) := by rw [hy4, hB6]; exact Blk.made HXy3.out _ _
          have HB5y4 : Hid (Blk w2 y4 B5 31 #[.slice none 0 0, .slice none 0 0]) := HB5y3.out.keep ho
          have HMy4 : Hid (Made y4 L n0 k aC aO cC cO) := HMy3.out.keep ho
          rw [← hy4, ← hB6]
          clear hy4 hB6 ho
          refine hK.out _ _ (HKS.out _ HXy4.out) (fun hHeld => ?_)
          clear hK
          (try simp only [Act.put, List.setIfInBounds_toArray, List.set_cons_zero, List.set_cons_succ])
          refine wpAnyH_ready (rs := [6]) (by kernel_rfl) (by simp) ?_
          refine AllReadyH.cons rfl (fun K hK => ?_) AllReadyH.nil
          rw [if_pos (by rfl)]
          have HXa : Hid (Only (fun _ => False) w2 (y4.setRow B5 #[.slice aC k cC, .slice aO (k + 1) cO])) := HXy4.out.setRowNew HB5y4.out.2 _
          refine wp_store_row 31 _ _ rfl B5 #[.slice aC k cC, .slice aO (k + 1) cO] rfl rfl 31 _ HB5y4.out.1 (by kernel_rfl) rfl (two_one _ _ _ _ _ _) ?_
          have HMa : Hid (Made (y4.setRow B5 #[.slice aC k cC, .slice aO (k + 1) cO]) L n0 k aC aO cC cO ∧ Blk w2 (y4.setRow B5 #[.slice aC k cC, .slice aO (k + 1) cO]) B5 31 #[.slice aC k cC, .slice aO (k + 1) cO] ∧ Blk w2 (y4.setRow B5 #[.slice aC k cC, .slice aO (k + 1) cO]) B6 35 #[.int .i64 0, .int .i64 0, .int .u8 0, .int .i64 0, .int .i64 0, .float .f64 0]) := ⟨HMy4.out.store HB5y4.out.1 (by decide) (by decide) _, HB5y4.out.put _, HB6y4.out.far HB5y4.out (by decide) _⟩
          obtain ⟨za, hza⟩ : ∃ Y, Y = y4.setRow B5 #[.slice aC k cC, .slice aO (k + 1) cO] := ⟨_, rfl⟩
          rw [← hza] at HXa HMa ⊢
          clear hza
          refine hK.out _ _ (HKS.out _ HXa.out) (fun hHeld => ?_)
          clear hK
          (try simp only [Act.put, List.setIfInBounds_toArray, List.set_cons_zero, List.set_cons_succ])
          refine wpAnyH_ready (rs := [7]) (by kernel_rfl) (by simp) ?_
          refine AllReadyH.cons rfl (fun K hK => ?_) AllReadyH.nil
          rw [if_pos (by rfl)]
          have HXb : Hid (Only (fun _ => False) w2 (za.setRow B6 #[.int .i64 (W1 : Int), .int .i64 (T1 : Int), .int .u8 (M1 : Int), .int .i64 (hy : Int), .int .i64 (pr : Int), .float .f64 lo])) := HXa.out.setRowNew HMa.out.2.2.2 _
          refine wp_store_row 35 _ _ rfl B6 #[.int .i64 (W1 : Int), .int .i64 (T1 : Int), .int .u8 (M1 : Int), .int .i64 (hy : Int), .int .i64 (pr : Int), .float .f64 lo] rfl rfl 35 _ HMa.out.2.2.1 (by kernel_rfl) rfl (cfg_one _ _ _ _ _ _) ?_
          have HMb : Hid (Made (za.setRow B6 #[.int .i64 (W1 : Int), .int .i64 (T1 : Int), .int .u8 (M1 : Int), .int .i64 (hy : Int), .int .i64 (pr : Int), .float .f64 lo]) L n0 k aC aO cC cO ∧ Blk w2 (za.setRow B6 #[.int .i64 (W1 : Int), .int .i64 (T1 : Int), .int .u8 (M1 : Int), .int .i64 (hy : Int), .int .i64 (pr : Int), .float .f64 lo]) B5 31 #[.slice aC k cC, .slice aO (k + 1) cO] ∧ Blk w2 (za.setRow B6 #[.int .i64 (W1 : Int), .int .i64 (T1 : Int), .int .u8 (M1 : Int), .int .i64 (hy : Int), .int .i64 (pr : Int), .float .f64 lo]) B6 35 #[.int .i64 (W1 : Int), .int .i64 (T1 : Int), .int .u8 (M1 : Int), .int .i64 (hy : Int), .int .i64 (pr : Int), .float .f64 lo]) := ⟨HMa.out.1.store HMa.out.2.2.1 (by decide) (by decide) _, HMa.out.2.1.far HMa.out.2.2 (by decide) _, HMa.out.2.2.put _⟩
          obtain ⟨zb, hzb⟩ : ∃ Y, Y = za.setRow B6 #[.int .i64 (W1 : Int), .int .i64 (T1 : Int), .int .u8 (M1 : Int), .int .i64 (hy : Int), .int .i64 (pr : Int), .float .f64 lo] := ⟨_, rfl⟩
          rw [← hzb] at HXb HMb ⊢
          clear hzb
          refine hK.out _ _ (HKS.out _ HXb.out) (fun hHeld => ?_)
          clear hK
          (try simp only [Act.put, List.setIfInBounds_toArray, List.set_cons_zero, List.set_cons_succ])
          refine wpAnyH_done (by kernel_rfl) ?_ _
          clear hHeld
          go_wp2_with fail
          go_meet
          exact ⟨k, B5, B6, aC, aO, cC, cO, _, rfl, rfl, rfl, HMb.out.1, HMb.out.2.1, HMb.out.2.2, HXb.out⟩
        · rw [if_pos (by rfl)]
          go_simp
          obtain ⟨y3, hy3⟩ : ∃ Y, Y = y2.alloc (.cells #[.int .i64 0, .int .i64 0, .int .u8 0, .int .i64 0, .int .i64 0, .float .f64 0] 35) := ⟨_, rfl⟩
          obtain ⟨B6, hB6⟩ : ∃ b, b = y2.heap.size := ⟨_, rfl⟩
          have ho : Only (fun _ => False) y2 y3 := by rw [hy3]; exact (Only.refl _ _).alloc _
          have HXy3 : Hid (Only (fun _ => False) w2 y3) := HXy2.out.trans ho
          have HB6y3 : Hid (Blk w2 y3 B6 35 #[.int .i64 0, .int .i64 0, .int .u8 0, .int .i64 0, .int .i64 0, .float .f64 0]) := by rw [hy3, hB6]; exact Blk.made HXy2.out _ _
          have HB5y3 : Hid (Blk w2 y3 B5 31 #[.slice none 0 0, .slice none 0 0]) := HB5y2.out.keep ho
          have HMy3 : Hid (Made y3 L n0 k aC aO cC cO) := HMy2.out.keep ho
          rw [← hy3, ← hB6]
          clear hy3 hB6 ho
          refine hK.out _ _ (HKS.out _ HXy3.out) (fun hHeld => ?_)
          clear hK
          (try simp only [Act.put, List.setIfInBounds_toArray, List.set_cons_zero, List.set_cons_succ])
          refine wpAnyH_ready (rs := [3]) (by kernel_rfl) (by simp) ?_
          refine AllReadyH.cons rfl (fun K hK => ?_) AllReadyH.nil
          rw [if_pos (by rfl)]
          go_simp
          refine Calls.mono (HCF.out _) ?_
          rintro e y4 ⟨rfl, ho⟩
          have HMy4 : Hid (Made y4 L n0 k aC aO cC cO) := HMy3.out.keep ho
          have HXy4 : Hid (Only (fun _ => False) w2 y4) := HXy3.out.trans ho
          have HB5y4 : Hid (Blk w2 y4 B5 31 #[.slice none 0 0, .slice none 0 0]) := HB5y3.out.keep ho
          have HB6y4 : Hid (Blk w2 y4 B6 35 #[.int .i64 0, .int .i64 0, .int .u8 0, .int .i64 0, .int .i64 0, .float .f64 0]) := HB6y3.out.keep ho
          clear ho
          refine hK.out _ _ (HKS.out _ HXy4.out) (fun hHeld => ?_)
          clear hK
          (try simp only [Act.put, List.setIfInBounds_toArray, List.set_cons_zero, List.set_cons_succ])
          refine wpAnyH_ready (rs := [6]) (by kernel_rfl) (by simp) ?_
          refine AllReadyH.cons rfl (fun K hK => ?_) AllReadyH.nil
          rw [if_pos (by rfl)]
          have HXa : Hid (Only (fun _ => False) w2 (y4.setRow B5 #[.slice aC k cC, .slice aO (k + 1) cO])) := HXy4.out.setRowNew HB5y4.out.2 _
          refine wp_store_row 31 _ _ rfl B5 #[.slice aC k cC, .slice aO (k + 1) cO] rfl rfl 31 _ HB5y4.out.1 (by kernel_rfl) rfl (two_one _ _ _ _ _ _) ?_
          have HMa : Hid (Made (y4.setRow B5 #[.slice aC k cC, .slice aO (k + 1) cO]) L n0 k aC aO cC cO ∧ Blk w2 (y4.setRow B5 #[.slice aC k cC, .slice aO (k + 1) cO]) B5 31 #[.slice aC k cC, .slice aO (k + 1) cO] ∧ Blk w2 (y4.setRow B5 #[.slice aC k cC, .slice aO (k + 1) cO]) B6 35 #[.int .i64 0, .int .i64 0, .int .u8 0, .int .i64 0, .int .i64 0, .float .f64 0]) := ⟨HMy4.out.store HB5y4.out.1 (by decide) (by decide) _, HB5y4.out.put _, HB6y4.out.far HB5y4.out (by decide) _⟩
          obtain ⟨za, hza⟩ : ∃ Y, Y = y4.setRow B5 #[.slice aC k cC, .slice aO (k + 1) cO] := ⟨_, rfl⟩
          rw [← hza] at HXa HMa ⊢
          clear hza
          refine hK.out _ _ (HKS.out _ HXa.out) (fun hHeld => ?_)
          clear hK
          (try simp only [Act.put, List.setIfInBounds_toArray, List.set_cons_zero, List.set_cons_succ])
          refine wpAnyH_ready (rs := [7]) (by kernel_rfl) (by simp) ?_
          refine AllReadyH.cons rfl (fun K hK => ?_) AllReadyH.nil
          rw [if_pos (by rfl)]
          have HXb : Hid (Only (fun _ => False) w2 (za.setRow B6 #[.int .i64 (W1 : Int), .int .i64 (T1 : Int), .int .u8 (M1 : Int), .int .i64 (hy : Int), .int .i64 (pr : Int), .float .f64 lo])) := HXa.out.setRowNew HMa.out.2.2.2 _
          refine wp_store_row 35 _ _ rfl B6 #[.int .i64 (W1 : Int), .int .i64 (T1 : Int), .int .u8 (M1 : Int), .int .i64 (hy : Int), .int .i64 (pr : Int), .float .f64 lo] rfl rfl 35 _ HMa.out.2.2.1 (by kernel_rfl) rfl (cfg_one _ _ _ _ _ _) ?_
          have HMb : Hid (Made (za.setRow B6 #[.int .i64 (W1 : Int), .int .i64 (T1 : Int), .int .u8 (M1 : Int), .int .i64 (hy : Int), .int .i64 (pr : Int), .float .f64 lo]) L n0 k aC aO cC cO ∧ Blk w2 (za.setRow B6 #[.int .i64 (W1 : Int), .int .i64 (T1 : Int), .int .u8 (M1 : Int), .int .i64 (hy : Int), .int .i64 (pr : Int), .float .f64 lo]) B5 31 #[.slice aC k cC, .slice aO (k + 1) cO] ∧ Blk w2 (za.setRow B6 #[.int .i64 (W1 : Int), .int .i64 (T1 : Int), .int .u8 (M1 : Int), .int .i64 (hy : Int), .int .i64 (pr : Int), .float .f64 lo]) B6 35 #[.int .i64 (W1 : Int), .int .i64 (T1 : Int), .int .u8 (M1 : Int), .int .i64 (hy : Int), .int .i64 (pr : Int), .float .f64 lo]) := ⟨HMa.out.1.store HMa.out.2.2.1 (by decide) (by decide) _, HMa.out.2.1.far HMa.out.2.2 (by decide) _, HMa.out.2.2.put _⟩
          obtain ⟨zb, hzb⟩ : ∃ Y, Y = za.setRow B6 #[.int .i64 (W1 : Int), .int .i64 (T1 : Int), .int .u8 (M1 : Int), .int .i64 (hy : Int), .int .i64 (pr : Int), .float .f64 lo] := ⟨_, rfl⟩
          rw [← hzb] at HXb HMb ⊢
          clear hzb
          refine hK.out _ _ (HKS.out _ HXb.out) (fun hHeld => ?_)
          clear hK
          (try simp only [Act.put, List.setIfInBounds_toArray, List.set_cons_zero, List.set_cons_succ])
          refine wpAnyH_done (by kernel_rfl) ?_ _
          clear hHeld
          go_wp2_with fail
          go_meet
          exact ⟨k, B5, B6, aC, aO, cC, cO, _, rfl, rfl, rfl, HMb.out.1, HMb.out.2.1, HMb.out.2.2, HXb.out⟩
      · rw [if_pos (by rfl)]
        go_simp
        obtain ⟨y2, hy2⟩ : ∃ Y, Y = y1.alloc (.cells #[.int .i64 0, .int .i64 0, .int .u8 0, .int .i64 0, .int .i64 0, .float .f64 0] 35) := ⟨_, rfl⟩
        obtain ⟨B6, hB6⟩ : ∃ b, b = y1.heap.size := ⟨_, rfl⟩
        have ho : Only (fun _ => False) y1 y2 := by rw [hy2]; exact (Only.refl _ _).alloc _
        have HXy2 : Hid (Only (fun _ => False) w2 y2) := HXy1.out.trans ho
        have HB6y2 : Hid (Blk w2 y2 B6 35 #[.int .i64 0, .int .i64 0, .int .u8 0, .int .i64 0, .int .i64 0, .float .f64 0]) := by rw [hy2, hB6]; exact Blk.made HXy1.out _ _
        have HMy2 : Hid (Made y2 L n0 k aC aO cC cO) := HMy1.out.keep ho
        rw [← hy2, ← hB6]
        clear hy2 hB6 ho
        refine hK.out _ _ (HKS.out _ HXy2.out) (fun hHeld => ?_)
        clear hK
        (try simp only [Act.put, List.setIfInBounds_toArray, List.set_cons_zero, List.set_cons_succ])
        refine wpAnyH_ready (rs := [3, 4]) (by kernel_rfl) (by simp) ?_
        refine AllReadyH.cons rfl (fun K hK => ?_) (AllReadyH.cons rfl (fun K hK => ?_) AllReadyH.nil)
        · rw [if_pos (by rfl)]
          go_simp
          refine Calls.mono (HCF.out _) ?_
          rintro e y3 ⟨rfl, ho⟩
          have HMy3 : Hid (Made y3 L n0 k aC aO cC cO) := HMy2.out.keep ho
          have HXy3 : Hid (Only (fun _ => False) w2 y3) := HXy2.out.trans ho
          have HB6y3 : Hid (Blk w2 y3 B6 35 #[.int .i64 0, .int .i64 0, .int .u8 0, .int .i64 0, .int .i64 0, .float .f64 0]) := HB6y2.out.keep ho
          clear ho
          refine hK.out _ _ (HKS.out _ HXy3.out) (fun hHeld => ?_)
          clear hK
          (try simp only [Act.put, List.setIfInBounds_toArray, List.set_cons_zero, List.set_cons_succ])
          refine wpAnyH_ready (rs := [4]) (by kernel_rfl) (by simp) ?_
          refine AllReadyH.cons rfl (fun K hK => ?_) AllReadyH.nil
          rw [if_pos (by rfl)]
          go_simp
          obtain ⟨y4, hy4⟩ : ∃ Y, Y = y3.alloc (.cells #[.slice none 0 0, .slice none 0 0] 31) := ⟨_, rfl⟩
          obtain ⟨B5, hB5⟩ : ∃ b, b = y3.heap.size := ⟨_, rfl⟩
          have ho : Only (fun _ => False) y3 y4 := by rw [hy4]; exact (Only.refl _ _).alloc _
          have HXy4 : Hid (Only (fun _ => False) w2 y4) := HXy3.out.trans ho
          have HB5y4 : Hid (Blk w2 y4 B5 31 #[.slice none 0 0, .slice none 0 0]) := by rw [hy4, hB5]; exact Blk.made HXy3.out _ _
          have HB6y4 : Hid (Blk w2 y4 B6 35 #[.int .i64 0, .int .i64 0, .int .u8 0, .int .i64 0, .int .i64 0, .float .f64 0]) := HB6y3.out.keep ho
          have HMy4 : Hid (Made y4 L n0 k aC aO cC cO) := HMy3.out.keep ho
          rw [← hy4, ← hB5]
          clear hy4 hB5 ho
          refine hK.out _ _ (HKS.out _ HXy4.out) (fun hHeld => ?_)
          clear hK
          (try simp only [Act.put, List.setIfInBounds_toArray, List.set_cons_zero, List.set_cons_succ])
          refine wpAnyH_ready (rs := [6]) (by kernel_rfl) (by simp) ?_
          refine AllReadyH.cons rfl (fun K hK => ?_) AllReadyH.nil
          rw [if_pos (by rfl)]
          have HXa : Hid (Only (fun _ => False) w2 (y4.setRow B5 #[.slice aC k cC, .slice aO (k + 1) cO])) := HXy4.out.setRowNew HB5y4.out.2 _
          refine wp_store_row 31 _ _ rfl B5 #[.slice aC k cC, .slice aO (k + 1) cO] rfl rfl 31 _ HB5y4.out.1 (by kernel_rfl) rfl (two_one _ _ _ _ _ _) ?_
          have HMa : Hid (Made (y4.setRow B5 #[.slice aC k cC, .slice aO (k + 1) cO]) L n0 k aC aO cC cO ∧ Blk w2 (y4.setRow B5 #[.slice aC k cC, .slice aO (k + 1) cO]) B5 31 #[.slice aC k cC, .slice aO (k + 1) cO] ∧ Blk w2 (y4.setRow B5 #[.slice aC k cC, .slice aO (k + 1) cO]) B6 35 #[.int .i64 0, .int .i64 0, .int .u8 0, .int .i64 0, .int .i64 0, .float .f64 0]) := ⟨HMy4.out.store HB5y4.out.1 (by decide) (by decide) _, HB5y4.out.put _, HB6y4.out.far HB5y4.out (by decide) _⟩
          obtain ⟨za, hza⟩ : ∃ Y, Y = y4.setRow B5 #[.slice aC k cC, .slice aO (k + 1) cO] := ⟨_, rfl⟩
          rw [← hza] at HXa HMa ⊢
          clear hza
          refine hK.out _ _ (HKS.out _ HXa.out) (fun hHeld => ?_)
          clear hK
          (try simp only [Act.put, List.setIfInBounds_toArray, List.set_cons_zero, List.set_cons_succ])
          refine wpAnyH_ready (rs := [7]) (by kernel_rfl) (by simp) ?_
          refine AllReadyH.cons rfl (fun K hK => ?_) AllReadyH.nil
          rw [if_pos (by rfl)]
          have HXb : Hid (Only (fun _ => False) w2 (za.setRow B6 #[.int .i64 (W1 : Int), .int .i64 (T1 : Int), .int .u8 (M1 : Int), .int .i64 (hy : Int), .int .i64 (pr : Int), .float .f64 lo])) := HXa.out.setRowNew HMa.out.2.2.2 _
          refine wp_store_row 35 _ _ rfl B6 #[.int .i64 (W1 : Int), .int .i64 (T1 : Int), .int .u8 (M1 : Int), .int .i64 (hy : Int), .int .i64 (pr : Int), .float .f64 lo] rfl rfl 35 _ HMa.out.2.2.1 (by kernel_rfl) rfl (cfg_one _ _ _ _ _ _) ?_
          have HMb : Hid (Made (za.setRow B6 #[.int .i64 (W1 : Int), .int .i64 (T1 : Int), .int .u8 (M1 : Int), .int .i64 (hy : Int), .int .i64 (pr : Int), .float .f64 lo]) L n0 k aC aO cC cO ∧ Blk w2 (za.setRow B6 #[.int .i64 (W1 : Int), .int .i64 (T1 : Int), .int .u8 (M1 : Int), .int .i64 (hy : Int), .int .i64 (pr : Int), .float .f64 lo]) B5 31 #[.slice aC k cC, .slice aO (k + 1) cO] ∧ Blk w2 (za.setRow B6 #[.int .i64 (W1 : Int), .int .i64 (T1 : Int), .int .u8 (M1 : Int), .int .i64 (hy : Int), .int .i64 (pr : Int), .float .f64 lo]) B6 35 #[.int .i64 (W1 : Int), .int .i64 (T1 : Int), .int .u8 (M1 : Int), .int .i64 (hy : Int), .int .i64 (pr : Int), .float .f64 lo]) := ⟨HMa.out.1.store HMa.out.2.2.1 (by decide) (by decide) _, HMa.out.2.1.far HMa.out.2.2 (by decide) _, HMa.out.2.2.put _⟩
          obtain ⟨zb, hzb⟩ : ∃ Y, Y = za.setRow B6 #[.int .i64 (W1 : Int), .int .i64 (T1 : Int), .int .u8 (M1 : Int), .int .i64 (hy : Int), .int .i64 (pr : Int), .float .f64 lo] := ⟨_, rfl⟩
          rw [← hzb] at HXb HMb ⊢
          clear hzb
          refine hK.out _ _ (HKS.out _ HXb.out) (fun hHeld => ?_)
          clear hK
          (try simp only [Act.put, List.setIfInBounds_toArray, List.set_cons_zero, List.set_cons_succ])
          refine wpAnyH_done (by kernel_rfl) ?_ _
          clear hHeld
          go_wp2_with fail
          go_meet
          exact ⟨k, B5, B6, aC, aO, cC, cO, _, rfl, rfl, rfl, HMb.out.1, HMb.out.2.1, HMb.out.2.2, HXb.out⟩
        · rw [if_pos (by rfl)]
          go_simp
          obtain ⟨y3, hy3⟩ : ∃ Y, Y = y2.alloc (.cells #[.slice none 0 0, .slice none 0 0] 31) := ⟨_, rfl⟩
          obtain ⟨B5, hB5⟩ : ∃ b, b = y2.heap.size := ⟨_, rfl⟩
          have ho : Only (fun _ => False) y2 y3 := by rw [hy3]; exact (Only.refl _ _).alloc _
          have HXy3 : Hid (Only (fun _ => False) w2 y3) := HXy2.out.trans ho
          have HB5y3 : Hid (Blk w2 y3 B5 31 #[.slice none 0 0, .slice none 0 0]) := by rw [hy3, hB5]; exact Blk.made HXy2.out _ _
          have HB6y3 : Hid (Blk w2 y3 B6 35 #[.int .i64 0, .int .i64 0, .int .u8 0, .int .i64 0, .int .i64 0, .float .f64 0]) := HB6y2.out.keep ho
          have HMy3 : Hid (Made y3 L n0 k aC aO cC cO) := HMy2.out.keep ho
          rw [← hy3, ← hB5]
          clear hy3 hB5 ho
          refine hK.out _ _ (HKS.out _ HXy3.out) (fun hHeld => ?_)
          clear hK
          (try simp only [Act.put, List.setIfInBounds_toArray, List.set_cons_zero, List.set_cons_succ])
          refine wpAnyH_ready (rs := [3]) (by kernel_rfl) (by simp) ?_
          refine AllReadyH.cons rfl (fun K hK => ?_) AllReadyH.nil
          rw [if_pos (by rfl)]
          go_simp
          refine Calls.mono (HCF.out _) ?_
          rintro e y4 ⟨rfl, ho⟩
          have HMy4 : Hid (Made y4 L n0 k aC aO cC cO) := HMy3.out.keep ho
          have HXy4 : Hid (Only (fun _ => False) w2 y4) := HXy3.out.trans ho
          have HB5y4 : Hid (Blk w2 y4 B5 31 #[.slice none 0 0, .slice none 0 0]) := HB5y3.out.keep ho
          have HB6y4 : Hid (Blk w2 y4 B6 35 #[.int .i64 0, .int .i64 0, .int .u8 0, .int .i64 0, .int .i64 0, .float .f64 0]) := HB6y3.out.keep ho
          clear ho
          refine hK.out _ _ (HKS.out _ HXy4.out) (fun hHeld => ?_)
          clear hK
          (try simp only [Act.put, List.setIfInBounds_toArray, List.set_cons_zero, List.set_cons_succ])
          refine wpAnyH_ready (rs := [6]) (by kernel_rfl) (by simp) ?_
          refine AllReadyH.cons rfl (fun K hK => ?_) AllReadyH.nil
          rw [if_pos (by rfl)]
          have HXa : Hid (Only (fun _ => False) w2 (y4.setRow B5 #[.slice aC k cC, .slice aO (k + 1) cO])) := HXy4.out.setRowNew HB5y4.out.2 _
          refine wp_store_row 31 _ _ rfl B5 #[.slice aC k cC, .slice aO (k + 1) cO] rfl rfl 31 _ HB5y4.out.1 (by kernel_rfl) rfl (two_one _ _ _ _ _ _) ?_
          have HMa : Hid (Made (y4.setRow B5 #[.slice aC k cC, .slice aO (k + 1) cO]) L n0 k aC aO cC cO ∧ Blk w2 (y4.setRow B5 #[.slice aC k cC, .slice aO (k + 1) cO]) B5 31 #[.slice aC k cC, .slice aO (k + 1) cO] ∧ Blk w2 (y4.setRow B5 #[.slice aC k cC, .slice aO (k + 1) cO]) B6 35 #[.int .i64 0, .int .i64 0, .int .u8 0, .int .i64 0, .int .i64 0, .float .f64 0]) := ⟨HMy4.out.store HB5y4.out.1 (by decide) (by decide) _, HB5y4.out.put _, HB6y4.out.far HB5y4.out (by decide) _⟩
          obtain ⟨za, hza⟩ : ∃ Y, Y = y4.setRow B5 #[.slice aC k cC, .slice aO (k + 1) cO] := ⟨_, rfl⟩
          rw [← hza] at HXa HMa ⊢
          clear hza
          refine hK.out _ _ (HKS.out _ HXa.out) (fun hHeld => ?_)
          clear hK
          (try simp only [Act.put, List.setIfInBounds_toArray, List.set_cons_zero, List.set_cons_succ])
          refine wpAnyH_ready (rs := [7]) (by kernel_rfl) (by simp) ?_
          refine AllReadyH.cons rfl (fun K hK => ?_) AllReadyH.nil
          rw [if_pos (by rfl)]
          have HXb : Hid (Only (fun _ => False) w2 (za.setRow B6 #[.int .i64 (W1 : Int), .int .i64 (T1 : Int), .int .u8 (M1 : Int), .int .i64 (hy : Int), .int .i64 (pr : Int), .float .f64 lo])) := HXa.out.setRowNew HMa.out.2.2.2 _
          refine wp_store_row 35 _ _ rfl B6 #[.int .i64 (W1 : Int), .int .i64 (T1 : Int), .int .u8 (M1 : Int), .int .i64 (hy : Int), .int .i64 (pr : Int), .float .f64 lo] rfl rfl 35 _ HMa.out.2.2.1 (by kernel_rfl) rfl (cfg_one _ _ _ _ _ _) ?_
          have HMb : Hid (Made (za.setRow B6 #[.int .i64 (W1 : Int), .int .i64 (T1 : Int), .int .u8 (M1 : Int), .int .i64 (hy : Int), .int .i64 (pr : Int), .float .f64 lo]) L n0 k aC aO cC cO ∧ Blk w2 (za.setRow B6 #[.int .i64 (W1 : Int), .int .i64 (T1 : Int), .int .u8 (M1 : Int), .int .i64 (hy : Int), .int .i64 (pr : Int), .float .f64 lo]) B5 31 #[.slice aC k cC, .slice aO (k + 1) cO] ∧ Blk w2 (za.setRow B6 #[.int .i64 (W1 : Int), .int .i64 (T1 : Int), .int .u8 (M1 : Int), .int .i64 (hy : Int), .int .i64 (pr : Int), .float .f64 lo]) B6 35 #[.int .i64 (W1 : Int), .int .i64 (T1 : Int), .int .u8 (M1 : Int), .int .i64 (hy : Int), .int .i64 (pr : Int), .float .f64 lo]) := ⟨HMa.out.1.store HMa.out.2.2.1 (by decide) (by decide) _, HMa.out.2.1.far HMa.out.2.2 (by decide) _, HMa.out.2.2.put _⟩
          obtain ⟨zb, hzb⟩ : ∃ Y, Y = za.setRow B6 #[.int .i64 (W1 : Int), .int .i64 (T1 : Int), .int .u8 (M1 : Int), .int .i64 (hy : Int), .int .i64 (pr : Int), .float .f64 lo] := ⟨_, rfl⟩
          rw [← hzb] at HXb HMb ⊢
          clear hzb
          refine hK.out _ _ (HKS.out _ HXb.out) (fun hHeld => ?_)
          clear hK
          (try simp only [Act.put, List.setIfInBounds_toArray, List.set_cons_zero, List.set_cons_succ])
          refine wpAnyH_done (by kernel_rfl) ?_ _
          clear hHeld
          go_wp2_with fail
          go_meet
          exact ⟨k, B5, B6, aC, aO, cC, cO, _, rfl, rfl, rfl, HMb.out.1, HMb.out.2.1, HMb.out.2.2, HXb.out⟩
    · rw [if_pos (by rfl)]
      go_simp
      obtain ⟨y1, hy1⟩ : ∃ Y, Y = (w2.alloc (.cells #[.slice none 0 0, .slice none 0 0] 31)).drew := ⟨_, rfl⟩
      obtain ⟨B5, hB5⟩ : ∃ b, b = w2.heap.size := ⟨_, rfl⟩
      have ho : Only (fun _ => False) w2 y1 := by rw [hy1]; exact ((Only.refl _ _).alloc _).drew
      have HXy1 : Hid (Only (fun _ => False) w2 y1) := ho
      have HB5y1 : Hid (Blk w2 y1 B5 31 #[.slice none 0 0, .slice none 0 0]) := by rw [hy1, hB5]; exact (Blk.made (Only.refl _ _) _ _).drew
      rw [← hy1, ← hB5]
      clear hy1 hB5 ho
      refine hK.out _ _ (HKS.out _ HXy1.out) (fun hHeld => ?_)
      clear hK
      (try simp only [Act.put, List.setIfInBounds_toArray, List.set_cons_zero, List.set_cons_succ])
      refine wpAnyH_ready (rs := [1, 5]) (by kernel_rfl) (by simp) ?_
      refine AllReadyH.cons rfl (fun K hK => ?_) (AllReadyH.cons rfl (fun K hK => ?_) AllReadyH.nil)
      · rw [if_pos (by rfl)]
        go_simp
        refine Calls.mono (HPA.out _ (HW2.out.trans HXy1.out)) ?_
        rintro e y2 ⟨k, aC, aO, cC, cO, rfl, hmd, ho⟩
        have HMy2 : Hid (Made y2 L n0 k aC aO cC cO) := hmd
        clear hmd
        have HXy2 : Hid (Only (fun _ => False) w2 y2) := HXy1.out.trans ho
        have HB5y2 : Hid (Blk w2 y2 B5 31 #[.slice none 0 0, .slice none 0 0]) := HB5y1.out.keep ho
        clear ho
        refine hK.out _ _ (HKS.out _ HXy2.out) (fun hHeld => ?_)
        clear hK
        (try simp only [Act.put, List.setIfInBounds_toArray, List.set_cons_zero, List.set_cons_succ])
        refine wpAnyH_ready (rs := [3, 5]) (by kernel_rfl) (by simp) ?_
        refine AllReadyH.cons rfl (fun K hK => ?_) (AllReadyH.cons rfl (fun K hK => ?_) AllReadyH.nil)
        · rw [if_pos (by rfl)]
          go_simp
          refine Calls.mono (HCF.out _) ?_
          rintro e y3 ⟨rfl, ho⟩
          have HMy3 : Hid (Made y3 L n0 k aC aO cC cO) := HMy2.out.keep ho
          have HXy3 : Hid (Only (fun _ => False) w2 y3) := HXy2.out.trans ho
          have HB5y3 : Hid (Blk w2 y3 B5 31 #[.slice none 0 0, .slice none 0 0]) := HB5y2.out.keep ho
          clear ho
          refine hK.out _ _ (HKS.out _ HXy3.out) (fun hHeld => ?_)
          clear hK
          (try simp only [Act.put, List.setIfInBounds_toArray, List.set_cons_zero, List.set_cons_succ])
          refine wpAnyH_ready (rs := [5]) (by kernel_rfl) (by simp) ?_
          refine AllReadyH.cons rfl (fun K hK => ?_) AllReadyH.nil
          rw [if_pos (by rfl)]
          go_simp
          obtain ⟨y4, hy4⟩ : ∃ Y, Y = y3.alloc (.cells #[.int .i64 0, .int .i64 0, .int .u8 0, .int .i64 0, .int .i64 0, .float .f64 0] 35) := ⟨_, rfl⟩
          obtain ⟨B6, hB6⟩ : ∃ b, b = y3.heap.size := ⟨_, rfl⟩
          have ho : Only (fun _ => False) y3 y4 := by rw [hy4]; exact (Only.refl _ _).alloc _
          have HXy4 : Hid (Only (fun _ => False) w2 y4) := HXy3.out.trans ho
          have HB6y4 : Hid (Blk w2 y4 B6 35 #[.int .i64 0, .int .i64 0, .int .u8 0, .int .i64 0, .int .i64 0, .float .f64 0]) := by rw [hy4, hB6]; exact Blk.made HXy3.out _ _
          have HB5y4 : Hid (Blk w2 y4 B5 31 #[.slice none 0 0, .slice none 0 0]) := HB5y3.out.keep ho
          have HMy4 : Hid (Made y4 L n0 k aC aO cC cO) := HMy3.out.keep ho
          rw [← hy4, ← hB6]
          clear hy4 hB6 ho
          refine hK.out _ _ (HKS.out _ HXy4.out) (fun hHeld => ?_)
          clear hK
          (try simp only [Act.put, List.setIfInBounds_toArray, List.set_cons_zero, List.set_cons_succ])
          refine wpAnyH_ready (rs := [6]) (by kernel_rfl) (by simp) ?_
          refine AllReadyH.cons rfl (fun K hK => ?_) AllReadyH.nil
          rw [if_pos (by rfl)]
          have HXa : Hid (Only (fun _ => False) w2 (y4.setRow B5 #[.slice aC k cC, .slice aO (k + 1) cO])) := HXy4.out.setRowNew HB5y4.out.2 _
          refine wp_store_row 31 _ _ rfl B5 #[.slice aC k cC, .slice aO (k + 1) cO] rfl rfl 31 _ HB5y4.out.1 (by kernel_rfl) rfl (two_one _ _ _ _ _ _) ?_
          have HMa : Hid (Made (y4.setRow B5 #[.slice aC k cC, .slice aO (k + 1) cO]) L n0 k aC aO cC cO ∧ Blk w2 (y4.setRow B5 #[.slice aC k cC, .slice aO (k + 1) cO]) B5 31 #[.slice aC k cC, .slice aO (k + 1) cO] ∧ Blk w2 (y4.setRow B5 #[.slice aC k cC, .slice aO (k + 1) cO]) B6 35 #[.int .i64 0, .int .i64 0, .int .u8 0, .int .i64 0, .int .i64 0, .float .f64 0]) := ⟨HMy4.out.store HB5y4.out.1 (by decide) (by decide) _, HB5y4.out.put _, HB6y4.out.far HB5y4.out (by decide) _⟩
          obtain ⟨za, hza⟩ : ∃ Y, Y = y4.setRow B5 #[.slice aC k cC, .slice aO (k + 1) cO] := ⟨_, rfl⟩
          rw [← hza] at HXa HMa ⊢
          clear hza
          refine hK.out _ _ (HKS.out _ HXa.out) (fun hHeld => ?_)
          clear hK
          (try simp only [Act.put, List.setIfInBounds_toArray, List.set_cons_zero, List.set_cons_succ])
          refine wpAnyH_ready (rs := [7]) (by kernel_rfl) (by simp) ?_
          refine AllReadyH.cons rfl (fun K hK => ?_) AllReadyH.nil
          rw [if_pos (by rfl)]
          have HXb : Hid (Only (fun _ => False) w2 (za.setRow B6 #[.int .i64 (W1 : Int), .int .i64 (T1 : Int), .int .u8 (M1 : Int), .int .i64 (hy : Int), .int .i64 (pr : Int), .float .f64 lo])) := HXa.out.setRowNew HMa.out.2.2.2 _
          refine wp_store_row 35 _ _ rfl B6 #[.int .i64 (W1 : Int), .int .i64 (T1 : Int), .int .u8 (M1 : Int), .int .i64 (hy : Int), .int .i64 (pr : Int), .float .f64 lo] rfl rfl 35 _ HMa.out.2.2.1 (by kernel_rfl) rfl (cfg_one _ _ _ _ _ _) ?_
          have HMb : Hid (Made (za.setRow B6 #[.int .i64 (W1 : Int), .int .i64 (T1 : Int), .int .u8 (M1 : Int), .int .i64 (hy : Int), .int .i64 (pr : Int), .float .f64 lo]) L n0 k aC aO cC cO ∧ Blk w2 (za.setRow B6 #[.int .i64 (W1 : Int), .int .i64 (T1 : Int), .int .u8 (M1 : Int), .int .i64 (hy : Int), .int .i64 (pr : Int), .float .f64 lo]) B5 31 #[.slice aC k cC, .slice aO (k + 1) cO] ∧ Blk w2 (za.setRow B6 #[.int .i64 (W1 : Int), .int .i64 (T1 : Int), .int .u8 (M1 : Int), .int .i64 (hy : Int), .int .i64 (pr : Int), .float .f64 lo]) B6 35 #[.int .i64 (W1 : Int), .int .i64 (T1 : Int), .int .u8 (M1 : Int), .int .i64 (hy : Int), .int .i64 (pr : Int), .float .f64 lo]) := ⟨HMa.out.1.store HMa.out.2.2.1 (by decide) (by decide) _, HMa.out.2.1.far HMa.out.2.2 (by decide) _, HMa.out.2.2.put _⟩
          obtain ⟨zb, hzb⟩ : ∃ Y, Y = za.setRow B6 #[.int .i64 (W1 : Int), .int .i64 (T1 : Int), .int .u8 (M1 : Int), .int .i64 (hy : Int), .int .i64 (pr : Int), .float .f64 lo] := ⟨_, rfl⟩
          rw [← hzb] at HXb HMb ⊢
          clear hzb
          refine hK.out _ _ (HKS.out _ HXb.out) (fun hHeld => ?_)
          clear hK
          (try simp only [Act.put, List.setIfInBounds_toArray, List.set_cons_zero, List.set_cons_succ])
          refine wpAnyH_done (by kernel_rfl) ?_ _
          clear hHeld
          go_wp2_with fail
          go_meet
          exact ⟨k, B5, B6, aC, aO, cC, cO, _, rfl, rfl, rfl, HMb.out.1, HMb.out.2.1, HMb.out.2.2, HXb.out⟩
        · rw [if_pos (by rfl)]
          go_simp
          obtain ⟨y3, hy3⟩ : ∃ Y, Y = y2.alloc (.cells #[.int .i64 0, .int .i64 0, .int .u8 0, .int .i64 0, .int .i64 0, .float .f64 0] 35) := ⟨_, rfl⟩
          obtain ⟨B6, hB6⟩ : ∃ b, b = y2.heap.size := ⟨_, rfl⟩
          have ho : Only (fun _ => False) y2 y3 := by rw [hy3]; exact (Only.refl _ _).alloc _
          have HXy3 : Hid (Only (fun _ => False) w2 y3) := HXy2.out.trans ho
          have HB6y3 : Hid (Blk w2 y3 B6 35 #[.int .i64 0, .int .i64 0, .int .u8 0, .int .i64 0, .int .i64 0, .float .f64 0]) := by rw [hy3, hB6]; exact Blk.made HXy2.out _ _
          have HB5y3 : Hid (Blk w2 y3 B5 31 #[.slice none 0 0, .slice none 0 0]) := HB5y2.out.keep ho
          have HMy3 : Hid (Made y3 L n0 k aC aO cC cO) := HMy2.out.keep ho
          rw [← hy3, ← hB6]
          clear hy3 hB6 ho
          refine hK.out _ _ (HKS.out _ HXy3.out) (fun hHeld => ?_)
          clear hK
          (try simp only [Act.put, List.setIfInBounds_toArray, List.set_cons_zero, List.set_cons_succ])
          refine wpAnyH_ready (rs := [3]) (by kernel_rfl) (by simp) ?_
          refine AllReadyH.cons rfl (fun K hK => ?_) AllReadyH.nil
          rw [if_pos (by rfl)]
          go_simp
          refine Calls.mono (HCF.out _) ?_
          rintro e y4 ⟨rfl, ho⟩
          have HMy4 : Hid (Made y4 L n0 k aC aO cC cO) := HMy3.out.keep ho
          have HXy4 : Hid (Only (fun _ => False) w2 y4) := HXy3.out.trans ho
          have HB5y4 : Hid (Blk w2 y4 B5 31 #[.slice none 0 0, .slice none 0 0]) := HB5y3.out.keep ho
          have HB6y4 : Hid (Blk w2 y4 B6 35 #[.int .i64 0, .int .i64 0, .int .u8 0, .int .i64 0, .int .i64 0, .float .f64 0]) := HB6y3.out.keep ho
          clear ho
          refine hK.out _ _ (HKS.out _ HXy4.out) (fun hHeld => ?_)
          clear hK
          (try simp only [Act.put, List.setIfInBounds_toArray, List.set_cons_zero, List.set_cons_succ])
          refine wpAnyH_ready (rs := [6]) (by kernel_rfl) (by simp) ?_
          refine AllReadyH.cons rfl (fun K hK => ?_) AllReadyH.nil
          rw [if_pos (by rfl)]
          have HXa : Hid (Only (fun _ => False) w2 (y4.setRow B5 #[.slice aC k cC, .slice aO (k + 1) cO])) := HXy4.out.setRowNew HB5y4.out.2 _
          refine wp_store_row 31 _ _ rfl B5 #[.slice aC k cC, .slice aO (k + 1) cO] rfl rfl 31 _ HB5y4.out.1 (by kernel_rfl) rfl (two_one _ _ _ _ _ _) ?_
          have HMa : Hid (Made (y4.setRow B5 #[.slice aC k cC, .slice aO (k + 1) cO]) L n0 k aC aO cC cO ∧ Blk w2 (y4.setRow B5 #[.slice aC k cC, .slice aO (k + 1) cO]) B5 31 #[.slice aC k cC, .slice aO (k + 1) cO] ∧ Blk w2 (y4.setRow B5 #[.slice aC k cC, .slice aO (k + 1) cO]) B6 35 #[.int .i64 0, .int .i64 0, .int .u8 0, .int .i64 0, .int .i64 0, .float .f64 0]) := ⟨HMy4.out.store HB5y4.out.1 (by decide) (by decide) _, HB5y4.out.put _, HB6y4.out.far HB5y4.out (by decide) _⟩
          obtain ⟨za, hza⟩ : ∃ Y, Y = y4.setRow B5 #[.slice aC k cC, .slice aO (k + 1) cO] := ⟨_, rfl⟩
          rw [← hza] at HXa HMa ⊢
          clear hza
          refine hK.out _ _ (HKS.out _ HXa.out) (fun hHeld => ?_)
          clear hK
          (try simp only [Act.put, List.setIfInBounds_toArray, List.set_cons_zero, List.set_cons_succ])
          refine wpAnyH_ready (rs := [7]) (by kernel_rfl) (by simp) ?_
          refine AllReadyH.cons rfl (fun K hK => ?_) AllReadyH.nil
          rw [if_pos (by rfl)]
          have HXb : Hid (Only (fun _ => False) w2 (za.setRow B6 #[.int .i64 (W1 : Int), .int .i64 (T1 : Int), .int .u8 (M1 : Int), .int .i64 (hy : Int), .int .i64 (pr : Int), .float .f64 lo])) := HXa.out.setRowNew HMa.out.2.2.2 _
          refine wp_store_row 35 _ _ rfl B6 #[.int .i64 (W1 : Int), .int .i64 (T1 : Int), .int .u8 (M1 : Int), .int .i64 (hy : Int), .int .i64 (pr : Int), .float .f64 lo] rfl rfl 35 _ HMa.out.2.2.1 (by kernel_rfl) rfl (cfg_one _ _ _ _ _ _) ?_
          have HMb : Hid (Made (za.setRow B6 #[.int .i64 (W1 : Int), .int .i64 (T1 : Int), .int .u8 (M1 : Int), .int .i64 (hy : Int), .int .i64 (pr : Int), .float .f64 lo]) L n0 k aC aO cC cO ∧ Blk w2 (za.setRow B6 #[.int .i64 (W1 : Int), .int .i64 (T1 : Int), .int .u8 (M1 : Int), .int .i64 (hy : Int), .int .i64 (pr : Int), .float .f64 lo]) B5 31 #[.slice aC k cC, .slice aO (k + 1) cO] ∧ Blk w2 (za.setRow B6 #[.int .i64 (W1 : Int), .int .i64 (T1 : Int), .int .u8 (M1 : Int), .int .i64 (hy : Int), .int .i64 (pr : Int), .float .f64 lo]) B6 35 #[.int .i64 (W1 : Int), .int .i64 (T1 : Int), .int .u8 (M1 : Int), .int .i64 (hy : Int), .int .i64 (pr : Int), .float .f64 lo]) := ⟨HMa.out.1.store HMa.out.2.2.1 (by decide) (by decide) _, HMa.out.2.1.far HMa.out.2.2 (by decide) _, HMa.out.2.2.put _⟩
          obtain ⟨zb, hzb⟩ : ∃ Y, Y = za.setRow B6 #[.int .i64 (W1 : Int), .int .i64 (T1 : Int), .int .u8 (M1 : Int), .int .i64 (hy : Int), .int .i64 (pr : Int), .float .f64 lo] := ⟨_, rfl⟩
          rw [← hzb] at HXb HMb ⊢
          clear hzb
          refine hK.out _ _ (HKS.out _ HXb.out) (fun hHeld => ?_)
          clear hK
          (try simp only [Act.put, List.setIfInBounds_toArray, List.set_cons_zero, List.set_cons_succ])
          refine wpAnyH_done (by kernel_rfl) ?_ _
          clear hHeld
          go_wp2_with fail
          go_meet
          exact ⟨k, B5, B6, aC, aO, cC, cO, _, rfl, rfl, rfl, HMb.out.1, HMb.out.2.1, HMb.out.2.2, HXb.out⟩
      · rw [if_pos (by rfl)]
        go_simp
        obtain ⟨y2, hy2⟩ : ∃ Y, Y = y1.alloc (.cells #[.int .i64 0, .int .i64 0, .int .u8 0, .int .i64 0, .int .i64 0, .float .f64 0] 35) := ⟨_, rfl⟩
        obtain ⟨B6, hB6⟩ : ∃ b, b = y1.heap.size := ⟨_, rfl⟩
        have ho : Only (fun _ => False) y1 y2 := by rw [hy2]; exact (Only.refl _ _).alloc _
        have HXy2 : Hid (Only (fun _ => False) w2 y2) := HXy1.out.trans ho
        have HB6y2 : Hid (Blk w2 y2 B6 35 #[.int .i64 0, .int .i64 0, .int .u8 0, .int .i64 0, .int .i64 0, .float .f64 0]) := by rw [hy2, hB6]; exact Blk.made HXy1.out _ _
        have HB5y2 : Hid (Blk w2 y2 B5 31 #[.slice none 0 0, .slice none 0 0]) := HB5y1.out.keep ho
        rw [← hy2, ← hB6]
        clear hy2 hB6 ho
        refine hK.out _ _ (HKS.out _ HXy2.out) (fun hHeld => ?_)
        clear hK
        (try simp only [Act.put, List.setIfInBounds_toArray, List.set_cons_zero, List.set_cons_succ])
        refine wpAnyH_ready (rs := [1]) (by kernel_rfl) (by simp) ?_
        refine AllReadyH.cons rfl (fun K hK => ?_) AllReadyH.nil
        rw [if_pos (by rfl)]
        go_simp
        refine Calls.mono (HPA.out _ (HW2.out.trans HXy2.out)) ?_
        rintro e y3 ⟨k, aC, aO, cC, cO, rfl, hmd, ho⟩
        have HMy3 : Hid (Made y3 L n0 k aC aO cC cO) := hmd
        clear hmd
        have HXy3 : Hid (Only (fun _ => False) w2 y3) := HXy2.out.trans ho
        have HB5y3 : Hid (Blk w2 y3 B5 31 #[.slice none 0 0, .slice none 0 0]) := HB5y2.out.keep ho
        have HB6y3 : Hid (Blk w2 y3 B6 35 #[.int .i64 0, .int .i64 0, .int .u8 0, .int .i64 0, .int .i64 0, .float .f64 0]) := HB6y2.out.keep ho
        clear ho
        refine hK.out _ _ (HKS.out _ HXy3.out) (fun hHeld => ?_)
        clear hK
        (try simp only [Act.put, List.setIfInBounds_toArray, List.set_cons_zero, List.set_cons_succ])
        refine wpAnyH_ready (rs := [3]) (by kernel_rfl) (by simp) ?_
        refine AllReadyH.cons rfl (fun K hK => ?_) AllReadyH.nil
        rw [if_pos (by rfl)]
        go_simp
        refine Calls.mono (HCF.out _) ?_
        rintro e y4 ⟨rfl, ho⟩
        have HMy4 : Hid (Made y4 L n0 k aC aO cC cO) := HMy3.out.keep ho
        have HXy4 : Hid (Only (fun _ => False) w2 y4) := HXy3.out.trans ho
        have HB5y4 : Hid (Blk w2 y4 B5 31 #[.slice none 0 0, .slice none 0 0]) := HB5y3.out.keep ho
        have HB6y4 : Hid (Blk w2 y4 B6 35 #[.int .i64 0, .int .i64 0, .int .u8 0, .int .i64 0, .int .i64 0, .float .f64 0]) := HB6y3.out.keep ho
        clear ho
        refine hK.out _ _ (HKS.out _ HXy4.out) (fun hHeld => ?_)
        clear hK
        (try simp only [Act.put, List.setIfInBounds_toArray, List.set_cons_zero, List.set_cons_succ])
        refine wpAnyH_ready (rs := [6]) (by kernel_rfl) (by simp) ?_
        refine AllReadyH.cons rfl (fun K hK => ?_) AllReadyH.nil
        rw [if_pos (by rfl)]
        have HXa : Hid (Only (fun _ => False) w2 (y4.setRow B5 #[.slice aC k cC, .slice aO (k + 1) cO])) := HXy4.out.setRowNew HB5y4.out.2 _
        refine wp_store_row 31 _ _ rfl B5 #[.slice aC k cC, .slice aO (k + 1) cO] rfl rfl 31 _ HB5y4.out.1 (by kernel_rfl) rfl (two_one _ _ _ _ _ _) ?_
        have HMa : Hid (Made (y4.setRow B5 #[.slice aC k cC, .slice aO (k + 1) cO]) L n0 k aC aO cC cO ∧ Blk w2 (y4.setRow B5 #[.slice aC k cC, .slice aO (k + 1) cO]) B5 31 #[.slice aC k cC, .slice aO (k + 1) cO] ∧ Blk w2 (y4.setRow B5 #[.slice aC k cC, .slice aO (k + 1) cO]) B6 35 #[.int .i64 0, .int .i64 0, .int .u8 0, .int .i64 0, .int .i64 0, .float .f64 0]) := ⟨HMy4.out.store HB5y4.out.1 (by decide) (by decide) _, HB5y4.out.put _, HB6y4.out.far HB5y4.out (by decide) _⟩
        obtain ⟨za, hza⟩ : ∃ Y, Y = y4.setRow B5 #[.slice aC k cC, .slice aO (k + 1) cO] := ⟨_, rfl⟩
        rw [← hza] at HXa HMa ⊢
        clear hza
        refine hK.out _ _ (HKS.out _ HXa.out) (fun hHeld => ?_)
        clear hK
        (try simp only [Act.put, List.setIfInBounds_toArray, List.set_cons_zero, List.set_cons_succ])
        refine wpAnyH_ready (rs := [7]) (by kernel_rfl) (by simp) ?_
        refine AllReadyH.cons rfl (fun K hK => ?_) AllReadyH.nil
        rw [if_pos (by rfl)]
        have HXb : Hid (Only (fun _ => False) w2 (za.setRow B6 #[.int .i64 (W1 : Int), .int .i64 (T1 : Int), .int .u8 (M1 : Int), .int .i64 (hy : Int), .int .i64 (pr : Int), .float .f64 lo])) := HXa.out.setRowNew HMa.out.2.2.2 _
        refine wp_store_row 35 _ _ rfl B6 #[.int .i64 (W1 : Int), .int .i64 (T1 : Int), .int .u8 (M1 : Int), .int .i64 (hy : Int), .int .i64 (pr : Int), .float .f64 lo] rfl rfl 35 _ HMa.out.2.2.1 (by kernel_rfl) rfl (cfg_one _ _ _ _ _ _) ?_
        have HMb : Hid (Made (za.setRow B6 #[.int .i64 (W1 : Int), .int .i64 (T1 : Int), .int .u8 (M1 : Int), .int .i64 (hy : Int), .int .i64 (pr : Int), .float .f64 lo]) L n0 k aC aO cC cO ∧ Blk w2 (za.setRow B6 #[.int .i64 (W1 : Int), .int .i64 (T1 : Int), .int .u8 (M1 : Int), .int .i64 (hy : Int), .int .i64 (pr : Int), .float .f64 lo]) B5 31 #[.slice aC k cC, .slice aO (k + 1) cO] ∧ Blk w2 (za.setRow B6 #[.int .i64 (W1 : Int), .int .i64 (T1 : Int), .int .u8 (M1 : Int), .int .i64 (hy : Int), .int .i64 (pr : Int), .float .f64 lo]) B6 35 #[.int .i64 (W1 : Int), .int .i64 (T1 : Int), .int .u8 (M1 : Int), .int .i64 (hy : Int), .int .i64 (pr : Int), .float .f64 lo]) := ⟨HMa.out.1.store HMa.out.2.2.1 (by decide) (by decide) _, HMa.out.2.1.far HMa.out.2.2 (by decide) _, HMa.out.2.2.put _⟩
        obtain ⟨zb, hzb⟩ : ∃ Y, Y = za.setRow B6 #[.int .i64 (W1 : Int), .int .i64 (T1 : Int), .int .u8 (M1 : Int), .int .i64 (hy : Int), .int .i64 (pr : Int), .float .f64 lo] := ⟨_, rfl⟩
        rw [← hzb] at HXb HMb ⊢
        clear hzb
        refine hK.out _ _ (HKS.out _ HXb.out) (fun hHeld => ?_)
        clear hK
        (try simp only [Act.put, List.setIfInBounds_toArray, List.set_cons_zero, List.set_cons_succ])
        refine wpAnyH_done (by kernel_rfl) ?_ _
        clear hHeld
        go_wp2_with fail
        go_meet
        exact ⟨k, B5, B6, aC, aO, cC, cO, _, rfl, rfl, rfl, HMb.out.1, HMb.out.2.1, HMb.out.2.2, HXb.out⟩
    · rw [if_pos (by rfl)]
      go_simp
      obtain ⟨y1, hy1⟩ : ∃ Y, Y = (w2.alloc (.cells #[.int .i64 0, .int .i64 0, .int .u8 0, .int .i64 0, .int .i64 0, .float .f64 0] 35)).drew := ⟨_, rfl⟩
      obtain ⟨B6, hB6⟩ : ∃ b, b = w2.heap.size := ⟨_, rfl⟩
      have ho : Only (fun _ => False) w2 y1 := by rw [hy1]; exact ((Only.refl _ _).alloc _).drew
      have HXy1 : Hid (Only (fun _ => False) w2 y1) := ho
      have HB6y1 : Hid (Blk w2 y1 B6 35 #[.int .i64 0, .int .i64 0, .int .u8 0, .int .i64 0, .int .i64 0, .float .f64 0]) := by rw [hy1, hB6]; exact (Blk.made (Only.refl _ _) _ _).drew
      rw [← hy1, ← hB6]
      clear hy1 hB6 ho
      refine hK.out _ _ (HKS.out _ HXy1.out) (fun hHeld => ?_)
      clear hK
      (try simp only [Act.put, List.setIfInBounds_toArray, List.set_cons_zero, List.set_cons_succ])
      refine wpAnyH_ready (rs := [1, 4]) (by kernel_rfl) (by simp) ?_
      refine AllReadyH.cons rfl (fun K hK => ?_) (AllReadyH.cons rfl (fun K hK => ?_) AllReadyH.nil)
      · rw [if_pos (by rfl)]
        go_simp
        refine Calls.mono (HPA.out _ (HW2.out.trans HXy1.out)) ?_
        rintro e y2 ⟨k, aC, aO, cC, cO, rfl, hmd, ho⟩
        have HMy2 : Hid (Made y2 L n0 k aC aO cC cO) := hmd
        clear hmd
        have HXy2 : Hid (Only (fun _ => False) w2 y2) := HXy1.out.trans ho
        have HB6y2 : Hid (Blk w2 y2 B6 35 #[.int .i64 0, .int .i64 0, .int .u8 0, .int .i64 0, .int .i64 0, .float .f64 0]) := HB6y1.out.keep ho
        clear ho
        refine hK.out _ _ (HKS.out _ HXy2.out) (fun hHeld => ?_)
        clear hK
        (try simp only [Act.put, List.setIfInBounds_toArray, List.set_cons_zero, List.set_cons_succ])
        refine wpAnyH_ready (rs := [3, 4]) (by kernel_rfl) (by simp) ?_
        refine AllReadyH.cons rfl (fun K hK => ?_) (AllReadyH.cons rfl (fun K hK => ?_) AllReadyH.nil)
        · rw [if_pos (by rfl)]
          go_simp
          refine Calls.mono (HCF.out _) ?_
          rintro e y3 ⟨rfl, ho⟩
          have HMy3 : Hid (Made y3 L n0 k aC aO cC cO) := HMy2.out.keep ho
          have HXy3 : Hid (Only (fun _ => False) w2 y3) := HXy2.out.trans ho
          have HB6y3 : Hid (Blk w2 y3 B6 35 #[.int .i64 0, .int .i64 0, .int .u8 0, .int .i64 0, .int .i64 0, .float .f64 0]) := HB6y2.out.keep ho
          clear ho
          refine hK.out _ _ (HKS.out _ HXy3.out) (fun hHeld => ?_)
          clear hK
          (try simp only [Act.put, List.setIfInBounds_toArray, List.set_cons_zero, List.set_cons_succ])
          refine wpAnyH_ready (rs := [4]) (by kernel_rfl) (by simp) ?_
          refine AllReadyH.cons rfl (fun K hK => ?_) AllReadyH.nil
          rw [if_pos (by rfl)]
          go_simp
          obtain ⟨y4, hy4⟩ : ∃ Y, Y = y3.alloc (.cells #[.slice none 0 0, .slice none 0 0] 31) := ⟨_, rfl⟩
          obtain ⟨B5, hB5⟩ : ∃ b, b = y3.heap.size := ⟨_, rfl⟩
          have ho : Only (fun _ => False) y3 y4 := by rw [hy4]; exact (Only.refl _ _).alloc _
          have HXy4 : Hid (Only (fun _ => False) w2 y4) := HXy3.out.trans ho
          have HB5y4 : Hid (Blk w2 y4 B5 31 #[.slice none 0 0, .slice none 0 0]) := by rw [hy4, hB5]; exact Blk.made HXy3.out _ _
          have HB6y4 : Hid (Blk w2 y4 B6 35 #[.int .i64 0, .int .i64 0, .int .u8 0, .int .i64 0, .int .i64 0, .float .f64 0]) := HB6y3.out.keep ho
          have HMy4 : Hid (Made y4 L n0 k aC aO cC cO) := HMy3.out.keep ho
          rw [← hy4, ← hB5]
          clear hy4 hB5 ho
          refine hK.out _ _ (HKS.out _ HXy4.out) (fun hHeld => ?_)
          clear hK
          (try simp only [Act.put, List.setIfInBounds_toArray, List.set_cons_zero, List.set_cons_succ])
          refine wpAnyH_ready (rs := [6]) (by kernel_rfl) (by simp) ?_
          refine AllReadyH.cons rfl (fun K hK => ?_) AllReadyH.nil
          rw [if_pos (by rfl)]
          have HXa : Hid (Only (fun _ => False) w2 (y4.setRow B5 #[.slice aC k cC, .slice aO (k + 1) cO])) := HXy4.out.setRowNew HB5y4.out.2 _
          refine wp_store_row 31 _ _ rfl B5 #[.slice aC k cC, .slice aO (k + 1) cO] rfl rfl 31 _ HB5y4.out.1 (by kernel_rfl) rfl (two_one _ _ _ _ _ _) ?_
          have HMa : Hid (Made (y4.setRow B5 #[.slice aC k cC, .slice aO (k + 1) cO]) L n0 k aC aO cC cO ∧ Blk w2 (y4.setRow B5 #[.slice aC k cC, .slice aO (k + 1) cO]) B5 31 #[.slice aC k cC, .slice aO (k + 1) cO] ∧ Blk w2 (y4.setRow B5 #[.slice aC k cC, .slice aO (k + 1) cO]) B6 35 #[.int .i64 0, .int .i64 0, .int .u8 0, .int .i64 0, .int .i64 0, .float .f64 0]) := ⟨HMy4.out.store HB5y4.out.1 (by decide) (by decide) _, HB5y4.out.put _, HB6y4.out.far HB5y4.out (by decide) _⟩
          obtain ⟨za, hza⟩ : ∃ Y, Y = y4.setRow B5 #[.slice aC k cC, .slice aO (k + 1) cO] := ⟨_, rfl⟩
          rw [← hza] at HXa HMa ⊢
          clear hza
          refine hK.out _ _ (HKS.out _ HXa.out) (fun hHeld => ?_)
          clear hK
          (try simp only [Act.put, List.setIfInBounds_toArray, List.set_cons_zero, List.set_cons_succ])
          refine wpAnyH_ready (rs := [7]) (by kernel_rfl) (by simp) ?_
          refine AllReadyH.cons rfl (fun K hK => ?_) AllReadyH.nil
          rw [if_pos (by rfl)]
          have HXb : Hid (Only (fun _ => False) w2 (za.setRow B6 #[.int .i64 (W1 : Int), .int .i64 (T1 : Int), .int .u8 (M1 : Int), .int .i64 (hy : Int), .int .i64 (pr : Int), .float .f64 lo])) := HXa.out.setRowNew HMa.out.2.2.2 _
          refine wp_store_row 35 _ _ rfl B6 #[.int .i64 (W1 : Int), .int .i64 (T1 : Int), .int .u8 (M1 : Int), .int .i64 (hy : Int), .int .i64 (pr : Int), .float .f64 lo] rfl rfl 35 _ HMa.out.2.2.1 (by kernel_rfl) rfl (cfg_one _ _ _ _ _ _) ?_
          have HMb : Hid (Made (za.setRow B6 #[.int .i64 (W1 : Int), .int .i64 (T1 : Int), .int .u8 (M1 : Int), .int .i64 (hy : Int), .int .i64 (pr : Int), .float .f64 lo]) L n0 k aC aO cC cO ∧ Blk w2 (za.setRow B6 #[.int .i64 (W1 : Int), .int .i64 (T1 : Int), .int .u8 (M1 : Int), .int .i64 (hy : Int), .int .i64 (pr : Int), .float .f64 lo]) B5 31 #[.slice aC k cC, .slice aO (k + 1) cO] ∧ Blk w2 (za.setRow B6 #[.int .i64 (W1 : Int), .int .i64 (T1 : Int), .int .u8 (M1 : Int), .int .i64 (hy : Int), .int .i64 (pr : Int), .float .f64 lo]) B6 35 #[.int .i64 (W1 : Int), .int .i64 (T1 : Int), .int .u8 (M1 : Int), .int .i64 (hy : Int), .int .i64 (pr : Int), .float .f64 lo]) := ⟨HMa.out.1.store HMa.out.2.2.1 (by decide) (by decide) _, HMa.out.2.1.far HMa.out.2.2 (by decide) _, HMa.out.2.2.put _⟩
          obtain ⟨zb, hzb⟩ : ∃ Y, Y = za.setRow B6 #[.int .i64 (W1 : Int), .int .i64 (T1 : Int), .int .u8 (M1 : Int), .int .i64 (hy : Int), .int .i64 (pr : Int), .float .f64 lo] := ⟨_, rfl⟩
          rw [← hzb] at HXb HMb ⊢
          clear hzb
          refine hK.out _ _ (HKS.out _ HXb.out) (fun hHeld => ?_)
          clear hK
          (try simp only [Act.put, List.setIfInBounds_toArray, List.set_cons_zero, List.set_cons_succ])
          refine wpAnyH_done (by kernel_rfl) ?_ _
          clear hHeld
          go_wp2_with fail
          go_meet
          exact ⟨k, B5, B6, aC, aO, cC, cO, _, rfl, rfl, rfl, HMb.out.1, HMb.out.2.1, HMb.out.2.2, HXb.out⟩
        · rw [if_pos (by rfl)]
          go_simp
          obtain ⟨y3, hy3⟩ : ∃ Y, Y = y2.alloc (.cells #[.slice none 0 0, .slice none 0 0] 31) := ⟨_, rfl⟩
          obtain ⟨B5, hB5⟩ : ∃ b, b = y2.heap.size := ⟨_, rfl⟩
          have ho : Only (fun _ => False) y2 y3 := by rw [hy3]; exact (Only.refl _ _).alloc _
          have HXy3 : Hid (Only (fun _ => False) w2 y3) := HXy2.out.trans ho
          have HB5y3 : Hid (Blk w2 y3 B5 31 #[.slice none 0 0, .slice none 0 0]) := by rw [hy3, hB5]; exact Blk.made HXy2.out _ _
          have HB6y3 : Hid (Blk w2 y3 B6 35 #[.int .i64 0, .int .i64 0, .int .u8 0, .int .i64 0, .int .i64 0, .float .f64 0]) := HB6y2.out.keep ho
          have HMy3 : Hid (Made y3 L n0 k aC aO cC cO) := HMy2.out.keep ho
          rw [← hy3, ← hB5]
          clear hy3 hB5 ho
          refine hK.out _ _ (HKS.out _ HXy3.out) (fun hHeld => ?_)
          clear hK
          (try simp only [Act.put, List.setIfInBounds_toArray, List.set_cons_zero, List.set_cons_succ])
          refine wpAnyH_ready (rs := [3]) (by kernel_rfl) (by simp) ?_
          refine AllReadyH.cons rfl (fun K hK => ?_) AllReadyH.nil
          rw [if_pos (by rfl)]
          go_simp
          refine Calls.mono (HCF.out _) ?_
          rintro e y4 ⟨rfl, ho⟩
          have HMy4 : Hid (Made y4 L n0 k aC aO cC cO) := HMy3.out.keep ho
          have HXy4 : Hid (Only (fun _ => False) w2 y4) := HXy3.out.trans ho
          have HB5y4 : Hid (Blk w2 y4 B5 31 #[.slice none 0 0, .slice none 0 0]) := HB5y3.out.keep ho
          have HB6y4 : Hid (Blk w2 y4 B6 35 #[.int .i64 0, .int .i64 0, .int .u8 0, .int .i64 0, .int .i64 0, .float .f64 0]) := HB6y3.out.keep ho
          clear ho
          refine hK.out _ _ (HKS.out _ HXy4.out) (fun hHeld => ?_)
          clear hK
          (try simp only [Act.put, List.setIfInBounds_toArray, List.set_cons_zero, List.set_cons_succ])
          refine wpAnyH_ready (rs := [6]) (by kernel_rfl) (by simp) ?_
          refine AllReadyH.cons rfl (fun K hK => ?_) AllReadyH.nil
          rw [if_pos (by rfl)]
          have HXa : Hid (Only (fun _ => False) w2 (y4.setRow B5 #[.slice aC k cC, .slice aO (k + 1) cO])) := HXy4.out.setRowNew HB5y4.out.2 _
          refine wp_store_row 31 _ _ rfl B5 #[.slice aC k cC, .slice aO (k + 1) cO] rfl rfl 31 _ HB5y4.out.1 (by kernel_rfl) rfl (two_one _ _ _ _ _ _) ?_
          have HMa : Hid (Made (y4.setRow B5 #[.slice aC k cC, .slice aO (k + 1) cO]) L n0 k aC aO cC cO ∧ Blk w2 (y4.setRow B5 #[.slice aC k cC, .slice aO (k + 1) cO]) B5 31 #[.slice aC k cC, .slice aO (k + 1) cO] ∧ Blk w2 (y4.setRow B5 #[.slice aC k cC, .slice aO (k + 1) cO]) B6 35 #[.int .i64 0, .int .i64 0, .int .u8 0, .int .i64 0, .int .i64 0, .float .f64 0]) := ⟨HMy4.out.store HB5y4.out.1 (by decide) (by decide) _, HB5y4.out.put _, HB6y4.out.far HB5y4.out (by decide) _⟩
          obtain ⟨za, hza⟩ : ∃ Y, Y = y4.setRow B5 #[.slice aC k cC, .slice aO (k + 1) cO] := ⟨_, rfl⟩
          rw [← hza] at HXa HMa ⊢
          clear hza
          refine hK.out _ _ (HKS.out _ HXa.out) (fun hHeld => ?_)
          clear hK
          (try simp only [Act.put, List.setIfInBounds_toArray, List.set_cons_zero, List.set_cons_succ])
          refine wpAnyH_ready (rs := [7]) (by kernel_rfl) (by simp) ?_
          refine AllReadyH.cons rfl (fun K hK => ?_) AllReadyH.nil
          rw [if_pos (by rfl)]
          have HXb : Hid (Only (fun _ => False) w2 (za.setRow B6 #[.int .i64 (W1 : Int), .int .i64 (T1 : Int), .int .u8 (M1 : Int), .int .i64 (hy : Int), .int .i64 (pr : Int), .float .f64 lo])) := HXa.out.setRowNew HMa.out.2.2.2 _
          refine wp_store_row 35 _ _ rfl B6 #[.int .i64 (W1 : Int), .int .i64 (T1 : Int), .int .u8 (M1 : Int), .int .i64 (hy : Int), .int .i64 (pr : Int), .float .f64 lo] rfl rfl 35 _ HMa.out.2.2.1 (by kernel_rfl) rfl (cfg_one _ _ _ _ _ _) ?_
          have HMb : Hid (Made (za.setRow B6 #[.int .i64 (W1 : Int), .int .i64 (T1 : Int), .int .u8 (M1 : Int), .int .i64 (hy : Int), .int .i64 (pr : Int), .float .f64 lo]) L n0 k aC aO cC cO ∧ Blk w2 (za.setRow B6 #[.int .i64 (W1 : Int), .int .i64 (T1 : Int), .int .u8 (M1 : Int), .int .i64 (hy : Int), .int .i64 (pr : Int), .float .f64 lo]) B5 31 #[.slice aC k cC, .slice aO (k + 1) cO] ∧ Blk w2 (za.setRow B6 #[.int .i64 (W1 : Int), .int .i64 (T1 : Int), .int .u8 (M1 : Int), .int .i64 (hy : Int), .int .i64 (pr : Int), .float .f64 lo]) B6 35 #[.int .i64 (W1 : Int), .int .i64 (T1 : Int), .int .u8 (M1 : Int), .int .i64 (hy : Int), .int .i64 (pr : Int), .float .f64 lo]) := ⟨HMa.out.1.store HMa.out.2.2.1 (by decide) (by decide) _, HMa.out.2.1.far HMa.out.2.2 (by decide) _, HMa.out.2.2.put _⟩
          obtain ⟨zb, hzb⟩ : ∃ Y, Y = za.setRow B6 #[.int .i64 (W1 : Int), .int .i64 (T1 : Int), .int .u8 (M1 : Int), .int .i64 (hy : Int), .int .i64 (pr : Int), .float .f64 lo] := ⟨_, rfl⟩
          rw [← hzb] at HXb HMb ⊢
          clear hzb
          refine hK.out _ _ (HKS.out _ HXb.out) (fun hHeld => ?_)
          clear hK
          (try simp only [Act.put, List.setIfInBounds_toArray, List.set_cons_zero, List.set_cons_succ])
          refine wpAnyH_done (by kernel_rfl) ?_ _
          clear hHeld
          go_wp2_with fail
          go_meet
          exact ⟨k, B5, B6, aC, aO, cC, cO, _, rfl, rfl, rfl, HMb.out.1, HMb.out.2.1, HMb.out.2.2, HXb.out⟩
      · rw [if_pos (by rfl)]
        go_simp
        obtain ⟨y2, hy2⟩ : ∃ Y, Y = y1.alloc (.cells #[.slice none 0 0, .slice none 0 0] 31) := ⟨_, rfl⟩
        obtain ⟨B5, hB5⟩ : ∃ b, b = y1.heap.size := ⟨_, rfl⟩
        have ho : Only (fun _ => False) y1 y2 := by rw [hy2]; exact (Only.refl _ _).alloc _
        have HXy2 : Hid (Only (fun _ => False) w2 y2) := HXy1.out.trans ho
        have HB5y2 : Hid (Blk w2 y2 B5 31 #[.slice none 0 0, .slice none 0 0]) := by rw [hy2, hB5]; exact Blk.made HXy1.out _ _
        have HB6y2 : Hid (Blk w2 y2 B6 35 #[.int .i64 0, .int .i64 0, .int .u8 0, .int .i64 0, .int .i64 0, .float .f64 0]) := HB6y1.out.keep ho
        rw [← hy2, ← hB5]
        clear hy2 hB5 ho
        refine hK.out _ _ (HKS.out _ HXy2.out) (fun hHeld => ?_)
        clear hK
        (try simp only [Act.put, List.setIfInBounds_toArray, List.set_cons_zero, List.set_cons_succ])
        refine wpAnyH_ready (rs := [1]) (by kernel_rfl) (by simp) ?_
        refine AllReadyH.cons rfl (fun K hK => ?_) AllReadyH.nil
        rw [if_pos (by rfl)]
        go_simp
        refine Calls.mono (HPA.out _ (HW2.out.trans HXy2.out)) ?_
        rintro e y3 ⟨k, aC, aO, cC, cO, rfl, hmd, ho⟩
        have HMy3 : Hid (Made y3 L n0 k aC aO cC cO) := hmd
        clear hmd
        have HXy3 : Hid (Only (fun _ => False) w2 y3) := HXy2.out.trans ho
        have HB5y3 : Hid (Blk w2 y3 B5 31 #[.slice none 0 0, .slice none 0 0]) := HB5y2.out.keep ho
        have HB6y3 : Hid (Blk w2 y3 B6 35 #[.int .i64 0, .int .i64 0, .int .u8 0, .int .i64 0, .int .i64 0, .float .f64 0]) := HB6y2.out.keep ho
        clear ho
        refine hK.out _ _ (HKS.out _ HXy3.out) (fun hHeld => ?_)
        clear hK
        (try simp only [Act.put, List.setIfInBounds_toArray, List.set_cons_zero, List.set_cons_succ])
        refine wpAnyH_ready (rs := [3]) (by kernel_rfl) (by simp) ?_
        refine AllReadyH.cons rfl (fun K hK => ?_) AllReadyH.nil
        rw [if_pos (by rfl)]
        go_simp
        refine Calls.mono (HCF.out _) ?_
        rintro e y4 ⟨rfl, ho⟩
        have HMy4 : Hid (Made y4 L n0 k aC aO cC cO) := HMy3.out.keep ho
        have HXy4 : Hid (Only (fun _ => False) w2 y4) := HXy3.out.trans ho
        have HB5y4 : Hid (Blk w2 y4 B5 31 #[.slice none 0 0, .slice none 0 0]) := HB5y3.out.keep ho
        have HB6y4 : Hid (Blk w2 y4 B6 35 #[.int .i64 0, .int .i64 0, .int .u8 0, .int .i64 0, .int .i64 0, .float .f64 0]) := HB6y3.out.keep ho
        clear ho
        refine hK.out _ _ (HKS.out _ HXy4.out) (fun hHeld => ?_)
        clear hK
        (try simp only [Act.put, List.setIfInBounds_toArray, List.set_cons_zero, List.set_cons_succ])
        refine wpAnyH_ready (rs := [6]) (by kernel_rfl) (by simp) ?_
        refine AllReadyH.cons rfl (fun K hK => ?_) AllReadyH.nil
        rw [if_pos (by rfl)]
        have HXa : Hid (Only (fun _ => False) w2 (y4.setRow B5 #[.slice aC k cC, .slice aO (k + 1) cO])) := HXy4.out.setRowNew HB5y4.out.2 _
        refine wp_store_row 31 _ _ rfl B5 #[.slice aC k cC, .slice aO (k + 1) cO] rfl rfl 31 _ HB5y4.out.1 (by kernel_rfl) rfl (two_one _ _ _ _ _ _) ?_
        have HMa : Hid (Made (y4.setRow B5 #[.slice aC k cC, .slice aO (k + 1) cO]) L n0 k aC aO cC cO ∧ Blk w2 (y4.setRow B5 #[.slice aC k cC, .slice aO (k + 1) cO]) B5 31 #[.slice aC k cC, .slice aO (k + 1) cO] ∧ Blk w2 (y4.setRow B5 #[.slice aC k cC, .slice aO (k + 1) cO]) B6 35 #[.int .i64 0, .int .i64 0, .int .u8 0, .int .i64 0, .int .i64 0, .float .f64 0]) := ⟨HMy4.out.store HB5y4.out.1 (by decide) (by decide) _, HB5y4.out.put _, HB6y4.out.far HB5y4.out (by decide) _⟩
        obtain ⟨za, hza⟩ : ∃ Y, Y = y4.setRow B5 #[.slice aC k cC, .slice aO (k + 1) cO] := ⟨_, rfl⟩
        rw [← hza] at HXa HMa ⊢
        clear hza
        refine hK.out _ _ (HKS.out _ HXa.out) (fun hHeld => ?_)
        clear hK
        (try simp only [Act.put, List.setIfInBounds_toArray, List.set_cons_zero, List.set_cons_succ])
        refine wpAnyH_ready (rs := [7]) (by kernel_rfl) (by simp) ?_
        refine AllReadyH.cons rfl (fun K hK => ?_) AllReadyH.nil
        rw [if_pos (by rfl)]
        have HXb : Hid (Only (fun _ => False) w2 (za.setRow B6 #[.int .i64 (W1 : Int), .int .i64 (T1 : Int), .int .u8 (M1 : Int), .int .i64 (hy : Int), .int .i64 (pr : Int), .float .f64 lo])) := HXa.out.setRowNew HMa.out.2.2.2 _
        refine wp_store_row 35 _ _ rfl B6 #[.int .i64 (W1 : Int), .int .i64 (T1 : Int), .int .u8 (M1 : Int), .int .i64 (hy : Int), .int .i64 (pr : Int), .float .f64 lo] rfl rfl 35 _ HMa.out.2.2.1 (by kernel_rfl) rfl (cfg_one _ _ _ _ _ _) ?_
        have HMb : Hid (Made (za.setRow B6 #[.int .i64 (W1 : Int), .int .i64 (T1 : Int), .int .u8 (M1 : Int), .int .i64 (hy : Int), .int .i64 (pr : Int), .float .f64 lo]) L n0 k aC aO cC cO ∧ Blk w2 (za.setRow B6 #[.int .i64 (W1 : Int), .int .i64 (T1 : Int), .int .u8 (M1 : Int), .int .i64 (hy : Int), .int .i64 (pr : Int), .float .f64 lo]) B5 31 #[.slice aC k cC, .slice aO (k + 1) cO] ∧ Blk w2 (za.setRow B6 #[.int .i64 (W1 : Int), .int .i64 (T1 : Int), .int .u8 (M1 : Int), .int .i64 (hy : Int), .int .i64 (pr : Int), .float .f64 lo]) B6 35 #[.int .i64 (W1 : Int), .int .i64 (T1 : Int), .int .u8 (M1 : Int), .int .i64 (hy : Int), .int .i64 (pr : Int), .float .f64 lo]) := ⟨HMa.out.1.store HMa.out.2.2.1 (by decide) (by decide) _, HMa.out.2.1.far HMa.out.2.2 (by decide) _, HMa.out.2.2.put _⟩
        obtain ⟨zb, hzb⟩ : ∃ Y, Y = za.setRow B6 #[.int .i64 (W1 : Int), .int .i64 (T1 : Int), .int .u8 (M1 : Int), .int .i64 (hy : Int), .int .i64 (pr : Int), .float .f64 lo] := ⟨_, rfl⟩
        rw [← hzb] at HXb HMb ⊢
        clear hzb
        refine hK.out _ _ (HKS.out _ HXb.out) (fun hHeld => ?_)
        clear hK
        (try simp only [Act.put, List.setIfInBounds_toArray, List.set_cons_zero, List.set_cons_succ])
        refine wpAnyH_done (by kernel_rfl) ?_ _
        clear hHeld
        go_wp2_with fail
        go_meet
        exact ⟨k, B5, B6, aC, aO, cC, cO, _, rfl, rfl, rfl, HMb.out.1, HMb.out.2.1, HMb.out.2.2, HXb.out⟩
  case rest =>
    obtain ⟨k, B5, B6, aC, aO, cC, cO, X, hX, rfl, rfl, hmd, hb5, hb6, hoX⟩ := hcut
    subst hX
    obtain ⟨C, hC⟩ : ∃ x, x = Pa.cts (L.take k) 0 := ⟨_, rfl⟩
    obtain ⟨O, hO⟩ : ∃ x, x = Pa.ops L k ++ [2] := ⟨_, rfl⟩
    have HMD : Hid (Made X L n0 k aC aO cC cO ∧ C = Pa.cts (L.take k) 0 ∧ O = Pa.ops L k ++ [2]) := ⟨hmd, hC, hO⟩
    have HPv : Hid (∀ W', Only (fun _ => False) X W' → Pv W' C O k (k + 1) aC aO cC cO) := fun W' ho => by rw [hC, hO]; exact (hmd.pv (by omega) HN.out).keep ho
    have HO4 : Hid (∀ x ∈ O, x < 4) := by rw [hO]; exact ops_lt L k
    have HOL : Hid (O.length = k + 1 ∧ O.getD k 0 = 2) := by rw [hO]; exact ⟨by rw [List.length_append, Pa.ops_len]; rfl, ops_end L k⟩
    have hk0 : k ≤ n0 := hmd.le
    have HPC : Hid (∀ W', Only (fun _ => False) X W' → (W'.cell? ⟨B5, 0, none⟩ = some (.slice aC k cC) ∧ W'.cell? ⟨B5, 1, none⟩ = some (.slice aO (k + 1) cO)) ∧ (W'.cell? ⟨B6, 0, none⟩ = some (.int .i64 (W1 : Int)) ∧ W'.cell? ⟨B6, 1, none⟩ = some (.int .i64 (T1 : Int)) ∧ W'.cell? ⟨B6, 2, none⟩ = some (.int .u8 (M1 : Int)) ∧ W'.cell? ⟨B6, 3, none⟩ = some (.int .i64 (hy : Int)) ∧ W'.cell? ⟨B6, 4, none⟩ = some (.int .i64 (pr : Int)) ∧ W'.cell? ⟨B6, 5, none⟩ = some (.float .f64 lo))) := fun W' ho => ⟨⟨(blk_two (blk_keep ho hb5.1)).1, (blk_two (blk_keep ho hb5.1)).2.1⟩, blk_six (blk_keep ho hb6.1)⟩
    have HLT : Hid (∀ W', Only (fun _ => False) X W' → B5 < W'.heap.size ∧ B6 < W'.heap.size) := fun W' ho => ⟨(Array.getElem?_eq_some_iff.1 (blk_keep ho hb5.1)).1, (Array.getElem?_eq_some_iff.1 (blk_keep ho hb6.1)).1⟩
    have HWX : Hid (Only (fun _ => False) w X ∧ Blk w2 X B6 35 #[.int .i64 (W1 : Int), .int .i64 (T1 : Int), .int .u8 (M1 : Int), .int .i64 (hy : Int), .int .i64 (pr : Int), .float .f64 lo]) := ⟨HW2.out.trans hoX, hb6⟩
    clear hmd hC hO hb5 hb6 hoX
    have HOK : Hid (Lv.Opk O k ∧ Lv.Ctg C ∧ It.sum C ≤ 1000000 ∧ k = C.length) := by
      refine ⟨by rw [HMD.out.2.2]; exact opk_pa L k, by rw [HMD.out.2.1]; exact Lv.ctg_pa _, ?_, (HPv.out X (Only.refl _ _)).hn⟩
      have h := sum_pa L hk0
      rw [HMD.out.2.1]
      omega
    obtain ⟨Aa, qa, hAa⟩ : ∃ A q, Lv.sof C O T1 (W1) hy pr lo (M1) (It.parts O (k + 1)) (It.parts O (k + 1)).length = (A, q) := ⟨_, _, rfl⟩
    have HAa : Hid (Lv.sof C O T1 (W1) hy pr lo (M1) (It.parts O (k + 1)) (It.parts O (k + 1)).length = (Aa, qa)) := hAa
    have HCHa : Hid (Lv.Chn 0 k Aa) := by
      have h := Lv.all_chn (C := C) (t := T1) (wi := W1) (hy := hy) (pr := pr) (lo := lo) (mo := M1) HOK.out.1
      rw [hAa] at h
      exact h
    obtain ⟨na, hna⟩ : ∃ n, n = Aa.length := ⟨_, rfl⟩
    have HNa : Hid (na = Aa.length) := hna
    have hnak : na ≤ k := by have := HCHa.out.len; omega
    have HBRa : Hid (∀ W', Only (fun _ => False) X W' → Calls Try.prog 12 #[.agg #[.slice aC k cC, .slice aO (k + 1) cO], .agg #[.int .i64 (W1 : Int), .int .i64 (T1 : Int), .int .u8 (M1 : Int), .int .i64 (hy : Int), .int .i64 (pr : Int), .float .f64 lo]] W' fun e w' => ∃ (a : Option Addr) (c : Nat), e = .returned (.tuple #[.slice a na c, .bool qa]) ∧ Vw w' a (lnC Aa) ∧ na ≤ c ∧ Only (fun _ => False) W' w') := fun W' ho => by
      refine (lbreak_any C O k (k + 1) aC aO cC cO (W1) T1 (M1) hy pr lo W' (HPv.out W' ho) rfl (by omega) (by omega) ht0 (by omega) (by omega) (by omega) (by omega)).mono ?_
      rintro e w' ⟨n, a, c, hn, he, hown, ho'⟩
      rw [hAa] at hn he hown
      have e2 : n = na := hn.trans hna.symm
      subst e2
      exact ⟨a, c, he, own_vw hown, own_le hown, ho'⟩
    clear hAa hna
    obtain ⟨P, hP⟩ : ∃ x, x = It.parts O (k + 1) := ⟨_, rfl⟩
    obtain ⟨np, hnp⟩ : ∃ x, x = P.length := ⟨_, rfl⟩
    have HPP : Hid (np = P.length ∧ P = It.parts O (k + 1) ∧ Lv.sof C O T1 W1 hy pr lo M1 P np = (Aa, qa)) := ⟨hnp, hP, by rw [hnp, hP]; exact HAa.out⟩
    have HPT : Hid (∀ W', Only (fun _ => False) X W' → Calls Try.prog 18 #[.agg #[.slice aC k cC, .slice aO (k + 1) cO]] W' fun e w' => ∃ (a : Option Addr) (c : Nat), e = .returned (.slice a np c) ∧ Vw w' a (natI P) ∧ Only (fun _ => False) W' w') := fun W' ho => by
      have h := parts_any k aC cC O aO cO W' (HPv.out W' ho).vO (HPv.out W' ho).oO (by rw [HOL.out.1]; omega)
      rw [HOL.out.1] at h
      refine h.mono ?_
      rintro e w' ⟨a, c, he, hown, ho'⟩
      rw [← hP] at hown he
      rw [← hnp] at he
      exact ⟨a, c, he, own_vw hown, ho'⟩
    have hnpl : np ≤ k + 1 := by rw [hnp, hP]; exact It.parts_len O (k + 1)
    have HX0 : Hid (∀ i x, P[i]? = some x → It.fr P i ≤ x ∧ x ≤ k) := fun i x h => by rw [hP] at h ⊢; exact parts_fr rfl h
    have HL0 : Hid (∀ i, i ≤ np → (Lv.sof C O T1 W1 hy pr lo M1 P i).1.length ≤ It.fr P i) := fun i h => by rw [hP]; exact sof_len i (by rw [← hP, ← hnp]; exact h)
    have HPRE : Hid (∀ i, i ≤ np → ∃ T, Aa = (Lv.sof C O T1 W1 hy pr lo M1 P i).1 ++ T) := fun i h => by
      obtain ⟨T, e⟩ := sof_pre (C := C) (O := O) (t := T1) (wi := W1) (hy := hy) (pr := pr) (lo := lo) (mo := M1) (P := P) i (np - i)
      rw [show i + (np - i) = np by omega, HPP.out.2.2] at e
      exact ⟨T, e⟩
    clear hP hnp HAa
    obtain ⟨⟨r0, r1⟩, k0, k1, k2, k3, k4, k5⟩ := HPC.out X (Only.refl _ _)
    obtain ⟨l5, l6⟩ := HLT.out X (Only.refl _ _)
    go_wp2_with fail
    refine Calls.mono (HBRa.out _ (Only.refl _ _)) ?_
    rintro e w5 ⟨a5, c5, rfl, hv5, hc5, ho5⟩
    have H5 : Hid (Vw w5 a5 (lnC Aa) ∧ Only (fun _ => False) X w5) := ⟨hv5, ho5⟩
    clear hv5 ho5
    clear r0 r1 k0 k1 k2 k3 k4 k5 l5 l6
    obtain ⟨⟨r0, r1⟩, k0, k1, k2, k3, k4, k5⟩ := HPC.out w5 H5.out.2
    obtain ⟨l5, l6⟩ := HLT.out w5 H5.out.2
    go_wp2_with fail
    refine Calls.mono (HPT.out _ H5.out.2) ?_
    rintro e w6 ⟨aP, cP, rfl, hv6, ho6⟩
    have H6 : Hid (Vw w6 a5 (lnC Aa) ∧ Vw w6 aP (natI P) ∧ Only (fun _ => False) X w6) := ⟨H5.out.1.keep ho6, hv6, H5.out.2.trans ho6⟩
    clear hv6 ho6 HPT
    clear r0 r1 k0 k1 k2 k3 k4 k5 l5 l6
    go_wp2_with fail
    go_loopg [9, 10, 11, 37] np (fun gh v9 v10 v11 v37 wr => ∃ (i f kk : Nat) (D : List Ln) (q : Bool) (V : World), V = wr ∧ gh = np - i ∧ i ≤ np ∧ v9 = .int .i64 (f : Int) ∧ v10 = .int .i64 (kk : Int) ∧ v11 = .bool q ∧ v37 = .int .i64 (i : Int) ∧ Lv.sof C O T1 W1 hy pr lo M1 P i = (D, q) ∧ It.fr P i = f ∧ kk = D.length ∧ Only (fun _ => False) w6 V)
    case atStart => exact ⟨0, 0, 0, [], false, _, rfl, rfl, Nat.zero_le _, rfl, rfl, rfl, rfl, rfl, rfl, rfl, Only.refl _ _⟩
    case round =>
      obtain ⟨i, f, kk, D, q, V, hV, rfl, hi, rfl, rfl, rfl, rfl, hsof, hfr, hkD, hoV⟩ := hrel
      subst hV
      have HG : Hid (Lv.sof C O T1 W1 hy pr lo M1 P i = (D, q) ∧ It.fr P i = f ∧ kk = D.length ∧ Only (fun _ => False) w6 V ∧ Only (fun _ => False) X V) := ⟨hsof, hfr, hkD, hoV, H6.out.2.2.trans hoV⟩
      clear hsof hfr hkD hoV
      by_cases hlt : i < np
      · have t1 : (i : Int) < (np : Int) := by omega
        obtain ⟨x, hx⟩ : ∃ x, P[i]? = some x := ⟨_, List.getElem?_eq_getElem (by rw [← HPP.out.1]; exact hlt)⟩
        obtain ⟨hfx, hxk⟩ := HX0.out i x hx
        rw [HG.out.2.1] at hfx
        obtain ⟨M, q2, hpr2⟩ : ∃ M q2, Lv.prt C O T1 W1 hy pr lo M1 f x = (M, q2) := ⟨_, _, rfl⟩
        have HPR : Hid (Lv.prt C O T1 W1 hy pr lo M1 f x = (M, q2)) := hpr2
        have hnx := sof_next HG.out.1 hx HG.out.2.1
        rw [hpr2] at hnx
        have HNX : Hid (Lv.sof C O T1 W1 hy pr lo M1 P (i + 1) = (D ++ M, q || q2) ∧ It.fr P (i + 1) = x) := ⟨hnx, It.fr_succ _ hx⟩
        obtain ⟨n2, hn2⟩ : ∃ z, z = M.length := ⟨_, rfl⟩
        have HN2 : Hid (n2 = M.length) := hn2
        obtain ⟨T, hT⟩ := HPRE.out (i + 1) (by omega)
        rw [HNX.out.1] at hT
        have HT : Hid (Aa = D ++ M ++ T) := hT
        have hkn : kk + n2 ≤ na := by
          have h : Aa.length = (D ++ M ++ T).length := by rw [hT]
          rw [List.length_append, List.length_append, ← HNa.out, ← HG.out.2.2.1, ← hn2] at h
          omega
        have hknc : kk + n2 ≤ c5 := by omega
        obtain ⟨kn, hkn'⟩ : ∃ z, z = kk + n2 := ⟨_, rfl⟩
        have t2 : (kk : Int) + (n2 : Int) = (kn : Int) := by omega
        have t3 : decide ((na : Int) < (kn : Int)) = false := decide_eq_false (by omega)
        have t3n : decide (na < kn) = false := decide_eq_false (by omega)
        have hknl : kn ≤ c5 := by omega
        have hkk : kk ≤ kn := by omega
        have hknk : kn - kk = n2 := by omega
        have hkn3 : kn ≤ 300 := by omega
        have HKN : Hid (kn = (D ++ M).length ∧ kn = kk + n2) := ⟨by rw [hkn', List.length_append, ← HG.out.2.2.1, ← hn2], hkn'⟩
        have HPT : Hid (∀ W', Only (fun _ => False) X W' → Calls Try.prog 19 #[.agg #[.slice aC k cC, .slice aO (k + 1) cO], .int .i64 (f : Int), .int .i64 (x : Int), .agg #[.int .i64 (W1 : Int), .int .i64 (T1 : Int), .int .u8 (M1 : Int), .int .i64 (hy : Int), .int .i64 (pr : Int), .float .f64 lo]] W' fun e w' => ∃ (a : Option Addr) (c : Nat), e = .returned (.tuple #[.slice a n2 c, .bool q2]) ∧ Vw w' a (lnC M) ∧ Only (fun _ => False) W' w') := fun W' ho => by
          refine (lpart_any C O k (k + 1) aC aO cC cO f x W1 T1 M1 hy pr lo W' (HPv.out W' ho) (by omega) hfx hxk (by omega) ht0 (by omega) (by omega) (by omega) hm1).mono ?_
          rintro e w' ⟨n3, al, c, hn3, he, hown, ho'⟩
          rw [hpr2] at hn3 he hown
          have e3 : n3 = n2 := hn3.trans hn2.symm
          subst e3
          exact ⟨al, c, he, own_vw hown, ho'⟩
        have HFB : Hid (∀ W', Only (fun _ => False) X W' → Calls Try.prog 20 #[.agg #[.slice aC k cC, .slice aO (k + 1) cO], .int .i64 (f : Int), .int .i64 (x : Int), .agg #[.int .i64 (W1 : Int), .int .i64 (T1 : Int), .int .u8 (M1 : Int), .int .i64 (hy : Int), .int .i64 (pr : Int), .float .f64 lo]] W' fun e w' => ∃ (n : Nat) (a : Option Addr) (c : Nat), n = (Sp.lines C O T1 W1 f x).length ∧ e = .returned (.slice a n c) ∧ Vw w' a (lnC (Sp.lines C O T1 W1 f x)) ∧ Only (fun _ => False) W' w') := fun W' ho => by
          refine (break_any C O k (k + 1) aC aO cC cO f x W1 T1 M1 hy pr lo W' (HPv.out W' ho) (by omega) hfx hxk (by omega) ht0 (by omega)).mono ?_
          rintro e w' ⟨n3, al, c, hn3, he, hown, ho'⟩
          exact ⟨n3, al, c, hn3, he, own_vw hown, ho'⟩
        have HBB : Hid (∀ W', Only (fun _ => False) X W' → Calls Try.prog 21 #[.agg #[.slice aC k cC, .slice aO (k + 1) cO], .int .i64 (f : Int), .int .i64 (x : Int), .agg #[.int .i64 (W1 : Int), .int .i64 (T1 : Int), .int .u8 (M1 : Int), .int .i64 (hy : Int), .int .i64 (pr : Int), .float .f64 lo]] W' (bsP (bsF C O T1 W1 hy pr lo x) C O T1 x f W')) := fun W' ho => bbreak_any C O k (k + 1) aC aO cC cO f x W1 T1 M1 hy pr lo W' (HPv.out W' ho) (by omega) hfx hxk (by omega) ht0 (by omega) (by omega) (by omega)
        unfold bsP at HBB
        have HSL : Hid (∀ W' a a' c c' n' n'', n' = n2 → n'' = n2 → Vw W' a (lnC M) → Vw W' a' (lnC M) → Calls Try.prog 14 #[.slice a n' c, .slice a' n'' c'] W' fun e w' => e = .returned (.bool true) ∧ Only (fun _ => False) W' w') := fun W' a a' c c' n' n'' e1 e2 h1 h2 => by
          subst e1 e2
          exact sameLines_any M _ a a' c c' W' HN2.out h1 h2 (by omega)
        have HCS : Hid ((∀ E s, M1 = 1 → Ds.Best (bsF C O T1 W1 hy pr lo x) x f E s → M = mkL C O T1 f E ∧ q2 = false) ∧ (M1 = 1 → Ds.No (bsF C O T1 W1 hy pr lo x) x f → M = Sp.lines C O T1 W1 f x ∧ q2 = true) ∧ (M1 ≠ 1 → M = Sp.lines C O T1 W1 f x ∧ q2 = false)) := by
          refine ⟨fun E s h hB => ?_, fun h hN => ?_, fun h => ?_⟩
          · have e := Lv.prt_best h hB
            rw [hpr2] at e
            injection e with e1 e2
            exact ⟨e1, e2⟩
          · have e := Lv.prt_no h hfx hN
            rw [hpr2] at e
            injection e with e1 e2
            exact ⟨e1, e2⟩
          · have e := Lv.prt_first (C := C) (O := O) (t := T1) (wi := W1) (hy := hy) (pr := pr) (lo := lo) (a := f) (b := x) h
            rw [hpr2] at e
            injection e with e1 e2
            exact ⟨e1, e2⟩
        obtain ⟨b0, off, e0, hb0, hc⟩ := (H6.out.2.1.keep HG.out.2.2.2.1).cells (by rw [natI_len, ← HPP.out.1]; omega)
        subst e0
        have c1 := hc i _ (natI_get hx)
        clear hx hc hpr2 hnx hn2 hT hkn' hkn hknc
        obtain ⟨⟨r0, r1⟩, k0, k1, k2, k3, k4, k5⟩ := HPC.out V HG.out.2.2.2.2
        obtain ⟨l5, l6⟩ := HLT.out V HG.out.2.2.2.2
        go_wp2_with fail
        refine Calls.mono (HPT.out _ HG.out.2.2.2.2) ?_
        rintro e V1 ⟨a1, c1', rfl, hv1, ho1⟩
        have H1 : Hid (Vw V1 a1 (lnC M) ∧ Only (fun _ => False) w6 V1 ∧ Only (fun _ => False) X V1) := ⟨hv1, HG.out.2.2.2.1.trans ho1, HG.out.2.2.2.2.trans ho1⟩
        clear hv1 ho1 c1 hb0
        clear r0 r1 k0 k1 k2 k3 k4 k5 l5 l6
        obtain ⟨⟨r0, r1⟩, k0, k1, k2, k3, k4, k5⟩ := HPC.out V1 H1.out.2.2
        obtain ⟨l5, l6⟩ := HLT.out V1 H1.out.2.2
        go_wp2_with fail
        refine Calls.mono (HFB.out _ H1.out.2.2) ?_
        rintro e V2 ⟨nf, a2, c2, hnf, rfl, hv2, ho2⟩
        have H2 : Hid (Vw V2 a1 (lnC M) ∧ (nf = (Sp.lines C O T1 W1 f x).length ∧ Vw V2 a2 (lnC (Sp.lines C O T1 W1 f x))) ∧ Only (fun _ => False) w6 V2 ∧ Only (fun _ => False) X V2) := ⟨H1.out.1.keep ho2, ⟨hnf, hv2⟩, H1.out.2.1.trans ho2, H1.out.2.2.trans ho2⟩
        clear hnf hv2 ho2
        clear r0 r1 k0 k1 k2 k3 k4 k5 l5 l6
        obtain ⟨⟨r0, r1⟩, k0, k1, k2, k3, k4, k5⟩ := HPC.out V2 H2.out.2.2.2
        obtain ⟨l5, l6⟩ := HLT.out V2 H2.out.2.2.2
        by_cases hM : M1 = 1
        · have z1 : ((M1 : Int) == 1) = true := by rw [beq_iff_eq]; omega
          have HM : Hid (M1 = 1) := hM
          clear hM
          go_wp2_with fail
          refine Calls.mono (HBB.out _ H2.out.2.2.2) ?_
          clear r0 r1 k0 k1 k2 k3 k4 k5 l5 l6
          rintro e V3 (⟨E, s, a3, n3, c3, hB3, hn3, rfl, hown3, ho3⟩ | ⟨hN3, rfl, ho3⟩)
          · obtain ⟨eM, eq2⟩ := HCS.out.1 E s HM.out hB3
            have H3 : Hid (Vw V3 a1 (lnC M) ∧ (n3 = n2 ∧ Vw V3 a3 (lnC M)) ∧ Only (fun _ => False) w6 V3 ∧ Only (fun _ => False) X V3) := ⟨H2.out.1.keep ho3, ⟨by rw [hn3, HN2.out, eM, mkL_len], by rw [eM]; exact own_vw hown3⟩, H2.out.2.2.1.trans ho3, H2.out.2.2.2.trans ho3⟩
            subst eq2
            clear hB3 hn3 hown3 ho3 eM
            obtain ⟨⟨r0, r1⟩, k0, k1, k2, k3, k4, k5⟩ := HPC.out V3 H3.out.2.2.2
            obtain ⟨l5, l6⟩ := HLT.out V3 H3.out.2.2.2
            go_wp2_with fail
            refine Calls.mono (HSL.out _ _ _ _ _ _ _ rfl H3.out.2.1.1 H3.out.1 H3.out.2.1.2) ?_
            rintro e V4 ⟨rfl, ho4⟩
            have H4 : Hid (Vw V4 a1 (lnC M) ∧ Only (fun _ => False) w6 V4 ∧ Only (fun _ => False) X V4) := ⟨H3.out.1.keep ho4, H3.out.2.2.1.trans ho4, H3.out.2.2.2.trans ho4⟩
            clear ho4
            clear r0 r1 k0 k1 k2 k3 k4 k5 l5 l6
            obtain ⟨⟨r0, r1⟩, k0, k1, k2, k3, k4, k5⟩ := HPC.out V4 H4.out.2.2
            obtain ⟨l5, l6⟩ := HLT.out V4 H4.out.2.2
            by_cases hck : c5 = kk
            · have HM0 : Hid (M = []) := List.eq_nil_of_length_eq_zero (by rw [← HN2.out]; omega)
              subst hck
              go_wp2_with fail
              refine Calls.mono (HSL.out _ _ _ _ _ _ _ rfl (by omega) H4.out.1 (by rw [HM0.out]; exact Vw.nil _ _)) ?_
              rintro e V5 ⟨rfl, ho5'⟩
              have H5' : Hid (Only (fun _ => False) w6 V5 ∧ Only (fun _ => False) X V5) := ⟨H4.out.2.1.trans ho5', H4.out.2.2.trans ho5'⟩
              clear ho5'
              clear r0 r1 k0 k1 k2 k3 k4 k5 l5 l6
              cases q with
              | false =>
                go_wp2_with fail
                go_roundg (np - (i + 1))
                case measure => omega
                case rel => exact ⟨i + 1, x, kn, D ++ M, _, _, rfl, rfl, by omega, rfl, by go_num, rfl, by go_num, HNX.out.1, HNX.out.2, HKN.out.1, H5'.out.1⟩
              | true =>
                go_wp2_with fail
                go_roundg (np - (i + 1))
                case measure => omega
                case rel => exact ⟨i + 1, x, kn, D ++ M, _, _, rfl, rfl, by omega, rfl, by go_num, rfl, by go_num, HNX.out.1, HNX.out.2, HKN.out.1, H5'.out.1⟩
            · have hck2 : ¬ kk = c5 := fun h => hck h.symm
              go_wp2_with fail
              refine Calls.mono (HSL.out _ _ _ _ _ _ _ rfl (by omega) H4.out.1 (vw_mid (by rw [← HT.out]; exact H6.out.1.keep H4.out.2.1) HG.out.2.2.1)) ?_
              rintro e V5 ⟨rfl, ho5'⟩
              have H5' : Hid (Only (fun _ => False) w6 V5 ∧ Only (fun _ => False) X V5) := ⟨H4.out.2.1.trans ho5', H4.out.2.2.trans ho5'⟩
              clear ho5'
              clear r0 r1 k0 k1 k2 k3 k4 k5 l5 l6
              cases q with
              | false =>
                go_wp2_with fail
                go_roundg (np - (i + 1))
                case measure => omega
                case rel => exact ⟨i + 1, x, kn, D ++ M, _, _, rfl, rfl, by omega, rfl, by go_num, rfl, by go_num, HNX.out.1, HNX.out.2, HKN.out.1, H5'.out.1⟩
              | true =>
                go_wp2_with fail
                go_roundg (np - (i + 1))
                case measure => omega
                case rel => exact ⟨i + 1, x, kn, D ++ M, _, _, rfl, rfl, by omega, rfl, by go_num, rfl, by go_num, HNX.out.1, HNX.out.2, HKN.out.1, H5'.out.1⟩
          · obtain ⟨eM, eq2⟩ := HCS.out.2.1 HM.out hN3
            have H3 : Hid (Vw V3 a1 (lnC M) ∧ (nf = n2 ∧ Vw V3 a2 (lnC M)) ∧ Only (fun _ => False) w6 V3 ∧ Only (fun _ => False) X V3) := ⟨H2.out.1.keep ho3, ⟨by rw [H2.out.2.1.1, HN2.out, eM], by rw [eM]; exact H2.out.2.1.2.keep ho3⟩, H2.out.2.2.1.trans ho3, H2.out.2.2.2.trans ho3⟩
            subst eq2
            clear hN3 ho3 eM
            obtain ⟨⟨r0, r1⟩, k0, k1, k2, k3, k4, k5⟩ := HPC.out V3 H3.out.2.2.2
            obtain ⟨l5, l6⟩ := HLT.out V3 H3.out.2.2.2
            go_wp2_with fail
            refine Calls.mono (HSL.out _ _ _ _ _ _ _ rfl H3.out.2.1.1 H3.out.1 H3.out.2.1.2) ?_
            rintro e V4 ⟨rfl, ho4⟩
            have H4 : Hid (Vw V4 a1 (lnC M) ∧ Only (fun _ => False) w6 V4 ∧ Only (fun _ => False) X V4) := ⟨H3.out.1.keep ho4, H3.out.2.2.1.trans ho4, H3.out.2.2.2.trans ho4⟩
            clear ho4
            clear r0 r1 k0 k1 k2 k3 k4 k5 l5 l6
            obtain ⟨⟨r0, r1⟩, k0, k1, k2, k3, k4, k5⟩ := HPC.out V4 H4.out.2.2
            obtain ⟨l5, l6⟩ := HLT.out V4 H4.out.2.2
            by_cases hck : c5 = kk
            · have HM0 : Hid (M = []) := List.eq_nil_of_length_eq_zero (by rw [← HN2.out]; omega)
              subst hck
              go_wp2_with fail
              refine Calls.mono (HSL.out _ _ _ _ _ _ _ rfl (by omega) H4.out.1 (by rw [HM0.out]; exact Vw.nil _ _)) ?_
              rintro e V5 ⟨rfl, ho5'⟩
              have H5' : Hid (Only (fun _ => False) w6 V5 ∧ Only (fun _ => False) X V5) := ⟨H4.out.2.1.trans ho5', H4.out.2.2.trans ho5'⟩
              clear ho5'
              clear r0 r1 k0 k1 k2 k3 k4 k5 l5 l6
              cases q with
              | false =>
                go_wp2_with fail
                go_roundg (np - (i + 1))
                case measure => omega
                case rel => exact ⟨i + 1, x, kn, D ++ M, _, _, rfl, rfl, by omega, rfl, by go_num, rfl, by go_num, HNX.out.1, HNX.out.2, HKN.out.1, H5'.out.1⟩
              | true =>
                go_wp2_with fail
                go_roundg (np - (i + 1))
                case measure => omega
                case rel => exact ⟨i + 1, x, kn, D ++ M, _, _, rfl, rfl, by omega, rfl, by go_num, rfl, by go_num, HNX.out.1, HNX.out.2, HKN.out.1, H5'.out.1⟩
            · have hck2 : ¬ kk = c5 := fun h => hck h.symm
              go_wp2_with fail
              refine Calls.mono (HSL.out _ _ _ _ _ _ _ rfl (by omega) H4.out.1 (vw_mid (by rw [← HT.out]; exact H6.out.1.keep H4.out.2.1) HG.out.2.2.1)) ?_
              rintro e V5 ⟨rfl, ho5'⟩
              have H5' : Hid (Only (fun _ => False) w6 V5 ∧ Only (fun _ => False) X V5) := ⟨H4.out.2.1.trans ho5', H4.out.2.2.trans ho5'⟩
              clear ho5'
              clear r0 r1 k0 k1 k2 k3 k4 k5 l5 l6
              cases q with
              | false =>
                go_wp2_with fail
                go_roundg (np - (i + 1))
                case measure => omega
                case rel => exact ⟨i + 1, x, kn, D ++ M, _, _, rfl, rfl, by omega, rfl, by go_num, rfl, by go_num, HNX.out.1, HNX.out.2, HKN.out.1, H5'.out.1⟩
              | true =>
                go_wp2_with fail
                go_roundg (np - (i + 1))
                case measure => omega
                case rel => exact ⟨i + 1, x, kn, D ++ M, _, _, rfl, rfl, by omega, rfl, by go_num, rfl, by go_num, HNX.out.1, HNX.out.2, HKN.out.1, H5'.out.1⟩
        · have z1 : ((M1 : Int) == 1) = false := by rw [beq_eq_false_iff_ne]; omega
          obtain ⟨eM, eq2⟩ := HCS.out.2.2 hM
          have H2' : Hid (nf = n2 ∧ Vw V2 a2 (lnC M)) := ⟨by rw [H2.out.2.1.1, HN2.out, eM], by rw [eM]; exact H2.out.2.1.2⟩
          subst eq2
          clear hM eM
          go_wp2_with fail
          refine Calls.mono (HBB.out _ H2.out.2.2.2) ?_
          clear r0 r1 k0 k1 k2 k3 k4 k5 l5 l6
          rintro e V3 (⟨E, s, a3, n3, c3, hB3, hn3, rfl, hown3, ho3⟩ | ⟨hN3, rfl, ho3⟩)
          · have H3 : Hid (Vw V3 a1 (lnC M) ∧ (nf = n2 ∧ Vw V3 a2 (lnC M)) ∧ Only (fun _ => False) w6 V3 ∧ Only (fun _ => False) X V3) := ⟨H2.out.1.keep ho3, ⟨H2'.out.1, H2'.out.2.keep ho3⟩, H2.out.2.2.1.trans ho3, H2.out.2.2.2.trans ho3⟩
            clear hB3 hn3 hown3 ho3
            obtain ⟨⟨r0, r1⟩, k0, k1, k2, k3, k4, k5⟩ := HPC.out V3 H3.out.2.2.2
            obtain ⟨l5, l6⟩ := HLT.out V3 H3.out.2.2.2
            go_wp2_with fail
            refine Calls.mono (HSL.out _ _ _ _ _ _ _ rfl H3.out.2.1.1 H3.out.1 H3.out.2.1.2) ?_
            rintro e V4 ⟨rfl, ho4⟩
            have H4 : Hid (Vw V4 a1 (lnC M) ∧ Only (fun _ => False) w6 V4 ∧ Only (fun _ => False) X V4) := ⟨H3.out.1.keep ho4, H3.out.2.2.1.trans ho4, H3.out.2.2.2.trans ho4⟩
            clear ho4
            clear r0 r1 k0 k1 k2 k3 k4 k5 l5 l6
            obtain ⟨⟨r0, r1⟩, k0, k1, k2, k3, k4, k5⟩ := HPC.out V4 H4.out.2.2
            obtain ⟨l5, l6⟩ := HLT.out V4 H4.out.2.2
            by_cases hck : c5 = kk
            · have HM0 : Hid (M = []) := List.eq_nil_of_length_eq_zero (by rw [← HN2.out]; omega)
              subst hck
              go_wp2_with fail
              refine Calls.mono (HSL.out _ _ _ _ _ _ _ rfl (by omega) H4.out.1 (by rw [HM0.out]; exact Vw.nil _ _)) ?_
              rintro e V5 ⟨rfl, ho5'⟩
              have H5' : Hid (Only (fun _ => False) w6 V5 ∧ Only (fun _ => False) X V5) := ⟨H4.out.2.1.trans ho5', H4.out.2.2.trans ho5'⟩
              clear ho5'
              clear r0 r1 k0 k1 k2 k3 k4 k5 l5 l6
              cases q with
              | false =>
                go_wp2_with fail
                go_roundg (np - (i + 1))
                case measure => omega
                case rel => exact ⟨i + 1, x, kn, D ++ M, _, _, rfl, rfl, by omega, rfl, by go_num, rfl, by go_num, HNX.out.1, HNX.out.2, HKN.out.1, H5'.out.1⟩
              | true =>
                go_wp2_with fail
                go_roundg (np - (i + 1))
                case measure => omega
                case rel => exact ⟨i + 1, x, kn, D ++ M, _, _, rfl, rfl, by omega, rfl, by go_num, rfl, by go_num, HNX.out.1, HNX.out.2, HKN.out.1, H5'.out.1⟩
            · have hck2 : ¬ kk = c5 := fun h => hck h.symm
              go_wp2_with fail
              refine Calls.mono (HSL.out _ _ _ _ _ _ _ rfl (by omega) H4.out.1 (vw_mid (by rw [← HT.out]; exact H6.out.1.keep H4.out.2.1) HG.out.2.2.1)) ?_
              rintro e V5 ⟨rfl, ho5'⟩
              have H5' : Hid (Only (fun _ => False) w6 V5 ∧ Only (fun _ => False) X V5) := ⟨H4.out.2.1.trans ho5', H4.out.2.2.trans ho5'⟩
              clear ho5'
              clear r0 r1 k0 k1 k2 k3 k4 k5 l5 l6
              cases q with
              | false =>
                go_wp2_with fail
                go_roundg (np - (i + 1))
                case measure => omega
                case rel => exact ⟨i + 1, x, kn, D ++ M, _, _, rfl, rfl, by omega, rfl, by go_num, rfl, by go_num, HNX.out.1, HNX.out.2, HKN.out.1, H5'.out.1⟩
              | true =>
                go_wp2_with fail
                go_roundg (np - (i + 1))
                case measure => omega
                case rel => exact ⟨i + 1, x, kn, D ++ M, _, _, rfl, rfl, by omega, rfl, by go_num, rfl, by go_num, HNX.out.1, HNX.out.2, HKN.out.1, H5'.out.1⟩
          · have H3 : Hid (Vw V3 a1 (lnC M) ∧ (nf = n2 ∧ Vw V3 a2 (lnC M)) ∧ Only (fun _ => False) w6 V3 ∧ Only (fun _ => False) X V3) := ⟨H2.out.1.keep ho3, ⟨H2'.out.1, H2'.out.2.keep ho3⟩, H2.out.2.2.1.trans ho3, H2.out.2.2.2.trans ho3⟩
            clear hN3 ho3
            obtain ⟨⟨r0, r1⟩, k0, k1, k2, k3, k4, k5⟩ := HPC.out V3 H3.out.2.2.2
            obtain ⟨l5, l6⟩ := HLT.out V3 H3.out.2.2.2
            go_wp2_with fail
            refine Calls.mono (HSL.out _ _ _ _ _ _ _ rfl H3.out.2.1.1 H3.out.1 H3.out.2.1.2) ?_
            rintro e V4 ⟨rfl, ho4⟩
            have H4 : Hid (Vw V4 a1 (lnC M) ∧ Only (fun _ => False) w6 V4 ∧ Only (fun _ => False) X V4) := ⟨H3.out.1.keep ho4, H3.out.2.2.1.trans ho4, H3.out.2.2.2.trans ho4⟩
            clear ho4
            clear r0 r1 k0 k1 k2 k3 k4 k5 l5 l6
            obtain ⟨⟨r0, r1⟩, k0, k1, k2, k3, k4, k5⟩ := HPC.out V4 H4.out.2.2
            obtain ⟨l5, l6⟩ := HLT.out V4 H4.out.2.2
            by_cases hck : c5 = kk
            · have HM0 : Hid (M = []) := List.eq_nil_of_length_eq_zero (by rw [← HN2.out]; omega)
              subst hck
              go_wp2_with fail
              refine Calls.mono (HSL.out _ _ _ _ _ _ _ rfl (by omega) H4.out.1 (by rw [HM0.out]; exact Vw.nil _ _)) ?_
              rintro e V5 ⟨rfl, ho5'⟩
              have H5' : Hid (Only (fun _ => False) w6 V5 ∧ Only (fun _ => False) X V5) := ⟨H4.out.2.1.trans ho5', H4.out.2.2.trans ho5'⟩
              clear ho5'
              clear r0 r1 k0 k1 k2 k3 k4 k5 l5 l6
              cases q with
              | false =>
                go_wp2_with fail
                go_roundg (np - (i + 1))
                case measure => omega
                case rel => exact ⟨i + 1, x, kn, D ++ M, _, _, rfl, rfl, by omega, rfl, by go_num, rfl, by go_num, HNX.out.1, HNX.out.2, HKN.out.1, H5'.out.1⟩
              | true =>
                go_wp2_with fail
                go_roundg (np - (i + 1))
                case measure => omega
                case rel => exact ⟨i + 1, x, kn, D ++ M, _, _, rfl, rfl, by omega, rfl, by go_num, rfl, by go_num, HNX.out.1, HNX.out.2, HKN.out.1, H5'.out.1⟩
            · have hck2 : ¬ kk = c5 := fun h => hck h.symm
              go_wp2_with fail
              refine Calls.mono (HSL.out _ _ _ _ _ _ _ rfl (by omega) H4.out.1 (vw_mid (by rw [← HT.out]; exact H6.out.1.keep H4.out.2.1) HG.out.2.2.1)) ?_
              rintro e V5 ⟨rfl, ho5'⟩
              have H5' : Hid (Only (fun _ => False) w6 V5 ∧ Only (fun _ => False) X V5) := ⟨H4.out.2.1.trans ho5', H4.out.2.2.trans ho5'⟩
              clear ho5'
              clear r0 r1 k0 k1 k2 k3 k4 k5 l5 l6
              cases q with
              | false =>
                go_wp2_with fail
                go_roundg (np - (i + 1))
                case measure => omega
                case rel => exact ⟨i + 1, x, kn, D ++ M, _, _, rfl, rfl, by omega, rfl, by go_num, rfl, by go_num, HNX.out.1, HNX.out.2, HKN.out.1, H5'.out.1⟩
              | true =>
                go_wp2_with fail
                go_roundg (np - (i + 1))
                case measure => omega
                case rel => exact ⟨i + 1, x, kn, D ++ M, _, _, rfl, rfl, by omega, rfl, by go_num, rfl, by go_num, HNX.out.1, HNX.out.2, HKN.out.1, H5'.out.1⟩
      · have t1 : decide ((i : Int) < (np : Int)) = false := decide_eq_false (by omega)
        have hin : i = np := by omega
        have he := HG.out.1
        rw [hin, HPP.out.2.2] at he
        injection he with he1 he2
        have hka : kk = na := by rw [HG.out.2.2.1, ← he1, HNa.out]
        have z3 : ((kk : Int) == (na : Int)) = true := by rw [beq_iff_eq]; omega
        subst he2
        have HX3 : Hid (Only (fun _ => False) X V) := HG.out.2.2.2.2
        clear he1 hka hin
        cases qa with
        | false =>
          go_wp2_with fail
          go_ret
          exact ⟨rfl, HWX.out.1.trans HX3.out⟩
        | true =>
          go_wp2_with fail
          go_ret
          exact ⟨rfl, HWX.out.1.trans HX3.out⟩
set_option maxRecDepth 100000 in
set_option maxHeartbeats 4000000 in
theorem walk0 (L : List Bt) (a0 : Option Addr) (c0 : Nat) (K : Wy) (w : World) (hc : L.length ≤ c0) (hm : c0 ≤ maxLen) (h5 : ¬ L.length ≤ 300) :
    Calls Try.prog 4 #[.slice a0 L.length c0, K.val] w fun e w' => e = .returned (.bool true) ∧ Only (fun _ => False) w w' := by
  obtain ⟨wi, tb, mo, hy, pr, lo⟩ := K
  obtain ⟨n0, hn0⟩ : ∃ n, n = L.length := ⟨_, rfl⟩
  unfold Wy.val
  simp only
  rw [← hn0] at h5 hc ⊢
  clear hn0
  unfold maxLen at hm
  have s0 : (300 : Int) < (n0 : Int) := by omega
  go_enter Try.func4, Try.ntmps4
  go_wp2_with fail
  refine Calls.mono (awake16_any _) ?_
  rintro e w2 ⟨rfl, ho2⟩
  have HW2 : Hid (Only (fun _ => False) w w2) := ((Only.refl _ _).alloc _).trans ho2
  clear ho2
  go_wp2_with fail
  go_ret
  exact ⟨rfl, HW2.out⟩
theorem walk (L : List Bt) (a0 : Option Addr) (c0 : Nat) (K : Wy) (w : World) (hV : Vw w a0 (btC L)) (hB : ∀ b ∈ L, b.cells < 256 ∧ b.kind < 256 ∧ b.len < 256 ∧ b.opp < 256) (hc : L.length ≤ c0) (hm : c0 ≤ maxLen) (hK : K.Ok) : Calls Try.prog 4 #[.slice a0 L.length c0, K.val] w fun e w' => e = .returned (.bool true) ∧ Only (fun _ => False) w w' := by
  by_cases h5 : L.length ≤ 300
  · exact walk1 L a0 c0 K w hV hB h5 hK
  · exact walk0 L a0 c0 K w hc hm h5
end Go.Proofs.Ytdepjmneoplicaa.linesParts

