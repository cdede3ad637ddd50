/-
  stanzalaw16.LinesEach: its walk.
-/
import Derived.Test.YtdepjmneoplicaaQz
import Derived.Test.YtdepjmneoplicaaVi
import Derived.Test.YtdepjmneoplicaaCu
namespace Go.Proofs.Ytdepjmneoplicaa.linesEach
open Go.RowKit Go.Maps
set_option linter.unusedVariables false
set_option linter.unusedSimpArgs false
theorem lco_snoc {C : List Ct} {O : List Nat} {t wi hy pr lo : Nat} (D : List Ln) (l : Ln) : Lv.lco C O t wi hy pr lo (D ++ [l]) = match Lv.lco C O t wi hy pr lo D, Sp.cos C O t wi hy pr lo (decide (O.getD l.b 0 = 2)) l.a l.b with
    | some x, some y => some (x + y)
    | _, _ => none := by
  rw [Lv.lco_app]
  have e : Lv.lco C O t wi hy pr lo [l] = Sp.cos C O t wi hy pr lo (decide (O.getD l.b 0 = 2)) l.a l.b := by
    show (match Sp.cos C O t wi hy pr lo (decide (O.getD l.b 0 = 2)) l.a l.b, some 0 with
      | some x, some y => some (x + y)
      | _, _ => none) = _
    cases Sp.cos C O t wi hy pr lo (decide (O.getD l.b 0 = 2)) l.a l.b <;> rfl
  rw [e]
  rfl
theorem vw_ln {w : World} {B a b c e : Nat} {t : TypeId} (h : w.heap[B]? = some (.cells #[.int .i64 (a : Int), .int .i64 (b : Int), .int .i64 (c : Int), .int .u8 (e : Int)] t (0, 0))) : Vw w (some ⟨B, 0, none⟩) (lnC [⟨a, b, c, e⟩]) := by
  refine Or.inr ⟨_, _, rfl, fun j u hj => ?_⟩
  rw [Nat.zero_add, cell_blk h, ← Array.getElem?_toList]
  exact hj
set_option maxRecDepth 100000 in
set_option maxHeartbeats 8000000 in
theorem walk1 (L : List Bt) (a0 : Option Addr) (c0 : Nat) (K : Wy) (LE : List Int) (aE : Option Addr) (cE : Nat) (w : World) (hV : Vw w a0 (btC L)) (hB : ∀ b ∈ L, b.cells < 256 ∧ b.kind < 256 ∧ b.len < 256 ∧ b.opp < 256) (h5 : L.length ≤ 300) (hK : K.Ok) (hVE : Vw w aE (intC LE)) (hE5 : LE.length ≤ 100) :
    Calls Try.prog 7 #[.slice a0 L.length c0, K.val, .slice aE LE.length cE] w fun e w' => e = .returned (.bool true) ∧ Only (fun _ => False) w w' := by
  obtain ⟨wi, tb, mo, hy, pr, lo⟩ := K
  obtain ⟨W1, hW1⟩ : ∃ x, x = 1 + wi := ⟨_, rfl⟩
  obtain ⟨T1, hT1⟩ : ∃ x, x = 1 + tb % 64 := ⟨_, rfl⟩
  obtain ⟨M1, hM1⟩ : ∃ x, x = mo % 2 := ⟨_, rfl⟩
  have HCF : Hid (∀ W, Calls Try.prog 11 #[.agg #[.int .u8 (wi : Int), .int .u8 (tb : Int), .int .u8 (mo : Int), .int .u16 (hy : Int), .int .u16 (pr : Int), .float .f64 lo]] W fun e w' => e = .returned (.agg #[.int .i64 (W1 : Int), .int .i64 (T1 : Int), .int .u8 (M1 : Int), .int .i64 (hy : Int), .int .i64 (pr : Int), .float .f64 lo]) ∧ Only (fun _ => False) W w') := fun W => by
    rw [hW1, hT1, hM1]
    exact config_any ⟨wi, tb, mo, hy, pr, lo⟩ W hK
  obtain ⟨b0, b1, b2, b3, b4, b5⟩ := hK
  simp only at b0 b1 b2 b3 b4 b5
  have hw1 : W1 ≤ 256 := by omega
  have hw0 : 1 ≤ W1 := by omega
  have ht0 : 0 < T1 := by omega
  have ht1 : T1 ≤ 64 := by omega
  have hm1 : M1 ≤ 1 := by omega
  obtain ⟨n0, hn0⟩ : ∃ n, n = L.length := ⟨_, rfl⟩
  have HN : Hid (n0 = L.length) := hn0
  have HPA : Hid (∀ W, Only (fun _ => False) w W → Calls Try.prog 10 #[.slice a0 n0 c0] W fun e w' => ∃ k aC aO cC cO, e = .returned (.agg #[.slice aC k cC, .slice aO (k + 1) cO]) ∧ Made w' L n0 k aC aO cC cO ∧ Only (fun _ => False) W w') := fun W ho => para_made L n0 a0 c0 W hn0 (hV.keep ho) hB (by omega)
  obtain ⟨nE, hnE⟩ : ∃ n, n = LE.length := ⟨_, rfl⟩
  have HNE : Hid (nE = LE.length ∧ Vw w aE (intC LE)) := ⟨hnE, hVE⟩
  unfold Wy.val
  simp only
  rw [← hn0] at h5 ⊢
  rw [← hnE] at hE5 ⊢
  clear hnE hVE
  have s0b : decide ((100 : Int) < (nE : Int)) = false := decide_eq_false (by omega)
  clear hn0 hW1 hT1 hM1 hV hB
  have s0 : decide ((300 : Int) < (n0 : Int)) = false := decide_eq_false (by omega)
  go_enter Try.func7, Try.ntmps7
  go_wp2_with fail
  obtain ⟨R, w0, hw0', hR, H0, lR⟩ := box6 w (.int .u8 (wi : Int)) (.int .u8 (tb : Int)) (.int .u8 (mo : Int)) (.int .u16 (hy : Int)) (.int .u16 (pr : Int)) (.float .f64 lo) 26
  rw [hw0', hR]
  clear hw0' hR
  refine Calls.mono (awake16_any _) ?_
  rintro e w2 ⟨rfl, ho2⟩
  have HW2 : Hid (Only (fun _ => False) w w2) := H0.out.2.1.trans ho2
  have HKS : Hid (∀ W', Only (fun _ => False) w2 W' → (W'.cell? ⟨R, 0, none⟩ = some (.int .u8 (wi : Int)) ∧ W'.cell? ⟨R, 1, none⟩ = some (.int .u8 (tb : Int)) ∧ W'.cell? ⟨R, 2, none⟩ = some (.int .u8 (mo : Int)) ∧ W'.cell? ⟨R, 3, none⟩ = some (.int .u16 (hy : Int)) ∧ W'.cell? ⟨R, 4, none⟩ = some (.int .u16 (pr : Int)) ∧ W'.cell? ⟨R, 5, none⟩ = some (.float .f64 lo))) := fun W' ho => blk_six (blk_keep (ho2.trans ho) H0.out.1)
  clear ho2 lR
  go_wp2_with fail
  go_cut [7, 8] from 30 to 33 (fun v5 v6 wr => ∃ (k B5 B6 : Nat) (aC aO : Option Addr) (cC cO : Nat) (X : World), X = wr ∧ v5 = .pointer (some ⟨B5, 0, none⟩) ∧ v6 = .pointer (some ⟨B6, 0, none⟩) ∧ Made X L n0 k aC aO cC cO ∧ Blk w2 X B5 31 #[.slice aC k cC, .slice aO (k + 1) cO] ∧ Blk w2 X B6 35 #[.int .i64 (W1 : Int), .int .i64 (T1 : Int), .int .u8 (M1 : Int), .int .i64 (hy : Int), .int .i64 (pr : Int), .float .f64 lo] ∧ Only (fun _ => False) w2 X)
  case first =>
    have HXD : Hid (Only (fun _ => False) w2 w2.drew) := (Only.refl _ _).drew
    refine wp_region_held_drew (S := (fun W' => W'.cell? ⟨R, 0, none⟩ = some (.int .u8 (wi : Int)) ∧ W'.cell? ⟨R, 1, none⟩ = some (.int .u8 (tb : Int)) ∧ W'.cell? ⟨R, 2, none⟩ = some (.int .u8 (mo : Int)) ∧ W'.cell? ⟨R, 3, none⟩ = some (.int .u16 (hy : Int)) ∧ W'.cell? ⟨R, 4, none⟩ = some (.int .u16 (pr : Int)) ∧ W'.cell? ⟨R, 5, none⟩ = some (.float .f64 lo))) (by kernel_rfl) (HKS.out _ HXD.out) (fun hHeld => ?_)
    refine wpAnyH_take (i := 0) (oi := { dst := some 30, op := _, type := _, pos := _, after := _, guard := _ }) (v := .slice a0 n0 c0) rfl (by kernel_rfl) (by kernel_rfl) (by kernel_rfl) (fun _ _ _ h => h) (Or.inl ⟨by rfl, fun w hSw => by obtain ⟨y0, y1, y2, y3, y4, y5⟩ := hSw; first | (go_simp; done) | go_simp⟩) (by assumption) ?_
    (try simp only [Act.put, List.setIfInBounds_toArray, List.set_cons_zero, List.set_cons_succ])
    refine wpAnyH_take (i := 2) (oi := { dst := some 32, op := _, type := _, pos := _, after := _, guard := _ }) (v := .agg #[.int .u8 (wi : Int), .int .u8 (tb : Int), .int .u8 (mo : Int), .int .u16 (hy : Int), .int .u16 (pr : Int), .float .f64 lo]) rfl (by kernel_rfl) (by kernel_rfl) (by kernel_rfl) (fun _ _ _ h => h) (Or.inl ⟨by rfl, fun w hSw => by obtain ⟨y0, y1, y2, y3, y4, y5⟩ := hSw; first | (go_simp; done) | go_simp⟩) (by assumption) ?_
    (try simp only [Act.put, List.setIfInBounds_toArray, List.set_cons_zero, List.set_cons_succ])
    refine wpAnyH_ready (rs := [1, 4, 5]) (by kernel_rfl) (by simp) ?_
    refine AllReadyH.cons rfl (fun K hK => ?_) (AllReadyH.cons rfl (fun K hK => ?_) (AllReadyH.cons rfl (fun K hK => ?_) AllReadyH.nil))
    · rw [if_pos (by rfl)]
      go_simp
      refine Calls.mono (HPA.out _ (HW2.out.trans HXD.out)) ?_
      rintro e y1 ⟨k, aC, aO, cC, cO, rfl, hmd, ho⟩
      have HMy1 : Hid (Made y1 L n0 k aC aO cC cO) := hmd
      clear hmd
      have HXy1 : Hid (Only (fun _ => False) w2 y1) := HXD.out.trans ho
      clear ho
      refine hK.out _ _ (HKS.out _ HXy1.out) (fun hHeld => ?_)
      clear hK
      (try simp only [Act.put, List.setIfInBounds_toArray, List.set_cons_zero, List.set_cons_succ])
      refine wpAnyH_ready (rs := [3, 4, 5]) (by kernel_rfl) (by simp) ?_
      refine AllReadyH.cons rfl (fun K hK => ?_) (AllReadyH.cons rfl (fun K hK => ?_) (AllReadyH.cons rfl (fun K hK => ?_) AllReadyH.nil))
      · rw [if_pos (by rfl)]
        go_simp
        refine Calls.mono (HCF.out _) ?_
        rintro e y2 ⟨rfl, ho⟩
        have HMy2 : Hid (Made y2 L n0 k aC aO cC cO) := HMy1.out.keep ho
        have HXy2 : Hid (Only (fun _ => False) w2 y2) := HXy1.out.trans ho
        clear ho
        refine hK.out _ _ (HKS.out _ HXy2.out) (fun hHeld => ?_)
        clear hK
        (try simp only [Act.put, List.setIfInBounds_toArray, List.set_cons_zero, List.set_cons_succ])
        refine wpAnyH_ready (rs := [4, 5]) (by kernel_rfl) (by simp) ?_
        refine AllReadyH.cons rfl (fun K hK => ?_) (AllReadyH.cons rfl (fun K hK => ?_) AllReadyH.nil)
        · rw [if_pos (by rfl)]
          go_simp
          obtain ⟨y3, hy3⟩ : ∃ Y, Y = y2.alloc (.cells #[.slice none 0 0, .slice none 0 0] 31) := ⟨_, rfl⟩
          obtain ⟨B5, hB5⟩ : ∃ b, b = y2.heap.size := ⟨_, rfl⟩
          have ho : Only (fun _ => False) y2 y3 := by rw [hy3]; exact (Only.refl _ _).alloc _
          have HXy3 : Hid (Only (fun _ => False) w2 y3) := HXy2.out.trans ho
          have HB5y3 : Hid (Blk w2 y3 B5 31 #[.slice none 0 0, .slice none 0 0]) := by rw [hy3, hB5]; exact Blk.made HXy2.out _ _
          have HMy3 : Hid (Made y3 L n0 k aC aO cC cO) := HMy2.out.keep ho
          rw [← hy3, ← hB5]
          clear hy3 hB5 ho
          refine hK.out _ _ (HKS.out _ HXy3.out) (fun hHeld => ?_)
          clear hK
          (try simp only [Act.put, List.setIfInBounds_toArray, List.set_cons_zero, List.set_cons_succ])
          refine wpAnyH_ready (rs := [5]) (by kernel_rfl) (by simp) ?_
          refine AllReadyH.cons rfl (fun K hK => ?_) AllReadyH.nil
          rw [if_pos (by rfl)]
          go_simp
          obtain ⟨y4, hy4⟩ : ∃ Y, Y = y3.alloc (.cells #[.int .i64 0, .int .i64 0, .int .u8 0, .int .i64 0, .int .i64 0, .float .f64 0] 35) := ⟨_, rfl⟩
          obtain ⟨B6, hB6⟩ : ∃ b, b = y3.heap.size := ⟨_, rfl⟩
          have ho : Only (fun _ => False) y3 y4 := by rw [hy4]; exact (Only.refl _ _).alloc _
          have HXy4 : Hid (Only (fun _ => False) w2 y4) := HXy3.out.trans ho
          have HB6y4 : Hid (Blk w2 y4 B6 35 #[.int .i64 0, .int .i64 0, .int .u8 0, .int .i64 0, .int .i64 0, .float .f64 0]) := by rw [hy4, hB6]; exact Blk.made HXy3.out _ _
          have HB5y4 : Hid (Blk w2 y4 B5 31 #[.slice none 0 0, .slice none 0 0]) := HB5y3.out.keep ho
          have HMy4 : Hid (Made y4 L n0 k aC aO cC cO) := HMy3.out.keep ho
          rw [← hy4, ← hB6]
          clear hy4 hB6 ho
          refine hK.out _ _ (HKS.out _ HXy4.out) (fun hHeld => ?_)
          clear hK
          (try simp only [Act.put, List.setIfInBounds_toArray, List.set_cons_zero, List.set_cons_succ])
          refine wpAnyH_ready (rs := [6]) (by kernel_rfl) (by simp) ?_
          refine AllReadyH.cons rfl (fun K hK => ?_) AllReadyH.nil
          rw [if_pos (by rfl)]
          have HXa : Hid (Only (fun _ => False) w2 (y4.setRow B5 #[.slice aC k cC, .slice aO (k + 1) cO])) := HXy4.out.setRowNew HB5y4.out.2 _
          refine wp_store_row 31 _ _ rfl B5 #[.slice aC k cC, .slice aO (k + 1) cO] rfl rfl 31 _ HB5y4.out.1 (by kernel_rfl) rfl (two_one _ _ _ _ _ _) ?_
          have HMa : Hid (Made (y4.setRow B5 #[.slice aC k cC, .slice aO (k + 1) cO]) L n0 k aC aO cC cO ∧ Blk w2 (y4.setRow B5 #[.slice aC k cC, .slice aO (k + 1) cO]) B5 31 #[.slice aC k cC, .slice aO (k + 1) cO] ∧ Blk w2 (y4.setRow B5 #[.slice aC k cC, .slice aO (k + 1) cO]) B6 35 #[.int .i64 0, .int .i64 0, .int .u8 0, .int .i64 0, .int .i64 0, .float .f64 0]) := ⟨HMy4.out.store HB5y4.out.1 (by decide) (by decide) _, HB5y4.out.put _, HB6y4.out.far HB5y4.out (by decide) _⟩
          obtain ⟨za, hza⟩ : ∃ Y, Y = y4.setRow B5 #[.slice aC k cC, .slice aO (k + 1) cO] := ⟨_, rfl⟩
          rw [← hza] at HXa HMa ⊢
          clear hza
          refine hK.out _ _ (HKS.out _ HXa.out) (fun hHeld => ?_)
          clear hK
          (try simp only [Act.put, List.setIfInBounds_toArray, List.set_cons_zero, List.set_cons_succ])
          refine wpAnyH_ready (rs := [7]) (by kernel_rfl) (by simp) ?_
          refine AllReadyH.cons rfl (fun K hK => ?_) AllReadyH.nil
          rw [if_pos (by rfl)]
          have HXb : Hid (Only (fun _ => False) w2 (za.setRow B6 #[.int .i64 (W1 : Int), .int .i64 (T1 : Int), .int .u8 (M1 : Int), .int .i64 (hy : Int), .int .i64 (pr : Int), .float .f64 lo])) := HXa.out.setRowNew HMa.out.2.2.2 _
          refine wp_store_row 35 _ _ rfl B6 #[.int .i64 (W1 : Int), .int .i64 (T1 : Int), .int .u8 (M1 : Int), .int .i64 (hy : Int), .int .i64 (pr : Int), .float .f64 lo] rfl rfl 35 _ HMa.out.2.2.1 (by kernel_rfl) rfl (cfg_one _ _ _ _ _ _) ?_
          have HMb : Hid (Made (za.setRow B6 #[.int .i64 (W1 : Int), .int .i64 (T1 : Int), .int .u8 (M1 : Int), .int .i64 (hy : Int), .int .i64 (pr : Int), .float .f64 lo]) L n0 k aC aO cC cO ∧ Blk w2 (za.setRow B6 #[.int .i64 (W1 : Int), .int .i64 (T1 : Int), .int .u8 (M1 : Int), .int .i64 (hy : Int), .int .i64 (pr : Int), .float .f64 lo]) B5 31 #[.slice aC k cC, .slice aO (k + 1) cO] ∧ Blk w2 (za.setRow B6 #[.int .i64 (W1 : Int), .int .i64 (T1 : Int), .int .u8 (M1 : Int), .int .i64 (hy : Int), .int .i64 (pr : Int), .float .f64 lo]) B6 35 #[.int .i64 (W1 : Int), .int .i64 (T1 : Int), .int .u8 (M1 : Int), .int .i64 (hy : Int), .int .i64 (pr : Int), .float .f64 lo]) := ⟨HMa.out.1.store HMa.out.2.2.1 (by decide) (by decide) _, HMa.out.2.1.far HMa.out.2.2 (by decide) _, HMa.out.2.2.put _⟩
          obtain ⟨zb, hzb⟩ : ∃ Y, Y = za.setRow B6 #[.int .i64 (W1 : Int), .int .i64 (T1 : Int), .int .u8 (M1 : Int), .int .i64 (hy : Int), .int .i64 (pr : Int), .float .f64 lo] := ⟨_, rfl⟩
          rw [← hzb] at HXb HMb ⊢
          clear hzb
          refine hK.out _ _ (HKS.out _ HXb.out) (fun hHeld => ?_)
          clear hK
          (try simp only [Act.put, List.setIfInBounds_toArray, List.set_cons_zero, List.set_cons_succ])
          refine wpAnyH_done (by kernel_rfl) ?_ _
          clear hHeld
          go_wp2_with fail
          go_meet
          exact ⟨k, B5, B6, aC, aO, cC, cO, _, rfl, rfl, rfl, HMb.out.1, HMb.out.2.1, HMb.out.2.2, HXb.out⟩
        · rw [if_pos (by rfl)]
          go_simp
          obtain ⟨y3, hy3⟩ : ∃ Y, Y = y2.alloc (.cells #[.int .i64 0, .int .i64 0, .int .u8 0, .int .i64 0, .int .i64 0, .float .f64 0] 35) := ⟨_, rfl⟩
          obtain ⟨B6, hB6⟩ : ∃ b, b = y2.heap.size := ⟨_, rfl⟩
          have ho : Only (fun _ => False) y2 y3 := by rw [hy3]; exact (Only.refl _ _).alloc _
          have HXy3 : Hid (Only (fun _ => False) w2 y3) := HXy2.out.trans ho
          have HB6y3 : Hid (Blk w2 y3 B6 35 #[.int .i64 0, .int .i64 0, .int .u8 0, .int .i64 0, .int .i64 0, .float .f64 0]) := by rw [hy3, hB6]; exact Blk.made HXy2.out _ _
          have HMy3 : Hid (Made y3 L n0 k aC aO cC cO) := HMy2.out.keep ho
          rw [← hy3, ← hB6]
          clear hy3 hB6 ho
          refine hK.out _ _ (HKS.out _ HXy3.out) (fun hHeld => ?_)
          clear hK
          (try simp only [Act.put, List.setIfInBounds_toArray, List.set_cons_zero, List.set_cons_succ])
          refine wpAnyH_ready (rs := [4]) (by kernel_rfl) (by simp) ?_
          refine AllReadyH.cons rfl (fun K hK => ?_) AllReadyH.nil
          rw [if_pos (by rfl)]
          go_simp
          obtain ⟨y4, hy4⟩ : ∃ Y, Y = y3.alloc (.cells #[.slice none 0 0, .slice none 0 0] 31) := ⟨_, rfl⟩
          obtain ⟨B5, hB5⟩ : ∃ b, b = y3.heap.size := ⟨_, rfl⟩
          have ho : Only (fun _ => False) y3 y4 := by rw [hy4]; exact (Only.refl _ _).alloc _
          have HXy4 : Hid (Only (fun _ => False) w2 y4) := HXy3.out.trans ho
          have HB5y4 : Hid (Blk w2 y4 B5 31 #[.slice none 0 0, .slice none 0 0]) := by rw [hy4, hB5]; exact Blk.made HXy3.out _ _
          have HB6y4 : Hid (Blk w2 y4 B6 35 #[.int .i64 0, .int .i64 0, .int .u8 0, .int .i64 0, .int .i64 0, .float .f64 0]) := HB6y3.out.keep ho
          have HMy4 : Hid (Made y4 L n0 k aC aO cC cO) := HMy3.out.keep ho
          rw [← hy4, ← hB5]
          clear hy4 hB5 ho
          refine hK.out _ _ (HKS.out _ HXy4.out) (fun hHeld => ?_)
          clear hK
          (try simp only [Act.put, List.setIfInBounds_toArray, List.set_cons_zero, List.set_cons_succ])
          refine wpAnyH_ready (rs := [6]) (by kernel_rfl) (by simp) ?_
          refine AllReadyH.cons rfl (fun K hK => ?_) AllReadyH.nil
          rw [if_pos (by rfl)]
          have HXa : Hid (Only (fun _ => False) w2 (y4.setRow B5 #[.slice aC k cC, .slice aO (k + 1) cO])) := HXy4.out.setRowNew HB5y4.out.2 _
          refine wp_store_row 31 _ _ rfl B5 #[.slice aC k cC, .slice aO (k + 1) cO] rfl rfl 31 _ HB5y4.out.1 (by kernel_rfl) rfl (two_one _ _ _ _ _ _) ?_
          have HMa : Hid (Made (y4.setRow B5 #[.slice aC k cC, .slice aO (k + 1) cO]) L n0 k aC aO cC cO ∧ Blk w2 (y4.setRow B5 #[.slice aC k cC, .slice aO (k + 1) cO]) B5 31 #[.slice aC k cC, .slice aO (k + 1) cO] ∧ Blk w2 (y4.setRow B5 #[.slice aC k cC, .slice aO (k + 1) cO]) B6 35 #[.int .i64 0, .int .i64 0, .int .u8 0, .int .i64 0, .int .i64 0, .float .f64 0]) := ⟨HMy4.out.store HB5y4.out.1 (by decide) (by decide) _, HB5y4.out.put _, HB6y4.out.far HB5y4.out (by decide) _⟩
          obtain ⟨za, hza⟩ : ∃ Y, Y = y4.setRow B5 #[.slice aC k cC, .slice aO (k + 1) cO] := ⟨_, rfl⟩
          rw [← hza] at HXa HMa ⊢
          clear hza
          refine hK.out _ _ (HKS.out _ HXa.out) (fun hHeld => ?_)
          clear hK
          (try simp only [Act.put, List.setIfInBounds_toArray, List.set_cons_zero, List.set_cons_succ])
          refine wpAnyH_ready (rs := [7]) (by kernel_rfl) (by simp) ?_
          refine AllReadyH.cons rfl (fun K hK => ?_) AllReadyH.nil
          rw [if_pos (by rfl)]
          have HXb : Hid (Only (fun _ => False) w2 (za.setRow B6 #[.int .i64 (W1 : Int), .int .i64 (T1 : Int), .int .u8 (M1 : Int), .int .i64 (hy : Int), .int .i64 (pr : Int), .float .f64 lo])) := HXa.out.setRowNew HMa.out.2.2.2 _
          refine wp_store_row 35 _ _ rfl B6 #[.int .i64 (W1 : Int), .int .i64 (T1 : Int), .int .u8 (M1 : Int), .int .i64 (hy : Int), .int .i64 (pr : Int), .float .f64 lo] rfl rfl 35 _ HMa.out.2.2.1 (by kernel_rfl) rfl (cfg_one _ _ _ _ _ _) ?_
          have HMb : Hid (Made (za.setRow B6 #[.int .i64 (W1 : Int), .int .i64 (T1 : Int), .int .u8 (M1 : Int), .int .i64 (hy : Int), .int .i64 (pr : Int), .float .f64 lo]) L n0 k aC aO cC cO ∧ Blk w2 (za.setRow B6 #[.int .i64 (W1 : Int), .int .i64 (T1 : Int), .int .u8 (M1 : Int), .int .i64 (hy : Int), .int .i64 (pr : Int), .float .f64 lo]) B5 31 #[.slice aC k cC, .slice aO (k + 1) cO] ∧ Blk w2 (za.setRow B6 #[.int .i64 (W1 : Int), .int .i64 (T1 : Int), .int .u8 (M1 : Int), .int .i64 (hy : Int), .int .i64 (pr : Int), .float .f64 lo]) B6 35 #[.int .i64 (W1 : Int), .int .i64 (T1 : Int), .int .u8 (M1 : Int), .int .i64 (hy : Int), .int .i64 (pr : Int), .float .f64 lo]) := ⟨HMa.out.1.store HMa.out.2.2.1 (by decide) (by decide) _, HMa.out.2.1.far HMa.out.2.2 (by decide) _, HMa.out.2.2.put _⟩
          obtain ⟨zb, hzb⟩ : ∃ Y, Y = za.setRow B6 #[.int .i64 (W1 : Int), .int .i64 (T1 : Int), .int .u8 (M1 : Int), .int .i64 (hy : Int), .int .i64 (pr : Int), .float .f64 lo] := ⟨_, rfl⟩
          rw [← hzb] at HXb HMb ⊢
          clear hzb
          refine hK.out _ _ (HKS.out _ HXb.out) (fun hHeld => ?_)
          clear hK
          (try simp only [Act.put, List.setIfInBounds_toArray, List.set_cons_zero, List.set_cons_succ])
          refine wpAnyH_done (by kernel_rfl) ?_ _
          clear hHeld
          go_wp2_with fail
          go_meet
          exact ⟨k, B5, B6, aC, aO, cC, cO, _, rfl, rfl, rfl, HMb.out.1, HMb.out.2.1, HMb.out.2.2, HXb.out⟩
      · rw [if_pos (by rfl)]
        go_simp
        obtain ⟨y2, hy2⟩ : ∃ Y, Y = y1.alloc (.cells #[.slice none 0 0, .slice none 0 0] 31) := ⟨_, rfl⟩
        obtain ⟨B5, hB5⟩ : ∃ b, b = y1.heap.size := ⟨_, rfl⟩
        have ho : Only (fun _ => False) y1 y2 := by rw [hy2]; exact (Only.refl _ _).alloc _
        have HXy2 : Hid (Only (fun _ => False) w2 y2) := HXy1.out.trans ho
        have HB5y2 : Hid (Blk w2 y2 B5 31 #[.slice none 0 0, .slice none 0 0]) := by rw [hy2, hB5]; exact Blk.made HXy1.out _ _
        have HMy2 : Hid (Made y2 L n0 k aC aO cC cO) := HMy1.out.keep ho
        rw [← hy2, ← hB5]
        clear hy2 hB5 ho
        refine hK.out _ _ (HKS.out _ HXy2.out) (fun hHeld => ?_)
        clear hK
        (try simp only [Act.put, List.setIfInBounds_toArray, List.set_cons_zero, List.set_cons_succ])
        refine wpAnyH_ready (rs := [3, 5]) (by kernel_rfl) (by simp) ?_
        refine AllReadyH.cons rfl (fun K hK => ?_) (AllReadyH.cons rfl (fun K hK => ?_) AllReadyH.nil)
        · rw [if_pos (by rfl)]
          go_simp
          refine Calls.mono (HCF.out _) ?_
          rintro e y3 ⟨rfl, ho⟩
          have HMy3 : Hid (Made y3 L n0 k aC aO cC cO) := HMy2.out.keep ho
          have HXy3 : Hid (Only (fun _ => False) w2 y3) := HXy2.out.trans ho
          have HB5y3 : Hid (Blk w2 y3 B5 31 #[.slice none 0 0, .slice none 0 0]) := HB5y2.out.keep ho
          clear ho
          refine hK.out _ _ (HKS.out _ HXy3.out) (fun hHeld => ?_)
          clear hK
          (try simp only [Act.put, List.setIfInBounds_toArray, List.set_cons_zero, List.set_cons_succ])
          refine wpAnyH_ready (rs := [5]) (by kernel_rfl) (by simp) ?_
          refine AllReadyH.cons rfl (fun K hK => ?_) AllReadyH.nil
          rw [if_pos (by rfl)]
          go_simp
          obtain ⟨y4, hy4⟩ : ∃ Y, Y = y3.alloc (.cells #[.int .i64 0, .int .i64 0, .int .u8 0, .int .i64 0, .int .i64 0, .float .f64 0] 35) := ⟨_, rfl⟩
          obtain ⟨B6, hB6⟩ : ∃ b, b = y3.heap.size := ⟨_, rfl⟩
          have ho : Only (fun _ => False) y3 y4 := by rw [hy4]; exact (Only.refl _ _).alloc _
          have HXy4 : Hid (Only (fun _ => False) w2 y4) := HXy3.out.trans ho
          have HB6y4 : Hid (Blk w2 y4 B6 35 #[.int .i64 0, .int .i64 0, .int .u8 0, .int .i64 0, .int .i64 0, .float .f64 0]) := by rw [hy4, hB6]; exact Blk.made HXy3.out _ _
          have HB5y4 : Hid (Blk w2 y4 B5 31 #[.slice none 0 0, .slice none 0 0]) := HB5y3.out.keep ho
          have HMy4 : Hid (Made y4 L n0 k aC aO cC cO) := HMy3.out.keep ho
          rw [← hy4, ← hB6]
          clear hy4 hB6 ho
          refine hK.out _ _ (HKS.out _ HXy4.out) (fun hHeld => ?_)
          clear hK
          (try simp only [Act.put, List.setIfInBounds_toArray, List.set_cons_zero, List.set_cons_succ])
          refine wpAnyH_ready (rs := [6]) (by kernel_rfl) (by simp) ?_
          refine AllReadyH.cons rfl (fun K hK => ?_) AllReadyH.nil
          rw [if_pos (by rfl)]
          have HXa : Hid (Only (fun _ => False) w2 (y4.setRow B5 #[.slice aC k cC, .slice aO (k + 1) cO])) := HXy4.out.setRowNew HB5y4.out.2 _
          refine wp_store_row 31 _ _ rfl B5 #[.slice aC k cC, .slice aO (k + 1) cO] rfl rfl 31 _ HB5y4.out.1 (by kernel_rfl) rfl (two_one _ _ _ _ _ _) ?_
          have HMa : Hid (Made (y4.setRow B5 #[.slice aC k cC, .slice aO (k + 1) cO]) L n0 k aC aO cC cO ∧ Blk w2 (y4.setRow B5 #[.slice aC k cC, .slice aO (k + 1) cO]) B5 31 #[.slice aC k cC, .slice aO (k + 1) cO] ∧ Blk w2 (y4.setRow B5 #[.slice aC k cC, .slice aO (k + 1) cO]) B6 35 #[.int .i64 0, .int .i64 0, .int .u8 0, .int .i64 0, .int .i64 0, .float .f64 0]) := ⟨HMy4.out.store HB5y4.out.1 (by decide) (by decide) _, HB5y4.out.put _, HB6y4.out.far HB5y4.out (by decide) _⟩
          obtain ⟨za, hza⟩ : ∃ Y, Y = y4.setRow B5 #[.slice aC k cC, .slice aO (k + 1) cO] := ⟨_, rfl⟩
          rw [← hza] at HXa HMa ⊢
          clear hza
          refine hK.out _ _ (HKS.out _ HXa.out) (fun hHeld => ?_)
          clear hK
          (try simp only [Act.put, List.setIfInBounds_toArray, List.set_cons_zero, List.set_cons_succ])
          refine wpAnyH_ready (rs := [7]) (by kernel_rfl) (by simp) ?_
          refine AllReadyH.cons rfl (fun K hK => ?_) AllReadyH.nil
          rw [if_pos (by rfl)]
          have HXb : Hid (Only (fun _ => False) w2 (za.setRow B6 #[.int .i64 (W1 : Int), .int .i64 (T1 : Int), .int .u8 (M1 : Int), .int .i64 (hy : Int), .int .i64 (pr : Int), .float .f64 lo])) := HXa.out.setRowNew HMa.out.2.2.2 _
          refine wp_store_row 35 _ _ rfl B6 #[.int .i64 (W1 : Int), .int .i64 (T1 : Int), .int .u8 (M1 : Int), .int .i64 (hy : Int), .int .i64 (pr : Int), .float .f64 lo] rfl rfl 35 _ HMa.out.2.2.1 (by kernel_rfl) rfl (cfg_one _ _ _ _ _ _) ?_
          have HMb : Hid (Made (za.setRow B6 #[.int .i64 (W1 : Int), .int .i64 (T1 : Int), .int .u8 (M1 : Int), .int .i64 (hy : Int), .int .i64 (pr : Int), .float .f64 lo]) L n0 k aC aO cC cO ∧ Blk w2 (za.setRow B6 #[.int .i64 (W1 : Int), .int .i64 (T1 : Int), .int .u8 (M1 : Int), .int .i64 (hy : Int), .int .i64 (pr : Int), .float .f64 lo]) B5 31 #[.slice aC k cC, .slice aO (k + 1) cO] ∧ Blk w2 (za.setRow B6 #[.int .i64 (W1 : Int), .int .i64 (T1 : Int), .int .u8 (M1 : Int), .int .i64 (hy : Int), .int .i64 (pr : Int), .float .f64 lo]) B6 35 #[.int .i64 (W1 : Int), .int .i64 (T1 : Int), .int .u8 (M1 : Int), .int .i64 (hy : Int), .int .i64 (pr : Int), .float .f64 lo]) := ⟨HMa.out.1.store HMa.out.2.2.1 (by decide) (by decide) _, HMa.out.2.1.far HMa.out.2.2 (by decide) _, HMa.out.2.2.put _⟩
          obtain ⟨zb, hzb⟩ : ∃ Y, Y = za.setRow B6 #[.int .i64 (W1 : Int), .int .i64 (T1 : Int), .int .u8 (M1 : Int), .int .i64 (hy : Int), .int .i64 (pr : Int), .float .f64 lo] := ⟨_, rfl⟩
          rw [← hzb] at HXb HMb ⊢
          clear hzb
          refine hK.out _ _ (HKS.out _ HXb.out) (fun hHeld => ?_)
          clear hK
          (try simp only [Act.put, List.setIfInBounds_toArray, List.set_cons_zero, List.set_cons_succ])
          refine wpAnyH_done (by kernel_rfl) ?_ _
          clear hHeld
          go_wp2_with fail
          go_meet
          exact ⟨k, B5, B6, aC, aO, cC, cO, _, rfl, rfl, rfl, HMb.out.1, HMb.out.2.1, HMb.out.2.2, HXb.out⟩
        · rw [if_pos (by rfl)]
          go_simp
          obtain ⟨y3, hy3⟩ : ∃ Y, Y = y2.alloc (.cells #[.int .i64 0, .int .i64 0, .int .u8 0, .int .i64 0, .int .i64 0, .float .f64 0] 35) := ⟨_, rfl⟩
          obtain ⟨B6, hB6⟩ : ∃ b, b = y2.heap.size := ⟨_, rfl⟩
          have ho : Only (fun _ => False) y2 y3 := by rw [hy3]; exact (Only.refl _ _).alloc _
          have HXy3 : Hid (Only (fun _ => False) w2 y3) := HXy2.out.trans ho
          have HB6y3 : Hid (Blk w2 y3 B6 35 #[.int .i64 0, .int .i64 0, .int .u8 0, .int .i64 0, .int .i64 0, .float .f64 0]) := by rw [hy3, hB6]; exact Blk.made HXy2.out _ _
          have HB5y3 : Hid (Blk w2 y3 B5 31 #[.slice none 0 0, .slice none 0 0]) := HB5y2.out.keep ho
          have HMy3 : Hid (Made y3 L n0 k aC aO cC cO) := HMy2.out.keep ho
          rw [← hy3, ← hB6]
          clear hy3 hB6 ho
          refine hK.out _ _ (HKS.out _ HXy3.out) (fun hHeld => ?_)
          clear hK
          (try simp only [Act.put, List.setIfInBounds_toArray, List.set_cons_zero, List.set_cons_succ])
          refine wpAnyH_ready (rs := [3]) (by kernel_rfl) (by simp) ?_
          refine AllReadyH.cons rfl (fun K hK => ?_) AllReadyH.nil
          rw [if_pos (by rfl)]
          go_simp
          refine Calls.mono (HCF.out _) ?_
          rintro e y4 ⟨rfl, ho⟩
          have HMy4 : Hid (Made y4 L n0 k aC aO cC cO) := HMy3.out.keep ho
          have HXy4 : Hid (Only (fun _ => False) w2 y4) := HXy3.out.trans ho
          have HB5y4 : Hid (Blk w2 y4 B5 31 #[.slice none 0 0, .slice none 0 0]) := HB5y3.out.keep ho
          have HB6y4 : Hid (Blk w2 y4 B6 35 #[.int .i64 0, .int .i64 0, .int .u8 0, .int .i64 0, .int .i64 0, .float .f64 0]) := HB6y3.out.keep ho
          clear ho
          refine hK.out _ _ (HKS.out _ HXy4.out) (fun hHeld => ?_)
          clear hK
          (try simp only [Act.put, List.setIfInBounds_toArray, List.set_cons_zero, List.set_cons_succ])
          refine wpAnyH_ready (rs := [6]) (by kernel_rfl) (by simp) ?_
          refine AllReadyH.cons rfl (fun K hK => ?_) AllReadyH.nil
          rw [if_pos (by rfl)]
          have HXa : Hid (Only (fun _ => False) w2 (y4.setRow B5 #[.slice aC k cC, .slice aO (k + 1) cO])) := HXy4.out.setRowNew HB5y4.out.2 _
          refine wp_store_row 31 _ _ rfl B5 #[.slice aC k cC, .slice aO (k + 1) cO] rfl rfl 31 _ HB5y4.out.1 (by kernel_rfl) rfl (two_one _ _ _ _ _ _) ?_
          have HMa : Hid (Made (y4.setRow B5 #[.slice aC k cC, .slice aO (k + 1) cO]) L n0 k aC aO cC cO ∧ Blk w2 (y4.setRow B5 #[.slice aC k cC, .slice aO (k + 1) cO]) B5 31 #[.slice aC k cC, .slice aO (k + 1) cO] ∧ Blk w2 (y4.setRow B5 #[.slice aC k cC, .slice aO (k + 1) cO]) B6 35 #[.int .i64 0, .int .i64 0, .int .u8 0, .int .i64 0, .int .i64 0, .float .f64 0]) := ⟨HMy4.out.store HB5y4.out.1 (by decide) (by decide) _, HB5y4.out.put _, HB6y4.out.far HB5y4.out (by decide) _⟩
          obtain ⟨za, hza⟩ : ∃ Y, Y = y4.setRow B5 #[.slice aC k cC, .slice aO (k + 1) cO] := ⟨_, rfl⟩
          rw [← hza] at HXa HMa ⊢
          clear hza
          refine hK.out _ _ (HKS.out _ HXa.out) (fun hHeld => ?_)
          clear hK
          (try simp only [Act.put, List.setIfInBounds_toArray, List.set_cons_zero, List.set_cons_succ])
          refine wpAnyH_ready (rs := [7]) (by kernel_rfl) (by simp) ?_
          refine AllReadyH.cons rfl (fun K hK => ?_) AllReadyH.nil
          rw [if_pos (by rfl)]
          have HXb : Hid (Only (fun _ => False) w2 (za.setRow B6 #[.int .i64 (W1 : Int), .int .i64 (T1 : Int), .int .u8 (M1 : Int), .int .i64 (hy : Int), .int .i64 (pr : Int), .float .f64 lo])) := HXa.out.setRowNew HMa.out.2.2.2 _
          refine wp_store_row 35 _ _ rfl B6 #[.int .i64 (W1 : Int), .int .i64 (T1 : Int), .int .u8 (M1 : Int), .int .i64 (hy : Int), .int .i64 (pr : Int), .float .f64 lo] rfl rfl 35 _ HMa.out.2.2.1 (by kernel_rfl) rfl (cfg_one _ _ _ _ _ _) ?_
          have HMb : Hid (Made (za.setRow B6 #[.int .i64 (W1 : Int), .int .i64 (T1 : Int), .int .u8 (M1 : Int), .int .i64 (hy : Int), .int .i64 (pr : Int), .float .f64 lo]) L n0 k aC aO cC cO ∧ Blk w2 (za.setRow B6 #[.int .i64 (W1 : Int), .int .i64 (T1 : Int), .int .u8 (M1 : Int), .int .i64 (hy : Int), .int .i64 (pr : Int), .float .f64 lo]) B5 31 #[.slice aC k cC, .slice aO (k + 1) cO] ∧ Blk w2 (za.setRow B6 #[.int .i64 (W1 : Int), .int .i64 (T1 : Int), .int .u8 (M1 : Int), .int .i64 (hy : Int), .int .i64 (pr : Int), .float .f64 lo]) B6 35 #[.int .i64 (W1 : Int), .int .i64 (T1 : Int), .int .u8 (M1 : Int), .int .i64 (hy : Int), .int .i64 (pr : Int), .float .f64 lo]) := ⟨HMa.out.1.store HMa.out.2.2.1 (by decide) (by decide) _, HMa.out.2.1.far HMa.out.2.2 (by decide) _, HMa.out.2.2.put _⟩
          obtain ⟨zb, hzb⟩ : ∃ Y, Y = za.setRow B6 #[.int .i64 (W1 : Int), .int .i64 (T1 : Int), .int .u8 (M1 : Int), .int .i64 (hy : Int), .int .i64 (pr : Int), .float .f64 lo] := ⟨_, rfl⟩
          rw [← hzb] at HXb HMb ⊢
          clear hzb
          refine hK.out _ _ (HKS.out _ HXb.out) (fun hHeld => ?_)
          clear hK
          (try simp only [Act.put, List.setIfInBounds_toArray, List.set_cons_zero, List.set_cons_succ])
          refine wpAnyH_done (by kernel_rfl) ?_ _
          clear hHeld
          go_wp2_with fail
          go_meet
          exact ⟨k, B5, B6, aC, aO, cC, cO, _, rfl, rfl, rfl, HMb.out.1, HMb.out.2.1, HMb.out.2.2, HXb.out⟩
      · rw [if_pos (by rfl)]
        go_simp
        obtain ⟨y2, hy2⟩ : ∃ Y, Y = y1.alloc (.cells #[.int .i64 0, .int .i64 0, .int .u8 0, .int .i64 0, .int .i64 0, .float .f64 0] 35) := ⟨_, rfl⟩
        obtain ⟨B6, hB6⟩ : ∃ b, b = y1.heap.size := ⟨_, rfl⟩
        have ho : Only (fun _ => False) y1 y2 := by rw [hy2]; exact (Only.refl _ _).alloc _
        have HXy2 : Hid (Only (fun _ => False) w2 y2) := HXy1.out.trans ho
        have HB6y2 : Hid (Blk w2 y2 B6 35 #[.int .i64 0, .int .i64 0, .int .u8 0, .int .i64 0, .int .i64 0, .float .f64 0]) := by rw [hy2, hB6]; exact Blk.made HXy1.out _ _
        have HMy2 : Hid (Made y2 L n0 k aC aO cC cO) := HMy1.out.keep ho
        rw [← hy2, ← hB6]
        clear hy2 hB6 ho
        refine hK.out _ _ (HKS.out _ HXy2.out) (fun hHeld => ?_)
        clear hK
        (try simp only [Act.put, List.setIfInBounds_toArray, List.set_cons_zero, List.set_cons_succ])
        refine wpAnyH_ready (rs := [3, 4]) (by kernel_rfl) (by simp) ?_
        refine AllReadyH.cons rfl (fun K hK => ?_) (AllReadyH.cons rfl (fun K hK => ?_) AllReadyH.nil)
        · rw [if_pos (by rfl)]
          go_simp
          refine Calls.mono (HCF.out _) ?_
          rintro e y3 ⟨rfl, ho⟩
          have HMy3 : Hid (Made y3 L n0 k aC aO cC cO) := HMy2.out.keep ho
          have HXy3 : Hid (Only (fun _ => False) w2 y3) := HXy2.out.trans ho
          have HB6y3 : Hid (Blk w2 y3 B6 35 #[.int .i64 0, .int .i64 0, .int .u8 0, .int .i64 0, .int .i64 0, .float .f64 0]) := HB6y2.out.keep ho
          clear ho
          refine hK.out _ _ (HKS.out _ HXy3.out) (fun hHeld => ?_)
          clear hK
          (try simp only [Act.put, List.setIfInBounds_toArray, List.set_cons_zero, List.set_cons_succ])
          refine wpAnyH_ready (rs := [4]) (by kernel_rfl) (by simp) ?_
          refine AllReadyH.cons rfl (fun K hK => ?_) AllReadyH.nil
          rw [if_pos (by rfl)]
          go_simp
          obtain ⟨y4, hy4⟩ : ∃ Y, Y = y3.alloc (.cells #[.slice none 0 0, .slice none 0 0] 31) := ⟨_, rfl⟩
          obtain ⟨B5, hB5⟩ : ∃ b, b = y3.heap.size := ⟨_, rfl⟩
          have ho : Only (fun _ => False) y3 y4 := by rw [hy4]; exact (Only.refl _ _).alloc _
          have HXy4 : Hid (Only (fun _ => False) w2 y4) := HXy3.out.trans ho
          have HB5y4 : Hid (Blk w2 y4 B5 31 #[.slice none 0 0, .slice none 0 0]) := by rw [hy4, hB5]; exact Blk.made HXy3.out _ _
          have HB6y4 : Hid (Blk w2 y4 B6 35 #[.int .i64 0, .int .i64 0, .int .u8 0, .int .i64 0, .int .i64 0, .float .f64 0]) := HB6y3.out.keep ho
          have HMy4 : Hid (Made y4 L n0 k aC aO cC cO) := HMy3.out.keep ho
          rw [← hy4, ← hB5]
          clear hy4 hB5 ho
          refine hK.out _ _ (HKS.out _ HXy4.out) (fun hHeld => ?_)
          clear hK
          (try simp only [Act.put, List.setIfInBounds_toArray, List.set_cons_zero, List.set_cons_succ])
          refine wpAnyH_ready (rs := [6]) (by kernel_rfl) (by simp) ?_
          refine AllReadyH.cons rfl (fun K hK => ?_) AllReadyH.nil
          rw [if_pos (by rfl)]
          have HXa : Hid (Only (fun _ => False) w2 (y4.setRow B5 #[.slice aC k cC, .slice aO (k + 1) cO])) := HXy4.out.setRowNew HB5y4.out.2 _
          refine wp_store_row 31 _ _ rfl B5 #[.slice aC k cC, .slice aO (k + 1) cO] rfl rfl 31 _ HB5y4.out.1 (by kernel_rfl) rfl (two_one _ _ _ _ _ _) ?_
          have HMa : Hid (Made (y4.setRow B5 #[.slice aC k cC, .slice aO (k + 1) cO]) L n0 k aC aO cC cO ∧ Blk w2 (y4.setRow B5 #[.slice aC k cC, .slice aO (k + 1) cO]) B5 31 #[.slice aC k cC, .slice aO (k + 1) cO] ∧ Blk w2 (y4.setRow B5 #[.slice aC k cC, .slice aO (k + 1) cO]) B6 35 #[.int .i64 0, .int .i64 0, .int .u8 0, .int .i64 0, .int .i64 0, .float .f64 0]) := ⟨HMy4.out.store HB5y4.out.1 (by decide) (by decide) _, HB5y4.out.put _, HB6y4.out.far HB5y4.out (by decide) _⟩
          obtain ⟨za, hza⟩ : ∃ Y, Y = y4.setRow B5 #[.slice aC k cC, .slice aO (k + 1) cO] := ⟨_, rfl⟩
          rw [← hza] at HXa HMa ⊢
          clear hza
          refine hK.out _ _ (HKS.out _ HXa.out) (fun hHeld => ?_)
          clear hK
          (try simp only [Act.put, List.setIfInBounds_toArray, List.set_cons_zero, List.set_cons_succ])
          refine wpAnyH_ready (rs := [7]) (by kernel_rfl) (by simp) ?_
          refine AllReadyH.cons rfl (fun K hK => ?_) AllReadyH.nil
          rw [if_pos (by rfl)]
          have HXb : Hid (Only (fun _ => False) w2 (za.setRow B6 #[.int .i64 (W1 : Int), .int .i64 (T1 : Int), .int .u8 (M1 : Int), .int .i64 (hy : Int), .int .i64 (pr : Int), .float .f64 lo])) := HXa.out.setRowNew HMa.out.2.2.2 _
          refine wp_store_row 35 _ _ rfl B6 #[.int .i64 (W1 : Int), .int .i64 (T1 : Int), .int .u8 (M1 : Int), .int .i64 (hy : Int), .int .i64 (pr : Int), .float .f64 lo] rfl rfl 35 _ HMa.out.2.2.1 (by kernel_rfl) rfl (cfg_one _ _ _ _ _ _) ?_
          have HMb : Hid (Made (za.setRow B6 #[.int .i64 (W1 : Int), .int .i64 (T1 : Int), .int .u8 (M1 : Int), .int .i64 (hy : Int), .int .i64 (pr : Int), .float .f64 lo]) L n0 k aC aO cC cO ∧ Blk w2 (za.setRow B6 #[.int .i64 (W1 : Int), .int .i64 (T1 : Int), .int .u8 (M1 : Int), .int .i64 (hy : Int), .int .i64 (pr : Int), .float .f64 lo]) B5 31 #[.slice aC k cC, .slice aO (k + 1) cO] ∧ Blk w2 (za.setRow B6 #[.int .i64 (W1 : Int), .int .i64 (T1 : Int), .int .u8 (M1 : Int), .int .i64 (hy : Int), .int .i64 (pr : Int), .float .f64 lo]) B6 35 #[.int .i64 (W1 : Int), .int .i64 (T1 : Int), .int .u8 (M1 : Int), .int .i64 (hy : Int), .int .i64 (pr : Int), .float .f64 lo]) := ⟨HMa.out.1.store HMa.out.2.2.1 (by decide) (by decide) _, HMa.out.2.1.far HMa.out.2.2 (by decide) _, HMa.out.2.2.put _⟩
          obtain ⟨zb, hzb⟩ : ∃ Y, Y = za.setRow B6 #[.int .i64 (W1 : Int), .int .i64 (T1 : Int), .int .u8 (M1 : Int), .int .i64 (hy : Int), .int .i64 (pr : Int), .float .f64 lo] := ⟨_, rfl⟩
          rw [← hzb] at HXb HMb ⊢
          clear hzb
          refine hK.out _ _ (HKS.out _ HXb.out) (fun hHeld => ?_)
          clear hK
          (try simp only [Act.put, List.setIfInBounds_toArray, List.set_cons_zero, List.set_cons_succ])
          refine wpAnyH_done (by kernel_rfl) ?_ _
          clear hHeld
          go_wp2_with fail
          go_meet
          exact ⟨k, B5, B6, aC, aO, cC, cO, _, rfl, rfl, rfl, HMb.out.1, HMb.out.2.1, HMb.out.2.2, HXb.out⟩
        · rw [if_pos (by rfl)]
          go_simp
          obtain ⟨y3, hy3⟩ : ∃ Y, Y = y2.alloc (.cells #[.slice none 0 0, .slice none 0 0] 31) := ⟨_, rfl⟩
          obtain ⟨B5, hB5⟩ : ∃ b, b = y2.heap.size := ⟨_, rfl⟩
          have ho : Only (fun _ => False) y2 y3 := by rw [hy3]; exact (Only.refl _ _).alloc _
          have HXy3 : Hid (Only (fun _ => False) w2 y3) := HXy2.out.trans ho
          have HB5y3 : Hid (Blk w2 y3 B5 31 #[.slice none 0 0, .slice none 0 0]) := by rw [hy3, hB5]; exact Blk.made HXy2.out _ _
          have HB6y3 : Hid (Blk w2 y3 B6 35 #[.int .i64 0, .int .i64 0, .int .u8 0, .int .i64 0, .int .i64 0, .float .f64 0]) := HB6y2.out.keep ho
          have HMy3 : Hid (Made y3 L n0 k aC aO cC cO) := HMy2.out.keep ho
          rw [← hy3, ← hB5]
          clear hy3 hB5 ho
          refine hK.out _ _ (HKS.out _ HXy3.out) (fun hHeld => ?_)
          clear hK
          (try simp only [Act.put, List.setIfInBounds_toArray, List.set_cons_zero, List.set_cons_succ])
          refine wpAnyH_ready (rs := [3]) (by kernel_rfl) (by simp) ?_
          refine AllReadyH.cons rfl (fun K hK => ?_) AllReadyH.nil
          rw [if_pos (by rfl)]
          go_simp
          refine Calls.mono (HCF.out _) ?_
          rintro e y4 ⟨rfl, ho⟩
          have HMy4 : Hid (Made y4 L n0 k aC aO cC cO) := HMy3.out.keep ho
          have HXy4 : Hid (Only (fun _ => False) w2 y4) := HXy3.out.trans ho
          have HB5y4 : Hid (Blk w2 y4 B5 31 #[.slice none 0 0, .slice none 0 0]) := HB5y3.out.keep ho
          have HB6y4 : Hid (Blk w2 y4 B6 35 #[.int .i64 0, .int .i64 0, .int .u8 0, .int .i64 0, .int .i64 0, .float .f64 0]) := HB6y3.out.keep ho
          clear ho
          refine hK.out _ _ (HKS.out _ HXy4.out) (fun hHeld => ?_)
          clear hK
          (try simp only [Act.put, List.setIfInBounds_toArray, List.set_cons_zero, List.set_cons_succ])
          refine wpAnyH_ready (rs := [6]) (by kernel_rfl) (by simp) ?_
          refine AllReadyH.cons rfl (fun K hK => ?_) AllReadyH.nil
          rw [if_pos (by rfl)]
          have HXa : Hid (Only (fun _ => False) w2 (y4.setRow B5 #[.slice aC k cC, .slice aO (k + 1) cO])) := HXy4.out.setRowNew HB5y4.out.2 _
          refine wp_store_row 31 _ _ rfl B5 #[.slice aC k cC, .slice aO (k + 1) cO] rfl rfl 31 _ HB5y4.out.1 (by kernel_rfl) rfl (two_one _ _ _ _ _ _) ?_
          have HMa : Hid (Made (y4.setRow B5 #[.slice aC k cC, .slice aO (k + 1) cO]) L n0 k aC aO cC cO ∧ Blk w2 (y4.setRow B5 #[.slice aC k cC, .slice aO (k + 1) cO]) B5 31 #[.slice aC k cC, .slice aO (k + 1) cO] ∧ Blk w2 (y4.setRow B5 #[.slice aC k cC, .slice aO (k + 1) cO]) B6 35 #[.int .i64 0, .int .i64 0, .int .u8 0, .int .i64 0, .int .i64 0, .float .f64 0]) := ⟨HMy4.out.store HB5y4.out.1 (by decide) (by decide) _, HB5y4.out.put _, HB6y4.out.far HB5y4.out (by decide) _⟩
          obtain ⟨za, hza⟩ : ∃ Y, Y = y4.setRow B5 #[.slice aC k cC, .slice aO (k + 1) cO] := ⟨_, rfl⟩
          rw [← hza] at HXa HMa ⊢
          clear hza
          refine hK.out _ _ (HKS.out _ HXa.out) (fun hHeld => ?_)
          clear hK
          (try simp only [Act.put, List.setIfInBounds_toArray, List.set_cons_zero, List.set_cons_succ])
          refine wpAnyH_ready (rs := [7]) (by kernel_rfl) (by simp) ?_
          refine AllReadyH.cons rfl (fun K hK => ?_) AllReadyH.nil
          rw [if_pos (by rfl)]
          have HXb : Hid (Only (fun _ => False) w2 (za.setRow B6 #[.int .i64 (W1 : Int), .int .i64 (T1 : Int), .int .u8 (M1 : Int), .int .i64 (hy : Int), .int .i64 (pr : Int), .float .f64 lo])) := HXa.out.setRowNew HMa.out.2.2.2 _
          refine wp_store_row 35 _ _ rfl B6 #[.int .i64 (W1 : Int), .int .i64 (T1 : Int), .int .u8 (M1 : Int), .int .i64 (hy : Int), .int .i64 (pr : Int), .float .f64 lo] rfl rfl 35 _ HMa.out.2.2.1 (by kernel_rfl) rfl (cfg_one _ _ _ _ _ _) ?_
          have HMb : Hid (Made (za.setRow B6 #[.int .i64 (W1 : Int), .int .i64 (T1 : Int), .int .u8 (M1 : Int), .int .i64 (hy : Int), .int .i64 (pr : Int), .float .f64 lo]) L n0 k aC aO cC cO ∧ Blk w2 (za.setRow B6 #[.int .i64 (W1 : Int), .int .i64 (T1 : Int), .int .u8 (M1 : Int), .int .i64 (hy : Int), .int .i64 (pr : Int), .float .f64 lo]) B5 31 #[.slice aC k cC, .slice aO (k + 1) cO] ∧ Blk w2 (za.setRow B6 #[.int .i64 (W1 : Int), .int .i64 (T1 : Int), .int .u8 (M1 : Int), .int .i64 (hy : Int), .int .i64 (pr : Int), .float .f64 lo]) B6 35 #[.int .i64 (W1 : Int), .int .i64 (T1 : Int), .int .u8 (M1 : Int), .int .i64 (hy : Int), .int .i64 (pr : Int), .float .f64 lo]) := ⟨HMa.out.1.store HMa.out.2.2.1 (by decide) (by decide) _, HMa.out.2.1.far HMa.out.2.2 (by decide) _, HMa.out.2.2.put _⟩
          obtain ⟨zb, hzb⟩ : ∃ Y, Y = za.setRow B6 #[.int .i64 (W1 : Int), .int .i64 (T1 : Int), .int .u8 (M1 : Int), .int .i64 (hy : Int), .int .i64 (pr : Int), .float .f64 lo] := ⟨_, rfl⟩
          rw [← hzb] at HXb HMb ⊢
          clear hzb
          refine hK.out _ _ (HKS.out _ HXb.out) (fun hHeld => ?_)
          clear hK
          (try simp only [Act.put, List.setIfInBounds_toArray, List.set_cons_zero, List.set_cons_succ])
          refine wpAnyH_done (by kernel_rfl) ?_ _
          clear hHeld
          go_wp2_with fail
          go_meet
          exact ⟨k, B5, B6, aC, aO, cC, cO, _, rfl, rfl, rfl, HMb.out.1, HMb.out.2.1, HMb.out.2.2, HXb.out⟩
    · rw [if_pos (by rfl)]
      go_simp
      obtain ⟨y1, hy1⟩ : ∃ Y, Y = (w2.alloc (.cells #[.slice none 0 0, .slice none 0 0] 31)).drew := ⟨_, rfl⟩
      obtain ⟨B5, hB5⟩ : ∃ b, b = w2.heap.size := ⟨_, rfl⟩
      have ho : Only (fun _ => False) w2 y1 := by rw [hy1]; exact ((Only.refl _ _).alloc _).drew
      have HXy1 : Hid (Only (fun _ => False) w2 y1) := ho
      have HB5y1 : Hid (Blk w2 y1 B5 31 #[.slice none 0 0, .slice none 0 0]) := by rw [hy1, hB5]; exact (Blk.made (Only.refl _ _) _ _).drew
      rw [← hy1, ← hB5]
      clear hy1 hB5 ho
      refine hK.out _ _ (HKS.out _ HXy1.out) (fun hHeld => ?_)
      clear hK
      (try simp only [Act.put, List.setIfInBounds_toArray, List.set_cons_zero, List.set_cons_succ])
      refine wpAnyH_ready (rs := [1, 5]) (by kernel_rfl) (by simp) ?_
      refine AllReadyH.cons rfl (fun K hK => ?_) (AllReadyH.cons rfl (fun K hK => ?_) AllReadyH.nil)
      · rw [if_pos (by rfl)]
        go_simp
        refine Calls.mono (HPA.out _ (HW2.out.trans HXy1.out)) ?_
        rintro e y2 ⟨k, aC, aO, cC, cO, rfl, hmd, ho⟩
        have HMy2 : Hid (Made y2 L n0 k aC aO cC cO) := hmd
        clear hmd
        have HXy2 : Hid (Only (fun _ => False) w2 y2) := HXy1.out.trans ho
        have HB5y2 : Hid (Blk w2 y2 B5 31 #[.slice none 0 0, .slice none 0 0]) := HB5y1.out.keep ho
        clear ho
        refine hK.out _ _ (HKS.out _ HXy2.out) (fun hHeld => ?_)
        clear hK
        (try simp only [Act.put, List.setIfInBounds_toArray, List.set_cons_zero, List.set_cons_succ])
        refine wpAnyH_ready (rs := [3, 5]) (by kernel_rfl) (by simp) ?_
        refine AllReadyH.cons rfl (fun K hK => ?_) (AllReadyH.cons rfl (fun K hK => ?_) AllReadyH.nil)
        · rw [if_pos (by rfl)]
          go_simp
          refine Calls.mono (HCF.out _) ?_
          rintro e y3 ⟨rfl, ho⟩
          have HMy3 : Hid (Made y3 L n0 k aC aO cC cO) := HMy2.out.keep ho
          have HXy3 : Hid (Only (fun _ => False) w2 y3) := HXy2.out.trans ho
          have HB5y3 : Hid (Blk w2 y3 B5 31 #[.slice none 0 0, .slice none 0 0]) := HB5y2.out.keep ho
          clear ho
          refine hK.out _ _ (HKS.out _ HXy3.out) (fun hHeld => ?_)
          clear hK
          (try simp only [Act.put, List.setIfInBounds_toArray, List.set_cons_zero, List.set_cons_succ])
          refine wpAnyH_ready (rs := [5]) (by kernel_rfl) (by simp) ?_
          refine AllReadyH.cons rfl (fun K hK => ?_) AllReadyH.nil
          rw [if_pos (by rfl)]
          go_simp
          obtain ⟨y4, hy4⟩ : ∃ Y, Y = y3.alloc (.cells #[.int .i64 0, .int .i64 0, .int .u8 0, .int .i64 0, .int .i64 0, .float .f64 0] 35) := ⟨_, rfl⟩
          obtain ⟨B6, hB6⟩ : ∃ b, b = y3.heap.size := ⟨_, rfl⟩
          have ho : Only (fun _ => False) y3 y4 := by rw [hy4]; exact (Only.refl _ _).alloc _
          have HXy4 : Hid (Only (fun _ => False) w2 y4) := HXy3.out.trans ho
          have HB6y4 : Hid (Blk w2 y4 B6 35 #[.int .i64 0, .int .i64 0, .int .u8 0, .int .i64 0, .int .i64 0, .float .f64 0]) := by rw [hy4, hB6]; exact Blk.made HXy3.out _ _
          have HB5y4 : Hid (Blk w2 y4 B5 31 #[.slice none 0 0, .slice none 0 0]) := HB5y3.out.keep ho
          have HMy4 : Hid (Made y4 L n0 k aC aO cC cO) := HMy3.out.keep ho
          rw [← hy4, ← hB6]
          clear hy4 hB6 ho
          refine hK.out _ _ (HKS.out _ HXy4.out) (fun hHeld => ?_)
          clear hK
          (try simp only [Act.put, List.setIfInBounds_toArray, List.set_cons_zero, List.set_cons_succ])
          refine wpAnyH_ready (rs := [6]) (by kernel_rfl) (by simp) ?_
          refine AllReadyH.cons rfl (fun K hK => ?_) AllReadyH.nil
          rw [if_pos (by rfl)]
          have HXa : Hid (Only (fun _ => False) w2 (y4.setRow B5 #[.slice aC k cC, .slice aO (k + 1) cO])) := HXy4.out.setRowNew HB5y4.out.2 _
          refine wp_store_row 31 _ _ rfl B5 #[.slice aC k cC, .slice aO (k + 1) cO] rfl rfl 31 _ HB5y4.out.1 (by kernel_rfl) rfl (two_one _ _ _ _ _ _) ?_
          have HMa : Hid (Made (y4.setRow B5 #[.slice aC k cC, .slice aO (k + 1) cO]) L n0 k aC aO cC cO ∧ Blk w2 (y4.setRow B5 #[.slice aC k cC, .slice aO (k + 1) cO]) B5 31 #[.slice aC k cC, .slice aO (k + 1) cO] ∧ Blk w2 (y4.setRow B5 #[.slice aC k cC, .slice aO (k + 1) cO]) B6 35 #[.int .i64 0, .int .i64 0, .int .u8 0, .int .i64 0, .int .i64 0, .float .f64 0]) := ⟨HMy4.out.store HB5y4.out.1 (by decide) (by decide) _, HB5y4.out.put _, HB6y4.out.far HB5y4.out (by decide) _⟩
          obtain ⟨za, hza⟩ : ∃ Y, Y = y4.setRow B5 #[.slice aC k cC, .slice aO (k + 1) cO] := ⟨_, rfl⟩
          rw [← hza] at HXa HMa ⊢
          clear hza
          refine hK.out _ _ (HKS.out _ HXa.out) (fun hHeld => ?_)
          clear hK
          (try simp only [Act.put, List.setIfInBounds_toArray, List.set_cons_zero, List.set_cons_succ])
          refine wpAnyH_ready (rs := [7]) (by kernel_rfl) (by simp) ?_
          refine AllReadyH.cons rfl (fun K hK => ?_) AllReadyH.nil
          rw [if_pos (by rfl)]
          have HXb : Hid (Only (fun _ => False) w2 (za.setRow B6 #[.int .i64 (W1 : Int), .int .i64 (T1 : Int), .int .u8 (M1 : Int), .int .i64 (hy : Int), .int .i64 (pr : Int), .float .f64 lo])) := HXa.out.setRowNew HMa.out.2.2.2 _
          refine wp_store_row 35 _ _ rfl B6 #[.int .i64 (W1 : Int), .int .i64 (T1 : Int), .int .u8 (M1 : Int), .int .i64 (hy : Int), .int .i64 (pr : Int), .float .f64 lo] rfl rfl 35 _ HMa.out.2.2.1 (by kernel_rfl) rfl (cfg_one _ _ _ _ _ _) ?_
          have HMb : Hid (Made (za.setRow B6 #[.int .i64 (W1 : Int), .int .i64 (T1 : Int), .int .u8 (M1 : Int), .int .i64 (hy : Int), .int .i64 (pr : Int), .float .f64 lo]) L n0 k aC aO cC cO ∧ Blk w2 (za.setRow B6 #[.int .i64 (W1 : Int), .int .i64 (T1 : Int), .int .u8 (M1 : Int), .int .i64 (hy : Int), .int .i64 (pr : Int), .float .f64 lo]) B5 31 #[.slice aC k cC, .slice aO (k + 1) cO] ∧ Blk w2 (za.setRow B6 #[.int .i64 (W1 : Int), .int .i64 (T1 : Int), .int .u8 (M1 : Int), .int .i64 (hy : Int), .int .i64 (pr : Int), .float .f64 lo]) B6 35 #[.int .i64 (W1 : Int), .int .i64 (T1 : Int), .int .u8 (M1 : Int), .int .i64 (hy : Int), .int .i64 (pr : Int), .float .f64 lo]) := ⟨HMa.out.1.store HMa.out.2.2.1 (by decide) (by decide) _, HMa.out.2.1.far HMa.out.2.2 (by decide) _, HMa.out.2.2.put _⟩
          obtain ⟨zb, hzb⟩ : ∃ Y, Y = za.setRow B6 #[.int .i64 (W1 : Int), .int .i64 (T1 : Int), .int .u8 (M1 : Int), .int .i64 (hy : Int), .int .i64 (pr : Int), .float .f64 lo] := ⟨_, rfl⟩
          rw [← hzb] at HXb HMb ⊢
          clear hzb
          refine hK.out _ _ (HKS.out _ HXb.out) (fun hHeld => ?_)
          clear hK
          (try simp only [Act.put, List.setIfInBounds_toArray, List.set_cons_zero, List.set_cons_succ])
          refine wpAnyH_done (by kernel_rfl) ?_ _
          clear hHeld
          go_wp2_with fail
          go_meet
          exact ⟨k, B5, B6, aC, aO, cC, cO, _, rfl, rfl, rfl, HMb.out.1, HMb.out.2.1, HMb.out.2.2, HXb.out⟩
        · rw [if_pos (by rfl)]
          go_simp
          obtain ⟨y3, hy3⟩ : ∃ Y, Y = y2.alloc (.cells #[.int .i64 0, .int .i64 0, .int .u8 0, .int .i64 0, .int .i64 0, .float .f64 0] 35) := ⟨_, rfl⟩
          obtain ⟨B6, hB6⟩ : ∃ b, b = y2.heap.size := ⟨_, rfl⟩
          have ho : Only (fun _ => False) y2 y3 := by rw [hy3]; exact (Only.refl _ _).alloc _
          have HXy3 : Hid (Only (fun _ => False) w2 y3) := HXy2.out.trans ho
          have HB6y3 : Hid (Blk w2 y3 B6 35 #[.int .i64 0, .int .i64 0, .int .u8 0, .int .i64 0, .int .i64 0, .float .f64 0]) := by rw [hy3, hB6]; exact Blk.made HXy2.out _ _
          have HB5y3 : Hid (Blk w2 y3 B5 31 #[.slice none 0 0, .slice none 0 0]) := HB5y2.out.keep ho
          have HMy3 : Hid (Made y3 L n0 k aC aO cC cO) := HMy2.out.keep ho
          rw [← hy3, ← hB6]
          clear hy3 hB6 ho
          refine hK.out _ _ (HKS.out _ HXy3.out) (fun hHeld => ?_)
          clear hK
          (try simp only [Act.put, List.setIfInBounds_toArray, List.set_cons_zero, List.set_cons_succ])
          refine wpAnyH_ready (rs := [3]) (by kernel_rfl) (by simp) ?_
          refine AllReadyH.cons rfl (fun K hK => ?_) AllReadyH.nil
          rw [if_pos (by rfl)]
          go_simp
          refine Calls.mono (HCF.out _) ?_
          rintro e y4 ⟨rfl, ho⟩
          have HMy4 : Hid (Made y4 L n0 k aC aO cC cO) := HMy3.out.keep ho
          have HXy4 : Hid (Only (fun _ => False) w2 y4) := HXy3.out.trans ho
          have HB5y4 : Hid (Blk w2 y4 B5 31 #[.slice none 0 0, .slice none 0 0]) := HB5y3.out.keep ho
          have HB6y4 : Hid (Blk w2 y4 B6 35 #[.int .i64 0, .int .i64 0, .int .u8 0, .int .i64 0, .int .i64 0, .float .f64 0]) := HB6y3.out.keep ho
          clear ho
          refine hK.out _ _ (HKS.out _ HXy4.out) (fun hHeld => ?_)
          clear hK
          (try simp only [Act.put, List.setIfInBounds_toArray, List.set_cons_zero, List.set_cons_succ])
          refine wpAnyH_ready (rs := [6]) (by kernel_rfl) (by simp) ?_
          refine AllReadyH.cons rfl (fun K hK => ?_) AllReadyH.nil
          rw [if_pos (by rfl)]
          have HXa : Hid (Only (fun _ => False) w2 (y4.setRow B5 #[.slice aC k cC, .slice aO (k + 1) cO])) := HXy4.out.setRowNew HB5y4.out.2 _
          refine wp_store_row 31 _ _ rfl B5 #[.slice aC k cC, .slice aO (k + 1) cO] rfl rfl 31 _ HB5y4.out.1 (by kernel_rfl) rfl (two_one _ _ _ _ _ _) ?_
          have HMa : Hid (Made (y4.setRow B5 #[.slice aC k cC, .slice aO (k + 1) cO]) L n0 k aC aO cC cO ∧ Blk w2 (y4.setRow B5 #[.slice aC k cC, .slice aO (k + 1) cO]) B5 31 #[.slice aC k cC, .slice aO (k + 1) cO] ∧ Blk w2 (y4.setRow B5 #[.slice aC k cC, .slice aO (k + 1) cO]) B6 35 #[.int .i64 0, .int .i64 0, .int .u8 0, .int .i64 0, .int .i64 0, .float .f64 0]) := ⟨HMy4.out.store HB5y4.out.1 (by decide) (by decide) _, HB5y4.out.put _, HB6y4.out.far HB5y4.out (by decide) _⟩
          obtain ⟨za, hza⟩ : ∃ Y, Y = y4.setRow B5 #[.slice aC k cC, .slice aO (k + 1) cO] := ⟨_, rfl⟩
          rw [← hza] at HXa HMa ⊢
          clear hza
          refine hK.out _ _ (HKS.out _ HXa.out) (fun hHeld => ?_)
          clear hK
          (try simp only [Act.put, List.setIfInBounds_toArray, List.set_cons_zero, List.set_cons_succ])
          refine wpAnyH_ready (rs := [7]) (by kernel_rfl) (by simp) ?_
          refine AllReadyH.cons rfl (fun K hK => ?_) AllReadyH.nil
          rw [if_pos (by rfl)]
          have HXb : Hid (Only (fun _ => False) w2 (za.setRow B6 #[.int .i64 (W1 : Int), .int .i64 (T1 : Int), .int .u8 (M1 : Int), .int .i64 (hy : Int), .int .i64 (pr : Int), .float .f64 lo])) := HXa.out.setRowNew HMa.out.2.2.2 _
          refine wp_store_row 35 _ _ rfl B6 #[.int .i64 (W1 : Int), .int .i64 (T1 : Int), .int .u8 (M1 : Int), .int .i64 (hy : Int), .int .i64 (pr : Int), .float .f64 lo] rfl rfl 35 _ HMa.out.2.2.1 (by kernel_rfl) rfl (cfg_one _ _ _ _ _ _) ?_
          have HMb : Hid (Made (za.setRow B6 #[.int .i64 (W1 : Int), .int .i64 (T1 : Int), .int .u8 (M1 : Int), .int .i64 (hy : Int), .int .i64 (pr : Int), .float .f64 lo]) L n0 k aC aO cC cO ∧ Blk w2 (za.setRow B6 #[.int .i64 (W1 : Int), .int .i64 (T1 : Int), .int .u8 (M1 : Int), .int .i64 (hy : Int), .int .i64 (pr : Int), .float .f64 lo]) B5 31 #[.slice aC k cC, .slice aO (k + 1) cO] ∧ Blk w2 (za.setRow B6 #[.int .i64 (W1 : Int), .int .i64 (T1 : Int), .int .u8 (M1 : Int), .int .i64 (hy : Int), .int .i64 (pr : Int), .float .f64 lo]) B6 35 #[.int .i64 (W1 : Int), .int .i64 (T1 : Int), .int .u8 (M1 : Int), .int .i64 (hy : Int), .int .i64 (pr : Int), .float .f64 lo]) := ⟨HMa.out.1.store HMa.out.2.2.1 (by decide) (by decide) _, HMa.out.2.1.far HMa.out.2.2 (by decide) _, HMa.out.2.2.put _⟩
          obtain ⟨zb, hzb⟩ : ∃ Y, Y = za.setRow B6 #[.int .i64 (W1 : Int), .int .i64 (T1 : Int), .int .u8 (M1 : Int), .int .i64 (hy : Int), .int .i64 (pr : Int), .float .f64 lo] := ⟨_, rfl⟩
          rw [← hzb] at HXb HMb ⊢
          clear hzb
          refine hK.out _ _ (HKS.out _ HXb.out) (fun hHeld => ?_)
          clear hK
          (try simp only [Act.put, List.setIfInBounds_toArray, List.set_cons_zero, List.set_cons_succ])
          refine wpAnyH_done (by kernel_rfl) ?_ _
          clear hHeld
          go_wp2_with fail
          go_meet
          exact ⟨k, B5, B6, aC, aO, cC, cO, _, rfl, rfl, rfl, HMb.out.1, HMb.out.2.1, HMb.out.2.2, HXb.out⟩
      · rw [if_pos (by rfl)]
        go_simp
        obtain ⟨y2, hy2⟩ : ∃ Y, Y = y1.alloc (.cells #[.int .i64 0, .int .i64 0, .int .u8 0, .int .i64 0, .int .i64 0, .float .f64 0] 35) := ⟨_, rfl⟩
        obtain ⟨B6, hB6⟩ : ∃ b, b = y1.heap.size := ⟨_, rfl⟩
        have ho : Only (fun _ => False) y1 y2 := by rw [hy2]; exact (Only.refl _ _).alloc _
        have HXy2 : Hid (Only (fun _ => False) w2 y2) := HXy1.out.trans ho
        have HB6y2 : Hid (Blk w2 y2 B6 35 #[.int .i64 0, .int .i64 0, .int .u8 0, .int .i64 0, .int .i64 0, .float .f64 0]) := by rw [hy2, hB6]; exact Blk.made HXy1.out _ _
        have HB5y2 : Hid (Blk w2 y2 B5 31 #[.slice none 0 0, .slice none 0 0]) := HB5y1.out.keep ho
        rw [← hy2, ← hB6]
        clear hy2 hB6 ho
        refine hK.out _ _ (HKS.out _ HXy2.out) (fun hHeld => ?_)
        clear hK
        (try simp only [Act.put, List.setIfInBounds_toArray, List.set_cons_zero, List.set_cons_succ])
        refine wpAnyH_ready (rs := [1]) (by kernel_rfl) (by simp) ?_
        refine AllReadyH.cons rfl (fun K hK => ?_) AllReadyH.nil
        rw [if_pos (by rfl)]
        go_simp
        refine Calls.mono (HPA.out _ (HW2.out.trans HXy2.out)) ?_
        rintro e y3 ⟨k, aC, aO, cC, cO, rfl, hmd, ho⟩
        have HMy3 : Hid (Made y3 L n0 k aC aO cC cO) := hmd
        clear hmd
        have HXy3 : Hid (Only (fun _ => False) w2 y3) := HXy2.out.trans ho
        have HB5y3 : Hid (Blk w2 y3 B5 31 #[.slice none 0 0, .slice none 0 0]) := HB5y2.out.keep ho
        have HB6y3 : Hid (Blk w2 y3 B6 35 #[.int .i64 0, .int .i64 0, .int .u8 0, .int .i64 0, .int .i64 0, .float .f64 0]) := HB6y2.out.keep ho
        clear ho
        refine hK.out _ _ (HKS.out _ HXy3.out) (fun hHeld => ?_)
        clear hK
        (try simp only [Act.put, List.setIfInBounds_toArray, List.set_cons_zero, List.set_cons_succ])
        refine wpAnyH_ready (rs := [3]) (by kernel_rfl) (by simp) ?_
        refine AllReadyH.cons rfl (fun K hK => ?_) AllReadyH.nil
        rw [if_pos (by rfl)]
        go_simp
        refine Calls.mono (HCF.out _) ?_
        rintro e y4 ⟨rfl, ho⟩
        have HMy4 : Hid (Made y4 L n0 k aC aO cC cO) := HMy3.out.keep ho
        have HXy4 : Hid (Only (fun _ => False) w2 y4) := HXy3.out.trans ho
        have HB5y4 : Hid (Blk w2 y4 B5 31 #[.slice none 0 0, .slice none 0 0]) := HB5y3.out.keep ho
        have HB6y4 : Hid (Blk w2 y4 B6 35 #[.int .i64 0, .int .i64 0, .int .u8 0, .int .i64 0, .int .i64 0, .float .f64 0]) := HB6y3.out.keep ho
        clear ho
        refine hK.out _ _ (HKS.out _ HXy4.out) (fun hHeld => ?_)
        clear hK
        (try simp only [Act.put, List.setIfInBounds_toArray, List.set_cons_zero, List.set_cons_succ])
        refine wpAnyH_ready (rs := [6]) (by kernel_rfl) (by simp) ?_
        refine AllReadyH.cons rfl (fun K hK => ?_) AllReadyH.nil
        rw [if_pos (by rfl)]
        have HXa : Hid (Only (fun _ => False) w2 (y4.setRow B5 #[.slice aC k cC, .slice aO (k + 1) cO])) := HXy4.out.setRowNew HB5y4.out.2 _
        refine wp_store_row 31 _ _ rfl B5 #[.slice aC k cC, .slice aO (k + 1) cO] rfl rfl 31 _ HB5y4.out.1 (by kernel_rfl) rfl (two_one _ _ _ _ _ _) ?_
        have HMa : Hid (Made (y4.setRow B5 #[.slice aC k cC, .slice aO (k + 1) cO]) L n0 k aC aO cC cO ∧ Blk w2 (y4.setRow B5 #[.slice aC k cC, .slice aO (k + 1) cO]) B5 31 #[.slice aC k cC, .slice aO (k + 1) cO] ∧ Blk w2 (y4.setRow B5 #[.slice aC k cC, .slice aO (k + 1) cO]) B6 35 #[.int .i64 0, .int .i64 0, .int .u8 0, .int .i64 0, .int .i64 0, .float .f64 0]) := ⟨HMy4.out.store HB5y4.out.1 (by decide) (by decide) _, HB5y4.out.put _, HB6y4.out.far HB5y4.out (by decide) _⟩
        obtain ⟨za, hza⟩ : ∃ Y, Y = y4.setRow B5 #[.slice aC k cC, .slice aO (k + 1) cO] := ⟨_, rfl⟩
        rw [← hza] at HXa HMa ⊢
        clear hza
        refine hK.out _ _ (HKS.out _ HXa.out) (fun hHeld => ?_)
        clear hK
        (try simp only [Act.put, List.setIfInBounds_toArray, List.set_cons_zero, List.set_cons_succ])
        refine wpAnyH_ready (rs := [7]) (by kernel_rfl) (by simp) ?_
        refine AllReadyH.cons rfl (fun K hK => ?_) AllReadyH.nil
        rw [if_pos (by rfl)]
        have HXb : Hid (Only (fun _ => False) w2 (za.setRow B6 #[.int .i64 (W1 : Int), .int .i64 (T1 : Int), .int .u8 (M1 : Int), .int .i64 (hy : Int), .int .i64 (pr : Int), .float .f64 lo])) := HXa.out.setRowNew HMa.out.2.2.2 _
        refine wp_store_row 35 _ _ rfl B6 #[.int .i64 (W1 : Int), .int .i64 (T1 : Int), .int .u8 (M1 : Int), .int .i64 (hy : Int), .int .i64 (pr : Int), .float .f64 lo] rfl rfl 35 _ HMa.out.2.2.1 (by kernel_rfl) rfl (cfg_one _ _ _ _ _ _) ?_
        have HMb : Hid (Made (za.setRow B6 #[.int .i64 (W1 : Int), .int .i64 (T1 : Int), .int .u8 (M1 : Int), .int .i64 (hy : Int), .int .i64 (pr : Int), .float .f64 lo]) L n0 k aC aO cC cO ∧ Blk w2 (za.setRow B6 #[.int .i64 (W1 : Int), .int .i64 (T1 : Int), .int .u8 (M1 : Int), .int .i64 (hy : Int), .int .i64 (pr : Int), .float .f64 lo]) B5 31 #[.slice aC k cC, .slice aO (k + 1) cO] ∧ Blk w2 (za.setRow B6 #[.int .i64 (W1 : Int), .int .i64 (T1 : Int), .int .u8 (M1 : Int), .int .i64 (hy : Int), .int .i64 (pr : Int), .float .f64 lo]) B6 35 #[.int .i64 (W1 : Int), .int .i64 (T1 : Int), .int .u8 (M1 : Int), .int .i64 (hy : Int), .int .i64 (pr : Int), .float .f64 lo]) := ⟨HMa.out.1.store HMa.out.2.2.1 (by decide) (by decide) _, HMa.out.2.1.far HMa.out.2.2 (by decide) _, HMa.out.2.2.put _⟩
        obtain ⟨zb, hzb⟩ : ∃ Y, Y = za.setRow B6 #[.int .i64 (W1 : Int), .int .i64 (T1 : Int), .int .u8 (M1 : Int), .int .i64 (hy : Int), .int .i64 (pr : Int), .float .f64 lo] := ⟨_, rfl⟩
        rw [← hzb] at HXb HMb ⊢
        clear hzb
        refine hK.out _ _ (HKS.out _ HXb.out) (fun hHeld => ?_)
        clear hK
        (try simp only [Act.put, List.setIfInBounds_toArray, List.set_cons_zero, List.set_cons_succ])
        refine wpAnyH_done (by kernel_rfl) ?_ _
        clear hHeld
        go_wp2_with fail
        go_meet
        exact ⟨k, B5, B6, aC, aO, cC, cO, _, rfl, rfl, rfl, HMb.out.1, HMb.out.2.1, HMb.out.2.2, HXb.out⟩
    · rw [if_pos (by rfl)]
      go_simp
      obtain ⟨y1, hy1⟩ : ∃ Y, Y = (w2.alloc (.cells #[.int .i64 0, .int .i64 0, .int .u8 0, .int .i64 0, .int .i64 0, .float .f64 0] 35)).drew := ⟨_, rfl⟩
      obtain ⟨B6, hB6⟩ : ∃ b, b = w2.heap.size := ⟨_, rfl⟩
      have ho : Only (fun _ => False) w2 y1 := by rw [hy1]; exact ((Only.refl _ _).alloc _).drew
      have HXy1 : Hid (Only (fun _ => False) w2 y1) := ho
      have HB6y1 : Hid (Blk w2 y1 B6 35 #[.int .i64 0, .int .i64 0, .int .u8 0, .int .i64 0, .int .i64 0, .float .f64 0]) := by rw [hy1, hB6]; exact (Blk.made (Only.refl _ _) _ _).drew
      rw [← hy1, ← hB6]
      clear hy1 hB6 ho
      refine hK.out _ _ (HKS.out _ HXy1.out) (fun hHeld => ?_)
      clear hK
      (try simp only [Act.put, List.setIfInBounds_toArray, List.set_cons_zero, List.set_cons_succ])
      refine wpAnyH_ready (rs := [1, 4]) (by kernel_rfl) (by simp) ?_
      refine AllReadyH.cons rfl (fun K hK => ?_) (AllReadyH.cons rfl (fun K hK => ?_) AllReadyH.nil)
      · rw [if_pos (by rfl)]
        go_simp
        refine Calls.mono (HPA.out _ (HW2.out.trans HXy1.out)) ?_
        rintro e y2 ⟨k, aC, aO, cC, cO, rfl, hmd, ho⟩
        have HMy2 : Hid (Made y2 L n0 k aC aO cC cO) := hmd
        clear hmd
        have HXy2 : Hid (Only (fun _ => False) w2 y2) := HXy1.out.trans ho
        have HB6y2 : Hid (Blk w2 y2 B6 35 #[.int .i64 0, .int .i64 0, .int .u8 0, .int .i64 0, .int .i64 0, .float .f64 0]) := HB6y1.out.keep ho
        clear ho
        refine hK.out _ _ (HKS.out _ HXy2.out) (fun hHeld => ?_)
        clear hK
        (try simp only [Act.put, List.setIfInBounds_toArray, List.set_cons_zero, List.set_cons_succ])
        refine wpAnyH_ready (rs := [3, 4]) (by kernel_rfl) (by simp) ?_
        refine AllReadyH.cons rfl (fun K hK => ?_) (AllReadyH.cons rfl (fun K hK => ?_) AllReadyH.nil)
        · rw [if_pos (by rfl)]
          go_simp
          refine Calls.mono (HCF.out _) ?_
          rintro e y3 ⟨rfl, ho⟩
          have HMy3 : Hid (Made y3 L n0 k aC aO cC cO) := HMy2.out.keep ho
          have HXy3 : Hid (Only (fun _ => False) w2 y3) := HXy2.out.trans ho
          have HB6y3 : Hid (Blk w2 y3 B6 35 #[.int .i64 0, .int .i64 0, .int .u8 0, .int .i64 0, .int .i64 0, .float .f64 0]) := HB6y2.out.keep ho
          clear ho
          refine hK.out _ _ (HKS.out _ HXy3.out) (fun hHeld => ?_)
          clear hK
          (try simp only [Act.put, List.setIfInBounds_toArray, List.set_cons_zero, List.set_cons_succ])
          refine wpAnyH_ready (rs := [4]) (by kernel_rfl) (by simp) ?_
          refine AllReadyH.cons rfl (fun K hK => ?_) AllReadyH.nil
          rw [if_pos (by rfl)]
          go_simp
          obtain ⟨y4, hy4⟩ : ∃ Y, Y = y3.alloc (.cells #[.slice none 0 0, .slice none 0 0] 31) := ⟨_, rfl⟩
          obtain ⟨B5, hB5⟩ : ∃ b, b = y3.heap.size := ⟨_, rfl⟩
          have ho : Only (fun _ => False) y3 y4 := by rw [hy4]; exact (Only.refl _ _).alloc _
          have HXy4 : Hid (Only (fun _ => False) w2 y4) := HXy3.out.trans ho
          have HB5y4 : Hid (Blk w2 y4 B5 31 #[.slice none 0 0, .slice none 0 0]) := by rw [hy4, hB5]; exact Blk.made HXy3.out _ _
          have HB6y4 : Hid (Blk w2 y4 B6 35 #[.int .i64 0, .int .i64 0, .int .u8 0, .int .i64 0, .int .i64 0, .float .f64 0]) := HB6y3.out.keep ho
          have HMy4 : Hid (Made y4 L n0 k aC aO cC cO) := HMy3.out.keep ho
          rw [← hy4, ← hB5]
          clear hy4 hB5 ho
          refine hK.out _ _ (HKS.out _ HXy4.out) (fun hHeld => ?_)
          clear hK
          (try simp only [Act.put, List.setIfInBounds_toArray, List.set_cons_zero, List.set_cons_succ])
          refine wpAnyH_ready (rs := [6]) (by kernel_rfl) (by simp) ?_
          refine AllReadyH.cons rfl (fun K hK => ?_) AllReadyH.nil
          rw [if_pos (by rfl)]
          have HXa : Hid (Only (fun _ => False) w2 (y4.setRow B5 #[.slice aC k cC, .slice aO (k + 1) cO])) := HXy4.out.setRowNew HB5y4.out.2 _
          refine wp_store_row 31 _ _ rfl B5 #[.slice aC k cC, .slice aO (k + 1) cO] rfl rfl 31 _ HB5y4.out.1 (by kernel_rfl) rfl (two_one _ _ _ _ _ _) ?_
          have HMa : Hid (Made (y4.setRow B5 #[.slice aC k cC, .slice aO (k + 1) cO]) L n0 k aC aO cC cO ∧ Blk w2 (y4.setRow B5 #[.slice aC k cC, .slice aO (k + 1) cO]) B5 31 #[.slice aC k cC, .slice aO (k + 1) cO] ∧ Blk w2 (y4.setRow B5 #[.slice aC k cC, .slice aO (k + 1) cO]) B6 35 #[.int .i64 0, .int .i64 0, .int .u8 0, .int .i64 0, .int .i64 0, .float .f64 0]) := ⟨HMy4.out.store HB5y4.out.1 (by decide) (by decide) _, HB5y4.out.put _, HB6y4.out.far HB5y4.out (by decide) _⟩
          obtain ⟨za, hza⟩ : ∃ Y, Y = y4.setRow B5 #[.slice aC k cC, .slice aO (k + 1) cO] := ⟨_, rfl⟩
          rw [← hza] at HXa HMa ⊢
          clear hza
          refine hK.out _ _ (HKS.out _ HXa.out) (fun hHeld => ?_)
          clear hK
          (try simp only [Act.put, List.setIfInBounds_toArray, List.set_cons_zero, List.set_cons_succ])
          refine wpAnyH_ready (rs := [7]) (by kernel_rfl) (by simp) ?_
          refine AllReadyH.cons rfl (fun K hK => ?_) AllReadyH.nil
          rw [if_pos (by rfl)]
          have HXb : Hid (Only (fun _ => False) w2 (za.setRow B6 #[.int .i64 (W1 : Int), .int .i64 (T1 : Int), .int .u8 (M1 : Int), .int .i64 (hy : Int), .int .i64 (pr : Int), .float .f64 lo])) := HXa.out.setRowNew HMa.out.2.2.2 _
          refine wp_store_row 35 _ _ rfl B6 #[.int .i64 (W1 : Int), .int .i64 (T1 : Int), .int .u8 (M1 : Int), .int .i64 (hy : Int), .int .i64 (pr : Int), .float .f64 lo] rfl rfl 35 _ HMa.out.2.2.1 (by kernel_rfl) rfl (cfg_one _ _ _ _ _ _) ?_
          have HMb : Hid (Made (za.setRow B6 #[.int .i64 (W1 : Int), .int .i64 (T1 : Int), .int .u8 (M1 : Int), .int .i64 (hy : Int), .int .i64 (pr : Int), .float .f64 lo]) L n0 k aC aO cC cO ∧ Blk w2 (za.setRow B6 #[.int .i64 (W1 : Int), .int .i64 (T1 : Int), .int .u8 (M1 : Int), .int .i64 (hy : Int), .int .i64 (pr : Int), .float .f64 lo]) B5 31 #[.slice aC k cC, .slice aO (k + 1) cO] ∧ Blk w2 (za.setRow B6 #[.int .i64 (W1 : Int), .int .i64 (T1 : Int), .int .u8 (M1 : Int), .int .i64 (hy : Int), .int .i64 (pr : Int), .float .f64 lo]) B6 35 #[.int .i64 (W1 : Int), .int .i64 (T1 : Int), .int .u8 (M1 : Int), .int .i64 (hy : Int), .int .i64 (pr : Int), .float .f64 lo]) := ⟨HMa.out.1.store HMa.out.2.2.1 (by decide) (by decide) _, HMa.out.2.1.far HMa.out.2.2 (by decide) _, HMa.out.2.2.put _⟩
          obtain ⟨zb, hzb⟩ : ∃ Y, Y = za.setRow B6 #[.int .i64 (W1 : Int), .int .i64 (T1 : Int), .int .u8 (M1 : Int), .int .i64 (hy : Int), .int .i64 (pr : Int), .float .f64 lo] := ⟨_, rfl⟩
          rw [← hzb] at HXb HMb ⊢
          clear hzb
          refine hK.out _ _ (HKS.out _ HXb.out) (fun hHeld => ?_)
          clear hK
          (try simp only [Act.put, List.setIfInBounds_toArray, List.set_cons_zero, List.set_cons_succ])
          refine wpAnyH_done (by kernel_rfl) ?_ _
          clear hHeld
          go_wp2_with fail
          go_meet
          exact ⟨k, B5, B6, aC, aO, cC, cO, _, rfl, rfl, rfl, HMb.out.1, HMb.out.2.1, HMb.out.2.2, HXb.out⟩
        · rw [if_pos (by rfl)]
          go_simp
          obtain ⟨y3, hy3⟩ : ∃ Y, Y = y2.alloc (.cells #[.slice none 0 0, .slice none 0 0] 31) := ⟨_, rfl⟩
          obtain ⟨B5, hB5⟩ : ∃ b, b = y2.heap.size := ⟨_, rfl⟩
          have ho : Only (fun _ => False) y2 y3 := by rw [hy3]; exact (Only.refl _ _).alloc _
          have HXy3 : Hid (Only (fun _ => False) w2 y3) := HXy2.out.trans ho
          have HB5y3 : Hid (Blk w2 y3 B5 31 #[.slice none 0 0, .slice none 0 0]) := by rw [hy3, hB5]; exact Blk.made HXy2.out _ _
          have HB6y3 : Hid (Blk w2 y3 B6 35 #[.int .i64 0, .int .i64 0, .int .u8 0, .int .i64 0, .int .i64 0, .float .f64 0]) := HB6y2.out.keep ho
          have HMy3 : Hid (Made y3 L n0 k aC aO cC cO) := HMy2.out.keep ho
          rw [← hy3, ← hB5]
          clear hy3 hB5 ho
          refine hK.out _ _ (HKS.out _ HXy3.out) (fun hHeld => ?_)
          clear hK
          (try simp only [Act.put, List.setIfInBounds_toArray, List.set_cons_zero, List.set_cons_succ])
          refine wpAnyH_ready (rs := [3]) (by kernel_rfl) (by simp) ?_
          refine AllReadyH.cons rfl (fun K hK => ?_) AllReadyH.nil
          rw [if_pos (by rfl)]
          go_simp
          refine Calls.mono (HCF.out _) ?_
          rintro e y4 ⟨rfl, ho⟩
          have HMy4 : Hid (Made y4 L n0 k aC aO cC cO) := HMy3.out.keep ho
          have HXy4 : Hid (Only (fun _ => False) w2 y4) := HXy3.out.trans ho
          have HB5y4 : Hid (Blk w2 y4 B5 31 #[.slice none 0 0, .slice none 0 0]) := HB5y3.out.keep ho
          have HB6y4 : Hid (Blk w2 y4 B6 35 #[.int .i64 0, .int .i64 0, .int .u8 0, .int .i64 0, .int .i64 0, .float .f64 0]) := HB6y3.out.keep ho
          clear ho
          refine hK.out _ _ (HKS.out _ HXy4.out) (fun hHeld => ?_)
          clear hK
          (try simp only [Act.put, List.setIfInBounds_toArray, List.set_cons_zero, List.set_cons_succ])
          refine wpAnyH_ready (rs := [6]) (by kernel_rfl) (by simp) ?_
          refine AllReadyH.cons rfl (fun K hK => ?_) AllReadyH.nil
          rw [if_pos (by rfl)]
          have HXa : Hid (Only (fun _ => False) w2 (y4.setRow B5 #[.slice aC k cC, .slice aO (k + 1) cO])) := HXy4.out.setRowNew HB5y4.out.2 _
          refine wp_store_row 31 _ _ rfl B5 #[.slice aC k cC, .slice aO (k + 1) cO] rfl rfl 31 _ HB5y4.out.1 (by kernel_rfl) rfl (two_one _ _ _ _ _ _) ?_
          have HMa : Hid (Made (y4.setRow B5 #[.slice aC k cC, .slice aO (k + 1) cO]) L n0 k aC aO cC cO ∧ Blk w2 (y4.setRow B5 #[.slice aC k cC, .slice aO (k + 1) cO]) B5 31 #[.slice aC k cC, .slice aO (k + 1) cO] ∧ Blk w2 (y4.setRow B5 #[.slice aC k cC, .slice aO (k + 1) cO]) B6 35 #[.int .i64 0, .int .i64 0, .int .u8 0, .int .i64 0, .int .i64 0, .float .f64 0]) := ⟨HMy4.out.store HB5y4.out.1 (by decide) (by decide) _, HB5y4.out.put _, HB6y4.out.far HB5y4.out (by decide) _⟩
          obtain ⟨za, hza⟩ : ∃ Y, Y = y4.setRow B5 #[.slice aC k cC, .slice aO (k + 1) cO] := ⟨_, rfl⟩
          rw [← hza] at HXa HMa ⊢
          clear hza
          refine hK.out _ _ (HKS.out _ HXa.out) (fun hHeld => ?_)
          clear hK
          (try simp only [Act.put, List.setIfInBounds_toArray, List.set_cons_zero, List.set_cons_succ])
          refine wpAnyH_ready (rs := [7]) (by kernel_rfl) (by simp) ?_
          refine AllReadyH.cons rfl (fun K hK => ?_) AllReadyH.nil
          rw [if_pos (by rfl)]
          have HXb : Hid (Only (fun _ => False) w2 (za.setRow B6 #[.int .i64 (W1 : Int), .int .i64 (T1 : Int), .int .u8 (M1 : Int), .int .i64 (hy : Int), .int .i64 (pr : Int), .float .f64 lo])) := HXa.out.setRowNew HMa.out.2.2.2 _
          refine wp_store_row 35 _ _ rfl B6 #[.int .i64 (W1 : Int), .int .i64 (T1 : Int), .int .u8 (M1 : Int), .int .i64 (hy : Int), .int .i64 (pr : Int), .float .f64 lo] rfl rfl 35 _ HMa.out.2.2.1 (by kernel_rfl) rfl (cfg_one _ _ _ _ _ _) ?_
          have HMb : Hid (Made (za.setRow B6 #[.int .i64 (W1 : Int), .int .i64 (T1 : Int), .int .u8 (M1 : Int), .int .i64 (hy : Int), .int .i64 (pr : Int), .float .f64 lo]) L n0 k aC aO cC cO ∧ Blk w2 (za.setRow B6 #[.int .i64 (W1 : Int), .int .i64 (T1 : Int), .int .u8 (M1 : Int), .int .i64 (hy : Int), .int .i64 (pr : Int), .float .f64 lo]) B5 31 #[.slice aC k cC, .slice aO (k + 1) cO] ∧ Blk w2 (za.setRow B6 #[.int .i64 (W1 : Int), .int .i64 (T1 : Int), .int .u8 (M1 : Int), .int .i64 (hy : Int), .int .i64 (pr : Int), .float .f64 lo]) B6 35 #[.int .i64 (W1 : Int), .int .i64 (T1 : Int), .int .u8 (M1 : Int), .int .i64 (hy : Int), .int .i64 (pr : Int), .float .f64 lo]) := ⟨HMa.out.1.store HMa.out.2.2.1 (by decide) (by decide) _, HMa.out.2.1.far HMa.out.2.2 (by decide) _, HMa.out.2.2.put _⟩
          obtain ⟨zb, hzb⟩ : ∃ Y, Y = za.setRow B6 #[.int .i64 (W1 : Int), .int .i64 (T1 : Int), .int .u8 (M1 : Int), .int .i64 (hy : Int), .int .i64 (pr : Int), .float .f64 lo] := ⟨_, rfl⟩
          rw [← hzb] at HXb HMb ⊢
          clear hzb
          refine hK.out _ _ (HKS.out _ HXb.out) (fun hHeld => ?_)
          clear hK
          (try simp only [Act.put, List.setIfInBounds_toArray, List.set_cons_zero, List.set_cons_succ])
          refine wpAnyH_done (by kernel_rfl) ?_ _
          clear hHeld
          go_wp2_with fail
          go_meet
          exact ⟨k, B5, B6, aC, aO, cC, cO, _, rfl, rfl, rfl, HMb.out.1, HMb.out.2.1, HMb.out.2.2, HXb.out⟩
      · rw [if_pos (by rfl)]
        go_simp
        obtain ⟨y2, hy2⟩ : ∃ Y, Y = y1.alloc (.cells #[.slice none 0 0, .slice none 0 0] 31) := ⟨_, rfl⟩
        obtain ⟨B5, hB5⟩ : ∃ b, b = y1.heap.size := ⟨_, rfl⟩
        have ho : Only (fun _ => False) y1 y2 := by rw [hy2]; exact (Only.refl _ _).alloc _
        have HXy2 : Hid (Only (fun _ => False) w2 y2) := HXy1.out.trans ho
        have HB5y2 : Hid (Blk w2 y2 B5 31 #[.slice none 0 0, .slice none 0 0]) := by rw [hy2, hB5]; exact Blk.made HXy1.out _ _
        have HB6y2 : Hid (Blk w2 y2 B6 35 #[.int .i64 0, .int .i64 0, .int .u8 0, .int .i64 0, .int .i64 0, .float .f64 0]) := HB6y1.out.keep ho
        rw [← hy2, ← hB5]
        clear hy2 hB5 ho
        refine hK.out _ _ (HKS.out _ HXy2.out) (fun hHeld => ?_)
        clear hK
        (try simp only [Act.put, List.setIfInBounds_toArray, List.set_cons_zero, List.set_cons_succ])
        refine wpAnyH_ready (rs := [1]) (by kernel_rfl) (by simp) ?_
        refine AllReadyH.cons rfl (fun K hK => ?_) AllReadyH.nil
        rw [if_pos (by rfl)]
        go_simp
        refine Calls.mono (HPA.out _ (HW2.out.trans HXy2.out)) ?_
        rintro e y3 ⟨k, aC, aO, cC, cO, rfl, hmd, ho⟩
        have HMy3 : Hid (Made y3 L n0 k aC aO cC cO) := hmd
        clear hmd
        have HXy3 : Hid (Only (fun _ => False) w2 y3) := HXy2.out.trans ho
        have HB5y3 : Hid (Blk w2 y3 B5 31 #[.slice none 0 0, .slice none 0 0]) := HB5y2.out.keep ho
        have HB6y3 : Hid (Blk w2 y3 B6 35 #[.int .i64 0, .int .i64 0, .int .u8 0, .int .i64 0, .int .i64 0, .float .f64 0]) := HB6y2.out.keep ho
        clear ho
        refine hK.out _ _ (HKS.out _ HXy3.out) (fun hHeld => ?_)
        clear hK
        (try simp only [Act.put, List.setIfInBounds_toArray, List.set_cons_zero, List.set_cons_succ])
        refine wpAnyH_ready (rs := [3]) (by kernel_rfl) (by simp) ?_
        refine AllReadyH.cons rfl (fun K hK => ?_) AllReadyH.nil
        rw [if_pos (by rfl)]
        go_simp
        refine Calls.mono (HCF.out _) ?_
        rintro e y4 ⟨rfl, ho⟩
        have HMy4 : Hid (Made y4 L n0 k aC aO cC cO) := HMy3.out.keep ho
        have HXy4 : Hid (Only (fun _ => False) w2 y4) := HXy3.out.trans ho
        have HB5y4 : Hid (Blk w2 y4 B5 31 #[.slice none 0 0, .slice none 0 0]) := HB5y3.out.keep ho
        have HB6y4 : Hid (Blk w2 y4 B6 35 #[.int .i64 0, .int .i64 0, .int .u8 0, .int .i64 0, .int .i64 0, .float .f64 0]) := HB6y3.out.keep ho
        clear ho
        refine hK.out _ _ (HKS.out _ HXy4.out) (fun hHeld => ?_)
        clear hK
        (try simp only [Act.put, List.setIfInBounds_toArray, List.set_cons_zero, List.set_cons_succ])
        refine wpAnyH_ready (rs := [6]) (by kernel_rfl) (by simp) ?_
        refine AllReadyH.cons rfl (fun K hK => ?_) AllReadyH.nil
        rw [if_pos (by rfl)]
        have HXa : Hid (Only (fun _ => False) w2 (y4.setRow B5 #[.slice aC k cC, .slice aO (k + 1) cO])) := HXy4.out.setRowNew HB5y4.out.2 _
        refine wp_store_row 31 _ _ rfl B5 #[.slice aC k cC, .slice aO (k + 1) cO] rfl rfl 31 _ HB5y4.out.1 (by kernel_rfl) rfl (two_one _ _ _ _ _ _) ?_
        have HMa : Hid (Made (y4.setRow B5 #[.slice aC k cC, .slice aO (k + 1) cO]) L n0 k aC aO cC cO ∧ Blk w2 (y4.setRow B5 #[.slice aC k cC, .slice aO (k + 1) cO]) B5 31 #[.slice aC k cC, .slice aO (k + 1) cO] ∧ Blk w2 (y4.setRow B5 #[.slice aC k cC, .slice aO (k + 1) cO]) B6 35 #[.int .i64 0, .int .i64 0, .int .u8 0, .int .i64 0, .int .i64 0, .float .f64 0]) := ⟨HMy4.out.store HB5y4.out.1 (by decide) (by decide) _, HB5y4.out.put _, HB6y4.out.far HB5y4.out (by decide) _⟩
        obtain ⟨za, hza⟩ : ∃ Y, Y = y4.setRow B5 #[.slice aC k cC, .slice aO (k + 1) cO] := ⟨_, rfl⟩
        rw [← hza] at HXa HMa ⊢
        clear hza
        refine hK.out _ _ (HKS.out _ HXa.out) (fun hHeld => ?_)
        clear hK
        (try simp only [Act.put, List.setIfInBounds_toArray, List.set_cons_zero, List.set_cons_succ])
        refine wpAnyH_ready (rs := [7]) (by kernel_rfl) (by simp) ?_
        refine AllReadyH.cons rfl (fun K hK => ?_) AllReadyH.nil
        rw [if_pos (by rfl)]
        have HXb : Hid (Only (fun _ => False) w2 (za.setRow B6 #[.int .i64 (W1 : Int), .int .i64 (T1 : Int), .int .u8 (M1 : Int), .int .i64 (hy : Int), .int .i64 (pr : Int), .float .f64 lo])) := HXa.out.setRowNew HMa.out.2.2.2 _
        refine wp_store_row 35 _ _ rfl B6 #[.int .i64 (W1 : Int), .int .i64 (T1 : Int), .int .u8 (M1 : Int), .int .i64 (hy : Int), .int .i64 (pr : Int), .float .f64 lo] rfl rfl 35 _ HMa.out.2.2.1 (by kernel_rfl) rfl (cfg_one _ _ _ _ _ _) ?_
        have HMb : Hid (Made (za.setRow B6 #[.int .i64 (W1 : Int), .int .i64 (T1 : Int), .int .u8 (M1 : Int), .int .i64 (hy : Int), .int .i64 (pr : Int), .float .f64 lo]) L n0 k aC aO cC cO ∧ Blk w2 (za.setRow B6 #[.int .i64 (W1 : Int), .int .i64 (T1 : Int), .int .u8 (M1 : Int), .int .i64 (hy : Int), .int .i64 (pr : Int), .float .f64 lo]) B5 31 #[.slice aC k cC, .slice aO (k + 1) cO] ∧ Blk w2 (za.setRow B6 #[.int .i64 (W1 : Int), .int .i64 (T1 : Int), .int .u8 (M1 : Int), .int .i64 (hy : Int), .int .i64 (pr : Int), .float .f64 lo]) B6 35 #[.int .i64 (W1 : Int), .int .i64 (T1 : Int), .int .u8 (M1 : Int), .int .i64 (hy : Int), .int .i64 (pr : Int), .float .f64 lo]) := ⟨HMa.out.1.store HMa.out.2.2.1 (by decide) (by decide) _, HMa.out.2.1.far HMa.out.2.2 (by decide) _, HMa.out.2.2.put _⟩
        obtain ⟨zb, hzb⟩ : ∃ Y, Y = za.setRow B6 #[.int .i64 (W1 : Int), .int .i64 (T1 : Int), .int .u8 (M1 : Int), .int .i64 (hy : Int), .int .i64 (pr : Int), .float .f64 lo] := ⟨_, rfl⟩
        rw [← hzb] at HXb HMb ⊢
        clear hzb
        refine hK.out _ _ (HKS.out _ HXb.out) (fun hHeld => ?_)
        clear hK
        (try simp only [Act.put, List.setIfInBounds_toArray, List.set_cons_zero, List.set_cons_succ])
        refine wpAnyH_done (by kernel_rfl) ?_ _
        clear hHeld
        go_wp2_with fail
        go_meet
        exact ⟨k, B5, B6, aC, aO, cC, cO, _, rfl, rfl, rfl, HMb.out.1, HMb.out.2.1, HMb.out.2.2, HXb.out⟩
  case rest =>
    obtain ⟨k, B5, B6, aC, aO, cC, cO, X, hX, rfl, rfl, hmd, hb5, hb6, hoX⟩ := hcut
    subst hX
    obtain ⟨C, hC⟩ : ∃ x, x = Pa.cts (L.take k) 0 := ⟨_, rfl⟩
    obtain ⟨O, hO⟩ : ∃ x, x = Pa.ops L k ++ [2] := ⟨_, rfl⟩
    have HMD : Hid (Made X L n0 k aC aO cC cO ∧ C = Pa.cts (L.take k) 0 ∧ O = Pa.ops L k ++ [2]) := ⟨hmd, hC, hO⟩
    have HPv : Hid (∀ W', Only (fun _ => False) X W' → Pv W' C O k (k + 1) aC aO cC cO) := fun W' ho => by rw [hC, hO]; exact (hmd.pv (by omega) HN.out).keep ho
    have HO4 : Hid (∀ x ∈ O, x < 4) := by rw [hO]; exact ops_lt L k
    have HOL : Hid (O.length = k + 1 ∧ O.getD k 0 = 2) := by rw [hO]; exact ⟨by rw [List.length_append, Pa.ops_len]; rfl, ops_end L k⟩
    have hk0 : k ≤ n0 := hmd.le
    have HPC : Hid (∀ W', Only (fun _ => False) X W' → (W'.cell? ⟨B5, 0, none⟩ = some (.slice aC k cC) ∧ W'.cell? ⟨B5, 1, none⟩ = some (.slice aO (k + 1) cO)) ∧ (W'.cell? ⟨B6, 0, none⟩ = some (.int .i64 (W1 : Int)) ∧ W'.cell? ⟨B6, 1, none⟩ = some (.int .i64 (T1 : Int)) ∧ W'.cell? ⟨B6, 2, none⟩ = some (.int .u8 (M1 : Int)) ∧ W'.cell? ⟨B6, 3, none⟩ = some (.int .i64 (hy : Int)) ∧ W'.cell? ⟨B6, 4, none⟩ = some (.int .i64 (pr : Int)) ∧ W'.cell? ⟨B6, 5, none⟩ = some (.float .f64 lo))) := fun W' ho => ⟨⟨(blk_two (blk_keep ho hb5.1)).1, (blk_two (blk_keep ho hb5.1)).2.1⟩, blk_six (blk_keep ho hb6.1)⟩
    have HLT : Hid (∀ W', Only (fun _ => False) X W' → B5 < W'.heap.size ∧ B6 < W'.heap.size) := fun W' ho => ⟨(Array.getElem?_eq_some_iff.1 (blk_keep ho hb5.1)).1, (Array.getElem?_eq_some_iff.1 (blk_keep ho hb6.1)).1⟩
    have HWX : Hid (Only (fun _ => False) w X ∧ Blk w2 X B6 35 #[.int .i64 (W1 : Int), .int .i64 (T1 : Int), .int .u8 (M1 : Int), .int .i64 (hy : Int), .int .i64 (pr : Int), .float .f64 lo]) := ⟨HW2.out.trans hoX, hb6⟩
    clear hmd hC hO hb5 hb6 hoX
    have HOK : Hid (Lv.Opk O k ∧ Lv.Ctg C ∧ It.sum C ≤ 1000000 ∧ k = C.length) := by
      refine ⟨by rw [HMD.out.2.2]; exact opk_pa L k, by rw [HMD.out.2.1]; exact Lv.ctg_pa _, ?_, (HPv.out X (Only.refl _ _)).hn⟩
      have h := sum_pa L hk0
      rw [HMD.out.2.1]
      omega
    have HLI : Hid (∀ W' a b e ce, Only (fun _ => False) X W' → a ≤ b → b ≤ k → e < 256 → Sp.cel C T1 a (b - a) e = ce → Calls Try.prog 24 #[.agg #[.slice aC k cC, .slice aO (k + 1) cO], .int .i64 ((a : Nat) : Int), .int .i64 ((b : Nat) : Int), .int .u8 ((e : Nat) : Int), .int .i64 (T1 : Int)] W' fun r w' => r = .returned (.agg #[.int .i64 (a : Int), .int .i64 (b : Int), .int .i64 ((ce : Nat) : Int), .int .u8 (e : Int)]) ∧ Only (fun _ => False) W' w') := fun W' a b e ce ho hab hb he hce => by
      rw [← hce]
      exact refLine_any C O k (k + 1) aC aO cC cO a b T1 e W' (HPv.out W' ho) hab hb ht0 (by omega) he
    have HCC : Hid (∀ W' a b la, Only (fun _ => False) X W' → a ≤ k → b ≤ k → Calls Try.prog 25 #[.agg #[.slice aC k cC, .slice aO (k + 1) cO], .int .i64 ((a : Nat) : Int), .int .i64 ((b : Nat) : Int), .bool la, .agg #[.int .i64 (W1 : Int), .int .i64 (T1 : Int), .int .u8 (M1 : Int), .int .i64 (hy : Int), .int .i64 (pr : Int), .float .f64 lo]] W' fun e w' => e = .returned (Sp.cosV (Sp.cos C O T1 W1 hy pr lo la a b)) ∧ Only (fun _ => False) W' w') := fun W' a b la ho ha hb => refCost_any C O k (k + 1) aC aO cC cO a b W1 T1 M1 hy pr lo la W' (HPv.out W' ho) (by omega) ha hb (by omega) ht0 (by omega) (by omega) (by omega)
    have HFM : Hid (∀ la a b y, Sp.cos C O T1 W1 hy pr lo la a b = some y → y ≤ 200000000) := fun la a b y h => (cos_le (by omega) (by omega) h).1
    have HLC : Hid (∀ W' D nD a c, Only (fun _ => False) X W' → nD = D.length → nD ≤ 1000 → Vw W' a (lnC D) → (∀ l ∈ D, l.a ≤ k ∧ l.b ≤ k) → Calls Try.prog 23 #[.agg #[.slice aC k cC, .slice aO (k + 1) cO], .slice a nD c, .agg #[.int .i64 (W1 : Int), .int .i64 (T1 : Int), .int .u8 (M1 : Int), .int .i64 (hy : Int), .int .i64 (pr : Int), .float .f64 lo]] W' fun e w' => e = .returned (Sp.cosV (Lv.lco C O T1 W1 hy pr lo D)) ∧ Only (fun _ => False) W' w') := fun W' D nD a c ho hn hl hv hG => lcost_any C O k (k + 1) aC aO cC cO D nD a c W1 T1 M1 hy pr lo W' (HPv.out W' ho) (by omega) hn hv (by omega) hG (by omega) ht0 (by omega) (by omega) (by omega)
    have HSN : Hid (∀ D l, Lv.lco C O T1 W1 hy pr lo (D ++ [l]) = match Lv.lco C O T1 W1 hy pr lo D, Sp.cos C O T1 W1 hy pr lo (decide (O.getD l.b 0 = 2)) l.a l.b with
        | some x, some y => some (x + y)
        | _, _ => none) := fun D l => lco_snoc D l
    have HL0 : Hid (Lv.lco C O T1 W1 hy pr lo [] = some 0) := (rfl : Lv.lco C O T1 W1 hy pr lo [] = some 0)
    obtain ⟨fL, hfL⟩ : ∃ f, f = Lv.lco C O T1 W1 hy pr lo := ⟨_, rfl⟩
    obtain ⟨fC, hfC⟩ : ∃ f, f = Sp.cos C O T1 W1 hy pr lo := ⟨_, rfl⟩
    rw [← hfL] at HLC HSN HL0
    rw [← hfC] at HCC HFM HSN
    clear hfL hfC
    have HON : Hid (∀ W', Only (fun g => X.heap.size ≤ g) X W' → Only (fun _ => False) X W') := fun W' ho => ho.old (fun b hb => Or.inl hb)
    go_wp2_with fail
    go_loopg [9, 10, 11, 12, 36] nE (fun gh v9 v10 v11 v12 v36 wr => ∃ (i f s nD : Nat) (D : List Ln) (q : Bool) (al : Option Addr) (c : Nat) (V : World), V = wr ∧ gh = nE - i ∧ i ≤ nE ∧ v9 = .slice al nD c ∧ v10 = .int .i64 (f : Int) ∧ v11 = .int .i64 (s : Int) ∧ v12 = .bool q ∧ v36 = .int .i64 (i : Int) ∧ f ≤ k ∧ nD ≤ f ∧ nD = D.length ∧ s ≤ 200000000 * i ∧ ((q = true ∧ fL D = some s) ∨ (q = false ∧ fL D = none)) ∧ (∀ l ∈ D, l.a ≤ k ∧ l.b ≤ k) ∧ V.ownsRow X.heap.size 54 4 (.slice al nD c) nD (lnC D) ∧ Only (fun g => X.heap.size ≤ g) X V)
    case atStart => exact ⟨0, 0, 0, 0, [], true, none, 0, _, rfl, rfl, Nat.zero_le _, rfl, rfl, rfl, rfl, rfl, Nat.zero_le _, Nat.le_refl _, rfl, Nat.zero_le _, Or.inl ⟨rfl, HL0.out⟩, (fun l hl => by cases hl), ⟨rfl, Or.inl ⟨rfl, rfl⟩⟩, Only.refl _ _⟩
    case round =>
      obtain ⟨i, f, s, nD, D, q, al, c, V, hV, rfl, hi, rfl, rfl, rfl, rfl, rfl, hfk, hnf, hnD, hs, hq, hDl, hown, hoV⟩ := hrel
      subst hV
      have hsl : s ≤ 20000000000 := by omega
      have HG : Hid (nD = D.length ∧ ((q = true ∧ fL D = some s) ∨ (q = false ∧ fL D = none)) ∧ (∀ l ∈ D, l.a ≤ k ∧ l.b ≤ k) ∧ V.ownsRow X.heap.size 54 4 (.slice al nD c) nD (lnC D) ∧ Only (fun g => X.heap.size ≤ g) X V) := ⟨hnD, hq, hDl, hown, hoV⟩
      have HVX : Hid (Only (fun _ => False) X V) := HON.out V hoV
      have hsV := hoV.size
      clear hnD hq hDl hown hoV
      by_cases hlt : i < nE
      · have t1 : (i : Int) < (nE : Int) := by omega
        obtain ⟨ev, hev⟩ : ∃ e, LE[i]? = some e := ⟨_, List.getElem?_eq_getElem (by rw [← HNE.out.1]; exact hlt)⟩
        obtain ⟨be, oe, ee, hbe, hce⟩ := (HNE.out.2.keep (HWX.out.1.trans HVX.out)).cells (by rw [intC_len, ← HNE.out.1]; omega)
        subst ee
        have c1 := hce i _ (intC_at hev)
        clear hev hce
        by_cases hfe : f = k
        · have t2 : ((f : Int) == (k : Int)) = true := by rw [beq_iff_eq]; omega
          clear hfe
          obtain ⟨⟨r0, r1⟩, k0, k1, k2, k3, k4, k5⟩ := HPC.out V HVX.out
          obtain ⟨l5, l6⟩ := HLT.out V HVX.out
          go_wp2_with fail
          refine Calls.mono (HLC.out _ D nD _ _ HVX.out HG.out.1 (by omega) (own_vw HG.out.2.2.2.1) HG.out.2.2.1) ?_
          rintro e V9 ⟨rfl, ho9⟩
          have H9 : Hid (Only (fun _ => False) X V9) := HVX.out.trans ho9
          clear ho9
          clear r0 r1 k0 k1 k2 k3 k4 k5 l5 l6
          rcases HG.out.2.1 with ⟨hq, hv⟩ | ⟨hq, hv⟩
          · rw [hv]
            subst hq
            clear hv
            unfold Sp.cosV
            go_wp2_with fail
            go_ret
            exact ⟨rfl, HWX.out.1.trans H9.out⟩
          · rw [hv]
            subst hq
            clear hv
            unfold Sp.cosV
            go_wp2_with fail
            go_ret
            exact ⟨rfl, HWX.out.1.trans H9.out⟩
        · have t2 : ((f : Int) == (k : Int)) = false := by rw [beq_eq_false_iff_ne]; omega
          obtain ⟨d, hd⟩ : ∃ d, d = k - f := ⟨_, rfl⟩
          have hd0 : 0 < d := by omega
          have p0 : IntKind.i64.wrap ((k : Int) - (f : Int)) = (d : Int) := by rw [hd]; exact (wrap_sm _ (by omega) (by omega)).trans (by omega)
          have p1 : ¬ (d : Int) = 0 := by omega
          have p2 : ((d : Int) == 0) = false := by simpa using p1
          have p3 : IntKind.u64.wrap (d : Int) = (d : Int) := wrap_smallu _ (by omega) (by omega)
          have p4 : (k : Int) - (f : Int) = (d : Int) := by omega
          obtain ⟨u, x, a1, a2, a3⟩ := drawn ev d hd0
          have x1 : IntKind.u64.wrap (x : Int) = (x : Int) := wrap_smallu _ (by omega) (by omega)
          have x2 : IntKind.i64.wrap (x : Int) = (x : Int) := wrap_small _ (by omega) (by omega)
          obtain ⟨f1, hf1⟩ : ∃ z, z = f + 1 := ⟨_, rfl⟩
          obtain ⟨y, hy'⟩ : ∃ z, z = f1 + x := ⟨_, rfl⟩
          have y1 : (f : Int) + 1 = (f1 : Int) := by omega
          have y2 : (f1 : Int) + (x : Int) = (y : Int) := by omega
          have hyk : y ≤ k := by omega
          have hfy : f < y := by omega
          have hyI : (y : Int) < (k : Int) + 1 := by omega
          have hyN : y < k + 1 := by omega
          obtain ⟨e, hOe, hDe⟩ := getD_some' (O := O) (k := y) (by rw [HOL.out.1]; omega)
          have he8 : e < 256 := (HPv.out X (Only.refl _ _)).oO e (List.mem_of_getElem? hOe)
          obtain ⟨ce, hce⟩ : ∃ z, z = Sp.cel C T1 f (y - f) e := ⟨_, rfl⟩
          have HCE : Hid (Sp.cel C T1 f (y - f) e = ce) := hce.symm
          obtain ⟨la, hla⟩ : ∃ z : Bool, z = decide (O.getD y 0 = 2) := ⟨_, rfl⟩
          have t5 : ((e : Int) == 2) = la := by
            rw [hla, hDe]
            by_cases h : e = 2
            · rw [decide_eq_true h, beq_iff_eq]; omega
            · rw [decide_eq_false h, beq_eq_false_iff_ne]; omega
          have HLA : Hid (decide (O.getD y 0 = 2) = la) := hla.symm
          obtain ⟨bo, oo, eo, hbo, hco⟩ := (HPv.out X (Only.refl _ _)).vO.cells (by rw [u8s_len, HOL.out.1]; omega)
          subst eo
          have HOP : Hid (∀ W', Only (fun _ => False) X W' → W'.cell? ⟨bo, oo + y, none⟩ = some (.int .u8 (e : Int))) := fun W' ho => keep0 ho (hco y _ (u8s_at hOe))
          have hboX : bo < V.heap.size := Nat.lt_of_lt_of_le hbo HVX.out.size
          have HNX : Hid (fL (D ++ [⟨f, y, ce, e⟩]) = match fL D, fC la f y with
              | some x, some y => some (x + y)
              | _, _ => none) := by
            have h := HSN.out D ⟨f, y, ce, e⟩
            rw [← HLA.out]
            exact h
          have HSS : Hid (∀ W', Only (fun _ => False) X W' → (((W'.cell? ⟨B5, 0, none⟩ = some (.slice aC k cC) ∧ W'.cell? ⟨B5, 1, none⟩ = some (.slice (some ⟨bo, oo, none⟩) (k + 1) cO)) ∧ (W'.cell? ⟨B6, 0, none⟩ = some (.int .i64 (W1 : Int)) ∧ W'.cell? ⟨B6, 1, none⟩ = some (.int .i64 (T1 : Int)) ∧ W'.cell? ⟨B6, 2, none⟩ = some (.int .u8 (M1 : Int)) ∧ W'.cell? ⟨B6, 3, none⟩ = some (.int .i64 (hy : Int)) ∧ W'.cell? ⟨B6, 4, none⟩ = some (.int .i64 (pr : Int)) ∧ W'.cell? ⟨B6, 5, none⟩ = some (.float .f64 lo))) ∧ W'.cell? ⟨bo, oo + y, none⟩ = some (.int .u8 (e : Int)))) := fun W' ho => ⟨HPC.out W' ho, HOP.out W' ho⟩
          clear hd hf1 hy' hOe hDe hce hla hco hbo hfe
          obtain ⟨⟨r0, r1⟩, k0, k1, k2, k3, k4, k5⟩ := HPC.out V HVX.out
          obtain ⟨l5, l6⟩ := HLT.out V HVX.out
          go_upto_region 14 with fail
          clear c1 hbe
          have HD : Hid (Only (fun _ => False) X V.drew ∧ Only (fun _ => False) V V.drew) := ⟨HVX.out.drew, (Only.refl _ _).drew⟩
          refine wp_region_held_drew (S := (fun W' => (((W'.cell? ⟨B5, 0, none⟩ = some (.slice aC k cC) ∧ W'.cell? ⟨B5, 1, none⟩ = some (.slice (some ⟨bo, oo, none⟩) (k + 1) cO)) ∧ (W'.cell? ⟨B6, 0, none⟩ = some (.int .i64 (W1 : Int)) ∧ W'.cell? ⟨B6, 1, none⟩ = some (.int .i64 (T1 : Int)) ∧ W'.cell? ⟨B6, 2, none⟩ = some (.int .u8 (M1 : Int)) ∧ W'.cell? ⟨B6, 3, none⟩ = some (.int .i64 (hy : Int)) ∧ W'.cell? ⟨B6, 4, none⟩ = some (.int .i64 (pr : Int)) ∧ W'.cell? ⟨B6, 5, none⟩ = some (.float .f64 lo))) ∧ W'.cell? ⟨bo, oo + y, none⟩ = some (.int .u8 (e : Int))))) (by kernel_rfl) (HSS.out _ HD.out.1) (fun hHeld => ?_)
          refine wpAnyH_take (i := 0) (oi := { dst := some 58, op := _, type := _, pos := _, after := _, guard := _ }) (v := .slice al nD c) rfl (by kernel_rfl) (by kernel_rfl) (by kernel_rfl) (fun _ _ _ h => h) (Or.inl ⟨by rfl, fun w hSw => by obtain ⟨⟨⟨y0, y1⟩, y2, y3, y4, y5, y6, y7⟩, y8⟩ := hSw; first | (go_simp; done) | go_simp⟩) (by assumption) ?_
          (try simp only [Act.put, List.setIfInBounds_toArray, List.set_cons_zero, List.set_cons_succ])
          refine wpAnyH_take (i := 1) (oi := { dst := some 59, op := _, type := _, pos := _, after := _, guard := _ }) (v := .agg #[.slice aC k cC, .slice (some ⟨bo, oo, none⟩) (k + 1) cO]) rfl (by kernel_rfl) (by kernel_rfl) (by kernel_rfl) (fun _ _ _ h => h) (Or.inl ⟨by rfl, fun w hSw => by obtain ⟨⟨⟨y0, y1⟩, y2, y3, y4, y5, y6, y7⟩, y8⟩ := hSw; first | (go_simp; done) | go_simp⟩) (by assumption) ?_
          (try simp only [Act.put, List.setIfInBounds_toArray, List.set_cons_zero, List.set_cons_succ])
          refine wpAnyH_take (i := 2) (oi := { dst := some 60, op := _, type := _, pos := _, after := _, guard := _ }) (v := .int .i64 (f : Int)) rfl (by kernel_rfl) (by kernel_rfl) (by kernel_rfl) (fun _ _ _ h => h) (Or.inl ⟨by rfl, fun w hSw => by obtain ⟨⟨⟨y0, y1⟩, y2, y3, y4, y5, y6, y7⟩, y8⟩ := hSw; first | (go_simp; done) | go_simp⟩) (by assumption) ?_
          (try simp only [Act.put, List.setIfInBounds_toArray, List.set_cons_zero, List.set_cons_succ])
          refine wpAnyH_take (i := 3) (oi := { dst := some 61, op := _, type := _, pos := _, after := _, guard := _ }) (v := .int .i64 (y : Int)) rfl (by kernel_rfl) (by kernel_rfl) (by kernel_rfl) (fun _ _ _ h => h) (Or.inl ⟨by rfl, fun w hSw => by obtain ⟨⟨⟨y0, y1⟩, y2, y3, y4, y5, y6, y7⟩, y8⟩ := hSw; first | (go_simp; done) | go_simp⟩) (by assumption) ?_
          (try simp only [Act.put, List.setIfInBounds_toArray, List.set_cons_zero, List.set_cons_succ])
          refine wpAnyH_take (i := 4) (oi := { dst := some 62, op := _, type := _, pos := _, after := _, guard := _ }) (v := .pointer (some ⟨B5, 1, none⟩)) rfl (by kernel_rfl) (by kernel_rfl) (by kernel_rfl) (fun _ _ _ h => h) (Or.inl ⟨by rfl, fun w hSw => by obtain ⟨⟨⟨y0, y1⟩, y2, y3, y4, y5, y6, y7⟩, y8⟩ := hSw; first | (go_simp; done) | go_simp⟩) (by assumption) ?_
          (try simp only [Act.put, List.setIfInBounds_toArray, List.set_cons_zero, List.set_cons_succ])
          refine wpAnyH_take (i := 5) (oi := { dst := some 63, op := _, type := _, pos := _, after := _, guard := _ }) (v := .slice (some ⟨bo, oo, none⟩) (k + 1) cO) rfl (by kernel_rfl) (by kernel_rfl) (by kernel_rfl) (fun _ _ _ h => h) (Or.inl ⟨by rfl, fun w hSw => by obtain ⟨⟨⟨y0, y1⟩, y2, y3, y4, y5, y6, y7⟩, y8⟩ := hSw; first | (go_simp; done) | go_simp⟩) (by assumption) ?_
          (try simp only [Act.put, List.setIfInBounds_toArray, List.set_cons_zero, List.set_cons_succ])
          refine wpAnyH_take (i := 6) (oi := { dst := some 64, op := _, type := _, pos := _, after := _, guard := _ }) (v := .int .i64 (y : Int)) rfl (by kernel_rfl) (by kernel_rfl) (by kernel_rfl) (fun _ _ _ h => h) (Or.inl ⟨by rfl, fun w hSw => by obtain ⟨⟨⟨y0, y1⟩, y2, y3, y4, y5, y6, y7⟩, y8⟩ := hSw; first | (go_simp; done) | go_simp⟩) (by assumption) ?_
          (try simp only [Act.put, List.setIfInBounds_toArray, List.set_cons_zero, List.set_cons_succ])
          refine wpAnyH_take (i := 7) (oi := { dst := some 65, op := _, type := _, pos := _, after := _, guard := _ }) (v := .pointer (some ⟨bo, oo + y, none⟩)) rfl (by kernel_rfl) (by kernel_rfl) (by kernel_rfl) (fun _ _ _ h => h) (Or.inl ⟨by rfl, fun w hSw => by obtain ⟨⟨⟨y0, y1⟩, y2, y3, y4, y5, y6, y7⟩, y8⟩ := hSw; first | (go_simp; done) | go_simp⟩) (by assumption) ?_
          (try simp only [Act.put, List.setIfInBounds_toArray, List.set_cons_zero, List.set_cons_succ])
          refine wpAnyH_take (i := 8) (oi := { dst := some 66, op := _, type := _, pos := _, after := _, guard := _ }) (v := .int .u8 (e : Int)) rfl (by kernel_rfl) (by kernel_rfl) (by kernel_rfl) (fun _ _ _ h => h) (Or.inl ⟨by rfl, fun w hSw => by obtain ⟨⟨⟨y0, y1⟩, y2, y3, y4, y5, y6, y7⟩, y8⟩ := hSw; first | (go_simp; done) | go_simp⟩) (by assumption) ?_
          (try simp only [Act.put, List.setIfInBounds_toArray, List.set_cons_zero, List.set_cons_succ])
          refine wpAnyH_take (i := 9) (oi := { dst := some 67, op := _, type := _, pos := _, after := _, guard := _ }) (v := .pointer (some ⟨B6, 1, none⟩)) rfl (by kernel_rfl) (by kernel_rfl) (by kernel_rfl) (fun _ _ _ h => h) (Or.inl ⟨by rfl, fun w hSw => by obtain ⟨⟨⟨y0, y1⟩, y2, y3, y4, y5, y6, y7⟩, y8⟩ := hSw; first | (go_simp; done) | go_simp⟩) (by assumption) ?_
          (try simp only [Act.put, List.setIfInBounds_toArray, List.set_cons_zero, List.set_cons_succ])
          refine wpAnyH_take (i := 10) (oi := { dst := some 68, op := _, type := _, pos := _, after := _, guard := _ }) (v := .int .i64 (T1 : Int)) rfl (by kernel_rfl) (by kernel_rfl) (by kernel_rfl) (fun _ _ _ h => h) (Or.inl ⟨by rfl, fun w hSw => by obtain ⟨⟨⟨y0, y1⟩, y2, y3, y4, y5, y6, y7⟩, y8⟩ := hSw; first | (go_simp; done) | go_simp⟩) (by assumption) ?_
          (try simp only [Act.put, List.setIfInBounds_toArray, List.set_cons_zero, List.set_cons_succ])
          refine wpAnyH_ready (rs := [11]) (by kernel_rfl) (by simp) ?_
          refine AllReadyH.cons rfl (fun K hK => ?_) AllReadyH.nil
          rw [if_pos (by rfl)]
          go_simp
          refine Calls.mono (HLI.out _ f y e ce HD.out.1 (by omega) hyk he8 HCE.out) ?_
          rintro r Y1 ⟨rfl, ho⟩
          have HY1 : Hid (Only (fun _ => False) X Y1 ∧ Only (fun _ => False) V Y1) := ⟨HD.out.1.trans ho, HD.out.2.trans ho⟩
          clear ho
          refine hK.out _ _ (HSS.out _ HY1.out.1) (fun hHeld => ?_)
          clear hK
          (try simp only [Act.put, List.setIfInBounds_toArray, List.set_cons_zero, List.set_cons_succ])
          refine wpAnyH_ready (rs := [12]) (by kernel_rfl) (by simp) ?_
          refine AllReadyH.cons rfl (fun K hK => ?_) AllReadyH.nil
          rw [if_pos (by rfl)]
          go_simp
          obtain ⟨Y2, hY2⟩ : ∃ Y, Y = Y1.alloc (.cells #[.int .i64 (f : Int), .int .i64 (y : Int), .int .i64 (ce : Int), .int .u8 (e : Int)] 54) := ⟨_, rfl⟩
          obtain ⟨B9, hB9⟩ : ∃ b, b = Y1.heap.size := ⟨_, rfl⟩
          have HY2 : Hid (Only (fun _ => False) X Y2 ∧ Only (fun _ => False) V Y2 ∧ Y2.heap[B9]? = some (.cells #[.int .i64 (f : Int), .int .i64 (y : Int), .int .i64 (ce : Int), .int .u8 (e : Int)] 54 (0, 0)) ∧ Y2.ownsRow X.heap.size 54 4 (.slice al nD c) nD (lnC D)) := by
            rw [hY2, hB9]
            exact ⟨HY1.out.1.alloc _, HY1.out.2.alloc _, heap_alloc_new Y1 _, own_only HG.out.2.2.2.1 (HY1.out.2.alloc _) (fun _ _ h => h)⟩
          rw [← hY2, ← hB9]
          clear hY2 hB9
          refine hK.out _ _ (HSS.out _ HY2.out.1) (fun hHeld => ?_)
          clear hK
          (try simp only [Act.put, List.setIfInBounds_toArray, List.set_cons_zero, List.set_cons_succ])
          refine wpAnyH_ready (rs := [13]) (by kernel_rfl) (by simp) ?_
          refine AllReadyH.cons rfl (fun K hK => ?_) AllReadyH.nil
          rw [if_pos (by rfl)]
          refine wp_appLs _ _ rfl X.heap.size al nD c D rfl HY2.out.2.2.2 (some ⟨B9, 0, none⟩) 1 1 [⟨f, y, ce, e⟩] rfl rfl (vw_ln HY2.out.2.2.1) (nD + 1) rfl (by omega) HY2.out.1.size ?_
          intro al' cap Y hown5 ho5
          have H5 : Hid (Y.ownsRow X.heap.size 54 4 (.slice al' (nD + 1) cap) (nD + 1) (lnC (D ++ [⟨f, y, ce, e⟩])) ∧ Only (fun g => X.heap.size ≤ g) X Y) := ⟨hown5, (HY2.out.1.mono (fun _ h => h.elim) : Only (fun g => X.heap.size ≤ g) X Y2).trans (ho5.mono (fun g hg => (own_own HY2.out.2.2.2 hg).1))⟩
          have HYX : Hid (Only (fun _ => False) X Y) := HON.out Y H5.out.2
          clear hown5 ho5
          refine hK.out _ _ (HSS.out _ HYX.out) (fun hHeld => ?_)
          clear hK
          (try simp only [Act.put, List.setIfInBounds_toArray, List.set_cons_zero, List.set_cons_succ])
          refine wpAnyH_take (i := 14) (oi := { dst := some 9, op := _, type := _, pos := _, after := _, guard := _ }) (v := .slice al' (nD + 1) cap) rfl (by kernel_rfl) (by kernel_rfl) (by kernel_rfl) (fun _ _ _ h => h) (Or.inl ⟨by rfl, fun w hSw => by obtain ⟨⟨⟨y0, y1⟩, y2, y3, y4, y5, y6, y7⟩, y8⟩ := hSw; first | (go_simp; done) | go_simp⟩) (by assumption) ?_
          (try simp only [Act.put, List.setIfInBounds_toArray, List.set_cons_zero, List.set_cons_succ])
          refine wpAnyH_done (by kernel_rfl) ?_ _
          clear hHeld
          clear r0 r1 k0 k1 k2 k3 k4 k5 l5 l6
          obtain ⟨⟨r0, r1⟩, k0, k1, k2, k3, k4, k5⟩ := HPC.out Y HYX.out
          obtain ⟨l5, l6⟩ := HLT.out Y HYX.out
          have cop := HOP.out Y HYX.out
          have lop : bo < Y.heap.size := World.block_lt_of_cell? Y _ cop
          have HCL : Hid (∀ W', Only (fun _ => False) X W' → Calls Try.prog 25 #[.agg #[.slice aC k cC, .slice (some ⟨bo, oo, none⟩) (k + 1) cO], .int .i64 (f : Int), .int .i64 (y : Int), .bool la, .agg #[.int .i64 (W1 : Int), .int .i64 (T1 : Int), .int .u8 (M1 : Int), .int .i64 (hy : Int), .int .i64 (pr : Int), .float .f64 lo]] W' fun e w' => e = .returned (Sp.cosV (fC la f y)) ∧ Only (fun _ => False) W' w') := fun W' ho => HCC.out W' f y la ho (by omega) hyk
          have HNL : Hid (∀ l ∈ D ++ [(⟨f, y, ce, e⟩ : Ln)], l.a ≤ k ∧ l.b ≤ k) := fun l hl => by
            rcases List.mem_append.1 hl with h | h
            · exact HG.out.2.2.1 l h
            · rw [List.mem_singleton.1 h]; exact ⟨hfk, hyk⟩
          have HDL : Hid (nD + 1 = (D ++ [(⟨f, y, ce, e⟩ : Ln)]).length) := (by rw [List.length_append, ← HG.out.1]; rfl : nD + 1 = (D ++ [(⟨f, y, ce, e⟩ : Ln)]).length)
          cases hfx : fC la f y with
          | none =>
            rw [hfx] at HCL HNX
            clear hfx
            go_wp2_with fail
            go_region_held3 (fun W' => (((W'.cell? ⟨B5, 0, none⟩ = some (.slice aC k cC) ∧ W'.cell? ⟨B5, 1, none⟩ = some (.slice (some ⟨bo, oo, none⟩) (k + 1) cO)) ∧ (W'.cell? ⟨B6, 0, none⟩ = some (.int .i64 (W1 : Int)) ∧ W'.cell? ⟨B6, 1, none⟩ = some (.int .i64 (T1 : Int)) ∧ W'.cell? ⟨B6, 2, none⟩ = some (.int .u8 (M1 : Int)) ∧ W'.cell? ⟨B6, 3, none⟩ = some (.int .i64 (hy : Int)) ∧ W'.cell? ⟨B6, 4, none⟩ = some (.int .i64 (pr : Int)) ∧ W'.cell? ⟨B6, 5, none⟩ = some (.float .f64 lo))) ∧ W'.cell? ⟨bo, oo + y, none⟩ = some (.int .u8 (e : Int)))) ((first | exact HSS.out _ HYX.out.drew | exact HSS.out _ H7.out.2)) ((go_at_call 25; refine Calls.mono (HCL.out _ HYX.out.drew) ?_; rintro r Y7 ⟨rfl, ho7⟩; have H7 : Hid (Only (fun _ => False) Y Y7 ∧ Only (fun _ => False) X Y7) := ⟨(Only.refl _ _).drew.trans ho7, HYX.out.drew.trans ho7⟩; clear ho7; unfold Sp.cosV))
            clear cop lop r0 r1 k0 k1 k2 k3 k4 k5 l5 l6
            rcases HG.out.2.1 with ⟨hq, hv⟩ | ⟨hq, hv⟩
            · have HV : Hid (fL (D ++ [⟨f, y, ce, e⟩]) = none) := by
                have h := HNX.out
                rw [hv] at h
                exact h
              subst hq
              clear hv
              go_wp2_with fail
              go_roundg (nE - (i + 1))
              case measure => omega
              case rel => exact ⟨i + 1, y, s, nD + 1, D ++ [⟨f, y, ce, e⟩], false, al', cap, _, rfl, rfl, by omega, rfl, rfl, by go_num, rfl, by go_num, hyk, by omega, HDL.out, by omega, Or.inr ⟨rfl, HV.out⟩, HNL.out, own_only H5.out.1 H7.out.1 (fun _ _ h => h), H5.out.2.trans (H7.out.1.mono (fun _ h => h.elim))⟩
            · have HV : Hid (fL (D ++ [⟨f, y, ce, e⟩]) = none) := by
                have h := HNX.out
                rw [hv] at h
                exact h
              subst hq
              clear hv
              go_wp2_with fail
              go_roundg (nE - (i + 1))
              case measure => omega
              case rel => exact ⟨i + 1, y, s, nD + 1, D ++ [⟨f, y, ce, e⟩], false, al', cap, _, rfl, rfl, by omega, rfl, rfl, by go_num, rfl, by go_num, hyk, by omega, HDL.out, by omega, Or.inr ⟨rfl, HV.out⟩, HNL.out, own_only H5.out.1 H7.out.1 (fun _ _ h => h), H5.out.2.trans (H7.out.1.mono (fun _ h => h.elim))⟩
          | some z =>
            rw [hfx] at HCL HNX
            have hz2 : z ≤ 200000000 := HFM.out la f y z hfx
            clear hfx
            go_wp2_with fail
            go_region_held3 (fun W' => (((W'.cell? ⟨B5, 0, none⟩ = some (.slice aC k cC) ∧ W'.cell? ⟨B5, 1, none⟩ = some (.slice (some ⟨bo, oo, none⟩) (k + 1) cO)) ∧ (W'.cell? ⟨B6, 0, none⟩ = some (.int .i64 (W1 : Int)) ∧ W'.cell? ⟨B6, 1, none⟩ = some (.int .i64 (T1 : Int)) ∧ W'.cell? ⟨B6, 2, none⟩ = some (.int .u8 (M1 : Int)) ∧ W'.cell? ⟨B6, 3, none⟩ = some (.int .i64 (hy : Int)) ∧ W'.cell? ⟨B6, 4, none⟩ = some (.int .i64 (pr : Int)) ∧ W'.cell? ⟨B6, 5, none⟩ = some (.float .f64 lo))) ∧ W'.cell? ⟨bo, oo + y, none⟩ = some (.int .u8 (e : Int)))) ((first | exact HSS.out _ HYX.out.drew | exact HSS.out _ H7.out.2)) ((go_at_call 25; refine Calls.mono (HCL.out _ HYX.out.drew) ?_; rintro r Y7 ⟨rfl, ho7⟩; have H7 : Hid (Only (fun _ => False) Y Y7 ∧ Only (fun _ => False) X Y7) := ⟨(Only.refl _ _).drew.trans ho7, HYX.out.drew.trans ho7⟩; clear ho7; unfold Sp.cosV))
            clear cop lop r0 r1 k0 k1 k2 k3 k4 k5 l5 l6
            rcases HG.out.2.1 with ⟨hq, hv⟩ | ⟨hq, hv⟩
            · have HV : Hid (fL (D ++ [⟨f, y, ce, e⟩]) = some (s + z)) := by
                have h := HNX.out
                rw [hv] at h
                exact h
              subst hq
              clear hv
              go_wp2_with fail
              go_roundg (nE - (i + 1))
              case measure => omega
              case rel => exact ⟨i + 1, y, s + z, nD + 1, D ++ [⟨f, y, ce, e⟩], true, al', cap, _, rfl, rfl, by omega, rfl, rfl, by go_num, rfl, by go_num, hyk, by omega, HDL.out, by omega, Or.inl ⟨rfl, HV.out⟩, HNL.out, own_only H5.out.1 H7.out.1 (fun _ _ h => h), H5.out.2.trans (H7.out.1.mono (fun _ h => h.elim))⟩
            · have HV : Hid (fL (D ++ [⟨f, y, ce, e⟩]) = none) := by
                have h := HNX.out
                rw [hv] at h
                exact h
              subst hq
              clear hv
              go_wp2_with fail
              go_roundg (nE - (i + 1))
              case measure => omega
              case rel => exact ⟨i + 1, y, s + z, nD + 1, D ++ [⟨f, y, ce, e⟩], false, al', cap, _, rfl, rfl, by omega, rfl, rfl, by go_num, rfl, by go_num, hyk, by omega, HDL.out, by omega, Or.inr ⟨rfl, HV.out⟩, HNL.out, own_only H5.out.1 H7.out.1 (fun _ _ h => h), H5.out.2.trans (H7.out.1.mono (fun _ h => h.elim))⟩
      · have t1 : decide ((i : Int) < (nE : Int)) = false := decide_eq_false (by omega)
        obtain ⟨⟨r0, r1⟩, k0, k1, k2, k3, k4, k5⟩ := HPC.out V HVX.out
        obtain ⟨l5, l6⟩ := HLT.out V HVX.out
        go_wp2_with fail
        refine Calls.mono (HLC.out _ D nD _ _ HVX.out HG.out.1 (by omega) (own_vw HG.out.2.2.2.1) HG.out.2.2.1) ?_
        rintro e V9 ⟨rfl, ho9⟩
        have H9 : Hid (Only (fun _ => False) X V9) := HVX.out.trans ho9
        clear ho9
        clear r0 r1 k0 k1 k2 k3 k4 k5 l5 l6
        rcases HG.out.2.1 with ⟨hq, hv⟩ | ⟨hq, hv⟩
        · rw [hv]
          subst hq
          clear hv
          unfold Sp.cosV
          go_wp2_with fail
          go_ret
          exact ⟨rfl, HWX.out.1.trans H9.out⟩
        · rw [hv]
          subst hq
          clear hv
          unfold Sp.cosV
          go_wp2_with fail
          go_ret
          exact ⟨rfl, HWX.out.1.trans H9.out⟩
set_option maxRecDepth 100000 in
set_option maxHeartbeats 4000000 in
theorem walk0 (L : List Bt) (a0 : Option Addr) (c0 : Nat) (K : Wy) (LE : List Int) (aE : Option Addr) (cE : Nat) (w : World) (hc : L.length ≤ c0) (hm : c0 ≤ maxLen) (hcE : LE.length ≤ cE) (hmE : cE ≤ maxLen) (h5 : ¬ (L.length ≤ 300 ∧ LE.length ≤ 100)) :
    Calls Try.prog 7 #[.slice a0 L.length c0, K.val, .slice aE LE.length cE] w fun e w' => e = .returned (.bool true) ∧ Only (fun _ => False) w w' := by
  obtain ⟨wi, tb, mo, hy, pr, lo⟩ := K
  obtain ⟨n0, hn0⟩ : ∃ n, n = L.length := ⟨_, rfl⟩
  obtain ⟨nE, hnE⟩ : ∃ n, n = LE.length := ⟨_, rfl⟩
  unfold Wy.val
  simp only
  rw [← hn0, ← hnE] at h5
  rw [← hn0] at hc ⊢
  rw [← hnE] at hcE ⊢
  clear hn0 hnE
  unfold maxLen at hm hmE
  by_cases h3 : n0 ≤ 300
  · have s0 : decide ((300 : Int) < (n0 : Int)) = false := decide_eq_false (by omega)
    have s1 : (100 : Int) < (nE : Int) := by omega
    clear h5
    go_enter Try.func7, Try.ntmps7
    go_wp2_with fail
    refine Calls.mono (awake16_any _) ?_
    rintro e w2 ⟨rfl, ho2⟩
    have HW2 : Hid (Only (fun _ => False) w w2) := ((Only.refl _ _).alloc _).trans ho2
    clear ho2
    go_wp2_with fail
    go_ret
    exact ⟨rfl, HW2.out⟩
  · have s0 : (300 : Int) < (n0 : Int) := by omega
    clear h5
    go_enter Try.func7, Try.ntmps7
    go_wp2_with fail
    refine Calls.mono (awake16_any _) ?_
    rintro e w2 ⟨rfl, ho2⟩
    have HW2 : Hid (Only (fun _ => False) w w2) := ((Only.refl _ _).alloc _).trans ho2
    clear ho2
    go_wp2_with fail
    go_ret
    exact ⟨rfl, HW2.out⟩
theorem walk (L : List Bt) (a0 : Option Addr) (c0 : Nat) (K : Wy) (LE : List Int) (aE : Option Addr) (cE : Nat) (w : World) (hV : Vw w a0 (btC L)) (hB : ∀ b ∈ L, b.cells < 256 ∧ b.kind < 256 ∧ b.len < 256 ∧ b.opp < 256) (hc : L.length ≤ c0) (hm : c0 ≤ maxLen) (hK : K.Ok) (hVE : Vw w aE (intC LE)) (hcE : LE.length ≤ cE) (hmE : cE ≤ maxLen) : Calls Try.prog 7 #[.slice a0 L.length c0, K.val, .slice aE LE.length cE] w fun e w' => e = .returned (.bool true) ∧ Only (fun _ => False) w w' := by
  by_cases h5 : L.length ≤ 300 ∧ LE.length ≤ 100
  · exact walk1 L a0 c0 K LE aE cE w hV hB h5.1 hK hVE h5.2
  · exact walk0 L a0 c0 K LE aE cE w hc hm hcE hmE h5
end Go.Proofs.Ytdepjmneoplicaa.linesEach

