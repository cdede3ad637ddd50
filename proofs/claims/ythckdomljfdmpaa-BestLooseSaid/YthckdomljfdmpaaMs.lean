/-
  stanzalaw15.BestLoose: its walk.
-/
import Derived.Test.YthckdomljfdmpaaAx
import Derived.Test.YthckdomljfdmpaaPc
import Derived.Test.YthckdomljfdmpaaBp
import Derived.Test.YthckdomljfdmpaaCu
import Derived.Test.YthckdomljfdmpaaLz
namespace Go.Proofs.Ythckdomljfdmpaa.bestLoose
open Go.RowKit Go.Maps
set_option linter.unusedVariables false
set_option linter.unusedSimpArgs false
theorem box6t (w : World) (u0 u1 u2 u3 u4 u5 v0 v1 v2 v3 v4 v5 : Value) (t : TypeId) : ∃ R w0, (w.alloc (.cells #[u0, u1, u2, u3, u4, u5] t)).setRow w.heap.size #[v0, v1, v2, v3, v4, v5] = w0 ∧ w.heap.size = R ∧ Hid (w0.heap[R]? = some (.cells #[v0, v1, v2, v3, v4, v5] t (0, 0))) ∧ Hid (Only (fun _ => False) w w0) :=
  ⟨_, _, rfl, rfl, setRow_heap _ _ _ _ _ _ (heap_alloc_new w _), ((Only.refl _ _).alloc _).setRowNew (Nat.le_refl _) _⟩
theorem turn5 {w w0 : World} {R : Nat} {v0 v1 v2 v3 v4 v5 x : Value} {t : TypeId} (hR : w.heap.size = R) (h : w0.heap[R]? = some (.cells #[v0, v1, v2, v3, v4, v5] t (0, 0))) (ho : Only (fun _ => False) w w0) : (w0.setCell ⟨R, 5, none⟩ x).heap[R]? = some (.cells #[v0, v1, v2, v3, v4, x] t (0, 0)) ∧ Only (fun _ => False) w (w0.setCell ⟨R, 5, none⟩ x) :=
  ⟨heap_setCell_at (k := 5) h x, ((ho.mono (fun _ h => h.elim) : Only (fun g => w.heap.size ≤ g) w w0).setCell (p := ⟨R, 5, none⟩) (Nat.le_of_eq hR) x).old (fun b hb => Or.inl hb)⟩
theorem four (C : List Ct) (O : List Nat) (t W hy pr lo ml x y : Nat) (hl : lo < 18446744073709551616) (hm : ml < 18446744073709551616) (ok is lt : Bool) (c1 c2 c3 : Nat)
    (e1 : c1 = (Sp.cos C O t W hy pr lo false x y).getD 0) (f1 : ok = (Sp.cos C O t W hy pr lo false x y).isSome)
    (e2 : c2 = (Sp.cos C O t W hy pr ml false x y).getD 0) (f2 : is = (Sp.cos C O t W hy pr ml false x y).isSome)
    (e3 : c3 = (Sp.cos C O t W hy pr lo true x y).getD 0) (f3 : lt = (Sp.cos C O t W hy pr lo true x y).isSome) :
    (ok = false ∧ is = false) ∨ (ok = true ∧ is = true ∧ c1 = c2 ∧ lt = true ∧ c3 ≤ c1) ∨ (ok = true ∧ is = false ∧ Fl.leF lo ml = false ∧ Fl.nn ml = false ∧ lt = true ∧ c3 ≤ c1) ∨ (ok = false ∧ is = true ∧ Fl.leF ml lo = false ∧ Fl.nn lo = false) := by
  have hv : Sp.rat C O t W x y < 18446744073709551616 := Fl.opN_lt _ _ _
  cases hc : Sp.can C O t W x y with
  | false => rw [f1, f2, Sp.cos_no hc, Sp.cos_no hc]; exact Or.inl ⟨rfl, rfl⟩
  | true =>
    rw [Sp.cos_last hc] at e3 f3
    cases h1 : Fl.loose lo (Sp.rat C O t W x y) with
    | false =>
      rw [Sp.cos_fit hc h1] at e1 f1
      have hle : c3 ≤ c1 := by rw [e3, e1]; simp only [Option.getD_some]; omega
      cases h2 : Fl.loose ml (Sp.rat C O t W x y) with
      | false =>
        rw [Sp.cos_fit hc h2] at e2 f2
        exact Or.inr (Or.inl ⟨f1, f2, by rw [e1, e2], f3, hle⟩)
      | true =>
        rw [Sp.cos_loose hc h2] at f2
        refine Or.inr (Or.inr (Or.inl ⟨f1, f2, ?_, ?_, f3, hle⟩))
        · cases g : Fl.leF lo ml with
          | false => rfl
          | true => have := Fl.loose_up hl hm hv g h2; rw [h1] at this; cases this
        · cases g : Fl.nn ml with
          | false => rfl
          | true => have := Fl.loose_nan (v := Sp.rat C O t W x y) hm g; rw [h2] at this; cases this
    | true =>
      rw [Sp.cos_loose hc h1] at f1
      cases h2 : Fl.loose ml (Sp.rat C O t W x y) with
      | false =>
        rw [Sp.cos_fit hc h2] at f2
        refine Or.inr (Or.inr (Or.inr ⟨f1, f2, ?_, ?_⟩))
        · cases g : Fl.leF ml lo with
          | false => rfl
          | true => have := Fl.loose_up hm hl hv g h1; rw [h2] at this; cases this
        · cases g : Fl.nn lo with
          | false => rfl
          | true => have := Fl.loose_nan (v := Sp.rat C O t W x y) hl g; rw [h1] at this; cases this
      | true =>
        rw [Sp.cos_loose hc h2] at f2
        exact Or.inl ⟨f1, f2⟩
theorem same_last (C : List Ct) (O : List Nat) (t W hy pr lo ml x y : Nat) : Sp.cos C O t W hy pr ml true x y = Sp.cos C O t W hy pr lo true x y := by
  cases hc : Sp.can C O t W x y with
  | false => rw [Sp.cos_no hc, Sp.cos_no hc]
  | true => rw [Sp.cos_last hc, Sp.cos_last hc]
set_option maxRecDepth 100000 in
set_option maxHeartbeats 8000000 in
theorem walk1 (L : List Bt) (a0 : Option Addr) (c0 : Nat) (K : Wy) (A Bq : Int) (ml : Nat) (w : World) (hV : Vw w a0 (btC L)) (hB : ∀ b ∈ L, b.cells < 256 ∧ b.kind < 256 ∧ b.len < 256 ∧ b.opp < 256) (h5 : L.length ≤ 300) (hK : K.Ok) (hA : -9223372036854775808 ≤ A ∧ A ≤ 9223372036854775807) (hBq : -9223372036854775808 ≤ Bq ∧ Bq ≤ 9223372036854775807) (hml : ml < 18446744073709551616) :
    Calls Try.prog 7 #[.slice a0 L.length c0, K.val, .int .i64 A, .int .i64 Bq, .float .f64 ml] w fun e w' => e = .returned (.bool true) ∧ Only (fun _ => False) w w' := by
  obtain ⟨wi, tb, mo, hy, pr, lo⟩ := K
  obtain ⟨W1, hW1⟩ : ∃ x, x = 1 + wi := ⟨_, rfl⟩
  obtain ⟨T1, hT1⟩ : ∃ x, x = 1 + tb % 64 := ⟨_, rfl⟩
  obtain ⟨M1, hM1⟩ : ∃ x, x = mo % 2 := ⟨_, rfl⟩
  have HCF : Hid (∀ W, Calls Try.prog 12 #[.agg #[.int .u8 (wi : Int), .int .u8 (tb : Int), .int .u8 (mo : Int), .int .u16 (hy : Int), .int .u16 (pr : Int), .float .f64 lo]] W fun e w' => e = .returned (.agg #[.int .i64 (W1 : Int), .int .i64 (T1 : Int), .int .u8 (M1 : Int), .int .i64 (hy : Int), .int .i64 (pr : Int), .float .f64 lo]) ∧ Only (fun _ => False) W w') := fun W => by
    rw [hW1, hT1, hM1]
    exact config_any ⟨wi, tb, mo, hy, pr, lo⟩ W hK
  obtain ⟨b0, b1, b2, b3, b4, b5⟩ := hK
  simp only at b0 b1 b2 b3 b4 b5
  have hw1 : W1 ≤ 256 := by omega
  have hw0 : 1 ≤ W1 := by omega
  have ht0 : 0 < T1 := by omega
  have ht1 : T1 ≤ 64 := by omega
  have hm1 : M1 ≤ 1 := by omega
  obtain ⟨n0, hn0⟩ : ∃ n, n = L.length := ⟨_, rfl⟩
  have HN : Hid (n0 = L.length) := hn0
  have HPA : Hid (∀ W, Only (fun _ => False) w W → Calls Try.prog 11 #[.slice a0 n0 c0] W fun e w' => ∃ k aC aO cC cO, e = .returned (.agg #[.slice aC k cC, .slice aO (k + 1) cO]) ∧ Made w' L n0 k aC aO cC cO ∧ Only (fun _ => False) W w') := fun W ho => para_made L n0 a0 c0 W hn0 (hV.keep ho) hB (by omega)
  unfold Wy.val
  simp only
  rw [← hn0] at h5 ⊢
  clear hn0 hW1 hT1 hM1 hV hB
  have s0 : decide ((300 : Int) < (n0 : Int)) = false := decide_eq_false (by omega)
  go_enter Try.func7, Try.ntmps7
  go_wp2_with fail
  obtain ⟨R, w0, hw0', hR, H0, lR⟩ := box6 w (.int .u8 (wi : Int)) (.int .u8 (tb : Int)) (.int .u8 (mo : Int)) (.int .u16 (hy : Int)) (.int .u16 (pr : Int)) (.float .f64 lo) 26
  rw [hw0', hR]
  clear hw0' hR
  refine Calls.mono (awake15_any _) ?_
  rintro e w2 ⟨rfl, ho2⟩
  have HW2 : Hid (Only (fun _ => False) w w2) := H0.out.2.1.trans ho2
  have HKS : Hid (∀ W', Only (fun _ => False) w2 W' → (W'.cell? ⟨R, 0, none⟩ = some (.int .u8 (wi : Int)) ∧ W'.cell? ⟨R, 1, none⟩ = some (.int .u8 (tb : Int)) ∧ W'.cell? ⟨R, 2, none⟩ = some (.int .u8 (mo : Int)) ∧ W'.cell? ⟨R, 3, none⟩ = some (.int .u16 (hy : Int)) ∧ W'.cell? ⟨R, 4, none⟩ = some (.int .u16 (pr : Int)) ∧ W'.cell? ⟨R, 5, none⟩ = some (.float .f64 lo))) := fun W' ho => blk_six (blk_keep (ho2.trans ho) H0.out.1)
  clear ho2 lR
  go_wp2_with fail
  go_cut [11, 12] from 30 to 33 (fun v5 v6 wr => ∃ (k B5 B6 : Nat) (aC aO : Option Addr) (cC cO : Nat) (X : World), X = wr ∧ v5 = .pointer (some ⟨B5, 0, none⟩) ∧ v6 = .pointer (some ⟨B6, 0, none⟩) ∧ Made X L n0 k aC aO cC cO ∧ Blk w2 X B5 31 #[.slice aC k cC, .slice aO (k + 1) cO] ∧ Blk w2 X B6 35 #[.int .i64 (W1 : Int), .int .i64 (T1 : Int), .int .u8 (M1 : Int), .int .i64 (hy : Int), .int .i64 (pr : Int), .float .f64 lo] ∧ Only (fun _ => False) w2 X)
  case first =>
    have HXD : Hid (Only (fun _ => False) w2 w2.drew) := (Only.refl _ _).drew
    refine wp_region_held_drew (S := (fun W' => W'.cell? ⟨R, 0, none⟩ = some (.int .u8 (wi : Int)) ∧ W'.cell? ⟨R, 1, none⟩ = some (.int .u8 (tb : Int)) ∧ W'.cell? ⟨R, 2, none⟩ = some (.int .u8 (mo : Int)) ∧ W'.cell? ⟨R, 3, none⟩ = some (.int .u16 (hy : Int)) ∧ W'.cell? ⟨R, 4, none⟩ = some (.int .u16 (pr : Int)) ∧ W'.cell? ⟨R, 5, none⟩ = some (.float .f64 lo))) (by kernel_rfl) (HKS.out _ HXD.out) (fun hHeld => ?_)
    refine wpAnyH_take (i := 0) (oi := { dst := some 30, op := _, type := _, pos := _, after := _, guard := _ }) (v := .slice a0 n0 c0) rfl (by kernel_rfl) (by kernel_rfl) (by kernel_rfl) (fun _ _ _ h => h) (Or.inl ⟨by rfl, fun w hSw => by obtain ⟨y0, y1, y2, y3, y4, y5⟩ := hSw; first | (go_simp; done) | go_simp⟩) (by assumption) ?_
    (try simp only [Act.put, List.setIfInBounds_toArray, List.set_cons_zero, List.set_cons_succ])
    refine wpAnyH_take (i := 2) (oi := { dst := some 32, op := _, type := _, pos := _, after := _, guard := _ }) (v := .agg #[.int .u8 (wi : Int), .int .u8 (tb : Int), .int .u8 (mo : Int), .int .u16 (hy : Int), .int .u16 (pr : Int), .float .f64 lo]) rfl (by kernel_rfl) (by kernel_rfl) (by kernel_rfl) (fun _ _ _ h => h) (Or.inl ⟨by rfl, fun w hSw => by obtain ⟨y0, y1, y2, y3, y4, y5⟩ := hSw; first | (go_simp; done) | go_simp⟩) (by assumption) ?_
    (try simp only [Act.put, List.setIfInBounds_toArray, List.set_cons_zero, List.set_cons_succ])
    refine wpAnyH_ready (rs := [1, 4, 5]) (by kernel_rfl) (by simp) ?_
    refine AllReadyH.cons rfl (fun K hK => ?_) (AllReadyH.cons rfl (fun K hK => ?_) (AllReadyH.cons rfl (fun K hK => ?_) AllReadyH.nil))
    · rw [if_pos (by rfl)]
      go_simp
      refine Calls.mono (HPA.out _ (HW2.out.trans HXD.out)) ?_
      rintro e y1 ⟨k, aC, aO, cC, cO, rfl, hmd, ho⟩
      have HMy1 : Hid (Made y1 L n0 k aC aO cC cO) := hmd
      clear hmd
      have HXy1 : Hid (Only (fun _ => False) w2 y1) := HXD.out.trans ho
      clear ho
      refine hK.out _ _ (HKS.out _ HXy1.out) (fun hHeld => ?_)
      clear hK
      (try simp only [Act.put, List.setIfInBounds_toArray, List.set_cons_zero, List.set_cons_succ])
      refine wpAnyH_ready (rs := [3, 4, 5]) (by kernel_rfl) (by simp) ?_
      refine AllReadyH.cons rfl (fun K hK => ?_) (AllReadyH.cons rfl (fun K hK => ?_) (AllReadyH.cons rfl (fun K hK => ?_) AllReadyH.nil))
      · rw [if_pos (by rfl)]
        go_simp
        refine Calls.mono (HCF.out _) ?_
        rintro e y2 ⟨rfl, ho⟩
        have HMy2 : Hid (Made y2 L n0 k aC aO cC cO) := HMy1.out.keep ho
        have HXy2 : Hid (Only (fun _ => False) w2 y2) := HXy1.out.trans ho
        clear ho
        refine hK.out _ _ (HKS.out _ HXy2.out) (fun hHeld => ?_)
        clear hK
        (try simp only [Act.put, List.setIfInBounds_toArray, List.set_cons_zero, List.set_cons_succ])
        refine wpAnyH_ready (rs := [4, 5]) (by kernel_rfl) (by simp) ?_
        refine AllReadyH.cons rfl (fun K hK => ?_) (AllReadyH.cons rfl (fun K hK => ?_) AllReadyH.nil)
        · rw [if_pos (by rfl)]
          go_simp
          obtain ⟨y3, hy3⟩ : ∃ Y, Y = y2.alloc (.cells #[.slice none 0 0, .slice none 0 0] 31) := ⟨_, rfl⟩
          obtain ⟨B5, hB5⟩ : ∃ b, b = y2.heap.size := ⟨_, rfl⟩
          have ho : Only (fun _ => False) y2 y3 := by rw [hy3]; exact (Only.refl _ _).alloc _
          have HXy3 : Hid (Only (fun _ => False) w2 y3) := HXy2.out.trans ho
          have HB5y3 : Hid (Blk w2 y3 B5 31 #[.slice none 0 0, .slice none 0 0]) := by rw [hy3, hB5]; exact Blk.made HXy2.out _ _
          have HMy3 : Hid (Made y3 L n0 k aC aO cC cO) := HMy2.out.keep ho
          rw [← hy3, ← hB5]
          clear hy3 hB5 ho
          refine hK.out _ _ (HKS.out _ HXy3.out) (fun hHeld => ?_)
          clear hK
          (try simp only [Act.put, List.setIfInBounds_toArray, List.set_cons_zero, List.set_cons_succ])
          refine wpAnyH_ready (rs := [5]) (by kernel_rfl) (by simp) ?_
          refine AllReadyH.cons rfl (fun K hK => ?_) AllReadyH.nil
          rw [if_pos (by rfl)]
          go_simp
          obtain ⟨y4, hy4⟩ : ∃ Y, Y = y3.alloc (.cells #[.int .i64 0, .int .i64 0, .int .u8 0, .int .i64 0, .int .i64 0, .float .f64 0] 35) := ⟨_, rfl⟩
          obtain ⟨B6, hB6⟩ : ∃ b, b = y3.heap.size := ⟨_, rfl⟩
          have ho : Only (fun _ => False) y3 y4 := by rw [hy4]; exact (Only.refl _ _).alloc _
          have HXy4 : Hid (Only (fun _ => False) w2 y4) := HXy3.out.trans ho
          have HB6y4 : Hid (Blk w2 y4 B6 35 #[.int .i64 0, .int .i64 0, .int .u8 0, .int .i64 0, .int .i64 0, .float .f64 0]) := by rw [hy4, hB6]; exact Blk.made HXy3.out _ _
          have HB5y4 : Hid (Blk w2 y4 B5 31 #[.slice none 0 0, .slice none 0 0]) := HB5y3.out.keep ho
          have HMy4 : Hid (Made y4 L n0 k aC aO cC cO) := HMy3.out.keep ho
          rw [← hy4, ← hB6]
          clear hy4 hB6 ho
          refine hK.out _ _ (HKS.out _ HXy4.out) (fun hHeld => ?_)
          clear hK
          (try simp only [Act.put, List.setIfInBounds_toArray, List.set_cons_zero, List.set_cons_succ])
          refine wpAnyH_ready (rs := [6]) (by kernel_rfl) (by simp) ?_
          refine AllReadyH.cons rfl (fun K hK => ?_) AllReadyH.nil
          rw [if_pos (by rfl)]
          have HXa : Hid (Only (fun _ => False) w2 (y4.setRow B5 #[.slice aC k cC, .slice aO (k + 1) cO])) := HXy4.out.setRowNew HB5y4.out.2 _
          refine wp_store_row 31 _ _ rfl B5 #[.slice aC k cC, .slice aO (k + 1) cO] rfl rfl 31 _ HB5y4.out.1 (by kernel_rfl) rfl (two_one _ _ _ _ _ _) ?_
          have HMa : Hid (Made (y4.setRow B5 #[.slice aC k cC, .slice aO (k + 1) cO]) L n0 k aC aO cC cO ∧ Blk w2 (y4.setRow B5 #[.slice aC k cC, .slice aO (k + 1) cO]) B5 31 #[.slice aC k cC, .slice aO (k + 1) cO] ∧ Blk w2 (y4.setRow B5 #[.slice aC k cC, .slice aO (k + 1) cO]) B6 35 #[.int .i64 0, .int .i64 0, .int .u8 0, .int .i64 0, .int .i64 0, .float .f64 0]) := ⟨HMy4.out.store HB5y4.out.1 (by decide) (by decide) _, HB5y4.out.put _, HB6y4.out.far HB5y4.out (by decide) _⟩
          obtain ⟨za, hza⟩ : ∃ Y, Y = y4.setRow B5 #[.slice aC k cC, .slice aO (k + 1) cO] := ⟨_, rfl⟩
          rw [← hza] at HXa HMa ⊢
          clear hza
          refine hK.out _ _ (HKS.out _ HXa.out) (fun hHeld => ?_)
          clear hK
          (try simp only [Act.put, List.setIfInBounds_toArray, List.set_cons_zero, List.set_cons_succ])
          refine wpAnyH_ready (rs := [7]) (by kernel_rfl) (by simp) ?_
          refine AllReadyH.cons rfl (fun K hK => ?_) AllReadyH.nil
          rw [if_pos (by rfl)]
          have HXb : Hid (Only (fun _ => False) w2 (za.setRow B6 #[.int .i64 (W1 : Int), .int .i64 (T1 : Int), .int .u8 (M1 : Int), .int .i64 (hy : Int), .int .i64 (pr : Int), .float .f64 lo])) := HXa.out.setRowNew HMa.out.2.2.2 _
          refine wp_store_row 35 _ _ rfl B6 #[.int .i64 (W1 : Int), .int .i64 (T1 : Int), .int .u8 (M1 : Int), .int .i64 (hy : Int), .int .i64 (pr : Int), .float .f64 lo] rfl rfl 35 _ HMa.out.2.2.1 (by kernel_rfl) rfl (cfg_one _ _ _ _ _ _) ?_
          have HMb : Hid (Made (za.setRow B6 #[.int .i64 (W1 : Int), .int .i64 (T1 : Int), .int .u8 (M1 : Int), .int .i64 (hy : Int), .int .i64 (pr : Int), .float .f64 lo]) L n0 k aC aO cC cO ∧ Blk w2 (za.setRow B6 #[.int .i64 (W1 : Int), .int .i64 (T1 : Int), .int .u8 (M1 : Int), .int .i64 (hy : Int), .int .i64 (pr : Int), .float .f64 lo]) B5 31 #[.slice aC k cC, .slice aO (k + 1) cO] ∧ Blk w2 (za.setRow B6 #[.int .i64 (W1 : Int), .int .i64 (T1 : Int), .int .u8 (M1 : Int), .int .i64 (hy : Int), .int .i64 (pr : Int), .float .f64 lo]) B6 35 #[.int .i64 (W1 : Int), .int .i64 (T1 : Int), .int .u8 (M1 : Int), .int .i64 (hy : Int), .int .i64 (pr : Int), .float .f64 lo]) := ⟨HMa.out.1.store HMa.out.2.2.1 (by decide) (by decide) _, HMa.out.2.1.far HMa.out.2.2 (by decide) _, HMa.out.2.2.put _⟩
          obtain ⟨zb, hzb⟩ : ∃ Y, Y = za.setRow B6 #[.int .i64 (W1 : Int), .int .i64 (T1 : Int), .int .u8 (M1 : Int), .int .i64 (hy : Int), .int .i64 (pr : Int), .float .f64 lo] := ⟨_, rfl⟩
          rw [← hzb] at HXb HMb ⊢
          clear hzb
          refine hK.out _ _ (HKS.out _ HXb.out) (fun hHeld => ?_)
          clear hK
          (try simp only [Act.put, List.setIfInBounds_toArray, List.set_cons_zero, List.set_cons_succ])
          refine wpAnyH_done (by kernel_rfl) ?_ _
          clear hHeld
          go_wp2_with fail
          go_meet
          exact ⟨k, B5, B6, aC, aO, cC, cO, _, rfl, rfl, rfl, HMb.out.1, HMb.out.2.1, HMb.out.2.2, HXb.out⟩
        · rw [if_pos (by rfl)]
          go_simp
          obtain ⟨y3, hy3⟩ : ∃ Y, Y = y2.alloc (.cells #[.int .i64 0, .int .i64 0, .int .u8 0, .int .i64 0, .int .i64 0, .float .f64 0] 35) := ⟨_, rfl⟩
          obtain ⟨B6, hB6⟩ : ∃ b, b = y2.heap.size := ⟨_, rfl⟩
          have ho : Only (fun _ => False) y2 y3 := by rw [hy3]; exact (Only.refl _ _).alloc _
          have HXy3 : Hid (Only (fun _ => False) w2 y3) := HXy2.out.trans ho
          have HB6y3 : Hid (Blk w2 y3 B6 35 #[.int .i64 0, .int .i64 0, .int .u8 0, .int .i64 0, .int .i64 0, .float .f64 0]) := by rw [hy3, hB6]; exact Blk.made HXy2.out _ _
          have HMy3 : Hid (Made y3 L n0 k aC aO cC cO) := HMy2.out.keep ho
          rw [← hy3, ← hB6]
          clear hy3 hB6 ho
          refine hK.out _ _ (HKS.out _ HXy3.out) (fun hHeld => ?_)
          clear hK
          (try simp only [Act.put, List.setIfInBounds_toArray, List.set_cons_zero, List.set_cons_succ])
          refine wpAnyH_ready (rs := [4]) (by kernel_rfl) (by simp) ?_
          refine AllReadyH.cons rfl (fun K hK => ?_) AllReadyH.nil
          rw [if_pos (by rfl)]
          go_simp
          obtain ⟨y4, hy4⟩ : ∃ Y, Y = y3.alloc (.cells #[.slice none 0 0, .slice none 0 0] 31) := ⟨_, rfl⟩
          obtain ⟨B5, hB5⟩ : ∃ b, b = y3.heap.size := ⟨_, rfl⟩
          have ho : Only (fun _ => False) y3 y4 := by rw [hy4]; exact (Only.refl _ _).alloc _
          have HXy4 : Hid (Only (fun _ => False) w2 y4) := HXy3.out.trans ho
          have HB5y4 : Hid (Blk w2 y4 B5 31 #[.slice none 0 0, .slice none 0 0]) := by rw [hy4, hB5]; exact Blk.made HXy3.out _ _
          have HB6y4 : Hid (Blk w2 y4 B6 35 #[.int .i64 0, .int .i64 0, .int .u8 0, .int .i64 0, .int .i64 0, .float .f64 0]) := HB6y3.out.keep ho
          have HMy4 : Hid (Made y4 L n0 k aC aO cC cO) := HMy3.out.keep ho
          rw [← hy4, ← hB5]
          clear hy4 hB5 ho
          refine hK.out _ _ (HKS.out _ HXy4.out) (fun hHeld => ?_)
          clear hK
          (try simp only [Act.put, List.setIfInBounds_toArray, List.set_cons_zero, List.set_cons_succ])
          refine wpAnyH_ready (rs := [6]) (by kernel_rfl) (by simp) ?_
          refine AllReadyH.cons rfl (fun K hK => ?_) AllReadyH.nil
          rw [if_pos (by rfl)]
          have HXa : Hid (Only (fun _ => False) w2 (y4.setRow B5 #[.slice aC k cC, .slice aO (k + 1) cO])) := HXy4.out.setRowNew HB5y4.out.2 _
          refine wp_store_row 31 _ _ rfl B5 #[.slice aC k cC, .slice aO (k + 1) cO] rfl rfl 31 _ HB5y4.out.1 (by kernel_rfl) rfl (two_one _ _ _ _ _ _) ?_
          have HMa : Hid (Made (y4.setRow B5 #[.slice aC k cC, .slice aO (k + 1) cO]) L n0 k aC aO cC cO ∧ Blk w2 (y4.setRow B5 #[.slice aC k cC, .slice aO (k + 1) cO]) B5 31 #[.slice aC k cC, .slice aO (k + 1) cO] ∧ Blk w2 (y4.setRow B5 #[.slice aC k cC, .slice aO (k + 1) cO]) B6 35 #[.int .i64 0, .int .i64 0, .int .u8 0, .int .i64 0, .int .i64 0, .float .f64 0]) := ⟨HMy4.out.store HB5y4.out.1 (by decide) (by decide) _, HB5y4.out.put _, HB6y4.out.far HB5y4.out (by decide) _⟩
          obtain ⟨za, hza⟩ : ∃ Y, Y = y4.setRow B5 #[.slice aC k cC, .slice aO (k + 1) cO] := ⟨_, rfl⟩
          rw [← hza] at HXa HMa ⊢
          clear hza
          refine hK.out _ _ (HKS.out _ HXa.out) (fun hHeld => ?_)
          clear hK
          (try simp only [Act.put, List.setIfInBounds_toArray, List.set_cons_zero, List.set_cons_succ])
          refine wpAnyH_ready (rs := [7]) (by kernel_rfl) (by simp) ?_
          refine AllReadyH.cons rfl (fun K hK => ?_) AllReadyH.nil
          rw [if_pos (by rfl)]
          have HXb : Hid (Only (fun _ => False) w2 (za.setRow B6 #[.int .i64 (W1 : Int), .int .i64 (T1 : Int), .int .u8 (M1 : Int), .int .i64 (hy : Int), .int .i64 (pr : Int), .float .f64 lo])) := HXa.out.setRowNew HMa.out.2.2.2 _
          refine wp_store_row 35 _ _ rfl B6 #[.int .i64 (W1 : Int), .int .i64 (T1 : Int), .int .u8 (M1 : Int), .int .i64 (hy : Int), .int .i64 (pr : Int), .float .f64 lo] rfl rfl 35 _ HMa.out.2.2.1 (by kernel_rfl) rfl (cfg_one _ _ _ _ _ _) ?_
          have HMb : Hid (Made (za.setRow B6 #[.int .i64 (W1 : Int), .int .i64 (T1 : Int), .int .u8 (M1 : Int), .int .i64 (hy : Int), .int .i64 (pr : Int), .float .f64 lo]) L n0 k aC aO cC cO ∧ Blk w2 (za.setRow B6 #[.int .i64 (W1 : Int), .int .i64 (T1 : Int), .int .u8 (M1 : Int), .int .i64 (hy : Int), .int .i64 (pr : Int), .float .f64 lo]) B5 31 #[.slice aC k cC, .slice aO (k + 1) cO] ∧ Blk w2 (za.setRow B6 #[.int .i64 (W1 : Int), .int .i64 (T1 : Int), .int .u8 (M1 : Int), .int .i64 (hy : Int), .int .i64 (pr : Int), .float .f64 lo]) B6 35 #[.int .i64 (W1 : Int), .int .i64 (T1 : Int), .int .u8 (M1 : Int), .int .i64 (hy : Int), .int .i64 (pr : Int), .float .f64 lo]) := ⟨HMa.out.1.store HMa.out.2.2.1 (by decide) (by decide) _, HMa.out.2.1.far HMa.out.2.2 (by decide) _, HMa.out.2.2.put _⟩
          obtain ⟨zb, hzb⟩ : ∃ Y, Y = za.setRow B6 #[.int .i64 (W1 : Int), .int .i64 (T1 : Int), .int .u8 (M1 : Int), .int .i64 (hy : Int), .int .i64 (pr : Int), .float .f64 lo] := ⟨_, rfl⟩
          rw [← hzb] at HXb HMb ⊢
          clear hzb
          refine hK.out _ _ (HKS.out _ HXb.out) (fun hHeld => ?_)
          clear hK
          (try simp only [Act.put, List.setIfInBounds_toArray, List.set_cons_zero, List.set_cons_succ])
          refine wpAnyH_done (by kernel_rfl) ?_ _
          clear hHeld
          go_wp2_with fail
          go_meet
          exact ⟨k, B5, B6, aC, aO, cC, cO, _, rfl, rfl, rfl, HMb.out.1, HMb.out.2.1, HMb.out.2.2, HXb.out⟩
      · rw [if_pos (by rfl)]
        go_simp
        obtain ⟨y2, hy2⟩ : ∃ Y, Y = y1.alloc (.cells #[.slice none 0 0, .slice none 0 0] 31) := ⟨_, rfl⟩
        obtain ⟨B5, hB5⟩ : ∃ b, b = y1.heap.size := ⟨_, rfl⟩
        have ho : Only (fun _ => False) y1 y2 := by rw [hy2]; exact (Only.refl _ _).alloc _
        have HXy2 : Hid (Only (fun _ => False) w2 y2) := HXy1.out.trans ho
        have HB5y2 : Hid (Blk w2 y2 B5 31 #[.slice none 0 0, .slice none 0 0]) := by rw [hy2, hB5]; exact Blk.made HXy1.out _ _
        have HMy2 : Hid (Made y2 L n0 k aC aO cC cO) := HMy1.out.keep ho
        rw [← hy2, ← hB5]
        clear hy2 hB5 ho
        refine hK.out _ _ (HKS.out _ HXy2.out) (fun hHeld => ?_)
        clear hK
        (try simp only [Act.put, List.setIfInBounds_toArray, List.set_cons_zero, List.set_cons_succ])
        refine wpAnyH_ready (rs := [3, 5]) (by kernel_rfl) (by simp) ?_
        refine AllReadyH.cons rfl (fun K hK => ?_) (AllReadyH.cons rfl (fun K hK => ?_) AllReadyH.nil)
        · rw [if_pos (by rfl)]
          go_simp
          refine Calls.mono (HCF.out _) ?_
          rintro e y3 ⟨rfl, ho⟩
          have HMy3 : Hid (Made y3 L n0 k aC aO cC cO) := HMy2.out.keep ho
          have HXy3 : Hid (Only (fun _ => False) w2 y3) := HXy2.out.trans ho
          have HB5y3 : Hid (Blk w2 y3 B5 31 #[.slice none 0 0, .slice none 0 0]) := HB5y2.out.keep ho
          clear ho
          refine hK.out _ _ (HKS.out _ HXy3.out) (fun hHeld => ?_)
          clear hK
          (try simp only [Act.put, List.setIfInBounds_toArray, List.set_cons_zero, List.set_cons_succ])
          refine wpAnyH_ready (rs := [5]) (by kernel_rfl) (by simp) ?_
          refine AllReadyH.cons rfl (fun K hK => ?_) AllReadyH.nil
          rw [if_pos (by rfl)]
          go_simp
          obtain ⟨y4, hy4⟩ : ∃ Y, Y = y3.alloc (.cells #[.int .i64 0, .int .i64 0, .int .u8 0, .int .i64 0, .int .i64 0, .float .f64 0] 35) := ⟨_, rfl⟩
          obtain ⟨B6, hB6⟩ : ∃ b, b = y3.heap.size := ⟨_, rfl⟩
          have ho : Only (fun _ => False) y3 y4 := by rw [hy4]; exact (Only.refl _ _).alloc _
          have HXy4 : Hid (Only (fun _ => False) w2 y4) := HXy3.out.trans ho
          have HB6y4 : Hid (Blk w2 y4 B6 35 #[.int .i64 0, .int .i64 0, .int .u8 0, .int .i64 0, .int .i64 0, .float .f64 0]) := by rw [hy4, hB6]; exact Blk.made HXy3.out _ _
          have HB5y4 : Hid (Blk w2 y4 B5 31 #[.slice none 0 0, .slice none 0 0]) := HB5y3.out.keep ho
          have HMy4 : Hid (Made y4 L n0 k aC aO cC cO) := HMy3.out.keep ho
          rw [← hy4, ← hB6]
          clear hy4 hB6 ho
          refine hK.out _ _ (HKS.out _ HXy4.out) (fun hHeld => ?_)
          clear hK
          (try simp only [Act.put, List.setIfInBounds_toArray, List.set_cons_zero, List.set_cons_succ])
          refine wpAnyH_ready (rs := [6]) (by kernel_rfl) (by simp) ?_
          refine AllReadyH.cons rfl (fun K hK => ?_) AllReadyH.nil
          rw [if_pos (by rfl)]
          have HXa : Hid (Only (fun _ => False) w2 (y4.setRow B5 #[.slice aC k cC, .slice aO (k + 1) cO])) := HXy4.out.setRowNew HB5y4.out.2 _
          refine wp_store_row 31 _ _ rfl B5 #[.slice aC k cC, .slice aO (k + 1) cO] rfl rfl 31 _ HB5y4.out.1 (by kernel_rfl) rfl (two_one _ _ _ _ _ _) ?_
          have HMa : Hid (Made (y4.setRow B5 #[.slice aC k cC, .slice aO (k + 1) cO]) L n0 k aC aO cC cO ∧ Blk w2 (y4.setRow B5 #[.slice aC k cC, .slice aO (k + 1) cO]) B5 31 #[.slice aC k cC, .slice aO (k + 1) cO] ∧ Blk w2 (y4.setRow B5 #[.slice aC k cC, .slice aO (k + 1) cO]) B6 35 #[.int .i64 0, .int .i64 0, .int .u8 0, .int .i64 0, .int .i64 0, .float .f64 0]) := ⟨HMy4.out.store HB5y4.out.1 (by decide) (by decide) _, HB5y4.out.put _, HB6y4.out.far HB5y4.out (by decide) _⟩
          obtain ⟨za, hza⟩ : ∃ Y, Y = y4.setRow B5 #[.slice aC k cC, .slice aO (k + 1) cO] := ⟨_, rfl⟩
          rw [← hza] at HXa HMa ⊢
          clear hza
          refine hK.out _ _ (HKS.out _ HXa.out) (fun hHeld => ?_)
          clear hK
          (try simp only [Act.put, List.setIfInBounds_toArray, List.set_cons_zero, List.set_cons_succ])
          refine wpAnyH_ready (rs := [7]) (by kernel_rfl) (by simp) ?_
          refine AllReadyH.cons rfl (fun K hK => ?_) AllReadyH.nil
          rw [if_pos (by rfl)]
          have HXb : Hid (Only (fun _ => False) w2 (za.setRow B6 #[.int .i64 (W1 : Int), .int .i64 (T1 : Int), .int .u8 (M1 : Int), .int .i64 (hy : Int), .int .i64 (pr : Int), .float .f64 lo])) := HXa.out.setRowNew HMa.out.2.2.2 _
          refine wp_store_row 35 _ _ rfl B6 #[.int .i64 (W1 : Int), .int .i64 (T1 : Int), .int .u8 (M1 : Int), .int .i64 (hy : Int), .int .i64 (pr : Int), .float .f64 lo] rfl rfl 35 _ HMa.out.2.2.1 (by kernel_rfl) rfl (cfg_one _ _ _ _ _ _) ?_
          have HMb : Hid (Made (za.setRow B6 #[.int .i64 (W1 : Int), .int .i64 (T1 : Int), .int .u8 (M1 : Int), .int .i64 (hy : Int), .int .i64 (pr : Int), .float .f64 lo]) L n0 k aC aO cC cO ∧ Blk w2 (za.setRow B6 #[.int .i64 (W1 : Int), .int .i64 (T1 : Int), .int .u8 (M1 : Int), .int .i64 (hy : Int), .int .i64 (pr : Int), .float .f64 lo]) B5 31 #[.slice aC k cC, .slice aO (k + 1) cO] ∧ Blk w2 (za.setRow B6 #[.int .i64 (W1 : Int), .int .i64 (T1 : Int), .int .u8 (M1 : Int), .int .i64 (hy : Int), .int .i64 (pr : Int), .float .f64 lo]) B6 35 #[.int .i64 (W1 : Int), .int .i64 (T1 : Int), .int .u8 (M1 : Int), .int .i64 (hy : Int), .int .i64 (pr : Int), .float .f64 lo]) := ⟨HMa.out.1.store HMa.out.2.2.1 (by decide) (by decide) _, HMa.out.2.1.far HMa.out.2.2 (by decide) _, HMa.out.2.2.put _⟩
          obtain ⟨zb, hzb⟩ : ∃ Y, Y = za.setRow B6 #[.int .i64 (W1 : Int), .int .i64 (T1 : Int), .int .u8 (M1 : Int), .int .i64 (hy : Int), .int .i64 (pr : Int), .float .f64 lo] := ⟨_, rfl⟩
          rw [← hzb] at HXb HMb ⊢
          clear hzb
          refine hK.out _ _ (HKS.out _ HXb.out) (fun hHeld => ?_)
          clear hK
          (try simp only [Act.put, List.setIfInBounds_toArray, List.set_cons_zero, List.set_cons_succ])
          refine wpAnyH_done (by kernel_rfl) ?_ _
          clear hHeld
          go_wp2_with fail
          go_meet
          exact ⟨k, B5, B6, aC, aO, cC, cO, _, rfl, rfl, rfl, HMb.out.1, HMb.out.2.1, HMb.out.2.2, HXb.out⟩
        · rw [if_pos (by rfl)]
          go_simp
          obtain ⟨y3, hy3⟩ : ∃ Y, Y = y2.alloc (.cells #[.int .i64 0, .int .i64 0, .int .u8 0, .int .i64 0, .int .i64 0, .float .f64 0] 35) := ⟨_, rfl⟩
          obtain ⟨B6, hB6⟩ : ∃ b, b = y2.heap.size := ⟨_, rfl⟩
          have ho : Only (fun _ => False) y2 y3 := by rw [hy3]; exact (Only.refl _ _).alloc _
          have HXy3 : Hid (Only (fun _ => False) w2 y3) := HXy2.out.trans ho
          have HB6y3 : Hid (Blk w2 y3 B6 35 #[.int .i64 0, .int .i64 0, .int .u8 0, .int .i64 0, .int .i64 0, .float .f64 0]) := by rw [hy3, hB6]; exact Blk.made HXy2.out _ _
          have HB5y3 : Hid (Blk w2 y3 B5 31 #[.slice none 0 0, .slice none 0 0]) := HB5y2.out.keep ho
          have HMy3 : Hid (Made y3 L n0 k aC aO cC cO) := HMy2.out.keep ho
          rw [← hy3, ← hB6]
          clear hy3 hB6 ho
          refine hK.out _ _ (HKS.out _ HXy3.out) (fun hHeld => ?_)
          clear hK
          (try simp only [Act.put, List.setIfInBounds_toArray, List.set_cons_zero, List.set_cons_succ])
          refine wpAnyH_ready (rs := [3]) (by kernel_rfl) (by simp) ?_
          refine AllReadyH.cons rfl (fun K hK => ?_) AllReadyH.nil
          rw [if_pos (by rfl)]
          go_simp
          refine Calls.mono (HCF.out _) ?_
          rintro e y4 ⟨rfl, ho⟩
          have HMy4 : Hid (Made y4 L n0 k aC aO cC cO) := HMy3.out.keep ho
          have HXy4 : Hid (Only (fun _ => False) w2 y4) := HXy3.out.trans ho
          have HB5y4 : Hid (Blk w2 y4 B5 31 #[.slice none 0 0, .slice none 0 0]) := HB5y3.out.keep ho
          have HB6y4 : Hid (Blk w2 y4 B6 35 #[.int .i64 0, .int .i64 0, .int .u8 0, .int .i64 0, .int .i64 0, .float .f64 0]) := HB6y3.out.keep ho
          clear ho
          refine hK.out _ _ (HKS.out _ HXy4.out) (fun hHeld => ?_)
          clear hK
          (try simp only [Act.put, List.setIfInBounds_toArray, List.set_cons_zero, List.set_cons_succ])
          refine wpAnyH_ready (rs := [6]) (by kernel_rfl) (by simp) ?_
          refine AllReadyH.cons rfl (fun K hK => ?_) AllReadyH.nil
          rw [if_pos (by rfl)]
          have HXa : Hid (Only (fun _ => False) w2 (y4.setRow B5 #[.slice aC k cC, .slice aO (k + 1) cO])) := HXy4.out.setRowNew HB5y4.out.2 _
          refine wp_store_row 31 _ _ rfl B5 #[.slice aC k cC, .slice aO (k + 1) cO] rfl rfl 31 _ HB5y4.out.1 (by kernel_rfl) rfl (two_one _ _ _ _ _ _) ?_
          have HMa : Hid (Made (y4.setRow B5 #[.slice aC k cC, .slice aO (k + 1) cO]) L n0 k aC aO cC cO ∧ Blk w2 (y4.setRow B5 #[.slice aC k cC, .slice aO (k + 1) cO]) B5 31 #[.slice aC k cC, .slice aO (k + 1) cO] ∧ Blk w2 (y4.setRow B5 #[.slice aC k cC, .slice aO (k + 1) cO]) B6 35 #[.int .i64 0, .int .i64 0, .int .u8 0, .int .i64 0, .int .i64 0, .float .f64 0]) := ⟨HMy4.out.store HB5y4.out.1 (by decide) (by decide) _, HB5y4.out.put _, HB6y4.out.far HB5y4.out (by decide) _⟩
          obtain ⟨za, hza⟩ : ∃ Y, Y = y4.setRow B5 #[.slice aC k cC, .slice aO (k + 1) cO] := ⟨_, rfl⟩
          rw [← hza] at HXa HMa ⊢
          clear hza
          refine hK.out _ _ (HKS.out _ HXa.out) (fun hHeld => ?_)
          clear hK
          (try simp only [Act.put, List.setIfInBounds_toArray, List.set_cons_zero, List.set_cons_succ])
          refine wpAnyH_ready (rs := [7]) (by kernel_rfl) (by simp) ?_
          refine AllReadyH.cons rfl (fun K hK => ?_) AllReadyH.nil
          rw [if_pos (by rfl)]
          have HXb : Hid (Only (fun _ => False) w2 (za.setRow B6 #[.int .i64 (W1 : Int), .int .i64 (T1 : Int), .int .u8 (M1 : Int), .int .i64 (hy : Int), .int .i64 (pr : Int), .float .f64 lo])) := HXa.out.setRowNew HMa.out.2.2.2 _
          refine wp_store_row 35 _ _ rfl B6 #[.int .i64 (W1 : Int), .int .i64 (T1 : Int), .int .u8 (M1 : Int), .int .i64 (hy : Int), .int .i64 (pr : Int), .float .f64 lo] rfl rfl 35 _ HMa.out.2.2.1 (by kernel_rfl) rfl (cfg_one _ _ _ _ _ _) ?_
          have HMb : Hid (Made (za.setRow B6 #[.int .i64 (W1 : Int), .int .i64 (T1 : Int), .int .u8 (M1 : Int), .int .i64 (hy : Int), .int .i64 (pr : Int), .float .f64 lo]) L n0 k aC aO cC cO ∧ Blk w2 (za.setRow B6 #[.int .i64 (W1 : Int), .int .i64 (T1 : Int), .int .u8 (M1 : Int), .int .i64 (hy : Int), .int .i64 (pr : Int), .float .f64 lo]) B5 31 #[.slice aC k cC, .slice aO (k + 1) cO] ∧ Blk w2 (za.setRow B6 #[.int .i64 (W1 : Int), .int .i64 (T1 : Int), .int .u8 (M1 : Int), .int .i64 (hy : Int), .int .i64 (pr : Int), .float .f64 lo]) B6 35 #[.int .i64 (W1 : Int), .int .i64 (T1 : Int), .int .u8 (M1 : Int), .int .i64 (hy : Int), .int .i64 (pr : Int), .float .f64 lo]) := ⟨HMa.out.1.store HMa.out.2.2.1 (by decide) (by decide) _, HMa.out.2.1.far HMa.out.2.2 (by decide) _, HMa.out.2.2.put _⟩
          obtain ⟨zb, hzb⟩ : ∃ Y, Y = za.setRow B6 #[.int .i64 (W1 : Int), .int .i64 (T1 : Int), .int .u8 (M1 : Int), .int .i64 (hy : Int), .int .i64 (pr : Int), .float .f64 lo] := ⟨_, rfl⟩
          rw [← hzb] at HXb HMb ⊢
          clear hzb
          refine hK.out _ _ (HKS.out _ HXb.out) (fun hHeld => ?_)
          clear hK
          (try simp only [Act.put, List.setIfInBounds_toArray, List.set_cons_zero, List.set_cons_succ])
          refine wpAnyH_done (by kernel_rfl) ?_ _
          clear hHeld
          go_wp2_with fail
          go_meet
          exact ⟨k, B5, B6, aC, aO, cC, cO, _, rfl, rfl, rfl, HMb.out.1, HMb.out.2.1, HMb.out.2.2, HXb.out⟩
      · rw [if_pos (by rfl)]
        go_simp
        obtain ⟨y2, hy2⟩ : ∃ Y, Y = y1.alloc (.cells #[.int .i64 0, .int .i64 0, .int .u8 0, .int .i64 0, .int .i64 0, .float .f64 0] 35) := ⟨_, rfl⟩
        obtain ⟨B6, hB6⟩ : ∃ b, b = y1.heap.size := ⟨_, rfl⟩
        have ho : Only (fun _ => False) y1 y2 := by rw [hy2]; exact (Only.refl _ _).alloc _
        have HXy2 : Hid (Only (fun _ => False) w2 y2) := HXy1.out.trans ho
        have HB6y2 : Hid (Blk w2 y2 B6 35 #[.int .i64 0, .int .i64 0, .int .u8 0, .int .i64 0, .int .i64 0, .float .f64 0]) := by rw [hy2, hB6]; exact Blk.made HXy1.out _ _
        have HMy2 : Hid (Made y2 L n0 k aC aO cC cO) := HMy1.out.keep ho
        rw [← hy2, ← hB6]
        clear hy2 hB6 ho
        refine hK.out _ _ (HKS.out _ HXy2.out) (fun hHeld => ?_)
        clear hK
        (try simp only [Act.put, List.setIfInBounds_toArray, List.set_cons_zero, List.set_cons_succ])
        refine wpAnyH_ready (rs := [3, 4]) (by kernel_rfl) (by simp) ?_
        refine AllReadyH.cons rfl (fun K hK => ?_) (AllReadyH.cons rfl (fun K hK => ?_) AllReadyH.nil)
        · rw [if_pos (by rfl)]
          go_simp
          refine Calls.mono (HCF.out _) ?_
          rintro e y3 ⟨rfl, ho⟩
          have HMy3 : Hid (Made y3 L n0 k aC aO cC cO) := HMy2.out.keep ho
          have HXy3 : Hid (Only (fun _ => False) w2 y3) := HXy2.out.trans ho
          have HB6y3 : Hid (Blk w2 y3 B6 35 #[.int .i64 0, .int .i64 0, .int .u8 0, .int .i64 0, .int .i64 0, .float .f64 0]) := HB6y2.out.keep ho
          clear ho
          refine hK.out _ _ (HKS.out _ HXy3.out) (fun hHeld => ?_)
          clear hK
          (try simp only [Act.put, List.setIfInBounds_toArray, List.set_cons_zero, List.set_cons_succ])
          refine wpAnyH_ready (rs := [4]) (by kernel_rfl) (by simp) ?_
          refine AllReadyH.cons rfl (fun K hK => ?_) AllReadyH.nil
          rw [if_pos (by rfl)]
          go_simp
          obtain ⟨y4, hy4⟩ : ∃ Y, Y = y3.alloc (.cells #[.slice none 0 0, .slice none 0 0] 31) := ⟨_, rfl⟩
          obtain ⟨B5, hB5⟩ : ∃ b, b = y3.heap.size := ⟨_, rfl⟩
          have ho : Only (fun _ => False) y3 y4 := by rw [hy4]; exact (Only.refl _ _).alloc _
          have HXy4 : Hid (Only (fun _ => False) w2 y4) := HXy3.out.trans ho
          have HB5y4 : Hid (Blk w2 y4 B5 31 #[.slice none 0 0, .slice none 0 0]) := by rw [hy4, hB5]; exact Blk.made HXy3.out _ _
          have HB6y4 : Hid (Blk w2 y4 B6 35 #[.int .i64 0, .int .i64 0, .int .u8 0, .int .i64 0, .int .i64 0, .float .f64 0]) := HB6y3.out.keep ho
          have HMy4 : Hid (Made y4 L n0 k aC aO cC cO) := HMy3.out.keep ho
          rw [← hy4, ← hB5]
          clear hy4 hB5 ho
          refine hK.out _ _ (HKS.out _ HXy4.out) (fun hHeld => ?_)
          clear hK
          (try simp only [Act.put, List.setIfInBounds_toArray, List.set_cons_zero, List.set_cons_succ])
          refine wpAnyH_ready (rs := [6]) (by kernel_rfl) (by simp) ?_
          refine AllReadyH.cons rfl (fun K hK => ?_) AllReadyH.nil
          rw [if_pos (by rfl)]
          have HXa : Hid (Only (fun _ => False) w2 (y4.setRow B5 #[.slice aC k cC, .slice aO (k + 1) cO])) := HXy4.out.setRowNew HB5y4.out.2 _
          refine wp_store_row 31 _ _ rfl B5 #[.slice aC k cC, .slice aO (k + 1) cO] rfl rfl 31 _ HB5y4.out.1 (by kernel_rfl) rfl (two_one _ _ _ _ _ _) ?_
          have HMa : Hid (Made (y4.setRow B5 #[.slice aC k cC, .slice aO (k + 1) cO]) L n0 k aC aO cC cO ∧ Blk w2 (y4.setRow B5 #[.slice aC k cC, .slice aO (k + 1) cO]) B5 31 #[.slice aC k cC, .slice aO (k + 1) cO] ∧ Blk w2 (y4.setRow B5 #[.slice aC k cC, .slice aO (k + 1) cO]) B6 35 #[.int .i64 0, .int .i64 0, .int .u8 0, .int .i64 0, .int .i64 0, .float .f64 0]) := ⟨HMy4.out.store HB5y4.out.1 (by decide) (by decide) _, HB5y4.out.put _, HB6y4.out.far HB5y4.out (by decide) _⟩
          obtain ⟨za, hza⟩ : ∃ Y, Y = y4.setRow B5 #[.slice aC k cC, .slice aO (k + 1) cO] := ⟨_, rfl⟩
          rw [← hza] at HXa HMa ⊢
          clear hza
          refine hK.out _ _ (HKS.out _ HXa.out) (fun hHeld => ?_)
          clear hK
          (try simp only [Act.put, List.setIfInBounds_toArray, List.set_cons_zero, List.set_cons_succ])
          refine wpAnyH_ready (rs := [7]) (by kernel_rfl) (by simp) ?_
          refine AllReadyH.cons rfl (fun K hK => ?_) AllReadyH.nil
          rw [if_pos (by rfl)]
          have HXb : Hid (Only (fun _ => False) w2 (za.setRow B6 #[.int .i64 (W1 : Int), .int .i64 (T1 : Int), .int .u8 (M1 : Int), .int .i64 (hy : Int), .int .i64 (pr : Int), .float .f64 lo])) := HXa.out.setRowNew HMa.out.2.2.2 _
          refine wp_store_row 35 _ _ rfl B6 #[.int .i64 (W1 : Int), .int .i64 (T1 : Int), .int .u8 (M1 : Int), .int .i64 (hy : Int), .int .i64 (pr : Int), .float .f64 lo] rfl rfl 35 _ HMa.out.2.2.1 (by kernel_rfl) rfl (cfg_one _ _ _ _ _ _) ?_
          have HMb : Hid (Made (za.setRow B6 #[.int .i64 (W1 : Int), .int .i64 (T1 : Int), .int .u8 (M1 : Int), .int .i64 (hy : Int), .int .i64 (pr : Int), .float .f64 lo]) L n0 k aC aO cC cO ∧ Blk w2 (za.setRow B6 #[.int .i64 (W1 : Int), .int .i64 (T1 : Int), .int .u8 (M1 : Int), .int .i64 (hy : Int), .int .i64 (pr : Int), .float .f64 lo]) B5 31 #[.slice aC k cC, .slice aO (k + 1) cO] ∧ Blk w2 (za.setRow B6 #[.int .i64 (W1 : Int), .int .i64 (T1 : Int), .int .u8 (M1 : Int), .int .i64 (hy : Int), .int .i64 (pr : Int), .float .f64 lo]) B6 35 #[.int .i64 (W1 : Int), .int .i64 (T1 : Int), .int .u8 (M1 : Int), .int .i64 (hy : Int), .int .i64 (pr : Int), .float .f64 lo]) := ⟨HMa.out.1.store HMa.out.2.2.1 (by decide) (by decide) _, HMa.out.2.1.far HMa.out.2.2 (by decide) _, HMa.out.2.2.put _⟩
          obtain ⟨zb, hzb⟩ : ∃ Y, Y = za.setRow B6 #[.int .i64 (W1 : Int), .int .i64 (T1 : Int), .int .u8 (M1 : Int), .int .i64 (hy : Int), .int .i64 (pr : Int), .float .f64 lo] := ⟨_, rfl⟩
          rw [← hzb] at HXb HMb ⊢
          clear hzb
          refine hK.out _ _ (HKS.out _ HXb.out) (fun hHeld => ?_)
          clear hK
          (try simp only [Act.put, List.setIfInBounds_toArray, List.set_cons_zero, List.set_cons_succ])
          refine wpAnyH_done (by kernel_rfl) ?_ _
          clear hHeld
          go_wp2_with fail
          go_meet
          exact ⟨k, B5, B6, aC, aO, cC, cO, _, rfl, rfl, rfl, HMb.out.1, HMb.out.2.1, HMb.out.2.2, HXb.out⟩
        · rw [if_pos (by rfl)]
          go_simp
          obtain ⟨y3, hy3⟩ : ∃ Y, Y = y2.alloc (.cells #[.slice none 0 0, .slice none 0 0] 31) := ⟨_, rfl⟩
          obtain ⟨B5, hB5⟩ : ∃ b, b = y2.heap.size := ⟨_, rfl⟩
          have ho : Only (fun _ => False) y2 y3 := by rw [hy3]; exact (Only.refl _ _).alloc _
          have HXy3 : Hid (Only (fun _ => False) w2 y3) := HXy2.out.trans ho
          have HB5y3 : Hid (Blk w2 y3 B5 31 #[.slice none 0 0, .slice none 0 0]) := by rw [hy3, hB5]; exact Blk.made HXy2.out _ _
          have HB6y3 : Hid (Blk w2 y3 B6 35 #[.int .i64 0, .int .i64 0, .int .u8 0, .int .i64 0, .int .i64 0, .float .f64 0]) := HB6y2.out.keep ho
          have HMy3 : Hid (Made y3 L n0 k aC aO cC cO) := HMy2.out.keep ho
          rw [← hy3, ← hB5]
          clear hy3 hB5 ho
          refine hK.out _ _ (HKS.out _ HXy3.out) (fun hHeld => ?_)
          clear hK
          (try simp only [Act.put, List.setIfInBounds_toArray, List.set_cons_zero, List.set_cons_succ])
          refine wpAnyH_ready (rs := [3]) (by kernel_rfl) (by simp) ?_
          refine AllReadyH.cons rfl (fun K hK => ?_) AllReadyH.nil
          rw [if_pos (by rfl)]
          go_simp
          refine Calls.mono (HCF.out _) ?_
          rintro e y4 ⟨rfl, ho⟩
          have HMy4 : Hid (Made y4 L n0 k aC aO cC cO) := HMy3.out.keep ho
          have HXy4 : Hid (Only (fun _ => False) w2 y4) := HXy3.out.trans ho
          have HB5y4 : Hid (Blk w2 y4 B5 31 #[.slice none 0 0, .slice none 0 0]) := HB5y3.out.keep ho
          have HB6y4 : Hid (Blk w2 y4 B6 35 #[.int .i64 0, .int .i64 0, .int .u8 0, .int .i64 0, .int .i64 0, .float .f64 0]) := HB6y3.out.keep ho
          clear ho
          refine hK.out _ _ (HKS.out _ HXy4.out) (fun hHeld => ?_)
          clear hK
          (try simp only [Act.put, List.setIfInBounds_toArray, List.set_cons_zero, List.set_cons_succ])
          refine wpAnyH_ready (rs := [6]) (by kernel_rfl) (by simp) ?_
          refine AllReadyH.cons rfl (fun K hK => ?_) AllReadyH.nil
          rw [if_pos (by rfl)]
          have HXa : Hid (Only (fun _ => False) w2 (y4.setRow B5 #[.slice aC k cC, .slice aO (k + 1) cO])) := HXy4.out.setRowNew HB5y4.out.2 _
          refine wp_store_row 31 _ _ rfl B5 #[.slice aC k cC, .slice aO (k + 1) cO] rfl rfl 31 _ HB5y4.out.1 (by kernel_rfl) rfl (two_one _ _ _ _ _ _) ?_
          have HMa : Hid (Made (y4.setRow B5 #[.slice aC k cC, .slice aO (k + 1) cO]) L n0 k aC aO cC cO ∧ Blk w2 (y4.setRow B5 #[.slice aC k cC, .slice aO (k + 1) cO]) B5 31 #[.slice aC k cC, .slice aO (k + 1) cO] ∧ Blk w2 (y4.setRow B5 #[.slice aC k cC, .slice aO (k + 1) cO]) B6 35 #[.int .i64 0, .int .i64 0, .int .u8 0, .int .i64 0, .int .i64 0, .float .f64 0]) := ⟨HMy4.out.store HB5y4.out.1 (by decide) (by decide) _, HB5y4.out.put _, HB6y4.out.far HB5y4.out (by decide) _⟩
          obtain ⟨za, hza⟩ : ∃ Y, Y = y4.setRow B5 #[.slice aC k cC, .slice aO (k + 1) cO] := ⟨_, rfl⟩
          rw [← hza] at HXa HMa ⊢
          clear hza
          refine hK.out _ _ (HKS.out _ HXa.out) (fun hHeld => ?_)
          clear hK
          (try simp only [Act.put, List.setIfInBounds_toArray, List.set_cons_zero, List.set_cons_succ])
          refine wpAnyH_ready (rs := [7]) (by kernel_rfl) (by simp) ?_
          refine AllReadyH.cons rfl (fun K hK => ?_) AllReadyH.nil
          rw [if_pos (by rfl)]
          have HXb : Hid (Only (fun _ => False) w2 (za.setRow B6 #[.int .i64 (W1 : Int), .int .i64 (T1 : Int), .int .u8 (M1 : Int), .int .i64 (hy : Int), .int .i64 (pr : Int), .float .f64 lo])) := HXa.out.setRowNew HMa.out.2.2.2 _
          refine wp_store_row 35 _ _ rfl B6 #[.int .i64 (W1 : Int), .int .i64 (T1 : Int), .int .u8 (M1 : Int), .int .i64 (hy : Int), .int .i64 (pr : Int), .float .f64 lo] rfl rfl 35 _ HMa.out.2.2.1 (by kernel_rfl) rfl (cfg_one _ _ _ _ _ _) ?_
          have HMb : Hid (Made (za.setRow B6 #[.int .i64 (W1 : Int), .int .i64 (T1 : Int), .int .u8 (M1 : Int), .int .i64 (hy : Int), .int .i64 (pr : Int), .float .f64 lo]) L n0 k aC aO cC cO ∧ Blk w2 (za.setRow B6 #[.int .i64 (W1 : Int), .int .i64 (T1 : Int), .int .u8 (M1 : Int), .int .i64 (hy : Int), .int .i64 (pr : Int), .float .f64 lo]) B5 31 #[.slice aC k cC, .slice aO (k + 1) cO] ∧ Blk w2 (za.setRow B6 #[.int .i64 (W1 : Int), .int .i64 (T1 : Int), .int .u8 (M1 : Int), .int .i64 (hy : Int), .int .i64 (pr : Int), .float .f64 lo]) B6 35 #[.int .i64 (W1 : Int), .int .i64 (T1 : Int), .int .u8 (M1 : Int), .int .i64 (hy : Int), .int .i64 (pr : Int), .float .f64 lo]) := ⟨HMa.out.1.store HMa.out.2.2.1 (by decide) (by decide) _, HMa.out.2.1.far HMa.out.2.2 (by decide) _, HMa.out.2.2.put _⟩
          obtain ⟨zb, hzb⟩ : ∃ Y, Y = za.setRow B6 #[.int .i64 (W1 : Int), .int .i64 (T1 : Int), .int .u8 (M1 : Int), .int .i64 (hy : Int), .int .i64 (pr : Int), .float .f64 lo] := ⟨_, rfl⟩
          rw [← hzb] at HXb HMb ⊢
          clear hzb
          refine hK.out _ _ (HKS.out _ HXb.out) (fun hHeld => ?_)
          clear hK
          (try simp only [Act.put, List.setIfInBounds_toArray, List.set_cons_zero, List.set_cons_succ])
          refine wpAnyH_done (by kernel_rfl) ?_ _
          clear hHeld
          go_wp2_with fail
          go_meet
          exact ⟨k, B5, B6, aC, aO, cC, cO, _, rfl, rfl, rfl, HMb.out.1, HMb.out.2.1, HMb.out.2.2, HXb.out⟩
    · rw [if_pos (by rfl)]
      go_simp
      obtain ⟨y1, hy1⟩ : ∃ Y, Y = (w2.alloc (.cells #[.slice none 0 0, .slice none 0 0] 31)).drew := ⟨_, rfl⟩
      obtain ⟨B5, hB5⟩ : ∃ b, b = w2.heap.size := ⟨_, rfl⟩
      have ho : Only (fun _ => False) w2 y1 := by rw [hy1]; exact ((Only.refl _ _).alloc _).drew
      have HXy1 : Hid (Only (fun _ => False) w2 y1) := ho
      have HB5y1 : Hid (Blk w2 y1 B5 31 #[.slice none 0 0, .slice none 0 0]) := by rw [hy1, hB5]; exact (Blk.made (Only.refl _ _) _ _).drew
      rw [← hy1, ← hB5]
      clear hy1 hB5 ho
      refine hK.out _ _ (HKS.out _ HXy1.out) (fun hHeld => ?_)
      clear hK
      (try simp only [Act.put, List.setIfInBounds_toArray, List.set_cons_zero, List.set_cons_succ])
      refine wpAnyH_ready (rs := [1, 5]) (by kernel_rfl) (by simp) ?_
      refine AllReadyH.cons rfl (fun K hK => ?_) (AllReadyH.cons rfl (fun K hK => ?_) AllReadyH.nil)
      · rw [if_pos (by rfl)]
        go_simp
        refine Calls.mono (HPA.out _ (HW2.out.trans HXy1.out)) ?_
        rintro e y2 ⟨k, aC, aO, cC, cO, rfl, hmd, ho⟩
        have HMy2 : Hid (Made y2 L n0 k aC aO cC cO) := hmd
        clear hmd
        have HXy2 : Hid (Only (fun _ => False) w2 y2) := HXy1.out.trans ho
        have HB5y2 : Hid (Blk w2 y2 B5 31 #[.slice none 0 0, .slice none 0 0]) := HB5y1.out.keep ho
        clear ho
        refine hK.out _ _ (HKS.out _ HXy2.out) (fun hHeld => ?_)
        clear hK
        (try simp only [Act.put, List.setIfInBounds_toArray, List.set_cons_zero, List.set_cons_succ])
        refine wpAnyH_ready (rs := [3, 5]) (by kernel_rfl) (by simp) ?_
        refine AllReadyH.cons rfl (fun K hK => ?_) (AllReadyH.cons rfl (fun K hK => ?_) AllReadyH.nil)
        · rw [if_pos (by rfl)]
          go_simp
          refine Calls.mono (HCF.out _) ?_
          rintro e y3 ⟨rfl, ho⟩
          have HMy3 : Hid (Made y3 L n0 k aC aO cC cO) := HMy2.out.keep ho
          have HXy3 : Hid (Only (fun _ => False) w2 y3) := HXy2.out.trans ho
          have HB5y3 : Hid (Blk w2 y3 B5 31 #[.slice none 0 0, .slice none 0 0]) := HB5y2.out.keep ho
          clear ho
          refine hK.out _ _ (HKS.out _ HXy3.out) (fun hHeld => ?_)
          clear hK
          (try simp only [Act.put, List.setIfInBounds_toArray, List.set_cons_zero, List.set_cons_succ])
          refine wpAnyH_ready (rs := [5]) (by kernel_rfl) (by simp) ?_
          refine AllReadyH.cons rfl (fun K hK => ?_) AllReadyH.nil
          rw [if_pos (by rfl)]
          go_simp
          obtain ⟨y4, hy4⟩ : ∃ Y, Y = y3.alloc (.cells #[.int .i64 0, .int .i64 0, .int .u8 0, .int .i64 0, .int .i64 0, .float .f64 0] 35) := ⟨_, rfl⟩
          obtain ⟨B6, hB6⟩ : ∃ b, b = y3.heap.size := ⟨_, rfl⟩
          have ho : Only (fun _ => False) y3 y4 := by rw [hy4]; exact (Only.refl _ _).alloc _
          have HXy4 : Hid (Only (fun _ => False) w2 y4) := HXy3.out.trans ho
          have HB6y4 : Hid (Blk w2 y4 B6 35 #[.int .i64 0, .int .i64 0, .int .u8 0, .int .i64 0, .int .i64 0, .float .f64 0]) := by rw [hy4, hB6]; exact Blk.made HXy3.out _ _
          have HB5y4 : Hid (Blk w2 y4 B5 31 #[.slice none 0 0, .slice none 0 0]) := HB5y3.out.keep ho
          have HMy4 : Hid (Made y4 L n0 k aC aO cC cO) := HMy3.out.keep ho
          rw [← hy4, ← hB6]
          clear hy4 hB6 ho
          refine hK.out _ _ (HKS.out _ HXy4.out) (fun hHeld => ?_)
          clear hK
          (try simp only [Act.put, List.setIfInBounds_toArray, List.set_cons_zero, List.set_cons_succ])
          refine wpAnyH_ready (rs := [6]) (by kernel_rfl) (by simp) ?_
          refine AllReadyH.cons rfl (fun K hK => ?_) AllReadyH.nil
          rw [if_pos (by rfl)]
          have HXa : Hid (Only (fun _ => False) w2 (y4.setRow B5 #[.slice aC k cC, .slice aO (k + 1) cO])) := HXy4.out.setRowNew HB5y4.out.2 _
          refine wp_store_row 31 _ _ rfl B5 #[.slice aC k cC, .slice aO (k + 1) cO] rfl rfl 31 _ HB5y4.out.1 (by kernel_rfl) rfl (two_one _ _ _ _ _ _) ?_
          have HMa : Hid (Made (y4.setRow B5 #[.slice aC k cC, .slice aO (k + 1) cO]) L n0 k aC aO cC cO ∧ Blk w2 (y4.setRow B5 #[.slice aC k cC, .slice aO (k + 1) cO]) B5 31 #[.slice aC k cC, .slice aO (k + 1) cO] ∧ Blk w2 (y4.setRow B5 #[.slice aC k cC, .slice aO (k + 1) cO]) B6 35 #[.int .i64 0, .int .i64 0, .int .u8 0, .int .i64 0, .int .i64 0, .float .f64 0]) := ⟨HMy4.out.store HB5y4.out.1 (by decide) (by decide) _, HB5y4.out.put _, HB6y4.out.far HB5y4.out (by decide) _⟩
          obtain ⟨za, hza⟩ : ∃ Y, Y = y4.setRow B5 #[.slice aC k cC, .slice aO (k + 1) cO] := ⟨_, rfl⟩
          rw [← hza] at HXa HMa ⊢
          clear hza
          refine hK.out _ _ (HKS.out _ HXa.out) (fun hHeld => ?_)
          clear hK
          (try simp only [Act.put, List.setIfInBounds_toArray, List.set_cons_zero, List.set_cons_succ])
          refine wpAnyH_ready (rs := [7]) (by kernel_rfl) (by simp) ?_
          refine AllReadyH.cons rfl (fun K hK => ?_) AllReadyH.nil
          rw [if_pos (by rfl)]
          have HXb : Hid (Only (fun _ => False) w2 (za.setRow B6 #[.int .i64 (W1 : Int), .int .i64 (T1 : Int), .int .u8 (M1 : Int), .int .i64 (hy : Int), .int .i64 (pr : Int), .float .f64 lo])) := HXa.out.setRowNew HMa.out.2.2.2 _
          refine wp_store_row 35 _ _ rfl B6 #[.int .i64 (W1 : Int), .int .i64 (T1 : Int), .int .u8 (M1 : Int), .int .i64 (hy : Int), .int .i64 (pr : Int), .float .f64 lo] rfl rfl 35 _ HMa.out.2.2.1 (by kernel_rfl) rfl (cfg_one _ _ _ _ _ _) ?_
          have HMb : Hid (Made (za.setRow B6 #[.int .i64 (W1 : Int), .int .i64 (T1 : Int), .int .u8 (M1 : Int), .int .i64 (hy : Int), .int .i64 (pr : Int), .float .f64 lo]) L n0 k aC aO cC cO ∧ Blk w2 (za.setRow B6 #[.int .i64 (W1 : Int), .int .i64 (T1 : Int), .int .u8 (M1 : Int), .int .i64 (hy : Int), .int .i64 (pr : Int), .float .f64 lo]) B5 31 #[.slice aC k cC, .slice aO (k + 1) cO] ∧ Blk w2 (za.setRow B6 #[.int .i64 (W1 : Int), .int .i64 (T1 : Int), .int .u8 (M1 : Int), .int .i64 (hy : Int), .int .i64 (pr : Int), .float .f64 lo]) B6 35 #[.int .i64 (W1 : Int), .int .i64 (T1 : Int), .int .u8 (M1 : Int), .int .i64 (hy : Int), .int .i64 (pr : Int), .float .f64 lo]) := ⟨HMa.out.1.store HMa.out.2.2.1 (by decide) (by decide) _, HMa.out.2.1.far HMa.out.2.2 (by decide) _, HMa.out.2.2.put _⟩
          obtain ⟨zb, hzb⟩ : ∃ Y, Y = za.setRow B6 #[.int .i64 (W1 : Int), .int .i64 (T1 : Int), .int .u8 (M1 : Int), .int .i64 (hy : Int), .int .i64 (pr : Int), .float .f64 lo] := ⟨_, rfl⟩
          rw [← hzb] at HXb HMb ⊢
          clear hzb
          refine hK.out _ _ (HKS.out _ HXb.out) (fun hHeld => ?_)
          clear hK
          (try simp only [Act.put, List.setIfInBounds_toArray, List.set_cons_zero, List.set_cons_succ])
          refine wpAnyH_done (by kernel_rfl) ?_ _
          clear hHeld
          go_wp2_with fail
          go_meet
          exact ⟨k, B5, B6, aC, aO, cC, cO, _, rfl, rfl, rfl, HMb.out.1, HMb.out.2.1, HMb.out.2.2, HXb.out⟩
        · rw [if_pos (by rfl)]
          go_simp
          obtain ⟨y3, hy3⟩ : ∃ Y, Y = y2.alloc (.cells #[.int .i64 0, .int .i64 0, .int .u8 0, .int .i64 0, .int .i64 0, .float .f64 0] 35) := ⟨_, rfl⟩
          obtain ⟨B6, hB6⟩ : ∃ b, b = y2.heap.size := ⟨_, rfl⟩
          have ho : Only (fun _ => False) y2 y3 := by rw [hy3]; exact (Only.refl _ _).alloc _
          have HXy3 : Hid (Only (fun _ => False) w2 y3) := HXy2.out.trans ho
          have HB6y3 : Hid (Blk w2 y3 B6 35 #[.int .i64 0, .int .i64 0, .int .u8 0, .int .i64 0, .int .i64 0, .float .f64 0]) := by rw [hy3, hB6]; exact Blk.made HXy2.out _ _
          have HB5y3 : Hid (Blk w2 y3 B5 31 #[.slice none 0 0, .slice none 0 0]) := HB5y2.out.keep ho
          have HMy3 : Hid (Made y3 L n0 k aC aO cC cO) := HMy2.out.keep ho
          rw [← hy3, ← hB6]
          clear hy3 hB6 ho
          refine hK.out _ _ (HKS.out _ HXy3.out) (fun hHeld => ?_)
          clear hK
          (try simp only [Act.put, List.setIfInBounds_toArray, List.set_cons_zero, List.set_cons_succ])
          refine wpAnyH_ready (rs := [3]) (by kernel_rfl) (by simp) ?_
          refine AllReadyH.cons rfl (fun K hK => ?_) AllReadyH.nil
          rw [if_pos (by rfl)]
          go_simp
          refine Calls.mono (HCF.out _) ?_
          rintro e y4 ⟨rfl, ho⟩
          have HMy4 : Hid (Made y4 L n0 k aC aO cC cO) := HMy3.out.keep ho
          have HXy4 : Hid (Only (fun _ => False) w2 y4) := HXy3.out.trans ho
          have HB5y4 : Hid (Blk w2 y4 B5 31 #[.slice none 0 0, .slice none 0 0]) := HB5y3.out.keep ho
          have HB6y4 : Hid (Blk w2 y4 B6 35 #[.int .i64 0, .int .i64 0, .int .u8 0, .int .i64 0, .int .i64 0, .float .f64 0]) := HB6y3.out.keep ho
          clear ho
          refine hK.out _ _ (HKS.out _ HXy4.out) (fun hHeld => ?_)
          clear hK
          (try simp only [Act.put, List.setIfInBounds_toArray, List.set_cons_zero, List.set_cons_succ])
          refine wpAnyH_ready (rs := [6]) (by kernel_rfl) (by simp) ?_
          refine AllReadyH.cons rfl (fun K hK => ?_) AllReadyH.nil
          rw [if_pos (by rfl)]
          have HXa : Hid (Only (fun _ => False) w2 (y4.setRow B5 #[.slice aC k cC, .slice aO (k + 1) cO])) := HXy4.out.setRowNew HB5y4.out.2 _
          refine wp_store_row 31 _ _ rfl B5 #[.slice aC k cC, .slice aO (k + 1) cO] rfl rfl 31 _ HB5y4.out.1 (by kernel_rfl) rfl (two_one _ _ _ _ _ _) ?_
          have HMa : Hid (Made (y4.setRow B5 #[.slice aC k cC, .slice aO (k + 1) cO]) L n0 k aC aO cC cO ∧ Blk w2 (y4.setRow B5 #[.slice aC k cC, .slice aO (k + 1) cO]) B5 31 #[.slice aC k cC, .slice aO (k + 1) cO] ∧ Blk w2 (y4.setRow B5 #[.slice aC k cC, .slice aO (k + 1) cO]) B6 35 #[.int .i64 0, .int .i64 0, .int .u8 0, .int .i64 0, .int .i64 0, .float .f64 0]) := ⟨HMy4.out.store HB5y4.out.1 (by decide) (by decide) _, HB5y4.out.put _, HB6y4.out.far HB5y4.out (by decide) _⟩
          obtain ⟨za, hza⟩ : ∃ Y, Y = y4.setRow B5 #[.slice aC k cC, .slice aO (k + 1) cO] := ⟨_, rfl⟩
          rw [← hza] at HXa HMa ⊢
          clear hza
          refine hK.out _ _ (HKS.out _ HXa.out) (fun hHeld => ?_)
          clear hK
          (try simp only [Act.put, List.setIfInBounds_toArray, List.set_cons_zero, List.set_cons_succ])
          refine wpAnyH_ready (rs := [7]) (by kernel_rfl) (by simp) ?_
          refine AllReadyH.cons rfl (fun K hK => ?_) AllReadyH.nil
          rw [if_pos (by rfl)]
          have HXb : Hid (Only (fun _ => False) w2 (za.setRow B6 #[.int .i64 (W1 : Int), .int .i64 (T1 : Int), .int .u8 (M1 : Int), .int .i64 (hy : Int), .int .i64 (pr : Int), .float .f64 lo])) := HXa.out.setRowNew HMa.out.2.2.2 _
          refine wp_store_row 35 _ _ rfl B6 #[.int .i64 (W1 : Int), .int .i64 (T1 : Int), .int .u8 (M1 : Int), .int .i64 (hy : Int), .int .i64 (pr : Int), .float .f64 lo] rfl rfl 35 _ HMa.out.2.2.1 (by kernel_rfl) rfl (cfg_one _ _ _ _ _ _) ?_
          have HMb : Hid (Made (za.setRow B6 #[.int .i64 (W1 : Int), .int .i64 (T1 : Int), .int .u8 (M1 : Int), .int .i64 (hy : Int), .int .i64 (pr : Int), .float .f64 lo]) L n0 k aC aO cC cO ∧ Blk w2 (za.setRow B6 #[.int .i64 (W1 : Int), .int .i64 (T1 : Int), .int .u8 (M1 : Int), .int .i64 (hy : Int), .int .i64 (pr : Int), .float .f64 lo]) B5 31 #[.slice aC k cC, .slice aO (k + 1) cO] ∧ Blk w2 (za.setRow B6 #[.int .i64 (W1 : Int), .int .i64 (T1 : Int), .int .u8 (M1 : Int), .int .i64 (hy : Int), .int .i64 (pr : Int), .float .f64 lo]) B6 35 #[.int .i64 (W1 : Int), .int .i64 (T1 : Int), .int .u8 (M1 : Int), .int .i64 (hy : Int), .int .i64 (pr : Int), .float .f64 lo]) := ⟨HMa.out.1.store HMa.out.2.2.1 (by decide) (by decide) _, HMa.out.2.1.far HMa.out.2.2 (by decide) _, HMa.out.2.2.put _⟩
          obtain ⟨zb, hzb⟩ : ∃ Y, Y = za.setRow B6 #[.int .i64 (W1 : Int), .int .i64 (T1 : Int), .int .u8 (M1 : Int), .int .i64 (hy : Int), .int .i64 (pr : Int), .float .f64 lo] := ⟨_, rfl⟩
          rw [← hzb] at HXb HMb ⊢
          clear hzb
          refine hK.out _ _ (HKS.out _ HXb.out) (fun hHeld => ?_)
          clear hK
          (try simp only [Act.put, List.setIfInBounds_toArray, List.set_cons_zero, List.set_cons_succ])
          refine wpAnyH_done (by kernel_rfl) ?_ _
          clear hHeld
          go_wp2_with fail
          go_meet
          exact ⟨k, B5, B6, aC, aO, cC, cO, _, rfl, rfl, rfl, HMb.out.1, HMb.out.2.1, HMb.out.2.2, HXb.out⟩
      · rw [if_pos (by rfl)]
        go_simp
        obtain ⟨y2, hy2⟩ : ∃ Y, Y = y1.alloc (.cells #[.int .i64 0, .int .i64 0, .int .u8 0, .int .i64 0, .int .i64 0, .float .f64 0] 35) := ⟨_, rfl⟩
        obtain ⟨B6, hB6⟩ : ∃ b, b = y1.heap.size := ⟨_, rfl⟩
        have ho : Only (fun _ => False) y1 y2 := by rw [hy2]; exact (Only.refl _ _).alloc _
        have HXy2 : Hid (Only (fun _ => False) w2 y2) := HXy1.out.trans ho
        have HB6y2 : Hid (Blk w2 y2 B6 35 #[.int .i64 0, .int .i64 0, .int .u8 0, .int .i64 0, .int .i64 0, .float .f64 0]) := by rw [hy2, hB6]; exact Blk.made HXy1.out _ _
        have HB5y2 : Hid (Blk w2 y2 B5 31 #[.slice none 0 0, .slice none 0 0]) := HB5y1.out.keep ho
        rw [← hy2, ← hB6]
        clear hy2 hB6 ho
        refine hK.out _ _ (HKS.out _ HXy2.out) (fun hHeld => ?_)
        clear hK
        (try simp only [Act.put, List.setIfInBounds_toArray, List.set_cons_zero, List.set_cons_succ])
        refine wpAnyH_ready (rs := [1]) (by kernel_rfl) (by simp) ?_
        refine AllReadyH.cons rfl (fun K hK => ?_) AllReadyH.nil
        rw [if_pos (by rfl)]
        go_simp
        refine Calls.mono (HPA.out _ (HW2.out.trans HXy2.out)) ?_
        rintro e y3 ⟨k, aC, aO, cC, cO, rfl, hmd, ho⟩
        have HMy3 : Hid (Made y3 L n0 k aC aO cC cO) := hmd
        clear hmd
        have HXy3 : Hid (Only (fun _ => False) w2 y3) := HXy2.out.trans ho
        have HB5y3 : Hid (Blk w2 y3 B5 31 #[.slice none 0 0, .slice none 0 0]) := HB5y2.out.keep ho
        have HB6y3 : Hid (Blk w2 y3 B6 35 #[.int .i64 0, .int .i64 0, .int .u8 0, .int .i64 0, .int .i64 0, .float .f64 0]) := HB6y2.out.keep ho
        clear ho
        refine hK.out _ _ (HKS.out _ HXy3.out) (fun hHeld => ?_)
        clear hK
        (try simp only [Act.put, List.setIfInBounds_toArray, List.set_cons_zero, List.set_cons_succ])
        refine wpAnyH_ready (rs := [3]) (by kernel_rfl) (by simp) ?_
        refine AllReadyH.cons rfl (fun K hK => ?_) AllReadyH.nil
        rw [if_pos (by rfl)]
        go_simp
        refine Calls.mono (HCF.out _) ?_
        rintro e y4 ⟨rfl, ho⟩
        have HMy4 : Hid (Made y4 L n0 k aC aO cC cO) := HMy3.out.keep ho
        have HXy4 : Hid (Only (fun _ => False) w2 y4) := HXy3.out.trans ho
        have HB5y4 : Hid (Blk w2 y4 B5 31 #[.slice none 0 0, .slice none 0 0]) := HB5y3.out.keep ho
        have HB6y4 : Hid (Blk w2 y4 B6 35 #[.int .i64 0, .int .i64 0, .int .u8 0, .int .i64 0, .int .i64 0, .float .f64 0]) := HB6y3.out.keep ho
        clear ho
        refine hK.out _ _ (HKS.out _ HXy4.out) (fun hHeld => ?_)
        clear hK
        (try simp only [Act.put, List.setIfInBounds_toArray, List.set_cons_zero, List.set_cons_succ])
        refine wpAnyH_ready (rs := [6]) (by kernel_rfl) (by simp) ?_
        refine AllReadyH.cons rfl (fun K hK => ?_) AllReadyH.nil
        rw [if_pos (by rfl)]
        have HXa : Hid (Only (fun _ => False) w2 (y4.setRow B5 #[.slice aC k cC, .slice aO (k + 1) cO])) := HXy4.out.setRowNew HB5y4.out.2 _
        refine wp_store_row 31 _ _ rfl B5 #[.slice aC k cC, .slice aO (k + 1) cO] rfl rfl 31 _ HB5y4.out.1 (by kernel_rfl) rfl (two_one _ _ _ _ _ _) ?_
        have HMa : Hid (Made (y4.setRow B5 #[.slice aC k cC, .slice aO (k + 1) cO]) L n0 k aC aO cC cO ∧ Blk w2 (y4.setRow B5 #[.slice aC k cC, .slice aO (k + 1) cO]) B5 31 #[.slice aC k cC, .slice aO (k + 1) cO] ∧ Blk w2 (y4.setRow B5 #[.slice aC k cC, .slice aO (k + 1) cO]) B6 35 #[.int .i64 0, .int .i64 0, .int .u8 0, .int .i64 0, .int .i64 0, .float .f64 0]) := ⟨HMy4.out.store HB5y4.out.1 (by decide) (by decide) _, HB5y4.out.put _, HB6y4.out.far HB5y4.out (by decide) _⟩
        obtain ⟨za, hza⟩ : ∃ Y, Y = y4.setRow B5 #[.slice aC k cC, .slice aO (k + 1) cO] := ⟨_, rfl⟩
        rw [← hza] at HXa HMa ⊢
        clear hza
        refine hK.out _ _ (HKS.out _ HXa.out) (fun hHeld => ?_)
        clear hK
        (try simp only [Act.put, List.setIfInBounds_toArray, List.set_cons_zero, List.set_cons_succ])
        refine wpAnyH_ready (rs := [7]) (by kernel_rfl) (by simp) ?_
        refine AllReadyH.cons rfl (fun K hK => ?_) AllReadyH.nil
        rw [if_pos (by rfl)]
        have HXb : Hid (Only (fun _ => False) w2 (za.setRow B6 #[.int .i64 (W1 : Int), .int .i64 (T1 : Int), .int .u8 (M1 : Int), .int .i64 (hy : Int), .int .i64 (pr : Int), .float .f64 lo])) := HXa.out.setRowNew HMa.out.2.2.2 _
        refine wp_store_row 35 _ _ rfl B6 #[.int .i64 (W1 : Int), .int .i64 (T1 : Int), .int .u8 (M1 : Int), .int .i64 (hy : Int), .int .i64 (pr : Int), .float .f64 lo] rfl rfl 35 _ HMa.out.2.2.1 (by kernel_rfl) rfl (cfg_one _ _ _ _ _ _) ?_
        have HMb : Hid (Made (za.setRow B6 #[.int .i64 (W1 : Int), .int .i64 (T1 : Int), .int .u8 (M1 : Int), .int .i64 (hy : Int), .int .i64 (pr : Int), .float .f64 lo]) L n0 k aC aO cC cO ∧ Blk w2 (za.setRow B6 #[.int .i64 (W1 : Int), .int .i64 (T1 : Int), .int .u8 (M1 : Int), .int .i64 (hy : Int), .int .i64 (pr : Int), .float .f64 lo]) B5 31 #[.slice aC k cC, .slice aO (k + 1) cO] ∧ Blk w2 (za.setRow B6 #[.int .i64 (W1 : Int), .int .i64 (T1 : Int), .int .u8 (M1 : Int), .int .i64 (hy : Int), .int .i64 (pr : Int), .float .f64 lo]) B6 35 #[.int .i64 (W1 : Int), .int .i64 (T1 : Int), .int .u8 (M1 : Int), .int .i64 (hy : Int), .int .i64 (pr : Int), .float .f64 lo]) := ⟨HMa.out.1.store HMa.out.2.2.1 (by decide) (by decide) _, HMa.out.2.1.far HMa.out.2.2 (by decide) _, HMa.out.2.2.put _⟩
        obtain ⟨zb, hzb⟩ : ∃ Y, Y = za.setRow B6 #[.int .i64 (W1 : Int), .int .i64 (T1 : Int), .int .u8 (M1 : Int), .int .i64 (hy : Int), .int .i64 (pr : Int), .float .f64 lo] := ⟨_, rfl⟩
        rw [← hzb] at HXb HMb ⊢
        clear hzb
        refine hK.out _ _ (HKS.out _ HXb.out) (fun hHeld => ?_)
        clear hK
        (try simp only [Act.put, List.setIfInBounds_toArray, List.set_cons_zero, List.set_cons_succ])
        refine wpAnyH_done (by kernel_rfl) ?_ _
        clear hHeld
        go_wp2_with fail
        go_meet
        exact ⟨k, B5, B6, aC, aO, cC, cO, _, rfl, rfl, rfl, HMb.out.1, HMb.out.2.1, HMb.out.2.2, HXb.out⟩
    · rw [if_pos (by rfl)]
      go_simp
      obtain ⟨y1, hy1⟩ : ∃ Y, Y = (w2.alloc (.cells #[.int .i64 0, .int .i64 0, .int .u8 0, .int .i64 0, .int .i64 0, .float .f64 0] 35)).drew := ⟨_, rfl⟩
      obtain ⟨B6, hB6⟩ : ∃ b, b = w2.heap.size := ⟨_, rfl⟩
      have ho : Only (fun _ => False) w2 y1 := by rw [hy1]; exact ((Only.refl _ _).alloc _).drew
      have HXy1 : Hid (Only (fun _ => False) w2 y1) := ho
      have HB6y1 : Hid (Blk w2 y1 B6 35 #[.int .i64 0, .int .i64 0, .int .u8 0, .int .i64 0, .int .i64 0, .float .f64 0]) := by rw [hy1, hB6]; exact (Blk.made (Only.refl _ _) _ _).drew
      rw [← hy1, ← hB6]
      clear hy1 hB6 ho
      refine hK.out _ _ (HKS.out _ HXy1.out) (fun hHeld => ?_)
      clear hK
      (try simp only [Act.put, List.setIfInBounds_toArray, List.set_cons_zero, List.set_cons_succ])
      refine wpAnyH_ready (rs := [1, 4]) (by kernel_rfl) (by simp) ?_
      refine AllReadyH.cons rfl (fun K hK => ?_) (AllReadyH.cons rfl (fun K hK => ?_) AllReadyH.nil)
      · rw [if_pos (by rfl)]
        go_simp
        refine Calls.mono (HPA.out _ (HW2.out.trans HXy1.out)) ?_
        rintro e y2 ⟨k, aC, aO, cC, cO, rfl, hmd, ho⟩
        have HMy2 : Hid (Made y2 L n0 k aC aO cC cO) := hmd
        clear hmd
        have HXy2 : Hid (Only (fun _ => False) w2 y2) := HXy1.out.trans ho
        have HB6y2 : Hid (Blk w2 y2 B6 35 #[.int .i64 0, .int .i64 0, .int .u8 0, .int .i64 0, .int .i64 0, .float .f64 0]) := HB6y1.out.keep ho
        clear ho
        refine hK.out _ _ (HKS.out _ HXy2.out) (fun hHeld => ?_)
        clear hK
        (try simp only [Act.put, List.setIfInBounds_toArray, List.set_cons_zero, List.set_cons_succ])
        refine wpAnyH_ready (rs := [3, 4]) (by kernel_rfl) (by simp) ?_
        refine AllReadyH.cons rfl (fun K hK => ?_) (AllReadyH.cons rfl (fun K hK => ?_) AllReadyH.nil)
        · rw [if_pos (by rfl)]
          go_simp
          refine Calls.mono (HCF.out _) ?_
          rintro e y3 ⟨rfl, ho⟩
          have HMy3 : Hid (Made y3 L n0 k aC aO cC cO) := HMy2.out.keep ho
          have HXy3 : Hid (Only (fun _ => False) w2 y3) := HXy2.out.trans ho
          have HB6y3 : Hid (Blk w2 y3 B6 35 #[.int .i64 0, .int .i64 0, .int .u8 0, .int .i64 0, .int .i64 0, .float .f64 0]) := HB6y2.out.keep ho
          clear ho
          refine hK.out _ _ (HKS.out _ HXy3.out) (fun hHeld => ?_)
          clear hK
          (try simp only [Act.put, List.setIfInBounds_toArray, List.set_cons_zero, List.set_cons_succ])
          refine wpAnyH_ready (rs := [4]) (by kernel_rfl) (by simp) ?_
          refine AllReadyH.cons rfl (fun K hK => ?_) AllReadyH.nil
          rw [if_pos (by rfl)]
          go_simp
          obtain ⟨y4, hy4⟩ : ∃ Y, Y = y3.alloc (.cells #[.slice none 0 0, .slice none 0 0] 31) := ⟨_, rfl⟩
          obtain ⟨B5, hB5⟩ : ∃ b, b = y3.heap.size := ⟨_, rfl⟩
          have ho : Only (fun _ => False) y3 y4 := by rw [hy4]; exact (Only.refl _ _).alloc _
          have HXy4 : Hid (Only (fun _ => False) w2 y4) := HXy3.out.trans ho
          have HB5y4 : Hid (Blk w2 y4 B5 31 #[.slice none 0 0, .slice none 0 0]) := by rw [hy4, hB5]; exact Blk.made HXy3.out _ _
          have HB6y4 : Hid (Blk w2 y4 B6 35 #[.int .i64 0, .int .i64 0, .int .u8 0, .int .i64 0, .int .i64 0, .float .f64 0]) := HB6y3.out.keep ho
          have HMy4 : Hid (Made y4 L n0 k aC aO cC cO) := HMy3.out.keep ho
          rw [← hy4, ← hB5]
          clear hy4 hB5 ho
          refine hK.out _ _ (HKS.out _ HXy4.out) (fun hHeld => ?_)
          clear hK
          (try simp only [Act.put, List.setIfInBounds_toArray, List.set_cons_zero, List.set_cons_succ])
          refine wpAnyH_ready (rs := [6]) (by kernel_rfl) (by simp) ?_
          refine AllReadyH.cons rfl (fun K hK => ?_) AllReadyH.nil
          rw [if_pos (by rfl)]
          have HXa : Hid (Only (fun _ => False) w2 (y4.setRow B5 #[.slice aC k cC, .slice aO (k + 1) cO])) := HXy4.out.setRowNew HB5y4.out.2 _
          refine wp_store_row 31 _ _ rfl B5 #[.slice aC k cC, .slice aO (k + 1) cO] rfl rfl 31 _ HB5y4.out.1 (by kernel_rfl) rfl (two_one _ _ _ _ _ _) ?_
          have HMa : Hid (Made (y4.setRow B5 #[.slice aC k cC, .slice aO (k + 1) cO]) L n0 k aC aO cC cO ∧ Blk w2 (y4.setRow B5 #[.slice aC k cC, .slice aO (k + 1) cO]) B5 31 #[.slice aC k cC, .slice aO (k + 1) cO] ∧ Blk w2 (y4.setRow B5 #[.slice aC k cC, .slice aO (k + 1) cO]) B6 35 #[.int .i64 0, .int .i64 0, .int .u8 0, .int .i64 0, .int .i64 0, .float .f64 0]) := ⟨HMy4.out.store HB5y4.out.1 (by decide) (by decide) _, HB5y4.out.put _, HB6y4.out.far HB5y4.out (by decide) _⟩
          obtain ⟨za, hza⟩ : ∃ Y, Y = y4.setRow B5 #[.slice aC k cC, .slice aO (k + 1) cO] := ⟨_, rfl⟩
          rw [← hza] at HXa HMa ⊢
          clear hza
          refine hK.out _ _ (HKS.out _ HXa.out) (fun hHeld => ?_)
          clear hK
          (try simp only [Act.put, List.setIfInBounds_toArray, List.set_cons_zero, List.set_cons_succ])
          refine wpAnyH_ready (rs := [7]) (by kernel_rfl) (by simp) ?_
          refine AllReadyH.cons rfl (fun K hK => ?_) AllReadyH.nil
          rw [if_pos (by rfl)]
          have HXb : Hid (Only (fun _ => False) w2 (za.setRow B6 #[.int .i64 (W1 : Int), .int .i64 (T1 : Int), .int .u8 (M1 : Int), .int .i64 (hy : Int), .int .i64 (pr : Int), .float .f64 lo])) := HXa.out.setRowNew HMa.out.2.2.2 _
          refine wp_store_row 35 _ _ rfl B6 #[.int .i64 (W1 : Int), .int .i64 (T1 : Int), .int .u8 (M1 : Int), .int .i64 (hy : Int), .int .i64 (pr : Int), .float .f64 lo] rfl rfl 35 _ HMa.out.2.2.1 (by kernel_rfl) rfl (cfg_one _ _ _ _ _ _) ?_
          have HMb : Hid (Made (za.setRow B6 #[.int .i64 (W1 : Int), .int .i64 (T1 : Int), .int .u8 (M1 : Int), .int .i64 (hy : Int), .int .i64 (pr : Int), .float .f64 lo]) L n0 k aC aO cC cO ∧ Blk w2 (za.setRow B6 #[.int .i64 (W1 : Int), .int .i64 (T1 : Int), .int .u8 (M1 : Int), .int .i64 (hy : Int), .int .i64 (pr : Int), .float .f64 lo]) B5 31 #[.slice aC k cC, .slice aO (k + 1) cO] ∧ Blk w2 (za.setRow B6 #[.int .i64 (W1 : Int), .int .i64 (T1 : Int), .int .u8 (M1 : Int), .int .i64 (hy : Int), .int .i64 (pr : Int), .float .f64 lo]) B6 35 #[.int .i64 (W1 : Int), .int .i64 (T1 : Int), .int .u8 (M1 : Int), .int .i64 (hy : Int), .int .i64 (pr : Int), .float .f64 lo]) := ⟨HMa.out.1.store HMa.out.2.2.1 (by decide) (by decide) _, HMa.out.2.1.far HMa.out.2.2 (by decide) _, HMa.out.2.2.put _⟩
          obtain ⟨zb, hzb⟩ : ∃ Y, Y = za.setRow B6 #[.int .i64 (W1 : Int), .int .i64 (T1 : Int), .int .u8 (M1 : Int), .int .i64 (hy : Int), .int .i64 (pr : Int), .float .f64 lo] := ⟨_, rfl⟩
          rw [← hzb] at HXb HMb ⊢
          clear hzb
          refine hK.out _ _ (HKS.out _ HXb.out) (fun hHeld => ?_)
          clear hK
          (try simp only [Act.put, List.setIfInBounds_toArray, List.set_cons_zero, List.set_cons_succ])
          refine wpAnyH_done (by kernel_rfl) ?_ _
          clear hHeld
          go_wp2_with fail
          go_meet
          exact ⟨k, B5, B6, aC, aO, cC, cO, _, rfl, rfl, rfl, HMb.out.1, HMb.out.2.1, HMb.out.2.2, HXb.out⟩
        · rw [if_pos (by rfl)]
          go_simp
          obtain ⟨y3, hy3⟩ : ∃ Y, Y = y2.alloc (.cells #[.slice none 0 0, .slice none 0 0] 31) := ⟨_, rfl⟩
          obtain ⟨B5, hB5⟩ : ∃ b, b = y2.heap.size := ⟨_, rfl⟩
          have ho : Only (fun _ => False) y2 y3 := by rw [hy3]; exact (Only.refl _ _).alloc _
          have HXy3 : Hid (Only (fun _ => False) w2 y3) := HXy2.out.trans ho
          have HB5y3 : Hid (Blk w2 y3 B5 31 #[.slice none 0 0, .slice none 0 0]) := by rw [hy3, hB5]; exact Blk.made HXy2.out _ _
          have HB6y3 : Hid (Blk w2 y3 B6 35 #[.int .i64 0, .int .i64 0, .int .u8 0, .int .i64 0, .int .i64 0, .float .f64 0]) := HB6y2.out.keep ho
          have HMy3 : Hid (Made y3 L n0 k aC aO cC cO) := HMy2.out.keep ho
          rw [← hy3, ← hB5]
          clear hy3 hB5 ho
          refine hK.out _ _ (HKS.out _ HXy3.out) (fun hHeld => ?_)
          clear hK
          (try simp only [Act.put, List.setIfInBounds_toArray, List.set_cons_zero, List.set_cons_succ])
          refine wpAnyH_ready (rs := [3]) (by kernel_rfl) (by simp) ?_
          refine AllReadyH.cons rfl (fun K hK => ?_) AllReadyH.nil
          rw [if_pos (by rfl)]
          go_simp
          refine Calls.mono (HCF.out _) ?_
          rintro e y4 ⟨rfl, ho⟩
          have HMy4 : Hid (Made y4 L n0 k aC aO cC cO) := HMy3.out.keep ho
          have HXy4 : Hid (Only (fun _ => False) w2 y4) := HXy3.out.trans ho
          have HB5y4 : Hid (Blk w2 y4 B5 31 #[.slice none 0 0, .slice none 0 0]) := HB5y3.out.keep ho
          have HB6y4 : Hid (Blk w2 y4 B6 35 #[.int .i64 0, .int .i64 0, .int .u8 0, .int .i64 0, .int .i64 0, .float .f64 0]) := HB6y3.out.keep ho
          clear ho
          refine hK.out _ _ (HKS.out _ HXy4.out) (fun hHeld => ?_)
          clear hK
          (try simp only [Act.put, List.setIfInBounds_toArray, List.set_cons_zero, List.set_cons_succ])
          refine wpAnyH_ready (rs := [6]) (by kernel_rfl) (by simp) ?_
          refine AllReadyH.cons rfl (fun K hK => ?_) AllReadyH.nil
          rw [if_pos (by rfl)]
          have HXa : Hid (Only (fun _ => False) w2 (y4.setRow B5 #[.slice aC k cC, .slice aO (k + 1) cO])) := HXy4.out.setRowNew HB5y4.out.2 _
          refine wp_store_row 31 _ _ rfl B5 #[.slice aC k cC, .slice aO (k + 1) cO] rfl rfl 31 _ HB5y4.out.1 (by kernel_rfl) rfl (two_one _ _ _ _ _ _) ?_
          have HMa : Hid (Made (y4.setRow B5 #[.slice aC k cC, .slice aO (k + 1) cO]) L n0 k aC aO cC cO ∧ Blk w2 (y4.setRow B5 #[.slice aC k cC, .slice aO (k + 1) cO]) B5 31 #[.slice aC k cC, .slice aO (k + 1) cO] ∧ Blk w2 (y4.setRow B5 #[.slice aC k cC, .slice aO (k + 1) cO]) B6 35 #[.int .i64 0, .int .i64 0, .int .u8 0, .int .i64 0, .int .i64 0, .float .f64 0]) := ⟨HMy4.out.store HB5y4.out.1 (by decide) (by decide) _, HB5y4.out.put _, HB6y4.out.far HB5y4.out (by decide) _⟩
          obtain ⟨za, hza⟩ : ∃ Y, Y = y4.setRow B5 #[.slice aC k cC, .slice aO (k + 1) cO] := ⟨_, rfl⟩
          rw [← hza] at HXa HMa ⊢
          clear hza
          refine hK.out _ _ (HKS.out _ HXa.out) (fun hHeld => ?_)
          clear hK
          (try simp only [Act.put, List.setIfInBounds_toArray, List.set_cons_zero, List.set_cons_succ])
          refine wpAnyH_ready (rs := [7]) (by kernel_rfl) (by simp) ?_
          refine AllReadyH.cons rfl (fun K hK => ?_) AllReadyH.nil
          rw [if_pos (by rfl)]
          have HXb : Hid (Only (fun _ => False) w2 (za.setRow B6 #[.int .i64 (W1 : Int), .int .i64 (T1 : Int), .int .u8 (M1 : Int), .int .i64 (hy : Int), .int .i64 (pr : Int), .float .f64 lo])) := HXa.out.setRowNew HMa.out.2.2.2 _
          refine wp_store_row 35 _ _ rfl B6 #[.int .i64 (W1 : Int), .int .i64 (T1 : Int), .int .u8 (M1 : Int), .int .i64 (hy : Int), .int .i64 (pr : Int), .float .f64 lo] rfl rfl 35 _ HMa.out.2.2.1 (by kernel_rfl) rfl (cfg_one _ _ _ _ _ _) ?_
          have HMb : Hid (Made (za.setRow B6 #[.int .i64 (W1 : Int), .int .i64 (T1 : Int), .int .u8 (M1 : Int), .int .i64 (hy : Int), .int .i64 (pr : Int), .float .f64 lo]) L n0 k aC aO cC cO ∧ Blk w2 (za.setRow B6 #[.int .i64 (W1 : Int), .int .i64 (T1 : Int), .int .u8 (M1 : Int), .int .i64 (hy : Int), .int .i64 (pr : Int), .float .f64 lo]) B5 31 #[.slice aC k cC, .slice aO (k + 1) cO] ∧ Blk w2 (za.setRow B6 #[.int .i64 (W1 : Int), .int .i64 (T1 : Int), .int .u8 (M1 : Int), .int .i64 (hy : Int), .int .i64 (pr : Int), .float .f64 lo]) B6 35 #[.int .i64 (W1 : Int), .int .i64 (T1 : Int), .int .u8 (M1 : Int), .int .i64 (hy : Int), .int .i64 (pr : Int), .float .f64 lo]) := ⟨HMa.out.1.store HMa.out.2.2.1 (by decide) (by decide) _, HMa.out.2.1.far HMa.out.2.2 (by decide) _, HMa.out.2.2.put _⟩
          obtain ⟨zb, hzb⟩ : ∃ Y, Y = za.setRow B6 #[.int .i64 (W1 : Int), .int .i64 (T1 : Int), .int .u8 (M1 : Int), .int .i64 (hy : Int), .int .i64 (pr : Int), .float .f64 lo] := ⟨_, rfl⟩
          rw [← hzb] at HXb HMb ⊢
          clear hzb
          refine hK.out _ _ (HKS.out _ HXb.out) (fun hHeld => ?_)
          clear hK
          (try simp only [Act.put, List.setIfInBounds_toArray, List.set_cons_zero, List.set_cons_succ])
          refine wpAnyH_done (by kernel_rfl) ?_ _
          clear hHeld
          go_wp2_with fail
          go_meet
          exact ⟨k, B5, B6, aC, aO, cC, cO, _, rfl, rfl, rfl, HMb.out.1, HMb.out.2.1, HMb.out.2.2, HXb.out⟩
      · rw [if_pos (by rfl)]
        go_simp
        obtain ⟨y2, hy2⟩ : ∃ Y, Y = y1.alloc (.cells #[.slice none 0 0, .slice none 0 0] 31) := ⟨_, rfl⟩
        obtain ⟨B5, hB5⟩ : ∃ b, b = y1.heap.size := ⟨_, rfl⟩
        have ho : Only (fun _ => False) y1 y2 := by rw [hy2]; exact (Only.refl _ _).alloc _
        have HXy2 : Hid (Only (fun _ => False) w2 y2) := HXy1.out.trans ho
        have HB5y2 : Hid (Blk w2 y2 B5 31 #[.slice none 0 0, .slice none 0 0]) := by rw [hy2, hB5]; exact Blk.made HXy1.out _ _
        have HB6y2 : Hid (Blk w2 y2 B6 35 #[.int .i64 0, .int .i64 0, .int .u8 0, .int .i64 0, .int .i64 0, .float .f64 0]) := HB6y1.out.keep ho
        rw [← hy2, ← hB5]
        clear hy2 hB5 ho
        refine hK.out _ _ (HKS.out _ HXy2.out) (fun hHeld => ?_)
        clear hK
        (try simp only [Act.put, List.setIfInBounds_toArray, List.set_cons_zero, List.set_cons_succ])
        refine wpAnyH_ready (rs := [1]) (by kernel_rfl) (by simp) ?_
        refine AllReadyH.cons rfl (fun K hK => ?_) AllReadyH.nil
        rw [if_pos (by rfl)]
        go_simp
        refine Calls.mono (HPA.out _ (HW2.out.trans HXy2.out)) ?_
        rintro e y3 ⟨k, aC, aO, cC, cO, rfl, hmd, ho⟩
        have HMy3 : Hid (Made y3 L n0 k aC aO cC cO) := hmd
        clear hmd
        have HXy3 : Hid (Only (fun _ => False) w2 y3) := HXy2.out.trans ho
        have HB5y3 : Hid (Blk w2 y3 B5 31 #[.slice none 0 0, .slice none 0 0]) := HB5y2.out.keep ho
        have HB6y3 : Hid (Blk w2 y3 B6 35 #[.int .i64 0, .int .i64 0, .int .u8 0, .int .i64 0, .int .i64 0, .float .f64 0]) := HB6y2.out.keep ho
        clear ho
        refine hK.out _ _ (HKS.out _ HXy3.out) (fun hHeld => ?_)
        clear hK
        (try simp only [Act.put, List.setIfInBounds_toArray, List.set_cons_zero, List.set_cons_succ])
        refine wpAnyH_ready (rs := [3]) (by kernel_rfl) (by simp) ?_
        refine AllReadyH.cons rfl (fun K hK => ?_) AllReadyH.nil
        rw [if_pos (by rfl)]
        go_simp
        refine Calls.mono (HCF.out _) ?_
        rintro e y4 ⟨rfl, ho⟩
        have HMy4 : Hid (Made y4 L n0 k aC aO cC cO) := HMy3.out.keep ho
        have HXy4 : Hid (Only (fun _ => False) w2 y4) := HXy3.out.trans ho
        have HB5y4 : Hid (Blk w2 y4 B5 31 #[.slice none 0 0, .slice none 0 0]) := HB5y3.out.keep ho
        have HB6y4 : Hid (Blk w2 y4 B6 35 #[.int .i64 0, .int .i64 0, .int .u8 0, .int .i64 0, .int .i64 0, .float .f64 0]) := HB6y3.out.keep ho
        clear ho
        refine hK.out _ _ (HKS.out _ HXy4.out) (fun hHeld => ?_)
        clear hK
        (try simp only [Act.put, List.setIfInBounds_toArray, List.set_cons_zero, List.set_cons_succ])
        refine wpAnyH_ready (rs := [6]) (by kernel_rfl) (by simp) ?_
        refine AllReadyH.cons rfl (fun K hK => ?_) AllReadyH.nil
        rw [if_pos (by rfl)]
        have HXa : Hid (Only (fun _ => False) w2 (y4.setRow B5 #[.slice aC k cC, .slice aO (k + 1) cO])) := HXy4.out.setRowNew HB5y4.out.2 _
        refine wp_store_row 31 _ _ rfl B5 #[.slice aC k cC, .slice aO (k + 1) cO] rfl rfl 31 _ HB5y4.out.1 (by kernel_rfl) rfl (two_one _ _ _ _ _ _) ?_
        have HMa : Hid (Made (y4.setRow B5 #[.slice aC k cC, .slice aO (k + 1) cO]) L n0 k aC aO cC cO ∧ Blk w2 (y4.setRow B5 #[.slice aC k cC, .slice aO (k + 1) cO]) B5 31 #[.slice aC k cC, .slice aO (k + 1) cO] ∧ Blk w2 (y4.setRow B5 #[.slice aC k cC, .slice aO (k + 1) cO]) B6 35 #[.int .i64 0, .int .i64 0, .int .u8 0, .int .i64 0, .int .i64 0, .float .f64 0]) := ⟨HMy4.out.store HB5y4.out.1 (by decide) (by decide) _, HB5y4.out.put _, HB6y4.out.far HB5y4.out (by decide) _⟩
        obtain ⟨za, hza⟩ : ∃ Y, Y = y4.setRow B5 #[.slice aC k cC, .slice aO (k + 1) cO] := ⟨_, rfl⟩
        rw [← hza] at HXa HMa ⊢
        clear hza
        refine hK.out _ _ (HKS.out _ HXa.out) (fun hHeld => ?_)
        clear hK
        (try simp only [Act.put, List.setIfInBounds_toArray, List.set_cons_zero, List.set_cons_succ])
        refine wpAnyH_ready (rs := [7]) (by kernel_rfl) (by simp) ?_
        refine AllReadyH.cons rfl (fun K hK => ?_) AllReadyH.nil
        rw [if_pos (by rfl)]
        have HXb : Hid (Only (fun _ => False) w2 (za.setRow B6 #[.int .i64 (W1 : Int), .int .i64 (T1 : Int), .int .u8 (M1 : Int), .int .i64 (hy : Int), .int .i64 (pr : Int), .float .f64 lo])) := HXa.out.setRowNew HMa.out.2.2.2 _
        refine wp_store_row 35 _ _ rfl B6 #[.int .i64 (W1 : Int), .int .i64 (T1 : Int), .int .u8 (M1 : Int), .int .i64 (hy : Int), .int .i64 (pr : Int), .float .f64 lo] rfl rfl 35 _ HMa.out.2.2.1 (by kernel_rfl) rfl (cfg_one _ _ _ _ _ _) ?_
        have HMb : Hid (Made (za.setRow B6 #[.int .i64 (W1 : Int), .int .i64 (T1 : Int), .int .u8 (M1 : Int), .int .i64 (hy : Int), .int .i64 (pr : Int), .float .f64 lo]) L n0 k aC aO cC cO ∧ Blk w2 (za.setRow B6 #[.int .i64 (W1 : Int), .int .i64 (T1 : Int), .int .u8 (M1 : Int), .int .i64 (hy : Int), .int .i64 (pr : Int), .float .f64 lo]) B5 31 #[.slice aC k cC, .slice aO (k + 1) cO] ∧ Blk w2 (za.setRow B6 #[.int .i64 (W1 : Int), .int .i64 (T1 : Int), .int .u8 (M1 : Int), .int .i64 (hy : Int), .int .i64 (pr : Int), .float .f64 lo]) B6 35 #[.int .i64 (W1 : Int), .int .i64 (T1 : Int), .int .u8 (M1 : Int), .int .i64 (hy : Int), .int .i64 (pr : Int), .float .f64 lo]) := ⟨HMa.out.1.store HMa.out.2.2.1 (by decide) (by decide) _, HMa.out.2.1.far HMa.out.2.2 (by decide) _, HMa.out.2.2.put _⟩
        obtain ⟨zb, hzb⟩ : ∃ Y, Y = za.setRow B6 #[.int .i64 (W1 : Int), .int .i64 (T1 : Int), .int .u8 (M1 : Int), .int .i64 (hy : Int), .int .i64 (pr : Int), .float .f64 lo] := ⟨_, rfl⟩
        rw [← hzb] at HXb HMb ⊢
        clear hzb
        refine hK.out _ _ (HKS.out _ HXb.out) (fun hHeld => ?_)
        clear hK
        (try simp only [Act.put, List.setIfInBounds_toArray, List.set_cons_zero, List.set_cons_succ])
        refine wpAnyH_done (by kernel_rfl) ?_ _
        clear hHeld
        go_wp2_with fail
        go_meet
        exact ⟨k, B5, B6, aC, aO, cC, cO, _, rfl, rfl, rfl, HMb.out.1, HMb.out.2.1, HMb.out.2.2, HXb.out⟩
  case rest =>
    obtain ⟨k, B5, B6, aC, aO, cC, cO, X, hX, rfl, rfl, hmd, hb5, hb6, hoX⟩ := hcut
    subst hX
    obtain ⟨C, hC⟩ : ∃ x, x = Pa.cts (L.take k) 0 := ⟨_, rfl⟩
    obtain ⟨O, hO⟩ : ∃ x, x = Pa.ops L k ++ [2] := ⟨_, rfl⟩
    have HMD : Hid (Made X L n0 k aC aO cC cO ∧ C = Pa.cts (L.take k) 0 ∧ O = Pa.ops L k ++ [2]) := ⟨hmd, hC, hO⟩
    have HPv : Hid (∀ W', Only (fun _ => False) X W' → Pv W' C O k (k + 1) aC aO cC cO) := fun W' ho => by rw [hC, hO]; exact (hmd.pv (by omega) HN.out).keep ho
    have HO4 : Hid (∀ x ∈ O, x < 4) := by rw [hO]; exact ops_lt L k
    have HOL : Hid (O.length = k + 1 ∧ O.getD k 0 = 2) := by rw [hO]; exact ⟨by rw [List.length_append, Pa.ops_len]; rfl, ops_end L k⟩
    have hk0 : k ≤ n0 := hmd.le
    have HPC : Hid (∀ W', Only (fun _ => False) X W' → (W'.cell? ⟨B5, 0, none⟩ = some (.slice aC k cC) ∧ W'.cell? ⟨B5, 1, none⟩ = some (.slice aO (k + 1) cO)) ∧ (W'.cell? ⟨B6, 0, none⟩ = some (.int .i64 (W1 : Int)) ∧ W'.cell? ⟨B6, 1, none⟩ = some (.int .i64 (T1 : Int)) ∧ W'.cell? ⟨B6, 2, none⟩ = some (.int .u8 (M1 : Int)) ∧ W'.cell? ⟨B6, 3, none⟩ = some (.int .i64 (hy : Int)) ∧ W'.cell? ⟨B6, 4, none⟩ = some (.int .i64 (pr : Int)) ∧ W'.cell? ⟨B6, 5, none⟩ = some (.float .f64 lo))) := fun W' ho => ⟨⟨(blk_two (blk_keep ho hb5.1)).1, (blk_two (blk_keep ho hb5.1)).2.1⟩, blk_six (blk_keep ho hb6.1)⟩
    have HLT : Hid (∀ W', Only (fun _ => False) X W' → B5 < W'.heap.size ∧ B6 < W'.heap.size) := fun W' ho => ⟨(Array.getElem?_eq_some_iff.1 (blk_keep ho hb5.1)).1, (Array.getElem?_eq_some_iff.1 (blk_keep ho hb6.1)).1⟩
    have HWX : Hid (Only (fun _ => False) w X ∧ Blk w2 X B6 35 #[.int .i64 (W1 : Int), .int .i64 (T1 : Int), .int .u8 (M1 : Int), .int .i64 (hy : Int), .int .i64 (pr : Int), .float .f64 lo]) := ⟨HW2.out.trans hoX, hb6⟩
    clear hmd hC hO hb5 hb6 hoX
    obtain ⟨n1, hn1⟩ : ∃ n1, n1 = k + 1 := ⟨_, rfl⟩
    have hl1 : n1 ≤ 100001 := by omega
    have p0 : (0 : Int) < (n1 : Int) := by omega
    have p1 : ¬ (n1 : Int) = 0 := by omega
    have p2 : ((n1 : Int) == 0) = false := by simpa using p1
    have p3 : IntKind.u64.wrap (n1 : Int) = (n1 : Int) := wrap_smallu _ (by omega) (by omega)
    have p4 : (k : Int) + 1 = (n1 : Int) := by omega
    obtain ⟨ua, x, a1, a2, a3⟩ := drawn A n1 (by omega)
    obtain ⟨ub, y, b1', b2', b3'⟩ := drawn Bq n1 (by omega)
    have x1 : IntKind.u64.wrap (x : Int) = (x : Int) := wrap_smallu _ (by omega) (by omega)
    have x2 : IntKind.i64.wrap (x : Int) = (x : Int) := wrap_small _ (by omega) (by omega)
    have y1 : IntKind.u64.wrap (y : Int) = (y : Int) := wrap_smallu _ (by omega) (by omega)
    have y2 : IntKind.i64.wrap (y : Int) = (y : Int) := wrap_small _ (by omega) (by omega)
    have hxk : x ≤ k := by omega
    have hyk : y ≤ k := by omega
    have HN1 : Hid (n1 = k + 1) := hn1
    obtain ⟨q1, e1⟩ : ∃ c : Nat, c = (Sp.cos C O T1 W1 hy pr lo false x y).getD 0 := ⟨_, rfl⟩
    obtain ⟨ok, f1⟩ : ∃ c, c = (Sp.cos C O T1 W1 hy pr lo false x y).isSome := ⟨_, rfl⟩
    obtain ⟨q2, e2⟩ : ∃ c : Nat, c = (Sp.cos C O T1 W1 hy pr ml false x y).getD 0 := ⟨_, rfl⟩
    obtain ⟨is, f2⟩ : ∃ c, c = (Sp.cos C O T1 W1 hy pr ml false x y).isSome := ⟨_, rfl⟩
    obtain ⟨q3, e3⟩ : ∃ c : Nat, c = (Sp.cos C O T1 W1 hy pr lo true x y).getD 0 := ⟨_, rfl⟩
    obtain ⟨lt, f3⟩ : ∃ c, c = (Sp.cos C O T1 W1 hy pr lo true x y).isSome := ⟨_, rfl⟩
    have H4C := four C O T1 W1 hy pr lo ml x y b5 hml ok is lt q1 q2 q3 e1 f1 e2 f2 e3 f3
    have HC1 : Hid (∀ W', Only (fun _ => False) X W' → Calls Try.prog 17 #[.agg #[.slice aC k cC, .slice aO (k + 1) cO], .int .i64 (x : Int), .int .i64 (y : Int), .bool false, .agg #[.int .i64 (W1 : Int), .int .i64 (T1 : Int), .int .u8 (M1 : Int), .int .i64 (hy : Int), .int .i64 (pr : Int), .float .f64 lo]] W' fun e w' => e = .returned (.tuple #[.int .i64 (q1 : Int), .bool ok]) ∧ Only (fun _ => False) W' w') := fun W' ho => by rw [e1, f1]; exact cost_any C O k (k + 1) aC aO cC cO x y W1 T1 M1 hy pr lo false W' (HPv.out W' ho) (by omega) hxk hyk (by omega) ht0 (by omega) (by omega) (by omega)
    have HC2 : Hid (∀ W', Only (fun _ => False) X W' → Calls Try.prog 17 #[.agg #[.slice aC k cC, .slice aO (k + 1) cO], .int .i64 (x : Int), .int .i64 (y : Int), .bool false, .agg #[.int .i64 (W1 : Int), .int .i64 (T1 : Int), .int .u8 (M1 : Int), .int .i64 (hy : Int), .int .i64 (pr : Int), .float .f64 ml]] W' fun e w' => e = .returned (.tuple #[.int .i64 (q2 : Int), .bool is]) ∧ Only (fun _ => False) W' w') := fun W' ho => by rw [e2, f2]; exact cost_any C O k (k + 1) aC aO cC cO x y W1 T1 M1 hy pr ml false W' (HPv.out W' ho) (by omega) hxk hyk (by omega) ht0 (by omega) (by omega) (by omega)
    have HC3 : Hid (∀ W', Only (fun _ => False) X W' → Calls Try.prog 17 #[.agg #[.slice aC k cC, .slice aO (k + 1) cO], .int .i64 (x : Int), .int .i64 (y : Int), .bool true, .agg #[.int .i64 (W1 : Int), .int .i64 (T1 : Int), .int .u8 (M1 : Int), .int .i64 (hy : Int), .int .i64 (pr : Int), .float .f64 lo]] W' fun e w' => e = .returned (.tuple #[.int .i64 (q3 : Int), .bool lt]) ∧ Only (fun _ => False) W' w') := fun W' ho => by rw [e3, f3]; exact cost_any C O k (k + 1) aC aO cC cO x y W1 T1 M1 hy pr lo true W' (HPv.out W' ho) (by omega) hxk hyk (by omega) ht0 (by omega) (by omega) (by omega)
    have HC4 : Hid (∀ W', Only (fun _ => False) X W' → Calls Try.prog 17 #[.agg #[.slice aC k cC, .slice aO (k + 1) cO], .int .i64 (x : Int), .int .i64 (y : Int), .bool true, .agg #[.int .i64 (W1 : Int), .int .i64 (T1 : Int), .int .u8 (M1 : Int), .int .i64 (hy : Int), .int .i64 (pr : Int), .float .f64 ml]] W' fun e w' => e = .returned (.tuple #[.int .i64 (q3 : Int), .bool lt]) ∧ Only (fun _ => False) W' w') := fun W' ho => by rw [e3, f3, ← same_last C O T1 W1 hy pr lo ml x y]; exact cost_any C O k (k + 1) aC aO cC cO x y W1 T1 M1 hy pr ml true W' (HPv.out W' ho) (by omega) hxk hyk (by omega) ht0 (by omega) (by omega) (by omega)
    clear e1 f1 e2 f2 e3 f3 hn1
    obtain ⟨⟨r0, r1⟩, k0, k1, k2, k3, k4, k5⟩ := HPC.out X (Only.refl _ _)
    obtain ⟨l5, l6⟩ := HLT.out X (Only.refl _ _)
    go_wp2_with fail
    go_quiet (fail)
    generalize hXd : X.drewN _ = Xd
    have HXd : Hid (Only (fun _ => False) X Xd) := by rw [← hXd]; exact (Only.refl _ _).drewN _
    clear hXd r0 r1 k0 k1 k2 k3 k4 k5 l5 l6 p4 a1 a2 b1' b2'
    obtain ⟨⟨r0, r1⟩, k0, k1, k2, k3, k4, k5⟩ := HPC.out Xd HXd.out
    obtain ⟨l5, l6⟩ := HLT.out Xd HXd.out
    go_upto_region 9 with (refine wpList_store_row rfl 35 _ _ rfl Xd.heap.size #[.int .i64 (W1 : Int), .int .i64 (T1 : Int), .int .u8 (M1 : Int), .int .i64 (hy : Int), .int .i64 (pr : Int), .float .f64 lo] rfl rfl 35 _ (heap_alloc_new Xd _) (by kernel_rfl) rfl (cfg_one _ _ _ _ _ _) ?_)
    obtain ⟨R2, D0, hD0, hR2, HB2, HO2⟩ := box6t Xd (.int .i64 0) (.int .i64 0) (.int .u8 0) (.int .i64 0) (.int .i64 0) (.float .f64 0) (.int .i64 (W1 : Int)) (.int .i64 (T1 : Int)) (.int .u8 (M1 : Int)) (.int .i64 (hy : Int)) (.int .i64 (pr : Int)) (.float .f64 lo) 35
    rw [hD0, hR2]
    obtain ⟨d0, d1, d2, d3, d4, d5⟩ := blk_six HB2.out
    have ld : R2 < D0.heap.size := (Array.getElem?_eq_some_iff.1 HB2.out).1
    have fd := fz_blk HB2.out 5
    have HT := turn5 (x := .float .f64 ml) hR2 HB2.out HO2.out
    clear r0 r1 k0 k1 k2 k3 k4 k5 l5 l6 hD0 hR2
    go_upto_region 10 with fail
    rw [run_store _ _ _ _ _ rfl]
    go_simp
    go_upto_region 10 with fail
    obtain ⟨D, hD⟩ : ∃ D, D = D0.setCell ⟨R2, 5, none⟩ (.float .f64 ml) := ⟨_, rfl⟩
    rw [← hD] at HT ⊢
    have HD : Hid ((∀ W', Only (fun _ => False) D W' → W'.cell? ⟨R2, 0, none⟩ = some (.int .i64 (W1 : Int)) ∧ W'.cell? ⟨R2, 1, none⟩ = some (.int .i64 (T1 : Int)) ∧ W'.cell? ⟨R2, 2, none⟩ = some (.int .u8 (M1 : Int)) ∧ W'.cell? ⟨R2, 3, none⟩ = some (.int .i64 (hy : Int)) ∧ W'.cell? ⟨R2, 4, none⟩ = some (.int .i64 (pr : Int)) ∧ W'.cell? ⟨R2, 5, none⟩ = some (.float .f64 ml)) ∧ Only (fun _ => False) X D ∧ (∀ W', Only (fun _ => False) D W' → R2 < W'.heap.size)) := ⟨fun W' ho => blk_six (blk_keep ho HT.1), HXd.out.trans HT.2, fun W' ho => (Array.getElem?_eq_some_iff.1 (blk_keep ho HT.1)).1⟩
    clear hD HT fd d0 d1 d2 d3 d4 d5 ld HB2 HO2
    obtain ⟨⟨r0, r1⟩, k0, k1, k2, k3, k4, k5⟩ := HPC.out D HD.out.2.1
    obtain ⟨l5, l6⟩ := HLT.out D HD.out.2.1
    go_wp2_with fail
    refine Calls.mono (HC1.out _ HD.out.2.1) ?_
    rintro e w5 ⟨rfl, ho5⟩
    have H5 : Hid (Only (fun _ => False) X w5 ∧ Only (fun _ => False) D w5) := ⟨HD.out.2.1.trans ho5, ho5⟩
    clear ho5 r0 r1 k0 k1 k2 k3 k4 k5 l5 l6
    obtain ⟨⟨r0, r1⟩, k0, k1, k2, k3, k4, k5⟩ := HPC.out w5 H5.out.1
    obtain ⟨l5, l6⟩ := HLT.out w5 H5.out.1
    obtain ⟨d0, d1, d2, d3, d4, d5⟩ := HD.out.1 w5 H5.out.2
    have ld := HD.out.2.2 w5 H5.out.2
    go_wp2_with fail
    refine Calls.mono (HC2.out _ H5.out.1) ?_
    rintro e w6 ⟨rfl, ho6⟩
    have H6 : Hid (Only (fun _ => False) X w6 ∧ Only (fun _ => False) D w6) := ⟨H5.out.1.trans ho6, H5.out.2.trans ho6⟩
    clear ho6 r0 r1 k0 k1 k2 k3 k4 k5 l5 l6 d0 d1 d2 d3 d4 d5 ld
    rcases H4C with ⟨rfl, rfl⟩ | ⟨rfl, rfl, rfl, rfl, h31⟩ | ⟨rfl, rfl, z1, z2, rfl, h31⟩ | ⟨rfl, rfl, z1, z2⟩
    · obtain ⟨⟨r0, r1⟩, k0, k1, k2, k3, k4, k5⟩ := HPC.out w6 H6.out.1
      obtain ⟨l5, l6⟩ := HLT.out w6 H6.out.1
      go_wp2_with fail
      refine Calls.mono (HC3.out _ H6.out.1) ?_
      rintro e w7 ⟨rfl, ho7⟩
      have H7 : Hid (Only (fun _ => False) X w7 ∧ Only (fun _ => False) D w7) := ⟨H6.out.1.trans ho7, H6.out.2.trans ho7⟩
      clear ho7 r0 r1 k0 k1 k2 k3 k4 k5 l5 l6
      obtain ⟨⟨r0, r1⟩, k0, k1, k2, k3, k4, k5⟩ := HPC.out w7 H7.out.1
      obtain ⟨l5, l6⟩ := HLT.out w7 H7.out.1
      obtain ⟨d0, d1, d2, d3, d4, d5⟩ := HD.out.1 w7 H7.out.2
      have ld := HD.out.2.2 w7 H7.out.2
      go_wp2_with fail
      refine Calls.mono (HC4.out _ H7.out.1) ?_
      rintro e w8 ⟨rfl, ho8⟩
      have H8 : Hid (Only (fun _ => False) X w8) := H7.out.1.trans ho8
      clear ho8 r0 r1 k0 k1 k2 k3 k4 k5 l5 l6 d0 d1 d2 d3 d4 d5 ld
      go_wp2_with fail
      go_ret
      exact ⟨by simp [*], HWX.out.1.trans H8.out⟩
    · have z3 : (q3 : Int) ≤ (q1 : Int) := by omega
      obtain ⟨⟨r0, r1⟩, k0, k1, k2, k3, k4, k5⟩ := HPC.out w6 H6.out.1
      obtain ⟨l5, l6⟩ := HLT.out w6 H6.out.1
      go_wp2_with fail
      refine Calls.mono (HC3.out _ H6.out.1) ?_
      rintro e w7 ⟨rfl, ho7⟩
      have H7 : Hid (Only (fun _ => False) X w7 ∧ Only (fun _ => False) D w7) := ⟨H6.out.1.trans ho7, H6.out.2.trans ho7⟩
      clear ho7 r0 r1 k0 k1 k2 k3 k4 k5 l5 l6
      obtain ⟨⟨r0, r1⟩, k0, k1, k2, k3, k4, k5⟩ := HPC.out w7 H7.out.1
      obtain ⟨l5, l6⟩ := HLT.out w7 H7.out.1
      obtain ⟨d0, d1, d2, d3, d4, d5⟩ := HD.out.1 w7 H7.out.2
      have ld := HD.out.2.2 w7 H7.out.2
      go_wp2_with fail
      refine Calls.mono (HC4.out _ H7.out.1) ?_
      rintro e w8 ⟨rfl, ho8⟩
      have H8 : Hid (Only (fun _ => False) X w8) := H7.out.1.trans ho8
      clear ho8 r0 r1 k0 k1 k2 k3 k4 k5 l5 l6 d0 d1 d2 d3 d4 d5 ld
      go_wp2_with fail
      go_ret
      exact ⟨by simp [*], HWX.out.1.trans H8.out⟩
    · have z3 : (q3 : Int) ≤ (q1 : Int) := by omega
      unfold Fl.leF at z1
      rw [← Fl.neq_self (by assumption)] at z2
      obtain ⟨⟨r0, r1⟩, k0, k1, k2, k3, k4, k5⟩ := HPC.out w6 H6.out.1
      obtain ⟨l5, l6⟩ := HLT.out w6 H6.out.1
      go_wp2_with fail
      refine Calls.mono (HC3.out _ H6.out.1) ?_
      rintro e w7 ⟨rfl, ho7⟩
      have H7 : Hid (Only (fun _ => False) X w7 ∧ Only (fun _ => False) D w7) := ⟨H6.out.1.trans ho7, H6.out.2.trans ho7⟩
      clear ho7 r0 r1 k0 k1 k2 k3 k4 k5 l5 l6
      obtain ⟨⟨r0, r1⟩, k0, k1, k2, k3, k4, k5⟩ := HPC.out w7 H7.out.1
      obtain ⟨l5, l6⟩ := HLT.out w7 H7.out.1
      obtain ⟨d0, d1, d2, d3, d4, d5⟩ := HD.out.1 w7 H7.out.2
      have ld := HD.out.2.2 w7 H7.out.2
      go_wp2_with fail
      refine Calls.mono (HC4.out _ H7.out.1) ?_
      rintro e w8 ⟨rfl, ho8⟩
      have H8 : Hid (Only (fun _ => False) X w8) := H7.out.1.trans ho8
      clear ho8 r0 r1 k0 k1 k2 k3 k4 k5 l5 l6 d0 d1 d2 d3 d4 d5 ld
      go_wp2_with fail
      go_ret
      exact ⟨by simp [*], HWX.out.1.trans H8.out⟩
    · unfold Fl.leF at z1
      rw [← Fl.neq_self (by assumption)] at z2
      obtain ⟨⟨r0, r1⟩, k0, k1, k2, k3, k4, k5⟩ := HPC.out w6 H6.out.1
      obtain ⟨l5, l6⟩ := HLT.out w6 H6.out.1
      go_wp2_with fail
      refine Calls.mono (HC3.out _ H6.out.1) ?_
      rintro e w7 ⟨rfl, ho7⟩
      have H7 : Hid (Only (fun _ => False) X w7 ∧ Only (fun _ => False) D w7) := ⟨H6.out.1.trans ho7, H6.out.2.trans ho7⟩
      clear ho7 r0 r1 k0 k1 k2 k3 k4 k5 l5 l6
      obtain ⟨⟨r0, r1⟩, k0, k1, k2, k3, k4, k5⟩ := HPC.out w7 H7.out.1
      obtain ⟨l5, l6⟩ := HLT.out w7 H7.out.1
      obtain ⟨d0, d1, d2, d3, d4, d5⟩ := HD.out.1 w7 H7.out.2
      have ld := HD.out.2.2 w7 H7.out.2
      go_wp2_with fail
      refine Calls.mono (HC4.out _ H7.out.1) ?_
      rintro e w8 ⟨rfl, ho8⟩
      have H8 : Hid (Only (fun _ => False) X w8) := H7.out.1.trans ho8
      clear ho8 r0 r1 k0 k1 k2 k3 k4 k5 l5 l6 d0 d1 d2 d3 d4 d5 ld
      go_wp2_with fail
      go_ret
      exact ⟨by simp [*], HWX.out.1.trans H8.out⟩
set_option maxRecDepth 100000 in
set_option maxHeartbeats 4000000 in
theorem walk0 (L : List Bt) (a0 : Option Addr) (c0 : Nat) (K : Wy) (A Bq : Int) (ml : Nat) (w : World) (hc : L.length ≤ c0) (hm : c0 ≤ maxLen) (h5 : ¬ L.length ≤ 300) :
    Calls Try.prog 7 #[.slice a0 L.length c0, K.val, .int .i64 A, .int .i64 Bq, .float .f64 ml] w fun e w' => e = .returned (.bool true) ∧ Only (fun _ => False) w w' := by
  obtain ⟨wi, tb, mo, hy, pr, lo⟩ := K
  obtain ⟨n0, hn0⟩ : ∃ n, n = L.length := ⟨_, rfl⟩
  unfold Wy.val
  simp only
  rw [← hn0] at h5 hc ⊢
  clear hn0
  unfold maxLen at hm
  have s0 : (300 : Int) < (n0 : Int) := by omega
  go_enter Try.func7, Try.ntmps7
  go_wp2_with fail
  refine Calls.mono (awake15_any _) ?_
  rintro e w2 ⟨rfl, ho2⟩
  have HW2 : Hid (Only (fun _ => False) w w2) := ((Only.refl _ _).alloc _).trans ho2
  clear ho2
  go_wp2_with fail
  go_ret
  exact ⟨rfl, HW2.out⟩
theorem walk (L : List Bt) (a0 : Option Addr) (c0 : Nat) (K : Wy) (A Bq : Int) (ml : Nat) (w : World) (hV : Vw w a0 (btC L)) (hB : ∀ b ∈ L, b.cells < 256 ∧ b.kind < 256 ∧ b.len < 256 ∧ b.opp < 256) (hc : L.length ≤ c0) (hm : c0 ≤ maxLen) (hK : K.Ok) (hA : -9223372036854775808 ≤ A ∧ A ≤ 9223372036854775807) (hBq : -9223372036854775808 ≤ Bq ∧ Bq ≤ 9223372036854775807) (hml : ml < 18446744073709551616) : Calls Try.prog 7 #[.slice a0 L.length c0, K.val, .int .i64 A, .int .i64 Bq, .float .f64 ml] w fun e w' => e = .returned (.bool true) ∧ Only (fun _ => False) w w' := by
  by_cases h5 : L.length ≤ 300
  · exact walk1 L a0 c0 K A Bq ml w hV hB h5 hK hA hBq hml
  · exact walk0 L a0 c0 K A Bq ml w hc hm h5
end Go.Proofs.Ythckdomljfdmpaa.bestLoose

