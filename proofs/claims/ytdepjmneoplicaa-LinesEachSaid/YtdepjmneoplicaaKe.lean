/-
  best.leastRest: the rest of a boundary, of those behind it.
-/
import Derived.Test.YtdepjmneoplicaaKd
namespace Go.Proofs.Ytdepjmneoplicaa
open Go.RowKit Go.Maps
set_option linter.unusedVariables false
set_option linter.unusedSimpArgs false
theorem wde_wd (C : List Ct) (t a k e : Nat) : Sp.wde C t a (a + k) e = Sp.wd C t a k + (if e = 3 then 1 else 0) := by
  rw [wde_cel, show a + k - a = k by omega]
  unfold Sp.cel
  split <;> rfl
theorem gst_zero (C : List Ct) (t a : Nat) : gst C t a 0 = #[.int .i64 0, .int .i64 0, .int .i64 0, .int .i64 0] := by
  unfold gst Sp.wd Sp.gp
  have h : Sp.tr C a 0 = a := rfl
  rw [h, Nat.sub_self]
  rfl
theorem box5 (w : World) (o1 o2 o3 o4 o5 : Obj) : ∃ R B q l g w', ((((w.alloc o1).alloc o2).alloc o3).alloc o4).alloc o5 = w' ∧ w.heap.size + 1 + 1 + 1 + 1 = g ∧ w.heap.size + 1 + 1 + 1 = l ∧ w.heap.size + 1 + 1 = q ∧ w.heap.size + 1 = B ∧ w.heap.size = R ∧ Hid ((w'.heap[R]? = some o1 ∧ w'.heap[B]? = some o2 ∧ w'.heap[q]? = some o3 ∧ w'.heap[l]? = some o4 ∧ w'.heap[g]? = some o5) ∧ Only (fun _ => False) w w' ∧ R < B ∧ B < q ∧ q < l ∧ l < g ∧ w.heap.size ≤ R) := by
  have s1 := size_alloc1 w o1
  have s2 := size_alloc1 (w.alloc o1) o2
  have s3 := size_alloc1 ((w.alloc o1).alloc o2) o3
  have s4 := size_alloc1 (((w.alloc o1).alloc o2).alloc o3) o4
  have k1 : Only (fun _ => False) ((((w.alloc o1).alloc o2).alloc o3).alloc o4) (((((w.alloc o1).alloc o2).alloc o3).alloc o4).alloc o5) := (Only.refl _ _).alloc _
  have k2 : Only (fun _ => False) (((w.alloc o1).alloc o2).alloc o3) (((((w.alloc o1).alloc o2).alloc o3).alloc o4).alloc o5) := ((Only.refl _ _).alloc _).alloc _
  have k3 : Only (fun _ => False) ((w.alloc o1).alloc o2) (((((w.alloc o1).alloc o2).alloc o3).alloc o4).alloc o5) := (((Only.refl _ _).alloc _).alloc _).alloc _
  have k4 : Only (fun _ => False) (w.alloc o1) (((((w.alloc o1).alloc o2).alloc o3).alloc o4).alloc o5) := ((((Only.refl _ _).alloc _).alloc _).alloc _).alloc _
  refine ⟨_, _, _, _, _, _, rfl, rfl, rfl, rfl, rfl, rfl, ⟨⟨blk_keep k4 (heap_alloc_new w o1), blk_keep k3 ?_, blk_keep k2 ?_, blk_keep k1 ?_, ?_⟩, ((((((Only.refl _ _).alloc _).alloc _).alloc _).alloc _).alloc _), by omega, by omega, by omega, by omega, by omega⟩⟩
  · have h := heap_alloc_new (w.alloc o1) o2
    rw [s1] at h
    exact h
  · have h := heap_alloc_new ((w.alloc o1).alloc o2) o3
    rw [s2, s1] at h
    exact h
  · have h := heap_alloc_new (((w.alloc o1).alloc o2).alloc o3) o4
    rw [s3, s2, s1] at h
    exact h
  · have h := heap_alloc_new ((((w.alloc o1).alloc o2).alloc o3).alloc o4) o5
    rw [s4, s3, s2, s1] at h
    exact h
theorem blk_three {w : World} {R : Nat} {t : TypeId} {v0 v1 v2 : Value} (h : w.heap[R]? = some (.cells #[v0, v1, v2] t (0, 0))) : w.cell? ⟨R, 0, none⟩ = some v0 ∧ w.cell? ⟨R, 1, none⟩ = some v1 ∧ w.cell? ⟨R, 2, none⟩ = some v2 ∧ R < w.heap.size := ⟨cell_blk h, cell_blk h, cell_blk h, (Array.getElem?_eq_some_iff.1 h).1⟩
/-- the growing line, the least rest so far, and all beside them. -/
structure Lr (w w3 W : World) (gb lb : Nat) (gs ls : Array Value) : Prop where
  g : W.heap[gb]? = some (.cells gs 94 (0, 0))
  l : W.heap[lb]? = some (.cells ls 73 (0, 0))
  old : Only (fun _ => False) w W
  far : Only (fun x => x = gb ∨ x = lb) w3 W
theorem Lr.grow {w w3 W W' : World} {gb lb : Nat} {gs ls : Array Value} (h : Lr w w3 W gb lb gs ls) (ho : Only (fun _ => False) W W') : Lr w w3 W' gb lb gs ls := ⟨blk_keep ho h.g, blk_keep ho h.l, h.old.trans ho, h.far.trans (ho.mono (fun _ h => h.elim))⟩
theorem Lr.add {w w3 W W' : World} {gb lb : Nat} {gs gs' ls : Array Value} (h : Lr w w3 W gb lb gs ls) (hn : lb ≠ gb) (k : Gb w W W' gb gs') : Lr w w3 W' gb lb gs' ls := ⟨k.at', blk_far k.far h.l hn, k.old, h.far.trans (k.far.mono (fun _ h => Or.inl h))⟩
theorem Lr.put {w w3 W : World} {gb lb : Nat} {gs : Array Value} {v0 v1 v2 : Value} (h : Lr w w3 W gb lb gs #[v0, v1, v2]) (hn : lb ≠ gb) (hl : w.heap.size ≤ lb) (u0 u1 u2 : Value) : Lr w w3 (((W.setCell ⟨lb, 0, none⟩ u0).setCell ⟨lb, 1, none⟩ u1).setCell ⟨lb, 2, none⟩ u2) gb lb gs #[u0, u1, u2] := by
  refine ⟨(Below.heap_setCell _ _ _ _ (Ne.symm hn)).trans ((Below.heap_setCell _ _ _ _ (Ne.symm hn)).trans ((Below.heap_setCell _ _ _ _ (Ne.symm hn)).trans h.g)), ?_, ((h.old.setNew (p := ⟨lb, 0, none⟩) hl _).setNew (p := ⟨lb, 1, none⟩) hl _).setNew (p := ⟨lb, 2, none⟩) hl _, ((h.far.setCell (p := ⟨lb, 0, none⟩) (Or.inr rfl) _).setCell (p := ⟨lb, 1, none⟩) (Or.inr rfl) _).setCell (p := ⟨lb, 2, none⟩) (Or.inr rfl) _⟩
  exact heap_setCell_at (heap_setCell_at (heap_setCell_at h.l _) _) _
set_option maxRecDepth 100000 in
set_option maxHeartbeats 16000000 in
theorem leastRest_any (C : List Ct) (O : List Nat) (n m : Nat) (aC aO : Option Addr) (cC cO a b wi t mo hy pr lo rb of ln cr d N : Nat) (M : Nat → Bool) (S X : Nat → Nat) (Z : Nat → Prop) (w : World) (hP : Pv w C O n m aC aO cC cO) (hm : n < m) (hab : a < b) (hb : b ≤ n) (hw : wi ≤ 1048576) (h0 : 0 < t) (ht : t ≤ 1000) (hhy : hy ≤ 2097152) (hpr : pr ≤ 1048576)
    (hR : Rw w rb N M S X) (hof : of = d * 3) (hln : ln = b - a + 1) (hN : N = d + ln) (hRs : ∀ j, a < j → j ≤ b → Ds.Rs (bsF C O t wi hy pr lo b) Z b j (M (d + (j - a))) (S (d + (j - a))) (X (d + (j - a)))) (hZ : ∀ i j, Z j → bsF C O t wi hy pr lo b i j = none) :
    Calls Try.prog 45 #[.agg #[.slice aC n cC, .slice aO m cO], .int .i64 (a : Int), .agg #[.int .i64 (wi : Int), .int .i64 (t : Int), .int .u8 (mo : Int), .int .i64 (hy : Int), .int .i64 (pr : Int), .float .f64 lo], .slice (some ⟨rb, of, none⟩) ln cr] w fun e w' => ∃ (mm : Bool) (ss xx : Nat), e = .returned (.agg #[.bool mm, .int .i64 (ss : Int), .int .i64 (xx : Int)]) ∧ Ds.Rs (bsF C O t wi hy pr lo b) (fun _ => False) b a mm ss xx ∧ Only (fun _ => False) w w' := by
  have h1 := hP.few
  have hfO := hP.fewO
  have HP : Hid (Pv w C O n m aC aO cC cO) := hP
  obtain ⟨f, hf⟩ : ∃ f, f = bsF C O t wi hy pr lo b := ⟨_, rfl⟩
  rw [← hf] at hRs hZ ⊢
  have HRS : Hid (∀ j, a < j → j ≤ b → Ds.Rs f Z b j (M (d + (j - a))) (S (d + (j - a))) (X (d + (j - a)))) := hRs
  have HZ : Hid (∀ i j, Z j → f i j = none) := hZ
  have HFM : Hid (∀ i j y, f i j = some y → y ≤ 200000000) := fun i j y h => by rw [hf] at h; exact (cos_le hhy hpr h).1
  have HF0 : Hid (∀ k, O.getD k 0 = 0 → f a k = none) := fun k h => by rw [hf]; exact Sp.cos_none (Or.inr h)
  have HF1 : Hid (∀ k, 0 < k → O.getD (a + k) 0 ≠ 0 → f a (a + k) = Sp.shp wi hy pr lo (Sp.wd C t a k + (if O.getD (a + k) 0 = 3 then 1 else 0)) (Sp.gp C a k) (O.getD a 0) (O.getD (a + k) 0) (decide (a + k = b))) := fun k hk h => by
    rw [hf]
    unfold bsF
    rw [Sp.cos_shp (by omega) h, wde_wd, show a + k - a = k by omega]
  have HF2 : Hid (∀ k, wi < Sp.wd C t a k → ∀ j, a + k ≤ j → f a j = none) := fun k hk j hj => by
    rw [hf]
    refine Sp.cos_no (Sp.can_no (Or.inr (Or.inr ?_)))
    obtain ⟨q, rfl⟩ : ∃ q, j = a + q := ⟨j - a, by omega⟩
    rw [wde_wd]
    have := Sp.wd_mono C h0 a (show k ≤ q by omega)
    omega
  obtain ⟨f0, hO0, hD0⟩ := getD_some' (O := O) (k := a) (by rw [← hP.hm]; omega)
  have HEN : Hid (∀ W' k e, Only (fun _ => False) w W' → k ≤ n → O.getD k 0 = e → Calls Try.prog 32 #[.agg #[.slice aC n cC, .slice aO m cO], .int .i64 ((k : Nat) : Int)] W' fun r w' => r = .returned (.tuple #[.int .u8 (e : Int), .bool (decide (e ≠ 0))]) ∧ Only (fun _ => False) W' w') := fun W' k e ho hk he => by
    obtain ⟨e', h1, h2⟩ := getD_some' (O := O) (k := k) (by rw [← hP.hm]; omega)
    have q : e = e' := by rw [← he, h2]
    subst q
    exact ends_any C O n m aC aO cC cO k e W' (hP.keep ho) (by omega) h1
  have HAD : Hid (∀ W' gb k p, p = a + k → a + k < n → Only (fun _ => False) w W' → w.heap.size ≤ gb → W'.heap[gb]? = some (.cells (gst C t a k) 94 (0, 0)) → Calls Try.prog 55 #[.pointer (some ⟨gb, 0, none⟩), .agg #[.slice aC n cC, .slice aO m cO], .int .i64 ((p : Nat) : Int), .int .i64 (t : Int)] W' fun e w' => e = .returned (.tuple #[]) ∧ Gb w W' w' gb (gst C t a (k + 1))) := fun W' gb k p hp hk ho hg hG => by
    subst hp
    exact add_any C O n m aC aO cC cO a k t gb w W' hP ho hg hk h0 ht hG
  have HRW : Hid (∀ W' j, Only (fun _ => False) w W' → j < ln → W'.cell? ⟨rb, of + j * 3, none⟩ = some (.bool (M (d + j))) ∧ W'.cell? ⟨rb, of + j * 3 + 1, none⟩ = some (.int .i64 (S (d + j) : Int)) ∧ rb < W'.heap.size) := fun W' j ho hj => by
    have h := (hR.keep ho).at (j := d + j) (c := of + j * 3) (by omega) (by omega)
    exact ⟨h.1, h.2.1, (hR.keep ho).lt⟩
  have HGP : Hid (∀ k, a + k ≤ n → Sp.wd C t a k ≤ 100200000 ∧ Sp.gp C a k ≤ 100000) := fun k hk => by
    have h := cel_small HP.out.ok h0 ht (a := a) (k := k) (e := 0) (by omega)
    unfold Sp.cel at h
    rw [if_neg (by decide)] at h
    refine ⟨?_, Nat.le_trans (gp_le C a k) (by omega)⟩
    unfold Sp.wd
    have := (Sp.tr_ge C a k).2
    exact col_small HP.out.ok h0 ht (by omega)
  have HLN : Hid (ln = b - a + 1 ∧ O.getD a 0 = f0) := ⟨hln, hD0⟩
  have hlnl : ln ≤ 100001 := by omega
  have hln0 : 2 ≤ ln := by omega
  have hanb : a + ln = b + 1 := by omega
  clear hP hR hof hN hRs hZ hf hO0 hD0 hln
  go_enter Try.func45, Try.ntmps45
  go_upto_region 3 with fail
  obtain ⟨R, B, qb, lb, gb, w0, hw0, hgb, hlb, hqb, hB, hRR, H0⟩ := box5 w (.cells #[.slice aC n cC, .slice aO m cO] 31) (.cells #[.int .i64 (wi : Int), .int .i64 (t : Int), .int .u8 (mo : Int), .int .i64 (hy : Int), .int .i64 (pr : Int), .float .f64 lo] 35) (.cells #[.bool false, .int .i64 0, .int .i64 0] 73) (.cells #[.bool false, .int .i64 0, .int .i64 0] 73) (.cells #[.int .i64 0, .int .i64 0, .int .i64 0, .int .i64 0] 94)
  rw [hw0, hgb, hlb, hqb, hB, hRR]
  clear hw0 hgb hlb hqb hB hRR
  have HNE : Hid (lb ≠ gb ∧ w.heap.size ≤ gb ∧ w.heap.size ≤ lb ∧ w.heap.size ≤ qb ∧ R ≠ gb ∧ R ≠ lb ∧ B ≠ gb ∧ B ≠ lb ∧ qb ≠ gb ∧ qb ≠ lb) := by
    obtain ⟨-, -, g1, g2, g3, g4, g5⟩ := H0.out
    refine ⟨?_, ?_, ?_, ?_, ?_, ?_, ?_, ?_, ?_, ?_⟩ <;> omega
  obtain ⟨r0, r1, lR⟩ := blk_two H0.out.1.1
  go_wp2_with fail
  refine Calls.mono (HEN.out _ a f0 H0.out.2.1 (by omega) HLN.out.2) ?_
  rintro r w3 ⟨rfl, ho3⟩
  obtain ⟨qf, hqf⟩ : ∃ q, q = decide (f0 ≠ 0) := ⟨_, rfl⟩
  rw [← hqf]
  have HFX : Hid (∀ W', Only (fun x => x = gb ∨ x = lb) w3 W' → (W'.cell? ⟨R, 0, none⟩ = some (.slice aC n cC) ∧ W'.cell? ⟨R, 1, none⟩ = some (.slice aO m cO)) ∧ (W'.cell? ⟨B, 0, none⟩ = some (.int .i64 (wi : Int)) ∧ W'.cell? ⟨B, 1, none⟩ = some (.int .i64 (t : Int)) ∧ W'.cell? ⟨B, 2, none⟩ = some (.int .u8 (mo : Int)) ∧ W'.cell? ⟨B, 3, none⟩ = some (.int .i64 (hy : Int)) ∧ W'.cell? ⟨B, 4, none⟩ = some (.int .i64 (pr : Int)) ∧ W'.cell? ⟨B, 5, none⟩ = some (.float .f64 lo)) ∧ W'.heap[qb]? = some (.cells #[.bool false, .int .i64 0, .int .i64 0] 73 (0, 0)) ∧ R < W'.heap.size ∧ B < W'.heap.size) := fun W' ho => by
    have kR : W'.heap[R]? = some (.cells #[.slice aC n cC, .slice aO m cO] 31 (0, 0)) := (ho.block R (Nat.lt_of_lt_of_le lR ho3.size) (by have := HNE.out; omega)).trans (blk_keep ho3 H0.out.1.1)
    have eB := blk_keep ho3 H0.out.1.2.1
    have kB : W'.heap[B]? = some (.cells #[.int .i64 (wi : Int), .int .i64 (t : Int), .int .u8 (mo : Int), .int .i64 (hy : Int), .int .i64 (pr : Int), .float .f64 lo] 35 (0, 0)) := (ho.block B (Array.getElem?_eq_some_iff.1 eB).1 (by have := HNE.out; omega)).trans eB
    have eq := blk_keep ho3 H0.out.1.2.2.1
    have kq : W'.heap[qb]? = some (.cells #[.bool false, .int .i64 0, .int .i64 0] 73 (0, 0)) := (ho.block qb (Array.getElem?_eq_some_iff.1 eq).1 (by have := HNE.out; omega)).trans eq
    exact ⟨⟨(blk_two kR).1, (blk_two kR).2.1⟩, blk_six kB, kq, (blk_two kR).2.2, (Array.getElem?_eq_some_iff.1 kB).1⟩
  have H3 : Hid (Lr w w3 w3 gb lb #[.int .i64 0, .int .i64 0, .int .i64 0, .int .i64 0] #[.bool false, .int .i64 0, .int .i64 0]) := ⟨blk_keep ho3 H0.out.1.2.2.2.2, blk_keep ho3 H0.out.1.2.2.2.1, H0.out.2.1.trans ho3, Only.refl _ _⟩
  clear ho3 r0 r1 lR hqf
  go_wp2_with fail
  go_loopg [13] (ln - 1) (fun gh v13 wr => ∃ (k : Nat) (ml : Bool) (sl xl : Nat) (W : World), W = wr ∧ gh = ln - 1 - k ∧ k + 1 ≤ ln ∧ v13 = .int .i64 ((k + 1 : Nat) : Int) ∧ Lr w w3 W gb lb (gst C t a k) #[.bool ml, .int .i64 (sl : Int), .int .i64 (xl : Int)] ∧ Ds.Ir f b a (a + k + 1) ml sl xl)
  case atStart => exact ⟨0, false, 0, 0, _, rfl, rfl, by omega, rfl, by rw [gst_zero]; exact H3.out, Ds.Ir.start f b a⟩
  case round =>
    obtain ⟨k, ml, sl, xl, W, hW, rfl, hk, rfl, hlr, hir⟩ := hrel
    subst hW
    have HK : Hid (Lr w w3 W gb lb (gst C t a k) #[.bool ml, .int .i64 (sl : Int), .int .i64 (xl : Int)] ∧ Ds.Ir f b a (a + k + 1) ml sl xl) := ⟨hlr, hir⟩
    clear hlr hir
    have hsl : ml = true → sl ≤ 20000000000000 := fun h => by
      subst h
      rcases HK.out.2 with ⟨h1, _⟩ | ⟨_, y0, E, r, g1, g2, g3, g4, g5, g6, _⟩
      · cases h1
      · have h2 := HFM.out _ _ _ g4
        have h3 := Ds.cst_le HFM.out E g5.cost
        have h4 := g5.row.length
        have h5 : E.length * 200000000 ≤ 99999 * 200000000 := Nat.mul_le_mul_right _ (by omega)
        omega
    obtain ⟨i, hi⟩ : ∃ i, i = k + 1 := ⟨_, rfl⟩
    rw [← hi]
    by_cases hlt : i < ln
    · have t1 : (i : Int) < (ln : Int) := by omega
      obtain ⟨p, hp⟩ : ∃ p, p = a + k := ⟨_, rfl⟩
      obtain ⟨j, hj⟩ : ∃ j, j = a + i := ⟨_, rfl⟩
      have e8 : (a : Int) + (i : Int) = (j : Int) := by omega
      have e7 : (j : Int) - 1 = (p : Int) := by omega
      have hjb : j ≤ b := by omega
      have hjn : j ≤ n := by omega
      have HJ : Hid (p = a + k ∧ j = a + i ∧ i = k + 1) := ⟨hp, hj, hi⟩
      have hj1 : a + i ≤ j := by omega
      have hj2 : j ≤ a + i := by omega
      have hi1 : k + 1 ≤ i := by omega
      have hi2 : i ≤ k + 1 := by omega
      have hkn : a + k < n := by omega
      have hil : i ≤ 100001 := by omega
      have hjl : j ≤ 100000 := by omega
      clear hp hj
      obtain ⟨⟨r0, r1⟩, ⟨k0, k1, k2, k3, k4, k5⟩, -, lR, lB⟩ := HFX.out W HK.out.1.far
      obtain ⟨wd, hwd⟩ : ∃ x, x = Sp.wd C t a i := ⟨_, rfl⟩
      obtain ⟨ga, hga⟩ : ∃ x, x = Sp.gp C a i := ⟨_, rfl⟩
      obtain ⟨co, hco⟩ : ∃ x, x = Sp.col C t a i := ⟨_, rfl⟩
      obtain ⟨sp, hsp⟩ : ∃ x, x = Sp.sps C a i := ⟨_, rfl⟩
      have hwdl : wd ≤ 100200000 := by rw [hwd]; exact (HGP.out i (by omega)).1
      have hgal : ga ≤ 100000 := by rw [hga]; exact (HGP.out i (by omega)).2
      have HGS : Hid (gst C t a i = #[.int .i64 (co : Int), .int .i64 (sp : Int), .int .i64 (wd : Int), .int .i64 (ga : Int)]) := by unfold gst; rw [hwd, hga, hco, hsp]; exact rfl
      have HWG : Hid (wd = Sp.wd C t a i ∧ ga = Sp.gp C a i) := ⟨hwd, hga⟩
      clear hwd hga hco hsp hi
      go_wp2_with fail
      refine Calls.mono (HAD.out _ gb k p HJ.out.1 hkn HK.out.1.old HNE.out.2.1 HK.out.1.g) ?_
      rintro e W2 ⟨rfl, hgb2⟩
      rw [← HJ.out.2.2, HGS.out] at hgb2
      have H2 : Hid (Lr w w3 W2 gb lb #[.int .i64 (co : Int), .int .i64 (sp : Int), .int .i64 (wd : Int), .int .i64 (ga : Int)] #[.bool ml, .int .i64 (sl : Int), .int .i64 (xl : Int)]) := HK.out.1.add HNE.out.1 hgb2
      have HIR : Hid (Ds.Ir f b a j ml sl xl) := by have h := HK.out.2; rw [HJ.out.2.1, HJ.out.2.2]; exact h
      clear hgb2 r0 r1 k0 k1 k2 k3 k4 k5 lR lB HK
      obtain ⟨⟨r0, r1⟩, ⟨k0, k1, k2, k3, k4, k5⟩, -, lR, lB⟩ := HFX.out W2 H2.out.far
      obtain ⟨g0, g1, g2, g3⟩ := blk_four H2.out.g
      have lg : gb < W2.heap.size := (Array.getElem?_eq_some_iff.1 H2.out.g).1
      by_cases hww : wi < wd
      · have t2 : (wi : Int) < (wd : Int) := by omega
        have HX : Hid (Ds.Rs f (fun _ => False) b a ml sl xl) := (HIR.out.stop (fun q hq => HF2.out i (by rw [← HWG.out.1]; exact hww) q (by rw [← HJ.out.2.1]; exact hq)) (b + 1) (by omega)).done (Z := fun _ => False) hab
        clear hsl
        go_upto_region 15 with fail
        clear r0 r1 k0 k1 k2 k3 k4 k5 g0 g1 g2 g3 lR lB lg
        obtain ⟨-, -, kq, lRt, lBt⟩ := HFX.out W2 H2.out.far
        obtain ⟨q0, q1, q2, lq⟩ := blk_three kq
        obtain ⟨l0, l1, l2, ll⟩ := blk_three H2.out.l
        have fq0 : W2.frozen? ⟨qb, 0, none⟩ = false := fz_blk kq 0
        have fq1 : W2.frozen? ⟨qb, 1, none⟩ = false := fz_blk kq 1
        have fq2 : W2.frozen? ⟨qb, 2, none⟩ = false := fz_blk kq 2
        have HQ : Hid (W2.heap[qb]? = some (.cells #[.bool false, .int .i64 0, .int .i64 0] 73 (0, 0))) := kq
        clear kq
        go_wp2_with fail
        refine bodyPost_ret (v := .agg #[.bool ml, .int .i64 (sl : Int), .int .i64 (xl : Int)]) (results_cell_row rfl _ _ qb 73 #[.bool ml, .int .i64 (sl : Int), .int .i64 (xl : Int)] (0, 0) _ rfl (heap_setCell_at (k := 2) (heap_setCell_at (k := 1) (heap_setCell_at (k := 0) HQ.out _) _) _) Try.underlying73 rfl (by kernel_rfl)) rfl ⟨ml, sl, xl, rfl, HX.out, ?_⟩
        exact ((H2.out.old.setNew (p := ⟨qb, 0, none⟩) HNE.out.2.2.2.1 _).setNew (p := ⟨qb, 1, none⟩) HNE.out.2.2.2.1 _).setNew (p := ⟨qb, 2, none⟩) HNE.out.2.2.2.1 _
      · have t2 : decide ((wi : Int) < (wd : Int)) = false := decide_eq_false (by omega)
        have t2n : decide (wi < wd) = false := decide_eq_false (by omega)
        obtain ⟨e, he⟩ : ∃ e, e = O.getD j 0 := ⟨_, rfl⟩
        have he8 : e < 256 := by
          rw [he, List.getD_eq_getElem?_getD]
          cases hx : O[j]? with
          | none => decide
          | some z => exact HP.out.oO z (List.mem_of_getElem? hx)
        have HE : Hid (O.getD j 0 = e) := he.symm
        clear he hww
        go_wp2_with fail
        refine Calls.mono (HEN.out _ j e H2.out.old hjn HE.out) ?_
        rintro r W3 ⟨rfl, ho3⟩
        have H3' : Hid (Lr w w3 W3 gb lb #[.int .i64 (co : Int), .int .i64 (sp : Int), .int .i64 (wd : Int), .int .i64 (ga : Int)] #[.bool ml, .int .i64 (sl : Int), .int .i64 (xl : Int)]) := H2.out.grow ho3
        clear ho3 r0 r1 k0 k1 k2 k3 k4 k5 g0 g1 g2 g3 lR lB lg
        by_cases he0 : e = 0
        · rw [show decide (e ≠ 0) = false from decide_eq_false (by omega)]
          have HN : Hid (Ds.Ir f b a (j + 1) ml sl xl) := HIR.out.skip (Or.inl (HF0.out j (by rw [HE.out]; exact he0)))
          clear he0
          go_wp2_with fail
          go_roundg (ln - 1 - i)
          case measure => omega
          case rel => exact ⟨i, ml, sl, xl, _, rfl, rfl, by omega, by go_num, by rw [HGS.out]; exact H3'.out, by have h := HN.out; rw [HJ.out.2.1] at h; exact h⟩
        · rw [show decide (e ≠ 0) = true from decide_eq_true he0]
          obtain ⟨mj, hmj⟩ : ∃ x, x = M (d + i) := ⟨_, rfl⟩
          obtain ⟨sj, hsj⟩ : ∃ x, x = S (d + i) := ⟨_, rfl⟩
          obtain ⟨x0, x1, lx⟩ := HRW.out W3 i H3'.out.old (by omega)
          have HRJ : Hid (Ds.Rs f Z b j mj sj (X (d + i))) := by
            have h := HRS.out j (by omega) hjb
            rw [show d + (j - a) = d + i by omega, ← hmj, ← hsj] at h
            exact h
          rw [← hmj] at x0
          rw [← hsj] at x1
          have HMJ : Hid (M (d + i) = mj ∧ S (d + i) = sj) := ⟨hmj.symm, hsj.symm⟩
          have HE0 : Hid (e ≠ 0) := he0
          clear hmj hsj he0
          cases mj with
          | false =>
            have HN : Hid (Ds.Ir f b a (j + 1) ml sl xl) := HIR.out.skip (by
              rcases HRJ.out with ⟨q, _⟩ | ⟨_, q | q⟩
              · cases q
              · exact Or.inl (HZ.out a j q)
              · exact Or.inr q)
            go_wp2_with fail
            go_roundg (ln - 1 - i)
            case measure => omega
            case rel => exact ⟨i, ml, sl, xl, _, rfl, rfl, by omega, by go_num, by rw [HGS.out]; exact H3'.out, by have h := HN.out; rw [HJ.out.2.1] at h; exact h⟩
          | true =>
            have hsjl : sj ≤ 20000000000000 := by
              have h := HRJ.out.small HFM.out
              have h5 : (b - j) * 200000000 ≤ 100000 * 200000000 := Nat.mul_le_mul_right _ (by omega)
              omega
            obtain ⟨hc, hhc⟩ : ∃ x : Nat, x = (if e = 3 then 1 else 0) := ⟨_, rfl⟩
            have hcl : hc ≤ 1 := by rw [hhc]; split <;> omega
            obtain ⟨ce, hce⟩ : ∃ x, x = wd + hc := ⟨_, rfl⟩
            have hce2 : ce ≤ 100200001 := by omega
            obtain ⟨la, hla⟩ : ∃ x, x = decide (j = b) := ⟨_, rfl⟩
            obtain ⟨v, hv⟩ : ∃ v, v = f a j := ⟨_, rfl⟩
            have HV : Hid (v = f a j ∧ v = Sp.shp wi hy pr lo ce ga f0 e la) := ⟨hv, by
              rw [hv, HJ.out.2.1, HF1.out i (by omega) (by rw [← HJ.out.2.1, HE.out]; exact HE0.out), ← HJ.out.2.1, HE.out, HLN.out.2, ← HWG.out.1, ← HWG.out.2, hce, hhc, hla]⟩
            have HSH : Hid (∀ W', Calls Try.prog 47 #[.agg #[.int .i64 (ce : Int), .int .i64 (ga : Int), .int .u8 (f0 : Int), .int .u8 (e : Int), .bool la], .agg #[.int .i64 (wi : Int), .int .i64 (t : Int), .int .u8 (mo : Int), .int .i64 (hy : Int), .int .i64 (pr : Int), .float .f64 lo]] W' fun r w' => r = .returned (Sp.cosV v) ∧ Only (fun _ => False) W' w') := fun W' => by
              rw [HV.out.2]
              exact shape_any ce ga f0 e wi t mo hy pr lo la W' hce2 hgal hw hhy hpr
            have HHC : Hid (∀ W', Only (fun _ => False) W3 W' → Calls Try.prog 56 #[.int .u8 (e : Int)] W' fun r w' => r = .returned (.int .i64 (hc : Int)) ∧ Only (fun _ => False) W' w') := fun W' _ => (hyphenCells_any e W').mono (by
              rintro r w' ⟨h1, h2⟩
              subst h2
              rw [hhc]
              exact ⟨h1, Only.refl _ _⟩)
            have c1 : IntKind.i64.wrap ((wd : Int) + (hc : Int)) = (ce : Int) := by rw [hce]; exact (wrap_sm _ (by omega) (by omega)).trans (by omega)
            obtain ⟨nd, hnd⟩ : ∃ x, x = ln - 1 := ⟨_, rfl⟩
            have c2 : IntKind.i64.wrap ((ln : Int) - 1) = (nd : Int) := by rw [hnd]; exact (wrap_sm _ (by omega) (by omega)).trans (by omega)
            have c3 : ((i : Int) == (nd : Int)) = la := by
              rw [hla]
              by_cases q : j = b
              · rw [decide_eq_true q, beq_iff_eq]
                have := HJ.out
                omega
              · rw [decide_eq_false q, beq_eq_false_iff_ne]
                have := HJ.out
                omega
            clear hhc hce hla hv hnd
            go_upto_region 11 with fail
            clear x0 x1 lx
            go_cut [16] from 61 to 75 (fun v16 wr => ∃ (B7 : Nat) (Y : World), Y = wr ∧ v16 = .pointer (some ⟨B7, 0, none⟩) ∧ Blk W3 Y B7 86 #[.int .i64 (ce : Int), .int .i64 (ga : Int), .int .u8 (f0 : Int), .int .u8 (e : Int), .bool la] ∧ Only (fun _ => False) W3 Y)
            case first =>
              have HSS : Hid (∀ W', Only (fun _ => False) W3 W' → (fun W' => W'.cell? ⟨gb, 2, none⟩ = some (.int .i64 (wd : Int)) ∧ W'.cell? ⟨gb, 3, none⟩ = some (.int .i64 (ga : Int))) W') := fun W' ho => ⟨(blk_four (blk_keep ho H3'.out.g)).2.2.1, (blk_four (blk_keep ho H3'.out.g)).2.2.2⟩
              have HXD : Hid (Only (fun _ => False) W3 W3.drew) := (Only.refl _ _).drew
              refine wp_region_held_drew (S := (fun W' => W'.cell? ⟨gb, 2, none⟩ = some (.int .i64 (wd : Int)) ∧ W'.cell? ⟨gb, 3, none⟩ = some (.int .i64 (ga : Int)))) (by kernel_rfl) (HSS.out _ HXD.out) (fun hHeld => ?_)
              refine wpAnyH_take (i := 0) (oi := { dst := some 61, op := _, type := _, pos := _, after := _, guard := _ }) (v := .pointer (some ⟨gb, 2, none⟩)) rfl (by kernel_rfl) (by kernel_rfl) (by kernel_rfl) (fun _ _ _ h => h) (Or.inl ⟨by rfl, fun w hSw => by obtain ⟨y0, y1⟩ := hSw; first | (go_simp; done) | go_simp⟩) (by assumption) ?_
              (try simp only [Act.put, List.setIfInBounds_toArray, List.set_cons_zero, List.set_cons_succ])
              refine wpAnyH_take (i := 1) (oi := { dst := some 62, op := _, type := _, pos := _, after := _, guard := _ }) (v := .int .i64 (wd : Int)) rfl (by kernel_rfl) (by kernel_rfl) (by kernel_rfl) (fun _ _ _ h => h) (Or.inl ⟨by rfl, fun w hSw => by obtain ⟨y0, y1⟩ := hSw; first | (go_simp; done) | go_simp⟩) (by assumption) ?_
              (try simp only [Act.put, List.setIfInBounds_toArray, List.set_cons_zero, List.set_cons_succ])
              refine wpAnyH_take (i := 2) (oi := { dst := some 63, op := _, type := _, pos := _, after := _, guard := _ }) (v := .int .u8 (e : Int)) rfl (by kernel_rfl) (by kernel_rfl) (by kernel_rfl) (fun _ _ _ h => h) (Or.inl ⟨by rfl, fun w hSw => by obtain ⟨y0, y1⟩ := hSw; first | (go_simp; done) | go_simp⟩) (by assumption) ?_
              (try simp only [Act.put, List.setIfInBounds_toArray, List.set_cons_zero, List.set_cons_succ])
              refine wpAnyH_take (i := 5) (oi := { dst := some 66, op := _, type := _, pos := _, after := _, guard := _ }) (v := .pointer (some ⟨gb, 3, none⟩)) rfl (by kernel_rfl) (by kernel_rfl) (by kernel_rfl) (fun _ _ _ h => h) (Or.inl ⟨by rfl, fun w hSw => by obtain ⟨y0, y1⟩ := hSw; first | (go_simp; done) | go_simp⟩) (by assumption) ?_
              (try simp only [Act.put, List.setIfInBounds_toArray, List.set_cons_zero, List.set_cons_succ])
              refine wpAnyH_take (i := 6) (oi := { dst := some 67, op := _, type := _, pos := _, after := _, guard := _ }) (v := .int .i64 (ga : Int)) rfl (by kernel_rfl) (by kernel_rfl) (by kernel_rfl) (fun _ _ _ h => h) (Or.inl ⟨by rfl, fun w hSw => by obtain ⟨y0, y1⟩ := hSw; first | (go_simp; done) | go_simp⟩) (by assumption) ?_
              (try simp only [Act.put, List.setIfInBounds_toArray, List.set_cons_zero, List.set_cons_succ])
              refine wpAnyH_take (i := 7) (oi := { dst := some 68, op := _, type := _, pos := _, after := _, guard := _ }) (v := .int .u8 (f0 : Int)) rfl (by kernel_rfl) (by kernel_rfl) (by kernel_rfl) (fun _ _ _ h => h) (Or.inl ⟨by rfl, fun w hSw => by obtain ⟨y0, y1⟩ := hSw; first | (go_simp; done) | go_simp⟩) (by assumption) ?_
              (try simp only [Act.put, List.setIfInBounds_toArray, List.set_cons_zero, List.set_cons_succ])
              refine wpAnyH_take (i := 8) (oi := { dst := some 69, op := _, type := _, pos := _, after := _, guard := _ }) (v := .int .u8 (e : Int)) rfl (by kernel_rfl) (by kernel_rfl) (by kernel_rfl) (fun _ _ _ h => h) (Or.inl ⟨by rfl, fun w hSw => by obtain ⟨y0, y1⟩ := hSw; first | (go_simp; done) | go_simp⟩) (by assumption) ?_
              (try simp only [Act.put, List.setIfInBounds_toArray, List.set_cons_zero, List.set_cons_succ])
              refine wpAnyH_take (i := 9) (oi := { dst := some 70, op := _, type := _, pos := _, after := _, guard := _ }) (v := .int .i64 (i : Int)) rfl (by kernel_rfl) (by kernel_rfl) (by kernel_rfl) (fun _ _ _ h => h) (Or.inl ⟨by rfl, fun w hSw => by obtain ⟨y0, y1⟩ := hSw; first | (go_simp; done) | go_simp⟩) (by assumption) ?_
              (try simp only [Act.put, List.setIfInBounds_toArray, List.set_cons_zero, List.set_cons_succ])
              refine wpAnyH_take (i := 10) (oi := { dst := some 71, op := _, type := _, pos := _, after := _, guard := _ }) (v := .slice (some ⟨rb, of, none⟩) ln cr) rfl (by kernel_rfl) (by kernel_rfl) (by kernel_rfl) (fun _ _ _ h => h) (Or.inl ⟨by rfl, fun w hSw => by obtain ⟨y0, y1⟩ := hSw; first | (go_simp; done) | go_simp⟩) (by assumption) ?_
              (try simp only [Act.put, List.setIfInBounds_toArray, List.set_cons_zero, List.set_cons_succ])
              refine wpAnyH_take (i := 11) (oi := { dst := some 72, op := _, type := _, pos := _, after := _, guard := _ }) (v := .int .i64 (ln : Int)) rfl (by kernel_rfl) (by kernel_rfl) (by kernel_rfl) (fun _ _ _ h => h) (Or.inl ⟨by rfl, fun w hSw => by obtain ⟨y0, y1⟩ := hSw; first | (go_simp; done) | go_simp⟩) (by assumption) ?_
              (try simp only [Act.put, List.setIfInBounds_toArray, List.set_cons_zero, List.set_cons_succ])
              refine wpAnyH_take (i := 12) (oi := { dst := some 73, op := _, type := _, pos := _, after := _, guard := _ }) (v := .int .i64 (nd : Int)) rfl (by kernel_rfl) (by kernel_rfl) (by kernel_rfl) (fun _ _ _ h => h) (Or.inl ⟨by rfl, fun w hSw => by obtain ⟨y0, y1⟩ := hSw; first | (go_simp; done) | go_simp⟩) (by assumption) ?_
              (try simp only [Act.put, List.setIfInBounds_toArray, List.set_cons_zero, List.set_cons_succ])
              refine wpAnyH_take (i := 13) (oi := { dst := some 74, op := _, type := _, pos := _, after := _, guard := _ }) (v := .bool la) rfl (by kernel_rfl) (by kernel_rfl) (by kernel_rfl) (fun _ _ _ h => h) (Or.inl ⟨by rfl, fun w hSw => by obtain ⟨y0, y1⟩ := hSw; first | (go_simp; done) | go_simp⟩) (by assumption) ?_
              (try simp only [Act.put, List.setIfInBounds_toArray, List.set_cons_zero, List.set_cons_succ])
              refine wpAnyH_ready (rs := [3, 15]) (by kernel_rfl) (by simp) ?_
              refine AllReadyH.cons rfl (fun K hK => ?_) (AllReadyH.cons rfl (fun K hK => ?_) AllReadyH.nil)
              · rw [if_pos (by rfl)]
                go_simp
                refine Calls.mono (HHC.out _ (HXD.out)) ?_
                rintro e y1 ⟨rfl, ho⟩
                have HXy1 : Hid (Only (fun _ => False) W3 y1) := HXD.out.trans ho
                clear ho
                refine hK.out _ _ (HSS.out _ HXy1.out) (fun hHeld => ?_)
                clear hK
                (try simp only [Act.put, List.setIfInBounds_toArray, List.set_cons_zero, List.set_cons_succ])
                refine wpAnyH_take (i := 4) (oi := { dst := some 65, op := _, type := _, pos := _, after := _, guard := _ }) (v := .int .i64 (ce : Int)) rfl (by kernel_rfl) (by kernel_rfl) (by kernel_rfl) (fun _ _ _ h => h) (Or.inl ⟨by rfl, fun w hSw => by obtain ⟨y0, y1⟩ := hSw; first | (go_simp; done) | go_simp⟩) (by assumption) ?_
                (try simp only [Act.put, List.setIfInBounds_toArray, List.set_cons_zero, List.set_cons_succ])
                refine wpAnyH_take (i := 14) (oi := { dst := some 75, op := _, type := _, pos := _, after := _, guard := _ }) (v := .agg #[.int .i64 (ce : Int), .int .i64 (ga : Int), .int .u8 (f0 : Int), .int .u8 (e : Int), .bool la]) rfl (by kernel_rfl) (by kernel_rfl) (by kernel_rfl) (fun _ _ _ h => h) (Or.inl ⟨by rfl, fun w hSw => by obtain ⟨y0, y1⟩ := hSw; first | (go_simp; done) | go_simp⟩) (by assumption) ?_
                (try simp only [Act.put, List.setIfInBounds_toArray, List.set_cons_zero, List.set_cons_succ])
                refine wpAnyH_ready (rs := [15]) (by kernel_rfl) (by simp) ?_
                refine AllReadyH.cons rfl (fun K hK => ?_) AllReadyH.nil
                rw [if_pos (by rfl)]
                go_simp
                obtain ⟨y2, hy2⟩ : ∃ Y, Y = y1.alloc (.cells #[.int .i64 0, .int .i64 0, .int .u8 0, .int .u8 0, .bool false] 86) := ⟨_, rfl⟩
                obtain ⟨B7, hB7⟩ : ∃ b, b = y1.heap.size := ⟨_, rfl⟩
                have ho : Only (fun _ => False) y1 y2 := by rw [hy2]; exact (Only.refl _ _).alloc _
                have HXy2 : Hid (Only (fun _ => False) W3 y2) := HXy1.out.trans ho
                have HB7y2 : Hid (Blk W3 y2 B7 86 #[.int .i64 0, .int .i64 0, .int .u8 0, .int .u8 0, .bool false]) := by rw [hy2, hB7]; exact Blk.made HXy1.out _ _
                rw [← hy2, ← hB7]
                clear hy2 hB7 ho
                refine hK.out _ _ (HSS.out _ HXy2.out) (fun hHeld => ?_)
                clear hK
                (try simp only [Act.put, List.setIfInBounds_toArray, List.set_cons_zero, List.set_cons_succ])
                refine wpAnyH_ready (rs := [16]) (by kernel_rfl) (by simp) ?_
                refine AllReadyH.cons rfl (fun K hK => ?_) AllReadyH.nil
                rw [if_pos (by rfl)]
                have HXa : Hid (Only (fun _ => False) W3 (y2.setRow B7 #[.int .i64 (ce : Int), .int .i64 (ga : Int), .int .u8 (f0 : Int), .int .u8 (e : Int), .bool la])) := HXy2.out.setRowNew HB7y2.out.2 _
                refine wp_store_row 86 _ _ rfl B7 #[.int .i64 (ce : Int), .int .i64 (ga : Int), .int .u8 (f0 : Int), .int .u8 (e : Int), .bool la] rfl rfl 86 _ HB7y2.out.1 (by kernel_rfl) rfl (five_one _ _ _ _ _) ?_
                have HMa : Hid (Blk W3 (y2.setRow B7 #[.int .i64 (ce : Int), .int .i64 (ga : Int), .int .u8 (f0 : Int), .int .u8 (e : Int), .bool la]) B7 86 #[.int .i64 (ce : Int), .int .i64 (ga : Int), .int .u8 (f0 : Int), .int .u8 (e : Int), .bool la]) := HB7y2.out.put _
                obtain ⟨za, hza⟩ : ∃ Y, Y = y2.setRow B7 #[.int .i64 (ce : Int), .int .i64 (ga : Int), .int .u8 (f0 : Int), .int .u8 (e : Int), .bool la] := ⟨_, rfl⟩
                rw [← hza] at HXa HMa ⊢
                clear hza
                refine hK.out _ _ (HSS.out _ HXa.out) (fun hHeld => ?_)
                clear hK
                (try simp only [Act.put, List.setIfInBounds_toArray, List.set_cons_zero, List.set_cons_succ])
                refine wpAnyH_done (by kernel_rfl) ?_ _
                clear hHeld
                go_wp2_with fail
                go_meet
                exact ⟨B7, _, rfl, rfl, HMa.out, HXa.out⟩
              · rw [if_pos (by rfl)]
                go_simp
                obtain ⟨y1, hy1⟩ : ∃ Y, Y = (W3.alloc (.cells #[.int .i64 0, .int .i64 0, .int .u8 0, .int .u8 0, .bool false] 86)).drew := ⟨_, rfl⟩
                obtain ⟨B7, hB7⟩ : ∃ b, b = W3.heap.size := ⟨_, rfl⟩
                have ho : Only (fun _ => False) W3 y1 := by rw [hy1]; exact ((Only.refl _ _).alloc _).drew
                have HXy1 : Hid (Only (fun _ => False) W3 y1) := ho
                have HB7y1 : Hid (Blk W3 y1 B7 86 #[.int .i64 0, .int .i64 0, .int .u8 0, .int .u8 0, .bool false]) := by rw [hy1, hB7]; exact (Blk.made (Only.refl _ _) _ _).drew
                rw [← hy1, ← hB7]
                clear hy1 hB7 ho
                refine hK.out _ _ (HSS.out _ HXy1.out) (fun hHeld => ?_)
                clear hK
                (try simp only [Act.put, List.setIfInBounds_toArray, List.set_cons_zero, List.set_cons_succ])
                refine wpAnyH_ready (rs := [3]) (by kernel_rfl) (by simp) ?_
                refine AllReadyH.cons rfl (fun K hK => ?_) AllReadyH.nil
                rw [if_pos (by rfl)]
                go_simp
                refine Calls.mono (HHC.out _ (HXy1.out)) ?_
                rintro e y2 ⟨rfl, ho⟩
                have HXy2 : Hid (Only (fun _ => False) W3 y2) := HXy1.out.trans ho
                have HB7y2 : Hid (Blk W3 y2 B7 86 #[.int .i64 0, .int .i64 0, .int .u8 0, .int .u8 0, .bool false]) := HB7y1.out.keep ho
                clear ho
                refine hK.out _ _ (HSS.out _ HXy2.out) (fun hHeld => ?_)
                clear hK
                (try simp only [Act.put, List.setIfInBounds_toArray, List.set_cons_zero, List.set_cons_succ])
                refine wpAnyH_take (i := 4) (oi := { dst := some 65, op := _, type := _, pos := _, after := _, guard := _ }) (v := .int .i64 (ce : Int)) rfl (by kernel_rfl) (by kernel_rfl) (by kernel_rfl) (fun _ _ _ h => h) (Or.inl ⟨by rfl, fun w hSw => by obtain ⟨y0, y1⟩ := hSw; first | (go_simp; done) | go_simp⟩) (by assumption) ?_
                (try simp only [Act.put, List.setIfInBounds_toArray, List.set_cons_zero, List.set_cons_succ])
                refine wpAnyH_take (i := 14) (oi := { dst := some 75, op := _, type := _, pos := _, after := _, guard := _ }) (v := .agg #[.int .i64 (ce : Int), .int .i64 (ga : Int), .int .u8 (f0 : Int), .int .u8 (e : Int), .bool la]) rfl (by kernel_rfl) (by kernel_rfl) (by kernel_rfl) (fun _ _ _ h => h) (Or.inl ⟨by rfl, fun w hSw => by obtain ⟨y0, y1⟩ := hSw; first | (go_simp; done) | go_simp⟩) (by assumption) ?_
                (try simp only [Act.put, List.setIfInBounds_toArray, List.set_cons_zero, List.set_cons_succ])
                refine wpAnyH_ready (rs := [16]) (by kernel_rfl) (by simp) ?_
                refine AllReadyH.cons rfl (fun K hK => ?_) AllReadyH.nil
                rw [if_pos (by rfl)]
                have HXa : Hid (Only (fun _ => False) W3 (y2.setRow B7 #[.int .i64 (ce : Int), .int .i64 (ga : Int), .int .u8 (f0 : Int), .int .u8 (e : Int), .bool la])) := HXy2.out.setRowNew HB7y2.out.2 _
                refine wp_store_row 86 _ _ rfl B7 #[.int .i64 (ce : Int), .int .i64 (ga : Int), .int .u8 (f0 : Int), .int .u8 (e : Int), .bool la] rfl rfl 86 _ HB7y2.out.1 (by kernel_rfl) rfl (five_one _ _ _ _ _) ?_
                have HMa : Hid (Blk W3 (y2.setRow B7 #[.int .i64 (ce : Int), .int .i64 (ga : Int), .int .u8 (f0 : Int), .int .u8 (e : Int), .bool la]) B7 86 #[.int .i64 (ce : Int), .int .i64 (ga : Int), .int .u8 (f0 : Int), .int .u8 (e : Int), .bool la]) := HB7y2.out.put _
                obtain ⟨za, hza⟩ : ∃ Y, Y = y2.setRow B7 #[.int .i64 (ce : Int), .int .i64 (ga : Int), .int .u8 (f0 : Int), .int .u8 (e : Int), .bool la] := ⟨_, rfl⟩
                rw [← hza] at HXa HMa ⊢
                clear hza
                refine hK.out _ _ (HSS.out _ HXa.out) (fun hHeld => ?_)
                clear hK
                (try simp only [Act.put, List.setIfInBounds_toArray, List.set_cons_zero, List.set_cons_succ])
                refine wpAnyH_done (by kernel_rfl) ?_ _
                clear hHeld
                go_wp2_with fail
                go_meet
                exact ⟨B7, _, rfl, rfl, HMa.out, HXa.out⟩
            case rest =>
              obtain ⟨B7, Y, hY, rfl, hbl, hoY⟩ := hcut
              subst hY
              have H4 : Hid (Lr w w3 Y gb lb #[.int .i64 (co : Int), .int .i64 (sp : Int), .int .i64 (wd : Int), .int .i64 (ga : Int)] #[.bool ml, .int .i64 (sl : Int), .int .i64 (xl : Int)]) := H3'.out.grow hoY
              obtain ⟨-, ⟨k0, k1, k2, k3, k4, k5⟩, -, -, lB⟩ := HFX.out Y H4.out.far
              obtain ⟨s0, s1, s2, s3, s4⟩ := blk_five hbl.1
              have lB7 : B7 < Y.heap.size := (Array.getElem?_eq_some_iff.1 hbl.1).1
              clear hbl hoY
              go_wp2_with fail
              refine Calls.mono (HSH.out _) ?_
              rintro r W5 ⟨rfl, ho5⟩
              have H5 : Hid (Lr w w3 W5 gb lb #[.int .i64 (co : Int), .int .i64 (sp : Int), .int .i64 (wd : Int), .int .i64 (ga : Int)] #[.bool ml, .int .i64 (sl : Int), .int .i64 (xl : Int)]) := H4.out.grow ho5
              clear ho5 k0 k1 k2 k3 k4 k5 lB s0 s1 s2 s3 s4 lB7
              unfold Sp.cosV
              cases v with
              | none =>
                have HN : Hid (Ds.Ir f b a (j + 1) ml sl xl) := HIR.out.skip (Or.inl HV.out.1.symm)
                simp only [Option.getD_none, Option.isSome_none]
                go_wp2_with fail
                go_quiet (fail)
                go_wp2_with fail
                go_roundg (ln - 1 - i)
                case measure => omega
                case rel => exact ⟨i, ml, sl, xl, _, rfl, rfl, by omega, by go_num, by rw [HGS.out]; exact H5.out.grow ((Only.refl _ _).drewN _), by have h := HN.out; rw [HJ.out.2.1] at h; exact h⟩
              | some y =>
                simp only [Option.getD_some, Option.isSome_some]
                have hyl : y ≤ 200000000 := HFM.out a j y HV.out.1.symm
                obtain ⟨E, hE, -⟩ : ∃ E, Ds.Best f b j E sj ∧ True := by
                  rcases HRJ.out with ⟨_, E, h, _⟩ | ⟨q, _⟩
                  · exact ⟨E, h, trivial⟩
                  · cases q
                have HBE : Hid (Ds.Best f b j E sj) := hE
                obtain ⟨sm, hsm⟩ : ∃ x, x = y + sj := ⟨_, rfl⟩
                have HSM : Hid (sm = y + sj) := hsm
                have c4 : (y : Int) + (sj : Int) = (sm : Int) := by omega
                have hsml : sm ≤ 20000200000000 := by omega
                clear hE hsm
                obtain ⟨l0, l1, l2, ll⟩ := blk_three H5.out.l
                obtain ⟨x0, x1, lx⟩ := HRW.out W5 i H5.out.old (by omega)
                rw [HMJ.out.1] at x0
                rw [HMJ.out.2] at x1
                have fl0 : W5.frozen? ⟨lb, 0, none⟩ = false := fz_blk H5.out.l 0
                have fl1 : W5.frozen? ⟨lb, 1, none⟩ = false := fz_blk H5.out.l 1
                have fl2 : W5.frozen? ⟨lb, 2, none⟩ = false := fz_blk H5.out.l 2
                cases ml with
                | false =>
                  have HN : Hid (Ds.Ir f b a (j + 1) true sm j) := by rw [HSM.out]; exact HIR.out.put (by omega) hjb HV.out.1.symm HBE.out (Or.inl rfl)
                  go_wp2_with fail
                  go_quiet (fail)
                  go_wp2_with fail
                  go_roundg (ln - 1 - i)
                  case measure => omega
                  case rel => exact ⟨i, true, sm, j, _, rfl, rfl, by omega, by go_num, by rw [HGS.out]; exact (H5.out.grow ((Only.refl _ _).drewN _)).put HNE.out.1 HNE.out.2.2.1 _ _ _, by have h := HN.out; rw [HJ.out.2.1] at h; rw [HJ.out.2.1]; exact h⟩
                | true =>
                  have hsl2 := hsl rfl
                  clear hsl
                  by_cases hlt2 : sm < sl
                  · have c5 : (sm : Int) < (sl : Int) := by omega
                    have HN : Hid (Ds.Ir f b a (j + 1) true sm j) := by rw [HSM.out]; exact HIR.out.put (by omega) hjb HV.out.1.symm HBE.out (Or.inr (by rw [← HSM.out]; exact hlt2))
                    go_wp2_with fail
                    go_quiet (fail)
                    go_wp2_with fail
                    go_roundg (ln - 1 - i)
                    case measure => omega
                    case rel => exact ⟨i, true, sm, j, _, rfl, rfl, by omega, by go_num, by rw [HGS.out]; exact (H5.out.grow ((Only.refl _ _).drewN _)).put HNE.out.1 HNE.out.2.2.1 _ _ _, by have h := HN.out; rw [HJ.out.2.1] at h; rw [HJ.out.2.1]; exact h⟩
                  · have c5 : decide ((sm : Int) < (sl : Int)) = false := decide_eq_false (by omega)
                    have c5n : decide (sm < sl) = false := decide_eq_false (by omega)
                    have HN : Hid (Ds.Ir f b a (j + 1) true sl xl) := HIR.out.keep HV.out.1.symm HBE.out (by rw [← HSM.out]; omega)
                    go_wp2_with fail
                    go_quiet (fail)
                    go_wp2_with fail
                    go_roundg (ln - 1 - i)
                    case measure => omega
                    case rel => exact ⟨i, true, sl, xl, _, rfl, rfl, by omega, by go_num, by rw [HGS.out]; exact H5.out.grow ((Only.refl _ _).drewN _), by have h := HN.out; rw [HJ.out.2.1] at h; exact h⟩
    · have t1 : decide ((i : Int) < (ln : Int)) = false := decide_eq_false (by omega)
      have HX : Hid (Ds.Rs f (fun _ => False) b a ml sl xl) := by
        have h := HK.out.2
        rw [show a + k + 1 = b + 1 by omega] at h
        exact h.done (Z := fun _ => False) hab
      have HK1 : Hid (Lr w w3 W gb lb (gst C t a k) #[.bool ml, .int .i64 (sl : Int), .int .i64 (xl : Int)]) := HK.out.1
      clear hsl hi HK
      go_upto_region 15 with fail
      obtain ⟨-, -, kq, lRt, lBt⟩ := HFX.out W HK1.out.far
      obtain ⟨q0, q1, q2, lq⟩ := blk_three kq
      obtain ⟨l0, l1, l2, ll⟩ := blk_three HK1.out.l
      have fq0 : W.frozen? ⟨qb, 0, none⟩ = false := fz_blk kq 0
      have fq1 : W.frozen? ⟨qb, 1, none⟩ = false := fz_blk kq 1
      have fq2 : W.frozen? ⟨qb, 2, none⟩ = false := fz_blk kq 2
      have HQ : Hid (W.heap[qb]? = some (.cells #[.bool false, .int .i64 0, .int .i64 0] 73 (0, 0))) := kq
      clear kq
      go_wp2_with fail
      refine bodyPost_ret (v := .agg #[.bool ml, .int .i64 (sl : Int), .int .i64 (xl : Int)]) (results_cell_row rfl _ _ qb 73 #[.bool ml, .int .i64 (sl : Int), .int .i64 (xl : Int)] (0, 0) _ rfl (heap_setCell_at (k := 2) (heap_setCell_at (k := 1) (heap_setCell_at (k := 0) HQ.out _) _) _) Try.underlying73 rfl (by kernel_rfl)) rfl ⟨ml, sl, xl, rfl, HX.out, ?_⟩
      exact ((HK1.out.old.setNew (p := ⟨qb, 0, none⟩) HNE.out.2.2.2.1 _).setNew (p := ⟨qb, 1, none⟩) HNE.out.2.2.2.1 _).setNew (p := ⟨qb, 2, none⟩) HNE.out.2.2.2.1 _
end Go.Proofs.Ytdepjmneoplicaa
