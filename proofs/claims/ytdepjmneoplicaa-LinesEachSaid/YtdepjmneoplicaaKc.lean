/-
  growing.add: a line that gets longer, cluster by cluster.
-/
import Derived.Test.YtdepjmneoplicaaKb
namespace Go.Proofs.Ytdepjmneoplicaa
open Go.RowKit Go.Maps
set_option linter.unusedVariables false
set_option linter.unusedSimpArgs false
theorem vw_ct {w : World} {g off k xp xl xc xk : Nat} {C : List Ct} (h : Vw w (some ⟨g, off, none⟩) (ctC C)) (hk : C[k]? = some ⟨xp, xl, (xc : Int), xk⟩) : g < w.heap.size ∧ w.cell? ⟨g, off + k * 4, none⟩ = some (.int .i64 (xp : Int)) ∧ w.cell? ⟨g, off + k * 4 + 1, none⟩ = some (.int .i64 (xl : Int)) ∧ w.cell? ⟨g, off + k * 4 + 2, none⟩ = some (.int .i64 (xc : Int)) ∧ w.cell? ⟨g, off + k * 4 + 3, none⟩ = some (.int .u8 (xk : Int)) := by
  obtain ⟨b, o, e, h⟩ := h.cluster hk
  injection e with e
  injection e with e1 e2
  subst e1
  subst e2
  exact h
/-- a growing line behind k clusters. -/
def gst (C : List Ct) (t a k : Nat) : Array Value := #[.int .i64 (Sp.col C t a k : Int), .int .i64 (Sp.sps C a k : Int), .int .i64 (Sp.wd C t a k : Int), .int .i64 (Sp.gp C a k : Int)]
theorem wd_yes2 {C : List Ct} {t a k : Nat} (h : Sp.emp (Sp.at' C (a + k)) = true) : Sp.wd C t a (k + 1) = Sp.wd C t a k ∧ Sp.gp C a (k + 1) = Sp.gp C a k := by
  unfold Sp.wd Sp.gp
  rw [tr_yes h]
  exact ⟨rfl, rfl⟩
theorem wd_not {C : List Ct} {t a k : Nat} (h : Sp.emp (Sp.at' C (a + k)) = false) : Sp.wd C t a (k + 1) = Sp.col C t a (k + 1) ∧ Sp.gp C a (k + 1) = Sp.sps C a (k + 1) := by
  unfold Sp.wd Sp.gp
  rw [tr_no h, show a + k + 1 - a = k + 1 by omega]
  exact ⟨rfl, rfl⟩
theorem set4_0 (a b c d v : Value) : (#[a, b, c, d] : Array Value).setIfInBounds 0 v = #[v, b, c, d] := rfl
theorem set4_1 (a b c d v : Value) : (#[a, b, c, d] : Array Value).setIfInBounds 1 v = #[a, v, c, d] := rfl
theorem set4_2 (a b c d v : Value) : (#[a, b, c, d] : Array Value).setIfInBounds 2 v = #[a, b, v, d] := rfl
theorem set4_3 (a b c d v : Value) : (#[a, b, c, d] : Array Value).setIfInBounds 3 v = #[a, b, c, v] := rfl
/-- the growing line's block, and all that stands beside it. -/
structure Gb (v w0 X : World) (gb : Nat) (cs : Array Value) : Prop where
  at' : X.heap[gb]? = some (.cells cs 94 (0, 0))
  old : Only (fun _ => False) v X
  far : Only (fun g => g = gb) w0 X
theorem Gb.grow {v w0 X Y : World} {gb : Nat} {cs : Array Value} (h : Gb v w0 X gb cs) (ho : Only (fun _ => False) X Y) : Gb v w0 Y gb cs := ⟨blk_keep ho h.at', h.old.trans ho, h.far.trans (ho.mono (fun _ h => h.elim))⟩
theorem Gb.set {v w0 X : World} {gb : Nat} {cs : Array Value} (h : Gb v w0 X gb cs) (hv : v.heap.size ≤ gb) (i : Nat) (u : Value) : Gb v w0 (X.setCell ⟨gb, i, none⟩ u) gb (cs.setIfInBounds i u) :=
  ⟨heap_setCell_at h.at' u, h.old.setNew (p := ⟨gb, i, none⟩) hv u, h.far.setCell (p := ⟨gb, i, none⟩) rfl u⟩
theorem Gb.four {v w0 X : World} {gb : Nat} {v0 v1 v2 v3 : Value} (h : Gb v w0 X gb #[v0, v1, v2, v3]) : (X.cell? ⟨gb, 0, none⟩ = some v0 ∧ X.cell? ⟨gb, 1, none⟩ = some v1 ∧ X.cell? ⟨gb, 2, none⟩ = some v2 ∧ X.cell? ⟨gb, 3, none⟩ = some v3) ∧ (∀ k, X.frozen? ⟨gb, k, none⟩ = false) ∧ gb < X.heap.size := ⟨blk_four h.at', fun k => fz_blk h.at' k, (Array.getElem?_eq_some_iff.1 h.at').1⟩
theorem blk_far {w X : World} {gb b : Nat} {o : Obj} (h : Only (fun g => g = gb) w X) (hb : w.heap[b]? = some o) (hn : b ≠ gb) : X.heap[b]? = some o := (h.block b (Array.getElem?_eq_some_iff.1 hb).1 hn).trans hb
set_option maxRecDepth 100000 in
set_option maxHeartbeats 4000000 in
theorem add_any (C : List Ct) (O : List Nat) (n m : Nat) (aC aO : Option Addr) (cC cO a k t gb : Nat) (v w : World) (hP : Pv v C O n m aC aO cC cO) (hv : Only (fun _ => False) v w) (hgb : v.heap.size ≤ gb) (hk : a + k < n) (h0 : 0 < t) (ht : t ≤ 1000) (hG : w.heap[gb]? = some (.cells (gst C t a k) 94 (0, 0))) :
    Calls Try.prog 55 #[.pointer (some ⟨gb, 0, none⟩), .agg #[.slice aC n cC, .slice aO m cO], .int .i64 ((a + k : Nat) : Int), .int .i64 (t : Int)] w fun e w' => e = .returned (.tuple #[]) ∧ Gb v w w' gb (gst C t a (k + 1)) := by
  have h1 := hP.few
  obtain ⟨z, hz⟩ : ∃ z, C[a + k]? = some z := ⟨_, List.getElem?_eq_getElem (by rw [← hP.hn]; omega)⟩
  obtain ⟨xp, xl, xc, xk, rfl, hxc, hxk⟩ := hP.ok.nat hz
  obtain ⟨g, off, rfl, -⟩ := hP.vC.cluster (k := a + k) hz
  have HA : Hid (Sp.at' C (a + k) = ⟨xp, xl, (xc : Int), xk⟩) := at_some hz
  obtain ⟨p, hp⟩ : ∃ p, p = a + k := ⟨_, rfl⟩
  rw [← hp]
  have HCL : Hid (∀ W', Only (fun _ => False) v W' → g < W'.heap.size ∧ W'.cell? ⟨g, off + p * 4, none⟩ = some (.int .i64 (xp : Int)) ∧ W'.cell? ⟨g, off + p * 4 + 1, none⟩ = some (.int .i64 (xl : Int)) ∧ W'.cell? ⟨g, off + p * 4 + 2, none⟩ = some (.int .i64 (xc : Int)) ∧ W'.cell? ⟨g, off + p * 4 + 3, none⟩ = some (.int .u8 (xk : Int))) := fun W' ho => by rw [hp]; exact vw_ct (hP.vC.keep ho) hz
  have t2 : (p : Int) < (n : Int) := by omega
  have t2n : p < n := by omega
  obtain ⟨co, hco⟩ : ∃ x, x = Sp.col C t a k := ⟨_, rfl⟩
  obtain ⟨sp, hsp⟩ : ∃ x, x = Sp.sps C a k := ⟨_, rfl⟩
  obtain ⟨wd, hwd⟩ : ∃ x, x = Sp.wd C t a k := ⟨_, rfl⟩
  obtain ⟨ga, hga⟩ : ∃ x, x = Sp.gp C a k := ⟨_, rfl⟩
  obtain ⟨c2, hc2⟩ : ∃ x, x = Sp.col C t a (k + 1) := ⟨_, rfl⟩
  have hcol : co ≤ 1000000000 := by rw [hco]; exact Nat.le_trans (col_small hP.ok h0 ht (by omega)) (by decide)
  have hspl : sp ≤ 100000 := by rw [hsp]; exact Nat.le_trans (sps_le C a k) (by omega)
  have HN : Hid (∀ W', Calls Try.prog 40 #[.agg #[.int .i64 (xp : Int), .int .i64 (xl : Int), .int .i64 (xc : Int), .int .u8 (xk : Int)], .int .i64 (co : Int), .int .i64 (t : Int)] W' fun e w' => e = .returned (.int .i64 (c2 : Int)) ∧ Only (fun _ => False) W' w') := fun W' => by
    have h := next_any xp xl xc xk co t W' hxc hxk hcol h0 ht
    have e : Sp.nx ⟨xp, xl, (xc : Int), xk⟩ t co = c2 := by rw [hc2, hco]; show _ = Sp.nx (Sp.at' C (a + k)) t (Sp.col C t a k); rw [HA.out]
    rw [e] at h
    exact h
  obtain ⟨q, hq⟩ : ∃ x, x = Sp.tr C p 1 := ⟨_, rfl⟩
  have HT : Hid (∀ W', Only (fun _ => False) v W' → Calls Try.prog 53 #[.agg #[.slice (some ⟨g, off, none⟩) n cC, .slice aO m cO], .int .i64 (p : Int), .int .i64 ((p : Int) + 1)] W' fun e w' => e = .returned (.int .i64 (q : Int)) ∧ Only (fun _ => False) W' w') := fun W' ho => by
    have h := trim_any C O n m (some ⟨g, off, none⟩) aO cC cO p (p + 1) W' (hP.keep ho) (by omega) (by omega)
    rw [show p + 1 - p = 1 by omega, ← hq] at h
    exact h
  have HQ : Hid (q = if Sp.emp ⟨xp, xl, (xc : Int), xk⟩ then p else p + 1) := by
    rw [hq]
    show (if Sp.emp (Sp.at' C (p + 0)) then p else p + 0 + 1) = _
    rw [Nat.add_zero, hp, HA.out]
  have HGW : Hid (Gb v w w gb #[.int .i64 (co : Int), .int .i64 (sp : Int), .int .i64 (wd : Int), .int .i64 (ga : Int)]) := ⟨by rw [hG]; unfold gst; rw [hco, hsp, hwd, hga], hv, Only.refl _ _⟩
  have HE : Hid (∀ s2 w2 g2 : Nat, s2 = Sp.sps C a (k + 1) → w2 = Sp.wd C t a (k + 1) → g2 = Sp.gp C a (k + 1) → gst C t a (k + 1) = #[.int .i64 (c2 : Int), .int .i64 (s2 : Int), .int .i64 (w2 : Int), .int .i64 (g2 : Int)]) := fun s2 w2 g2 e1 e2 e3 => by unfold gst; rw [e1, e2, e3, hc2]
  have HEY : Hid (Sp.emp ⟨xp, xl, (xc : Int), xk⟩ = true → wd = Sp.wd C t a (k + 1) ∧ ga = Sp.gp C a (k + 1)) := fun h => by rw [hwd, hga, (wd_yes2 (t := t) (by rw [HA.out]; exact h)).1, (wd_yes2 (t := t) (by rw [HA.out]; exact h)).2]; exact ⟨rfl, rfl⟩
  have HEN : Hid (Sp.emp ⟨xp, xl, (xc : Int), xk⟩ = false → c2 = Sp.wd C t a (k + 1) ∧ Sp.sps C a (k + 1) = Sp.gp C a (k + 1)) := fun h => by rw [hc2, (wd_not (t := t) (by rw [HA.out]; exact h)).1, (wd_not (t := t) (by rw [HA.out]; exact h)).2]; exact ⟨rfl, rfl⟩
  have HS1 : Hid (xk = 1 → sp + 1 = Sp.sps C a (k + 1)) := fun h => by rw [sps_yes (by rw [HA.out]; exact h), hsp]
  have HS0 : Hid (xk ≠ 1 → sp = Sp.sps C a (k + 1)) := fun h => by rw [sps_no (by rw [HA.out]; exact h), hsp]
  have hvg : gb < w.heap.size := (Array.getElem?_eq_some_iff.1 hG).1
  clear hP hG hq hco hsp hwd hga hc2 hz HA hp
  go_enter Try.func55, Try.ntmps55
  go_upto_region 1 with fail
  obtain ⟨R, w0, hw0, hR, H0, r0, r1, lR⟩ := box2 w (.slice (some ⟨g, off, none⟩) n cC) (.slice aO m cO) 31
  rw [hw0, hR]
  have HR : Hid (gb < R) := by rw [← hR]; exact hvg
  have HGW0 : Hid (Gb v w w0 gb #[.int .i64 (co : Int), .int .i64 (sp : Int), .int .i64 (wd : Int), .int .i64 (ga : Int)]) := HGW.out.grow H0.out.2
  clear hw0 hR
  obtain ⟨lg, c0, c1, c2', c3⟩ := HCL.out w0 HGW0.out.old
  go_upto_region 2 with fail
  clear c0 c1 c2' c3 lg r0 r1 lR
  obtain ⟨Cb, hCb⟩ : ∃ b, b = w0.heap.size := ⟨_, rfl⟩
  obtain ⟨w1, hw1⟩ : ∃ X, X = w0.alloc (.cells #[.int .i64 (xp : Int), .int .i64 (xl : Int), .int .i64 (xc : Int), .int .u8 (xk : Int)] 66) := ⟨_, rfl⟩
  have HB1 : Hid (w1.heap[R]? = some (.cells #[.slice (some ⟨g, off, none⟩) n cC, .slice aO m cO] 31 (0, 0)) ∧ w1.heap[Cb]? = some (.cells #[.int .i64 (xp : Int), .int .i64 (xl : Int), .int .i64 (xc : Int), .int .u8 (xk : Int)] 66 (0, 0)) ∧ R ≠ gb ∧ Cb ≠ gb) := by
    have e1 : w1.heap[R]? = some (.cells #[.slice (some ⟨g, off, none⟩) n cC, .slice aO m cO] 31 (0, 0)) := by rw [hw1]; exact blk_keep ((Only.refl _ _).alloc _) H0.out.1
    refine ⟨e1, by rw [hw1, hCb]; exact heap_alloc_new _ _, by have := HR.out; omega, ?_⟩
    have h2 : R < w0.heap.size := (Array.getElem?_eq_some_iff.1 H0.out.1).1
    have := HR.out
    omega
  have HG1 : Hid (Gb v w w1 gb #[.int .i64 (co : Int), .int .i64 (sp : Int), .int .i64 (wd : Int), .int .i64 (ga : Int)]) := by rw [hw1]; exact HGW0.out.grow ((Only.refl _ _).alloc _)
  rw [← hw1, ← hCb]
  clear hw1 hCb HGW0 HGW
  have HSR : Hid (∀ W', Only (fun g => g = gb) w1 W' → W'.cell? ⟨R, 0, none⟩ = some (.slice (some ⟨g, off, none⟩) n cC) ∧ W'.cell? ⟨R, 1, none⟩ = some (.slice aO m cO) ∧ R < W'.heap.size) := fun W' ho => blk_two (blk_far ho HB1.out.1 HB1.out.2.2.1)
  have HSS : Hid (∀ W', Only (fun g => g = gb) w1 W' → (fun W' => W'.cell? ⟨Cb, 0, none⟩ = some (.int .i64 (xp : Int)) ∧ W'.cell? ⟨Cb, 1, none⟩ = some (.int .i64 (xl : Int)) ∧ W'.cell? ⟨Cb, 2, none⟩ = some (.int .i64 (xc : Int)) ∧ W'.cell? ⟨Cb, 3, none⟩ = some (.int .u8 (xk : Int))) W') := fun W' ho => blk_four (blk_far ho HB1.out.2.1 HB1.out.2.2.2)
  have HLC : Hid (∀ W', Only (fun g => g = gb) w1 W' → Cb < W'.heap.size) := fun W' ho => Nat.lt_of_lt_of_le (Array.getElem?_eq_some_iff.1 HB1.out.2.1).1 ho.size
  have HGD : Hid (Gb v w w1.drew gb #[.int .i64 (co : Int), .int .i64 (sp : Int), .int .i64 (wd : Int), .int .i64 (ga : Int)] ∧ Only (fun g => g = gb) w1 w1.drew) := ⟨HG1.out.grow ((Only.refl _ _).drew), (Only.refl _ _).drew⟩
  obtain ⟨⟨x0, -⟩, -, lx⟩ := HGD.out.1.four
  obtain ⟨⟨u0, -⟩, -, lu⟩ := HG1.out.four
  refine wp_region_held_drew (S := (fun W' => W'.cell? ⟨Cb, 0, none⟩ = some (.int .i64 (xp : Int)) ∧ W'.cell? ⟨Cb, 1, none⟩ = some (.int .i64 (xl : Int)) ∧ W'.cell? ⟨Cb, 2, none⟩ = some (.int .i64 (xc : Int)) ∧ W'.cell? ⟨Cb, 3, none⟩ = some (.int .u8 (xk : Int)))) (by kernel_rfl) (HSS.out _ HGD.out.2) (fun hHeld => ?_)
  refine wpAnyH_take (i := 0) (oi := { dst := some 14, op := _, type := _, pos := _, after := _, guard := _ }) (v := .pointer (some ⟨gb, 0, none⟩)) rfl (by kernel_rfl) (by kernel_rfl) (by kernel_rfl) (fun _ _ _ h => h) (Or.inl ⟨by rfl, fun w hSw => by obtain ⟨y0, y1, y2, y3⟩ := hSw; first | (go_simp; done) | go_simp⟩) (by assumption) ?_
  (try simp only [Act.put, List.setIfInBounds_toArray, List.set_cons_zero, List.set_cons_succ])
  refine wpAnyH_take (i := 1) (oi := { dst := some 15, op := _, type := _, pos := _, after := _, guard := _ }) (v := .agg #[.int .i64 (xp : Int), .int .i64 (xl : Int), .int .i64 (xc : Int), .int .u8 (xk : Int)]) rfl (by kernel_rfl) (by kernel_rfl) (by kernel_rfl) (fun _ _ _ h => h) (Or.inl ⟨by rfl, fun w hSw => by obtain ⟨y0, y1, y2, y3⟩ := hSw; first | (go_simp; done) | go_simp⟩) (by assumption) ?_
  (try simp only [Act.put, List.setIfInBounds_toArray, List.set_cons_zero, List.set_cons_succ])
  refine wpAnyH_take (i := 2) (oi := { dst := some 16, op := _, type := _, pos := _, after := _, guard := _ }) (v := .pointer (some ⟨gb, 0, none⟩)) rfl (by kernel_rfl) (by kernel_rfl) (by kernel_rfl) (fun _ _ _ h => h) (Or.inl ⟨by rfl, fun w hSw => by obtain ⟨y0, y1, y2, y3⟩ := hSw; first | (go_simp; done) | go_simp⟩) (by assumption) ?_
  (try simp only [Act.put, List.setIfInBounds_toArray, List.set_cons_zero, List.set_cons_succ])
  refine wpAnyH_take (i := 3) (oi := { dst := some 17, op := _, type := _, pos := _, after := _, guard := _ }) (v := .pointer (some ⟨gb, 0, none⟩)) rfl (by kernel_rfl) (by kernel_rfl) (by kernel_rfl) (fun _ _ _ h => h) (Or.inl ⟨by rfl, fun w hSw => by obtain ⟨y0, y1, y2, y3⟩ := hSw; first | (go_simp; done) | go_simp⟩) (by assumption) ?_
  (try simp only [Act.put, List.setIfInBounds_toArray, List.set_cons_zero, List.set_cons_succ])
  refine wpAnyH_take (i := 4) (oi := { dst := some 18, op := _, type := _, pos := _, after := _, guard := _ }) (v := .pointer (some ⟨gb, 0, none⟩)) rfl (by kernel_rfl) (by kernel_rfl) (by kernel_rfl) (fun _ _ _ h => h) (Or.inl ⟨by rfl, fun w hSw => by obtain ⟨y0, y1, y2, y3⟩ := hSw; first | (go_simp; done) | go_simp⟩) (by assumption) ?_
  (try simp only [Act.put, List.setIfInBounds_toArray, List.set_cons_zero, List.set_cons_succ])
  refine wpAnyH_take (i := 6) (oi := { dst := some 20, op := _, type := _, pos := _, after := _, guard := _ }) (v := .int .i64 (t : Int)) rfl (by kernel_rfl) (by kernel_rfl) (by kernel_rfl) (fun _ _ _ h => h) (Or.inl ⟨by rfl, fun w hSw => by obtain ⟨y0, y1, y2, y3⟩ := hSw; first | (go_simp; done) | go_simp⟩) (by assumption) ?_
  (try simp only [Act.put, List.setIfInBounds_toArray, List.set_cons_zero, List.set_cons_succ])
  refine wpAnyH_ready (rs := [5]) (by kernel_rfl) (by simp) ?_
  refine AllReadyH.cons rfl (fun K hK => ?_) AllReadyH.nil
  rw [if_pos (by rfl)]
  go_simp
  refine hK.out _ _ (HSS.out _ HGD.out.2) (fun hHeld => ?_)
  clear hK
  (try simp only [Act.put, List.setIfInBounds_toArray, List.set_cons_zero, List.set_cons_succ])
  refine wpAnyH_ready (rs := [7]) (by kernel_rfl) (by simp) ?_
  refine AllReadyH.cons rfl (fun K hK => ?_) AllReadyH.nil
  rw [if_pos (by rfl)]
  go_simp
  refine Calls.mono (HN.out _) ?_
  rintro e y2 ⟨rfl, ho⟩
  have H2 : Hid (Gb v w y2 gb #[.int .i64 (co : Int), .int .i64 (sp : Int), .int .i64 (wd : Int), .int .i64 (ga : Int)] ∧ Only (fun g => g = gb) w1 y2) := ⟨HGD.out.1.grow ho, HGD.out.2.trans (ho.mono (fun _ h => h.elim))⟩
  clear ho x0 lx u0 lu
  refine hK.out _ _ (HSS.out _ H2.out.2) (fun hHeld => ?_)
  clear hK
  (try simp only [Act.put, List.setIfInBounds_toArray, List.set_cons_zero, List.set_cons_succ])
  obtain ⟨⟨x0, -⟩, fx, lx⟩ := H2.out.1.four
  refine wpAnyH_take (i := 8) (oi := { dst := some 22, op := _, type := _, pos := _, after := _, guard := _ }) (v := .pointer (some ⟨gb, 0, none⟩)) rfl (by kernel_rfl) (by kernel_rfl) (by kernel_rfl) (fun _ _ _ h => h) (Or.inl ⟨by rfl, fun w hSw => by obtain ⟨y0, y1, y2, y3⟩ := hSw; first | (go_simp; done) | go_simp⟩) (by assumption) ?_
  (try simp only [Act.put, List.setIfInBounds_toArray, List.set_cons_zero, List.set_cons_succ])
  refine wpAnyH_take (i := 9) (oi := { dst := some 23, op := _, type := _, pos := _, after := _, guard := _ }) (v := .pointer (some ⟨gb, 0, none⟩)) rfl (by kernel_rfl) (by kernel_rfl) (by kernel_rfl) (fun _ _ _ h => h) (Or.inl ⟨by rfl, fun w hSw => by obtain ⟨y0, y1, y2, y3⟩ := hSw; first | (go_simp; done) | go_simp⟩) (by assumption) ?_
  (try simp only [Act.put, List.setIfInBounds_toArray, List.set_cons_zero, List.set_cons_succ])
  refine wpAnyH_ready (rs := [10]) (by kernel_rfl) (by simp) ?_
  refine AllReadyH.cons rfl (fun K hK => ?_) AllReadyH.nil
  rw [if_pos (by rfl)]
  go_simp
  obtain ⟨z, hz⟩ : ∃ z, z = y2.setCell ⟨gb, 0, none⟩ (.int .i64 (c2 : Int)) := ⟨_, rfl⟩
  have H3 : Hid (Gb v w z gb #[.int .i64 (c2 : Int), .int .i64 (sp : Int), .int .i64 (wd : Int), .int .i64 (ga : Int)] ∧ Only (fun g => g = gb) w1 z) := by rw [hz]; exact ⟨H2.out.1.set hgb 0 _, H2.out.2.setCell (p := ⟨gb, 0, none⟩) rfl _⟩
  rw [← hz]
  clear hz x0 fx lx
  refine hK.out _ _ (HSS.out _ H3.out.2) (fun hHeld => ?_)
  clear hK
  (try simp only [Act.put, List.setIfInBounds_toArray, List.set_cons_zero, List.set_cons_succ])
  refine wpAnyH_done (by kernel_rfl) ?_ _
  clear hHeld
  obtain ⟨p0, p1, lp⟩ := HSR.out z H3.out.2
  obtain ⟨k0, k1, k2, k3⟩ := HSS.out z H3.out.2
  have lC := HLC.out z H3.out.2
  obtain ⟨⟨x0, x1, x2, x3⟩, fx, lx⟩ := H3.out.1.four
  have fx0 := fx 0
  have fx1 := fx 1
  have fx2 := fx 2
  have fx3 := fx 3
  clear fx
  by_cases hk1 : xk = 1
  · have t3 : ((xk : Int) == 1) = true := by rw [beq_iff_eq]; omega
    have HY : Hid (Sp.emp ⟨xp, xl, (xc : Int), xk⟩ = true) := by rw [hk1]; exact rfl
    have hqp : q = p := by rw [HQ.out, HY.out]; rfl
    have HS2 : Hid (sp + 1 = Sp.sps C a (k + 1)) := HS1.out hk1
    subst hqp
    have t4 : decide ((q : Int) < (q : Int)) = false := decide_eq_false (by omega)
    have t4n : decide (q < q) = false := decide_eq_false (by omega)
    clear hk1
    go_upto_region 5 with fail
    obtain ⟨z2, hz2⟩ : ∃ Z, Z = z.setCell ⟨gb, 1, none⟩ (.int .i64 ((sp + 1 : Nat) : Int)) := ⟨_, rfl⟩
    have H4 : Hid (Gb v w z2 gb #[.int .i64 (c2 : Int), .int .i64 ((sp + 1 : Nat) : Int), .int .i64 (wd : Int), .int .i64 (ga : Int)] ∧ Only (fun g => g = gb) w1 z2) := by rw [hz2]; exact ⟨H3.out.1.set hgb 1 _, H3.out.2.setCell (p := ⟨gb, 1, none⟩) rfl _⟩
    rw [show ((sp : Int) + 1) = ((sp + 1 : Nat) : Int) by omega, ← hz2]
    clear hz2 p0 p1 lp
    obtain ⟨p0, p1, lp⟩ := HSR.out z2 H4.out.2
    go_wp2_with fail
    refine Calls.mono (HT.out _ H4.out.1.old) ?_
    rintro e z3 ⟨rfl, ho3⟩
    have H5 : Hid (Gb v w z3 gb #[.int .i64 (c2 : Int), .int .i64 ((sp + 1 : Nat) : Int), .int .i64 (wd : Int), .int .i64 (ga : Int)]) := H4.out.1.grow ho3
    clear ho3
    go_wp2_with fail
    go_end0
    exact ⟨rfl, by rw [HE.out (sp + 1) wd ga HS2.out (HEY.out HY.out).1 (HEY.out HY.out).2]; exact H5.out⟩
  · have t3 : ((xk : Int) == 1) = false := by rw [beq_eq_false_iff_ne]; omega
    have HS2 : Hid (sp = Sp.sps C a (k + 1)) := HS0.out hk1
    clear hk1
    cases hY : Sp.emp ⟨xp, xl, (xc : Int), xk⟩ with
    | true =>
      have hqp : q = p := by rw [HQ.out, hY]; rfl
      have HY : Hid (Sp.emp ⟨xp, xl, (xc : Int), xk⟩ = true) := hY
      clear hY
      subst hqp
      have t4 : decide ((q : Int) < (q : Int)) = false := decide_eq_false (by omega)
      have t4n : decide (q < q) = false := decide_eq_false (by omega)
      go_wp2_with fail
      refine Calls.mono (HT.out _ H3.out.1.old) ?_
      rintro e z3 ⟨rfl, ho3⟩
      have H5 : Hid (Gb v w z3 gb #[.int .i64 (c2 : Int), .int .i64 (sp : Int), .int .i64 (wd : Int), .int .i64 (ga : Int)]) := H3.out.1.grow ho3
      clear ho3
      go_wp2_with fail
      go_end0
      exact ⟨rfl, by rw [HE.out sp wd ga HS2.out (HEY.out HY.out).1 (HEY.out HY.out).2]; exact H5.out⟩
    | false =>
      have hqp : q = p + 1 := by rw [HQ.out, hY]; rfl
      have HY : Hid (Sp.emp ⟨xp, xl, (xc : Int), xk⟩ = false) := hY
      have t4 : (p : Int) < (q : Int) := by omega
      have t4n : p < q := by omega
      clear hY hqp
      go_wp2_with fail
      refine Calls.mono (HT.out _ H3.out.1.old) ?_
      rintro e z3 ⟨rfl, ho3⟩
      have H5 : Hid (Gb v w z3 gb #[.int .i64 (c2 : Int), .int .i64 (sp : Int), .int .i64 (wd : Int), .int .i64 (ga : Int)] ∧ Only (fun g => g = gb) w1 z3) := ⟨H3.out.1.grow ho3, H3.out.2.trans (ho3.mono (fun _ h => h.elim))⟩
      clear ho3 x0 x1 x2 x3 fx0 fx1 fx2 fx3 lx k0 k1 k2 k3 lC p0 p1 lp
      go_upto_region 6 with fail
      have HD : Hid (Gb v w z3.drew gb #[.int .i64 (c2 : Int), .int .i64 (sp : Int), .int .i64 (wd : Int), .int .i64 (ga : Int)]) := H5.out.1.grow ((Only.refl _ _).drew)
      obtain ⟨⟨x0, x1, x2, x3⟩, fx, lx⟩ := HD.out.four
      have fx2 := fx 2
      have fx3 := fx 3
      clear fx
      refine wp_region_held_drew (S := (fun W' => W'.cell? ⟨gb, 0, none⟩ = some (.int .i64 (c2 : Int)) ∧ W'.cell? ⟨gb, 1, none⟩ = some (.int .i64 (sp : Int)))) (by kernel_rfl) ⟨x0, x1⟩ (fun hHeld => ?_)
      refine wpAnyH_take (i := 0) (oi := { dst := some 41, op := _, type := _, pos := _, after := _, guard := _ }) (v := .pointer (some ⟨gb, 0, none⟩)) rfl (by kernel_rfl) (by kernel_rfl) (by kernel_rfl) (fun _ _ _ h => h) (Or.inl ⟨by rfl, fun w hSw => by obtain ⟨y0, y1⟩ := hSw; first | (go_simp; done) | go_simp⟩) (by assumption) ?_
      (try simp only [Act.put, List.setIfInBounds_toArray, List.set_cons_zero, List.set_cons_succ])
      refine wpAnyH_take (i := 1) (oi := { dst := some 42, op := _, type := _, pos := _, after := _, guard := _ }) (v := .pointer (some ⟨gb, 0, none⟩)) rfl (by kernel_rfl) (by kernel_rfl) (by kernel_rfl) (fun _ _ _ h => h) (Or.inl ⟨by rfl, fun w hSw => by obtain ⟨y0, y1⟩ := hSw; first | (go_simp; done) | go_simp⟩) (by assumption) ?_
      (try simp only [Act.put, List.setIfInBounds_toArray, List.set_cons_zero, List.set_cons_succ])
      refine wpAnyH_take (i := 2) (oi := { dst := some 43, op := _, type := _, pos := _, after := _, guard := _ }) (v := .pointer (some ⟨gb, 0, none⟩)) rfl (by kernel_rfl) (by kernel_rfl) (by kernel_rfl) (fun _ _ _ h => h) (Or.inl ⟨by rfl, fun w hSw => by obtain ⟨y0, y1⟩ := hSw; first | (go_simp; done) | go_simp⟩) (by assumption) ?_
      (try simp only [Act.put, List.setIfInBounds_toArray, List.set_cons_zero, List.set_cons_succ])
      refine wpAnyH_take (i := 3) (oi := { dst := some 44, op := _, type := _, pos := _, after := _, guard := _ }) (v := .pointer (some ⟨gb, 0, none⟩)) rfl (by kernel_rfl) (by kernel_rfl) (by kernel_rfl) (fun _ _ _ h => h) (Or.inl ⟨by rfl, fun w hSw => by obtain ⟨y0, y1⟩ := hSw; first | (go_simp; done) | go_simp⟩) (by assumption) ?_
      (try simp only [Act.put, List.setIfInBounds_toArray, List.set_cons_zero, List.set_cons_succ])
      refine wpAnyH_take (i := 4) (oi := { dst := some 45, op := _, type := _, pos := _, after := _, guard := _ }) (v := .pointer (some ⟨gb, 0, none⟩)) rfl (by kernel_rfl) (by kernel_rfl) (by kernel_rfl) (fun _ _ _ h => h) (Or.inl ⟨by rfl, fun w hSw => by obtain ⟨y0, y1⟩ := hSw; first | (go_simp; done) | go_simp⟩) (by assumption) ?_
      (try simp only [Act.put, List.setIfInBounds_toArray, List.set_cons_zero, List.set_cons_succ])
      refine wpAnyH_take (i := 5) (oi := { dst := some 46, op := _, type := _, pos := _, after := _, guard := _ }) (v := .int .i64 (c2 : Int)) rfl (by kernel_rfl) (by kernel_rfl) (by kernel_rfl) (fun _ _ _ h => h) (Or.inl ⟨by rfl, fun w hSw => by obtain ⟨y0, y1⟩ := hSw; first | (go_simp; done) | go_simp⟩) (by assumption) ?_
      (try simp only [Act.put, List.setIfInBounds_toArray, List.set_cons_zero, List.set_cons_succ])
      refine wpAnyH_take (i := 6) (oi := { dst := some 47, op := _, type := _, pos := _, after := _, guard := _ }) (v := .pointer (some ⟨gb, 0, none⟩)) rfl (by kernel_rfl) (by kernel_rfl) (by kernel_rfl) (fun _ _ _ h => h) (Or.inl ⟨by rfl, fun w hSw => by obtain ⟨y0, y1⟩ := hSw; first | (go_simp; done) | go_simp⟩) (by assumption) ?_
      (try simp only [Act.put, List.setIfInBounds_toArray, List.set_cons_zero, List.set_cons_succ])
      refine wpAnyH_take (i := 7) (oi := { dst := some 48, op := _, type := _, pos := _, after := _, guard := _ }) (v := .pointer (some ⟨gb, 0, none⟩)) rfl (by kernel_rfl) (by kernel_rfl) (by kernel_rfl) (fun _ _ _ h => h) (Or.inl ⟨by rfl, fun w hSw => by obtain ⟨y0, y1⟩ := hSw; first | (go_simp; done) | go_simp⟩) (by assumption) ?_
      (try simp only [Act.put, List.setIfInBounds_toArray, List.set_cons_zero, List.set_cons_succ])
      refine wpAnyH_take (i := 8) (oi := { dst := some 49, op := _, type := _, pos := _, after := _, guard := _ }) (v := .pointer (some ⟨gb, 1, none⟩)) rfl (by kernel_rfl) (by kernel_rfl) (by kernel_rfl) (fun _ _ _ h => h) (Or.inl ⟨by rfl, fun w hSw => by obtain ⟨y0, y1⟩ := hSw; first | (go_simp; done) | go_simp⟩) (by assumption) ?_
      (try simp only [Act.put, List.setIfInBounds_toArray, List.set_cons_zero, List.set_cons_succ])
      refine wpAnyH_take (i := 9) (oi := { dst := some 50, op := _, type := _, pos := _, after := _, guard := _ }) (v := .int .i64 (sp : Int)) rfl (by kernel_rfl) (by kernel_rfl) (by kernel_rfl) (fun _ _ _ h => h) (Or.inl ⟨by rfl, fun w hSw => by obtain ⟨y0, y1⟩ := hSw; first | (go_simp; done) | go_simp⟩) (by assumption) ?_
      (try simp only [Act.put, List.setIfInBounds_toArray, List.set_cons_zero, List.set_cons_succ])
      refine wpAnyH_take (i := 10) (oi := { dst := some 51, op := _, type := _, pos := _, after := _, guard := _ }) (v := .pointer (some ⟨gb, 0, none⟩)) rfl (by kernel_rfl) (by kernel_rfl) (by kernel_rfl) (fun _ _ _ h => h) (Or.inl ⟨by rfl, fun w hSw => by obtain ⟨y0, y1⟩ := hSw; first | (go_simp; done) | go_simp⟩) (by assumption) ?_
      (try simp only [Act.put, List.setIfInBounds_toArray, List.set_cons_zero, List.set_cons_succ])
      refine wpAnyH_take (i := 11) (oi := { dst := some 52, op := _, type := _, pos := _, after := _, guard := _ }) (v := .pointer (some ⟨gb, 2, none⟩)) rfl (by kernel_rfl) (by kernel_rfl) (by kernel_rfl) (fun _ _ _ h => h) (Or.inl ⟨by rfl, fun w hSw => by obtain ⟨y0, y1⟩ := hSw; first | (go_simp; done) | go_simp⟩) (by assumption) ?_
      (try simp only [Act.put, List.setIfInBounds_toArray, List.set_cons_zero, List.set_cons_succ])
      refine wpAnyH_ready (rs := [12]) (by kernel_rfl) (by simp) ?_
      refine AllReadyH.cons rfl (fun K hK => ?_) AllReadyH.nil
      rw [if_pos (by rfl)]
      go_simp
      obtain ⟨z4, hz4⟩ : ∃ z, z = (z3.setCell ⟨gb, 2, none⟩ (.int .i64 (c2 : Int))).drew := ⟨_, rfl⟩
      have H6 : Hid (Gb v w z4 gb #[.int .i64 (c2 : Int), .int .i64 (sp : Int), .int .i64 (c2 : Int), .int .i64 (ga : Int)]) := by rw [hz4]; exact (H5.out.1.set hgb 2 _).grow ((Only.refl _ _).drew)
      rw [← hz4]
      clear hz4 x0 x1 x2 x3 fx2 fx3 lx
      refine hK.out _ _ (⟨H6.out.four.1.1, H6.out.four.1.2.1⟩) (fun hHeld => ?_)
      clear hK
      (try simp only [Act.put, List.setIfInBounds_toArray, List.set_cons_zero, List.set_cons_succ])
      obtain ⟨⟨x0, x1, x2, x3⟩, fx, lx⟩ := H6.out.four
      have fx3 := fx 3
      clear fx
      refine wpAnyH_take (i := 13) (oi := { dst := some 53, op := _, type := _, pos := _, after := _, guard := _ }) (v := .pointer (some ⟨gb, 0, none⟩)) rfl (by kernel_rfl) (by kernel_rfl) (by kernel_rfl) (fun _ _ _ h => h) (Or.inl ⟨by rfl, fun w hSw => by obtain ⟨y0, y1⟩ := hSw; first | (go_simp; done) | go_simp⟩) (by assumption) ?_
      (try simp only [Act.put, List.setIfInBounds_toArray, List.set_cons_zero, List.set_cons_succ])
      refine wpAnyH_take (i := 14) (oi := { dst := some 54, op := _, type := _, pos := _, after := _, guard := _ }) (v := .pointer (some ⟨gb, 3, none⟩)) rfl (by kernel_rfl) (by kernel_rfl) (by kernel_rfl) (fun _ _ _ h => h) (Or.inl ⟨by rfl, fun w hSw => by obtain ⟨y0, y1⟩ := hSw; first | (go_simp; done) | go_simp⟩) (by assumption) ?_
      (try simp only [Act.put, List.setIfInBounds_toArray, List.set_cons_zero, List.set_cons_succ])
      refine wpAnyH_ready (rs := [15]) (by kernel_rfl) (by simp) ?_
      refine AllReadyH.cons rfl (fun K hK => ?_) AllReadyH.nil
      rw [if_pos (by rfl)]
      go_simp
      obtain ⟨z5, hz5⟩ : ∃ z, z = z4.setCell ⟨gb, 3, none⟩ (.int .i64 (sp : Int)) := ⟨_, rfl⟩
      have H7 : Hid (Gb v w z5 gb #[.int .i64 (c2 : Int), .int .i64 (sp : Int), .int .i64 (c2 : Int), .int .i64 (sp : Int)]) := by rw [hz5]; exact H6.out.set hgb 3 _
      rw [← hz5]
      clear hz5 x0 x1 x2 x3 fx3 lx
      refine hK.out _ _ (⟨H7.out.four.1.1, H7.out.four.1.2.1⟩) (fun hHeld => ?_)
      clear hK
      (try simp only [Act.put, List.setIfInBounds_toArray, List.set_cons_zero, List.set_cons_succ])
      refine wpAnyH_done (by kernel_rfl) ?_ _
      clear hHeld
      go_wp2_with fail
      go_end0
      exact ⟨rfl, by rw [HE.out sp c2 sp HS2.out (HEN.out HY.out).1 (HS2.out.trans (HEN.out HY.out).2)]; exact H7.out⟩
end Go.Proofs.Ytdepjmneoplicaa
