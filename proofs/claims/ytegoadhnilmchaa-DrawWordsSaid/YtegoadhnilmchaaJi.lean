/-
  just.Line: how wide the clusters of a line are.
-/
import Derived.Test.YtegoadhnilmchaaJd
import Derived.Test.YtegoadhnilmchaaFf
namespace Go.Proofs.Ytegoadhnilmchaa
open Go.RowKit Go.Maps
set_option linter.unusedVariables false
set_option linter.unusedSimpArgs false
namespace Sd
theorem spr_small (room : Int) (g i : Nat) : (spr room g).getD i 0 ≤ 1048576 := by
  by_cases h : 0 ≤ room ∧ room ≤ 1048576 ∧ 1 ≤ g ∧ g ≤ 4096
  · have e : spr room g = all room.toNat g := if_pos h
    rw [e, List.getD_eq_getElem?_getD]
    by_cases hi : i < g
    · rw [all_at hi]
      exact Nat.le_trans (sp_le h.2.2.1 hi) (by omega)
    · rw [List.getElem?_eq_none (by rw [all_len]; omega)]
      exact Nat.zero_le _
  · have e : spr room g = [] := if_neg h
    rw [e]
    exact Nat.zero_le _
theorem spr_few (room : Int) (g : Nat) : (spr room g).length ≤ 4096 := by
  by_cases h : 0 ≤ room ∧ room ≤ 1048576 ∧ 1 ≤ g ∧ g ≤ 4096
  · have e : spr room g = all room.toNat g := if_pos h
    rw [e, all_len]
    exact h.2.2.2
  · have e : spr room g = [] := if_neg h
    rw [e]
    exact Nat.zero_le _
theorem wj_eq (C : List Ct) (t a : Nat) (M : List Nat) : wj C t a M = fun i => stp C t a i + (if (Sp.at' C (a + i)).kind = 1 then M.getD (Sp.sps C a i) 0 else 0) := rfl
theorem wid_none (C : List Ct) {t W a b e : Nat} (h : e = 2 ∨ e = 4) : wid C t W a b e = (List.range (Sp.tr C a (b - a) - a)).map (stp C t a) := by
  unfold wid
  have em : mre C t W a b e = [] := if_pos h
  rw [em]
  congr 1
  funext i
  rw [wj_eq]
  show stp C t a i + (if (Sp.at' C (a + i)).kind = 1 then 0 else 0) = stp C t a i
  split <;> rfl
theorem wid_some (C : List Ct) {t W a b e : Nat} (h : ¬ (e = 2 ∨ e = 4)) {room : Int} {g : Nat} (hr : room = (W : Int) - (Sp.wde C t a b e : Int)) (hg : g = Sp.gp C a (b - a)) : wid C t W a b e = (List.range (Sp.tr C a (b - a) - a)).map fun i => stp C t a i + (if (Sp.at' C (a + i)).kind = 1 then (spr room g).getD (Sp.sps C a i) 0 else 0) := by
  unfold wid
  have em : mre C t W a b e = spr room g := by rw [hr, hg]; exact if_neg h
  rw [em, wj_eq]
end Sd
theorem spread_any (room : Int) (g : Nat) (w : World) : Calls Try.prog 36 #[.int .i64 room, .int .i64 (g : Int)] w (nlN (Sd.spr room g) (Sd.spr room g).length w) := by
  by_cases h : 0 ≤ room ∧ room ≤ 1048576 ∧ 1 ≤ g ∧ g ≤ 4096
  · obtain ⟨r, rfl⟩ : ∃ r : Nat, room = (r : Int) := ⟨room.toNat, by omega⟩
    rw [Sd.spr_in (by omega) h.2.2.1 h.2.2.2, Sd.all_len]
    exact spread_in r g w (by omega) h.2.2.1 h.2.2.2
  · rw [Sd.spr_out (by omega)]
    exact spread_out _ _ w (by omega)
theorem refSpread_any (room : Int) (g : Nat) (w : World) : Calls Try.prog 25 #[.int .i64 room, .int .i64 (g : Int)] w (nlN (Sd.spr room g) (Sd.spr room g).length w) := by
  by_cases h : 0 ≤ room ∧ room ≤ 1048576 ∧ 1 ≤ g ∧ g ≤ 4096
  · obtain ⟨r, rfl⟩ : ∃ r : Nat, room = (r : Int) := ⟨room.toNat, by omega⟩
    rw [Sd.spr_in (by omega) h.2.2.1 h.2.2.2, Sd.all_len]
    exact refSpread_in r g w (by omega) h.2.2.1 h.2.2.2
  · rw [Sd.spr_out (by omega)]
    exact refSpread_out _ _ w (by omega)
theorem box246 (w : World) (v0 v1 u0 u1 u2 u3 x0 x1 x2 x3 x4 x5 : Value) (t t' t'' : TypeId) : ∃ R b q w1, ((w.alloc (.cells #[v0, v1] t)).alloc (.cells #[u0, u1, u2, u3] t')).alloc (.cells #[x0, x1, x2, x3, x4, x5] t'') = w1 ∧ w.heap.size + 1 + 1 = q ∧ w.heap.size + 1 = b ∧ w.heap.size = R ∧ Hid (w1.heap[R]? = some (.cells #[v0, v1] t (0, 0)) ∧ w1.heap[b]? = some (.cells #[u0, u1, u2, u3] t' (0, 0)) ∧ w1.heap[q]? = some (.cells #[x0, x1, x2, x3, x4, x5] t'' (0, 0)) ∧ Only (fun _ => False) w w1) ∧ R < b ∧ b < q ∧ w.heap.size ≤ q := by
  have h3 := blk3 w (.cells #[v0, v1] t) (.cells #[u0, u1, u2, u3] t') (.cells #[x0, x1, x2, x3, x4, x5] t'')
  have o3 : Only (fun _ => False) ((w.alloc (.cells #[v0, v1] t)).alloc (.cells #[u0, u1, u2, u3] t')) (((w.alloc (.cells #[v0, v1] t)).alloc (.cells #[u0, u1, u2, u3] t')).alloc (.cells #[x0, x1, x2, x3, x4, x5] t'')) := (Only.refl _ _).alloc _
  exact ⟨_, _, _, _, rfl, rfl, rfl, rfl, ⟨blk_keep o3 (bx_made w _ _), blk_keep o3 (heap_alloc2_new w _ _), h3.1, (((Only.refl _ _).alloc _).alloc _).alloc _⟩, Nat.lt_succ_self _, Nat.lt_succ_self _, by omega⟩
theorem far_blk {w w' : World} {R b : Nat} {o : Obj} (ho : Only (fun g => g = b) w w') (h : w.heap[R]? = some o) (hn : R ≠ b) : w'.heap[R]? = some o := (ho.block R (Array.getElem?_eq_some_iff.1 h).1 hn).trans h
set_option maxRecDepth 100000 in
set_option maxHeartbeats 8000000 in
theorem line_any (C : List Ct) (O : List Nat) (n m : Nat) (aC0 aO : Option Addr) (cC cO la lb lc le wi t mo hy pr lo : Nat) (w : World) (hP : Pv w C O n m aC0 aO cC cO) (hx : la < lb) (hb : lb ≤ n) (he : le < 256) (hw : wi ≤ 1048576) (h0 : 0 < t) (ht : t ≤ 1000) :
    Calls Try.prog 27 #[.agg #[.slice aC0 n cC, .slice aO m cO], .agg #[.int .i64 (la : Int), .int .i64 (lb : Int), .int .i64 (lc : Int), .int .u8 (le : Int)], .agg #[.int .i64 (wi : Int), .int .i64 (t : Int), .int .u8 (mo : Int), .int .i64 (hy : Int), .int .i64 (pr : Int), .float .f64 lo]] w (nlN (Sd.wid C t wi la lb le) (Sp.tr C la (lb - la) - la) w) := by
  obtain ⟨gC, oC, rfl, -, -⟩ := hP.vC.cells (by rw [ctC_len, ← hP.hn]; omega)
  obtain ⟨aC, haC⟩ : ∃ a : Option Addr, a = some ⟨gC, oC, none⟩ := ⟨_, rfl⟩
  have HAC : Hid (aC = some ⟨gC, oC, none⟩) := haC
  rw [← haC] at hP
  rw [← haC]
  have HP : Hid (∀ W', Only (fun _ => False) w W' → Pv W' C O n m aC aO cC cO) := fun W' ho => hP.keep ho
  have h1 := hP.few
  have h2 := hP.cap
  have h3 := hP.capm
  unfold maxLen at h3
  have htr := Sp.tr_ge C la (lb - la)
  obtain ⟨te, hto⟩ : ∃ x, x = Sp.tr C la (lb - la) := ⟨_, rfl⟩
  rw [← hto] at htr ⊢
  have HTO : Hid (te = Sp.tr C la (lb - la)) := hto
  have htl : la ≤ te := htr.1
  have htu : te ≤ n := by omega
  have HT : Hid (∀ W', Only (fun _ => False) w W' → Calls Try.prog 31 #[.agg #[.slice aC n cC, .slice aO m cO], .int .i64 (la : Int), .int .i64 (lb : Int)] W' fun e w' => e = .returned (.int .i64 (te : Int)) ∧ Only (fun _ => False) W' w') := fun W' ho => by
    rw [hto]
    exact trim_any C O n m aC aO cC cO la lb W' (hP.keep ho) (by omega) hb
  obtain ⟨k1, hk1⟩ : ∃ x, x = te - la + 1 := ⟨_, rfl⟩
  have HC : Hid (∀ W', Only (fun _ => False) w W' → Calls Try.prog 33 #[.agg #[.slice aC n cC, .slice aO m cO], .int .i64 (la : Int), .int .i64 (te : Int), .int .i64 (t : Int)] W' (nlN (Sp.cols C t la (te - la)) k1 W')) := fun W' ho => by
    have h := columns_any C O n m aC aO cC cO la te t W' (hP.keep ho) htl htu h0 ht
    unfold nlP at h
    rw [Sp.cols_len, ← hk1] at h
    exact h
  have HCS : Hid (∀ i, i ≤ te - la → Sp.col C t la i ≤ 100200000) := fun i hi => col_small hP.ok h0 ht (by omega)
  have HST : Hid (∀ W' B a c, W'.ownsRow B 3 1 (.slice a k1 c) k1 (natI (Sp.cols C t la (te - la))) → Calls Try.prog 32 #[.slice a k1 c] W' fun e w' => ∃ b, e = .returned (.slice (some ⟨b, 0, none⟩) (te - la) (te - la)) ∧ Nb w' b ((List.range (te - la)).map (Sd.stp C t la)) ∧ W'.heap.size ≤ b ∧ Only (fun _ => False) W' w') := fun W' B a c h => steps_any C t la (te - la) k1 B a c W' hk1 h h0 (by omega) HCS.out
  obtain ⟨ce, hce⟩ : ∃ x, x = Sp.cel C t la (lb - la) le := ⟨_, rfl⟩
  have hcel : ce ≤ 100200001 := by
    have h := col_small hP.ok h0 ht (a := la) (k := Sp.tr C la (lb - la) - la) (by omega)
    rw [hce]
    unfold Sp.cel Sp.wd
    split <;> omega
  have HCE : Hid (∀ W', Only (fun _ => False) w W' → Calls Try.prog 34 #[.agg #[.slice aC n cC, .slice aO m cO], .int .i64 (la : Int), .int .i64 (lb : Int), .int .u8 (le : Int), .int .i64 (t : Int)] W' fun e w' => e = .returned (.int .i64 (ce : Int)) ∧ Only (fun _ => False) W' w') := fun W' ho => by
    rw [hce]
    exact cells_any C O n m aC aO cC cO la lb t le W' (hP.keep ho) (by omega) hb h0 ht he
  obtain ⟨ga, hga⟩ : ∃ x, x = Sp.gp C la (lb - la) := ⟨_, rfl⟩
  have HGA : Hid (∀ W', Only (fun _ => False) w W' → Calls Try.prog 37 #[.agg #[.slice aC n cC, .slice aO m cO], .int .i64 (la : Int), .int .i64 (lb : Int)] W' fun e w' => e = .returned (.int .i64 (ga : Int)) ∧ Only (fun _ => False) W' w') := fun W' ho => by
    rw [hga]
    exact gaps_any C O n m aC aO cC cO la lb W' (hP.keep ho) (by omega) hb
  obtain ⟨room, hroom⟩ : ∃ x : Int, x = (wi : Int) - (ce : Int) := ⟨_, rfl⟩
  have p0 : IntKind.i64.wrap ((wi : Int) - (ce : Int)) = room := by rw [IntKind.wrap_i64, hroom]; omega
  obtain ⟨M, hM⟩ : ∃ x, x = Sd.spr room ga := ⟨_, rfl⟩
  obtain ⟨nm, hnm⟩ : ∃ x, x = M.length := ⟨_, rfl⟩
  have HSP : Hid (∀ W', Calls Try.prog 36 #[.int .i64 room, .int .i64 (ga : Int)] W' (nlN M nm W')) := fun W' => by
    have h := spread_any room ga W'
    rw [← hM, ← hnm] at h
    exact h
  have HNM : Hid (nm = M.length ∧ nm ≤ 4096 ∧ ∀ i, M.getD i 0 ≤ 1048576) := ⟨hnm, by rw [hnm, hM]; exact Sd.spr_few _ _, fun i => by rw [hM]; exact Sd.spr_small _ _ _⟩
  have HW1 : Hid (le = 2 ∨ le = 4 → Sd.wid C t wi la lb le = (List.range (te - la)).map (Sd.stp C t la)) := fun h => by rw [hto]; exact Sd.wid_none C h
  have HW2 : Hid (¬ (le = 2 ∨ le = 4) → Sd.wid C t wi la lb le = (List.range (te - la)).map fun i => Sd.stp C t la i + (if (Sp.at' C (la + i)).kind = 1 then M.getD (Sp.sps C la i) 0 else 0)) := fun h => by
    rw [hto, hM]
    exact Sd.wid_some C h (by rw [hroom, hce]; rfl) hga
  have HWD : Hid (∀ W' b a c, Nb W' b ((List.range (te - la)).map (Sd.stp C t la)) → (∀ W9, Only (fun g => g = b) W' W9 → Vw W9 a (ctC (sgm C la (te - la)))) → ∀ aM cM, Shr W' b M aM nm cM → Calls Try.prog 35 #[.slice (some ⟨b, 0, none⟩) (te - la) (te - la), .slice a (te - la) c, .slice aM nm cM] W' fun e w' => e = .returned (.tuple #[]) ∧ Nb w' b ((List.range (te - la)).map fun i => Sd.stp C t la i + (if (Sp.at' C (la + i)).kind = 1 then M.getD (Sp.sps C la i) 0 else 0)) ∧ Only (fun g => g = b) W' w') := fun W' b a c h4 h5 aM cM h6 => widen_any C la (te - la) b a c (Sd.stp C t la) M aM nm cM W' hP.ok (by rw [← hP.hn]; omega) (by omega) h4 h5 h6 (fun i hi => by have := HCS.out (i + 1) (by omega); unfold Sd.stp; omega) HNM.out.2.2
  have t1 : (0 : Int) ≤ (la : Int) := by omega
  have t2 : (la : Int) ≤ (n : Int) := by omega
  clear hP hto hk1 hce hga hroom hM hnm htr haC
  unfold nlN at HC HSP
  go_enter Try.func27, Try.ntmps27
  go_upto_region 1 with fail
  obtain ⟨R, B, Q, w0, hw0, hQ, hB, hR, H0, l1, l2, l3⟩ := box246 w (.slice aC n cC) (.slice aO m cO) (.int .i64 (la : Int)) (.int .i64 (lb : Int)) (.int .i64 (lc : Int)) (.int .u8 (le : Int)) (.int .i64 (wi : Int)) (.int .i64 (t : Int)) (.int .u8 (mo : Int)) (.int .i64 (hy : Int)) (.int .i64 (pr : Int)) (.float .f64 lo) 31 43 35
  rw [hw0, hQ, hB, hR]
  clear hw0 hQ hB hR
  have hRl : R < w0.heap.size := (Array.getElem?_eq_some_iff.1 H0.out.1).1
  have hBl : B < w0.heap.size := (Array.getElem?_eq_some_iff.1 H0.out.2.1).1
  have hQl : Q < w0.heap.size := (Array.getElem?_eq_some_iff.1 H0.out.2.2.1).1
  have HL : Hid (R < w0.heap.size ∧ B < w0.heap.size ∧ Q < w0.heap.size) := ⟨hRl, hBl, hQl⟩
  clear hRl hBl hQl l1 l2 l3
  have HS : Hid (∀ W', Only (fun _ => False) w0 W' → ((W'.cell? ⟨R, 0, none⟩ = some (.slice aC n cC) ∧ W'.cell? ⟨R, 1, none⟩ = some (.slice aO m cO)) ∧ (W'.cell? ⟨B, 0, none⟩ = some (.int .i64 (la : Int)) ∧ W'.cell? ⟨B, 1, none⟩ = some (.int .i64 (lb : Int)) ∧ W'.cell? ⟨B, 2, none⟩ = some (.int .i64 (lc : Int)) ∧ W'.cell? ⟨B, 3, none⟩ = some (.int .u8 (le : Int))) ∧ (W'.cell? ⟨Q, 0, none⟩ = some (.int .i64 (wi : Int)) ∧ W'.cell? ⟨Q, 1, none⟩ = some (.int .i64 (t : Int)) ∧ W'.cell? ⟨Q, 2, none⟩ = some (.int .u8 (mo : Int)) ∧ W'.cell? ⟨Q, 3, none⟩ = some (.int .i64 (hy : Int)) ∧ W'.cell? ⟨Q, 4, none⟩ = some (.int .i64 (pr : Int)) ∧ W'.cell? ⟨Q, 5, none⟩ = some (.float .f64 lo))) ∧ (R < W'.heap.size ∧ B < W'.heap.size ∧ Q < W'.heap.size)) := fun W' ho => by
    have e1 := blk_keep ho H0.out.1
    have e2 := blk_keep ho H0.out.2.1
    have e3 := blk_keep ho H0.out.2.2.1
    have hs := ho.size
    have hl := HL.out
    exact ⟨⟨⟨(blk_two e1).1, (blk_two e1).2.1⟩, blk_four e2, blk_six e3⟩, by omega, by omega, by omega⟩
  obtain ⟨⟨⟨r0, r1⟩, ⟨b0, b1, b2, b3⟩, k0, k1', k2, k3, k4, k5⟩, lR, lB, lQ⟩ := HS.out w0 (Only.refl _ _)
  go_wp2_with fail
  refine Calls.mono (HT.out _ H0.out.2.2.2) ?_
  rintro e w1 ⟨rfl, ho1⟩
  have H1 : Hid (Only (fun _ => False) w0 w1) := ho1
  clear ho1 r0 r1 b0 b1 b2 b3 k0 k1' k2 k3 k4 k5 lR lB lQ
  obtain ⟨⟨⟨r0, r1⟩, ⟨b0, b1, b2, b3⟩, k0, k1', k2, k3, k4, k5⟩, lR, lB, lQ⟩ := HS.out w1 H1.out
  go_wp2_with fail
  refine Calls.mono (HC.out _ (H0.out.2.2.2.trans H1.out)) ?_
  rintro e w2 ⟨a2, c2, rfl, hown2, ho2⟩
  have H2 : Hid (w2.ownsRow w1.heap.size 3 1 (.slice a2 k1 c2) k1 (natI (Sp.cols C t la (te - la))) ∧ Only (fun _ => False) w0 w2) := ⟨hown2, H1.out.trans ho2⟩
  clear hown2 ho2 r0 r1 b0 b1 b2 b3 k0 k1' k2 k3 k4 k5 lR lB lQ
  obtain ⟨⟨⟨r0, r1⟩, ⟨b0, b1, b2, b3⟩, k0, k1', k2, k3, k4, k5⟩, lR, lB, lQ⟩ := HS.out w2 H2.out.2
  go_wp2_with fail
  refine Calls.mono (HST.out _ _ _ _ H2.out.1) ?_
  rintro e w3 ⟨b, rfl, hnb, hbl, ho3⟩
  have H3 : Hid (Nb w3 b ((List.range (te - la)).map (Sd.stp C t la)) ∧ w0.heap.size ≤ b ∧ w.heap.size ≤ b ∧ Only (fun _ => False) w0 w3 ∧ Only (fun _ => False) w w3) := ⟨hnb, Nat.le_trans H2.out.2.size hbl, Nat.le_trans H0.out.2.2.2.size (Nat.le_trans H2.out.2.size hbl), H2.out.2.trans ho3, H0.out.2.2.2.trans (H2.out.2.trans ho3)⟩
  clear hnb hbl ho3 r0 r1 b0 b1 b2 b3 k0 k1' k2 k3 k4 k5 lR lB lQ H2
  obtain ⟨⟨⟨r0, r1⟩, ⟨b0, b1, b2, b3⟩, k0, k1', k2, k3, k4, k5⟩, lR, lB, lQ⟩ := HS.out w3 H3.out.2.2.2.1
  by_cases hE : le = 2 ∨ le = 4
  · have HWW : Hid (Sd.wid C t wi la lb le = (List.range (te - la)).map (Sd.stp C t la)) := HW1.out hE
    have HF : Hid (nlN (Sd.wid C t wi la lb le) (te - la) w (.returned (.slice (some ⟨b, 0, none⟩) (te - la) (te - la))) w3) := by
      have hn := H3.out.1
      rw [← HWW.out] at hn
      have e : (Sd.wid C t wi la lb le).length = te - la := by rw [HWW.out]; simp
      have ho := nb_own hn H3.out.2.2.1 (by rw [e]; omega)
      rw [e] at ho
      exact ⟨_, _, rfl, ho, H3.out.2.2.2.2⟩
    rcases hE with hE | hE
    · subst hE
      go_wp2_with fail
      go_ret
      exact HF.out
    · subst hE
      go_wp2_with fail
      go_ret
      exact HF.out
  · have HWW : Hid (Sd.wid C t wi la lb le = (List.range (te - la)).map fun i => Sd.stp C t la i + (if (Sp.at' C (la + i)).kind = 1 then M.getD (Sp.sps C la i) 0 else 0)) := HW2.out hE
    have e2 : ((le : Int) != 2) = true := by simp; omega
    have e4 : ((le : Int) != 4) = true := by simp; omega
    clear hE HW1 HW2
    go_upto_region 5 with fail
    have HK : Hid (∀ W', Only (fun g => g = b) w3 W' → ((W'.cell? ⟨R, 0, none⟩ = some (.slice aC n cC) ∧ W'.cell? ⟨R, 1, none⟩ = some (.slice aO m cO)) ∧ (W'.cell? ⟨B, 0, none⟩ = some (.int .i64 (la : Int)) ∧ W'.cell? ⟨B, 1, none⟩ = some (.int .i64 (lb : Int)) ∧ W'.cell? ⟨B, 2, none⟩ = some (.int .i64 (lc : Int)) ∧ W'.cell? ⟨B, 3, none⟩ = some (.int .u8 (le : Int))) ∧ (W'.cell? ⟨Q, 0, none⟩ = some (.int .i64 (wi : Int)) ∧ W'.cell? ⟨Q, 1, none⟩ = some (.int .i64 (t : Int)) ∧ W'.cell? ⟨Q, 2, none⟩ = some (.int .u8 (mo : Int)) ∧ W'.cell? ⟨Q, 3, none⟩ = some (.int .i64 (hy : Int)) ∧ W'.cell? ⟨Q, 4, none⟩ = some (.int .i64 (pr : Int)) ∧ W'.cell? ⟨Q, 5, none⟩ = some (.float .f64 lo)))) := fun W' ho => by
      have hl := HL.out
      have hb := H3.out.2.1
      have e1 := far_blk ho (blk_keep H3.out.2.2.2.1 H0.out.1) (by omega)
      have e2 := far_blk ho (blk_keep H3.out.2.2.2.1 H0.out.2.1) (by omega)
      have e3 := far_blk ho (blk_keep H3.out.2.2.2.1 H0.out.2.2.1) (by omega)
      exact ⟨⟨(blk_two e1).1, (blk_two e1).2.1⟩, blk_four e2, blk_six e3⟩
    go_region_held3 (fun W' => ((W'.cell? ⟨R, 0, none⟩ = some (.slice aC n cC) ∧ W'.cell? ⟨R, 1, none⟩ = some (.slice aO m cO)) ∧ (W'.cell? ⟨B, 0, none⟩ = some (.int .i64 (la : Int)) ∧ W'.cell? ⟨B, 1, none⟩ = some (.int .i64 (lb : Int)) ∧ W'.cell? ⟨B, 2, none⟩ = some (.int .i64 (lc : Int)) ∧ W'.cell? ⟨B, 3, none⟩ = some (.int .u8 (le : Int))) ∧ (W'.cell? ⟨Q, 0, none⟩ = some (.int .i64 (wi : Int)) ∧ W'.cell? ⟨Q, 1, none⟩ = some (.int .i64 (t : Int)) ∧ W'.cell? ⟨Q, 2, none⟩ = some (.int .u8 (mo : Int)) ∧ W'.cell? ⟨Q, 3, none⟩ = some (.int .i64 (hy : Int)) ∧ W'.cell? ⟨Q, 4, none⟩ = some (.int .i64 (pr : Int)) ∧ W'.cell? ⟨Q, 5, none⟩ = some (.float .f64 lo)))) ((first | exact HK.out _ (Only.refl _ _).drew | exact HK.out _ H4.out.1)) ((go_at_call 34; refine Calls.mono (HCE.out _ H3.out.2.2.2.2.drew) ?_; rintro e w4 ⟨rfl, ho4⟩; have H4 : Hid (Only (fun g => g = b) w3 w4 ∧ Only (fun _ => False) w3 w4) := ⟨((Only.refl _ _).drew).trans (ho4.mono (fun _ h => h.elim)), ((Only.refl _ _).drew).trans ho4⟩; clear ho4))
    clear r0 r1 b0 b1 b2 b3 k0 k1' k2 k3 k4 k5 lR lB lQ
    have hac := HAC.out
    subst hac
    have ncx : ¬ cC = la := by omega
    have tt : (la : Int) ≤ (te : Int) := by omega
    have tc : (te : Int) ≤ (cC : Int) := by omega
    obtain ⟨⟨⟨r0, r1⟩, ⟨b0, b1, b2, b3⟩, k0, k1', k2, k3, k4, k5⟩, lR, lB, lQ⟩ := HS.out w4 (H3.out.2.2.2.1.trans H4.out.2)
    have HVK : Hid (∀ W', Only (fun g => g = b) w4 W' → Vw W' (some ⟨gC, oC + la * 4, none⟩) (ctC (sgm C la (te - la)))) := fun W' ho => by
      have ho9 : Only (fun _ => False) w W' := ((H3.out.2.2.2.2.mono (fun _ h => h.elim)).trans (H4.out.1.trans ho)).old (fun g hg => Or.inl (by rw [hg]; exact H3.out.2.2.1))
      exact (HP.out W' ho9).vC.sgm la _
    have HK4 : Hid (∀ W', Only (fun g => g = b) w4 W' → ((W'.cell? ⟨R, 0, none⟩ = some (.slice (some ⟨gC, oC, none⟩) n cC) ∧ W'.cell? ⟨R, 1, none⟩ = some (.slice aO m cO)) ∧ (W'.cell? ⟨B, 0, none⟩ = some (.int .i64 (la : Int)) ∧ W'.cell? ⟨B, 1, none⟩ = some (.int .i64 (lb : Int)) ∧ W'.cell? ⟨B, 2, none⟩ = some (.int .i64 (lc : Int)) ∧ W'.cell? ⟨B, 3, none⟩ = some (.int .u8 (le : Int))) ∧ (W'.cell? ⟨Q, 0, none⟩ = some (.int .i64 (wi : Int)) ∧ W'.cell? ⟨Q, 1, none⟩ = some (.int .i64 (t : Int)) ∧ W'.cell? ⟨Q, 2, none⟩ = some (.int .u8 (mo : Int)) ∧ W'.cell? ⟨Q, 3, none⟩ = some (.int .i64 (hy : Int)) ∧ W'.cell? ⟨Q, 4, none⟩ = some (.int .i64 (pr : Int)) ∧ W'.cell? ⟨Q, 5, none⟩ = some (.float .f64 lo)))) := fun W' ho => HK.out W' (H4.out.1.trans ho)
    have HN4 : Hid (∀ W', Only (fun _ => False) w4 W' → Nb W' b ((List.range (te - la)).map (Sd.stp C t la)) ∧ Only (fun _ => False) w W') := fun W' ho => ⟨H3.out.1.only (H4.out.2.trans ho) (fun h => h), H3.out.2.2.2.2.trans (H4.out.2.trans ho)⟩
    have HSH : Hid (∀ (X Y : World) (aM : Option Addr) (cM : Nat), b < X.heap.size → Y.ownsRow X.heap.size 3 1 (.slice aM nm cM) nm (natI M) → Shr Y b M aM nm cM) := fun X Y aM cM hlt hown => ⟨HNM.out.1, own_le hown, (own_cap hown : cM ≤ maxLen), fun W' ho => own_vw (own_only hown ho (fun g hg e => by omega))⟩
    go_upto_region 6 with fail
    go_region_held3 (fun W' => ((W'.cell? ⟨R, 0, none⟩ = some (.slice (some ⟨gC, oC, none⟩) n cC) ∧ W'.cell? ⟨R, 1, none⟩ = some (.slice aO m cO)) ∧ (W'.cell? ⟨B, 0, none⟩ = some (.int .i64 (la : Int)) ∧ W'.cell? ⟨B, 1, none⟩ = some (.int .i64 (lb : Int)) ∧ W'.cell? ⟨B, 2, none⟩ = some (.int .i64 (lc : Int)) ∧ W'.cell? ⟨B, 3, none⟩ = some (.int .u8 (le : Int))) ∧ (W'.cell? ⟨Q, 0, none⟩ = some (.int .i64 (wi : Int)) ∧ W'.cell? ⟨Q, 1, none⟩ = some (.int .i64 (t : Int)) ∧ W'.cell? ⟨Q, 2, none⟩ = some (.int .u8 (mo : Int)) ∧ W'.cell? ⟨Q, 3, none⟩ = some (.int .i64 (hy : Int)) ∧ W'.cell? ⟨Q, 4, none⟩ = some (.int .i64 (pr : Int)) ∧ W'.cell? ⟨Q, 5, none⟩ = some (.float .f64 lo)))) ((first | exact HK4.out _ (Only.refl _ _).drew | exact HK4.out _ H7.out.2 | exact HK4.out _ H6.out.2.1 | exact HK4.out _ H5.out.1)) ((first | (go_at_call 37; refine Calls.mono (HGA.out _ (HN4.out _ (Only.refl _ _).drew).2) ?_; rintro e w5 ⟨rfl, ho5⟩; have H5 : Hid (Only (fun g => g = b) w4 w5 ∧ Only (fun _ => False) w4 w5) := ⟨((Only.refl _ _).drew).trans (ho5.mono (fun _ h => h.elim)), ((Only.refl _ _).drew).trans ho5⟩; clear ho5) | (go_at_call 36; refine Calls.mono (HSP.out _) ?_; rintro e w6 ⟨aM, cM, rfl, hownM, ho6⟩; have H6 : Hid (w6.ownsRow w5.heap.size 3 1 (.slice aM nm cM) nm (natI M) ∧ Only (fun g => g = b) w4 w6 ∧ Only (fun _ => False) w4 w6) := ⟨hownM, H5.out.1.trans (ho6.mono (fun _ h => h.elim)), H5.out.2.trans ho6⟩; clear hownM ho6) | (go_at_call 35; refine Calls.mono (HWD.out w6 b _ _ (HN4.out _ H6.out.2.2).1 (fun W9 ho => HVK.out W9 (H6.out.2.1.trans ho)) aM cM (HSH.out w5 w6 aM cM (HN4.out _ H5.out.2).1.lt H6.out.1)) ?_; rintro e w7 ⟨rfl, hnb7, ho7⟩; have H7 : Hid (Nb w7 b ((List.range (te - la)).map fun i => Sd.stp C t la i + (if (Sp.at' C (la + i)).kind = 1 then M.getD (Sp.sps C la i) 0 else 0)) ∧ Only (fun g => g = b) w4 w7) := ⟨hnb7, H6.out.2.1.trans ho7⟩; clear hnb7 ho7)))
    go_wp2_with fail
    go_ret
    have hn := H7.out.1
    rw [← HWW.out] at hn
    have e : (Sd.wid C t wi la lb le).length = te - la := by rw [HWW.out]; simp
    have ho := nb_own hn H3.out.2.2.1 (by rw [e]; omega)
    rw [e] at ho
    exact ⟨_, _, rfl, ho, ((H3.out.2.2.2.2.mono (fun _ h => h.elim)).trans (H4.out.1.trans H7.out.2)).old (fun g hg => Or.inl (by rw [hg]; exact H3.out.2.2.1))⟩
end Go.Proofs.Ytegoadhnilmchaa
