/-
  The document's Part and Break in mode First: all parts in lines as long as may be.
-/
import Derived.Test.YtegoadhnilmchaaLg
import Derived.Test.YtegoadhnilmchaaFd
import Derived.Test.YtegoadhnilmchaaAl
namespace Go.Proofs.Ytegoadhnilmchaa
open Go.RowKit Go.Maps
set_option linter.unusedVariables false
set_option linter.unusedSimpArgs false
def ptL (x : List Ln × Bool) (w : World) (e : Ending) (w' : World) : Prop := ∃ (n : Nat) (al : Option Addr) (c : Nat), n = x.1.length ∧ e = .returned (.tuple #[.slice al n c, .bool x.2]) ∧ w'.ownsRow w.heap.size 43 4 (.slice al n c) n (lnC x.1) ∧ Only (fun _ => False) w w'
set_option maxRecDepth 100000 in
set_option maxHeartbeats 8000000 in
theorem refPartF_any (C : List Ct) (O : List Nat) (n m : Nat) (aC aO : Option Addr) (cC cO a b wi t hy pr lo : Nat) (w : World) (hP : Pv w C O n m aC aO cC cO) (hm : n < m) (hab : a ≤ b) (hb : b ≤ n) (hw : wi ≤ 1048576) (h0 : 0 < t) (ht : t ≤ 1000) :
    Calls Try.prog 23 #[.agg #[.slice aC n cC, .slice aO m cO], .int .i64 (a : Int), .int .i64 (b : Int), .agg #[.int .i64 (wi : Int), .int .i64 (t : Int), .int .u8 0, .int .i64 (hy : Int), .int .i64 (pr : Int), .float .f64 lo]] w (ptL (Sp.lines C O t wi a b, false) w) := by
  have HBR : Hid (∀ W', Only (fun _ => False) w W' → Calls Try.prog 29 #[.agg #[.slice aC n cC, .slice aO m cO], .int .i64 (a : Int), .int .i64 (b : Int), .agg #[.int .i64 (wi : Int), .int .i64 (t : Int), .int .u8 0, .int .i64 (hy : Int), .int .i64 (pr : Int), .float .f64 lo]] W' (lnP (Sp.lines C O t wi a b) W')) := fun W' ho => refFirst_any C O n m aC aO cC cO a b wi t 0 hy pr lo W' (hP.keep ho) hm hab hb hw h0 ht
  clear hP
  unfold lnP at HBR
  go_enter Try.func23, Try.ntmps23
  go_upto_region 1 with fail
  obtain ⟨R, B, w0, hw0, hB, hR, H0, lRB, lB, lB0⟩ := box26 w (.slice aC n cC) (.slice aO m cO) (.int .i64 (wi : Int)) (.int .i64 (t : Int)) (.int .u8 0) (.int .i64 (hy : Int)) (.int .i64 (pr : Int)) (.float .f64 lo) 31 35
  rw [hw0, hB, hR]
  clear hw0 hB hR
  have HS : Hid (∀ W', Only (fun _ => False) w0 W' → (W'.cell? ⟨R, 0, none⟩ = some (.slice aC n cC) ∧ W'.cell? ⟨R, 1, none⟩ = some (.slice aO m cO)) ∧ (W'.cell? ⟨B, 0, none⟩ = some (.int .i64 (wi : Int)) ∧ W'.cell? ⟨B, 1, none⟩ = some (.int .i64 (t : Int)) ∧ W'.cell? ⟨B, 2, none⟩ = some (.int .u8 0) ∧ W'.cell? ⟨B, 3, none⟩ = some (.int .i64 (hy : Int)) ∧ W'.cell? ⟨B, 4, none⟩ = some (.int .i64 (pr : Int)) ∧ W'.cell? ⟨B, 5, none⟩ = some (.float .f64 lo)) ∧ R < W'.heap.size ∧ B < W'.heap.size) := fun W' ho => by
    have e1 := blk_keep ho H0.out.1
    have e2 := blk_keep ho H0.out.2.1
    exact ⟨⟨(blk_two e1).1, (blk_two e1).2.1⟩, blk_six e2, (blk_two e1).2.2, (Array.getElem?_eq_some_iff.1 e2).1⟩
  have HW0 : Hid (Only (fun _ => False) w w0) := H0.out.2.2
  obtain ⟨⟨r0, r1⟩, ⟨k0, k1, k2, k3, k4, k5⟩, lR0, lB1⟩ := HS.out w0 (Only.refl _ _)
  go_wp2_with fail
  refine Calls.mono (HBR.out _ HW0.out) ?_
  rintro e w6 ⟨n6, a6, c6, hn6, rfl, hown6, ho6⟩
  have H6 : Hid (n6 = (Sp.lines C O t wi a b).length ∧ w6.ownsRow w0.heap.size 43 4 (.slice a6 n6 c6) n6 (lnC (Sp.lines C O t wi a b)) ∧ Only (fun _ => False) w0 w6) := ⟨hn6, hown6, ho6⟩
  clear hn6 hown6 ho6 r0 r1 k0 k1 k2 k3 k4 k5 lR0 lB1
  go_wp2_with fail
  go_ret2
  exact ⟨n6, a6, c6, H6.out.1, rfl, own_base2 H6.out.2.1 HW0.out.size, HW0.out.trans H6.out.2.2⟩
theorem parts_fr {O : List Nat} {m n i x : Nat} (hm : m = n + 1) (h : (It.parts O m)[i]? = some x) : It.fr (It.parts O m) i ≤ x ∧ x ≤ n := ⟨(It.fr_le h).1, by have := (It.parts_at h).1; omega⟩
set_option maxRecDepth 100000 in
set_option maxHeartbeats 8000000 in
theorem refBreakF_any (C : List Ct) (O : List Nat) (n m : Nat) (aC aO : Option Addr) (cC cO wi t hy pr lo : Nat) (w : World) (hP : Pv w C O n m aC aO cC cO) (hm : m = n + 1) (hn : n ≤ 10000) (hw : wi ≤ 1048576) (h0 : 0 < t) (ht : t ≤ 1000) :
    Calls Try.prog 16 #[.agg #[.slice aC n cC, .slice aO m cO], .agg #[.int .i64 (wi : Int), .int .i64 (t : Int), .int .u8 0, .int .i64 (hy : Int), .int .i64 (pr : Int), .float .f64 lo]] w (ptL (Lv.fof C O t wi (It.parts O m) (It.parts O m).length, false) w) := by
  have HPA : Hid (∀ W', Only (fun _ => False) w W' → Calls Try.prog 22 #[.agg #[.slice aC n cC, .slice aO m cO]] W' (ptP (It.parts O m) W')) := fun W' ho => by
    have h := refParts_any n aC cC O aO cO W' (hP.keep ho).vO hP.oO (by rw [← hP.hm]; omega)
    rw [← hP.hm] at h
    exact h
  have HPT0 : Hid (∀ W' i x f, Only (fun _ => False) w W' → (It.parts O m)[i]? = some x → It.fr (It.parts O m) i = f → Calls Try.prog 23 #[.agg #[.slice aC n cC, .slice aO m cO], .int .i64 ((f : Nat) : Int), .int .i64 ((x : Nat) : Int), .agg #[.int .i64 (wi : Int), .int .i64 (t : Int), .int .u8 0, .int .i64 (hy : Int), .int .i64 (pr : Int), .float .f64 lo]] W' (ptL (Sp.lines C O t wi f x, false) W')) := fun W' i x f ho hx hf => by
    have h := parts_fr hm hx
    rw [hf] at h
    exact refPartF_any C O n m aC aO cC cO f x wi t hy pr lo W' (hP.keep ho) (by omega) h.1 h.2 hw h0 ht
  have HX0 : Hid (∀ i x, (It.parts O m)[i]? = some x → It.fr (It.parts O m) i ≤ x ∧ x ≤ n) := fun i x h => parts_fr hm h
  have HL0 : Hid (∀ i, i ≤ (It.parts O m).length → (Lv.fof C O t wi (It.parts O m) i).length ≤ It.fr (It.parts O m) i) := Lv.fof_len
  have HPL : Hid ((It.parts O m).length ≤ m) := It.parts_len O m
  obtain ⟨P, hPp⟩ : ∃ x, x = It.parts O m := ⟨_, rfl⟩
  rw [← hPp] at HPA HPT0 HX0 HL0 HPL ⊢
  obtain ⟨np, hnp⟩ : ∃ x, x = P.length := ⟨_, rfl⟩
  have HNP : Hid (np = P.length) := hnp
  have hnpl : np ≤ 100000 := by have := HPL.out; omega
  rw [← hnp] at HL0 ⊢
  have hml : m ≤ 10001 := by omega
  clear hP hPp hnp HPL hm
  unfold ptP at HPA
  unfold ptL at HPT0
  go_enter Try.func16, Try.ntmps16
  go_upto_region 1 with fail
  obtain ⟨R, B, w0, hw0, hB, hR, H0, lRB, lB, lB0⟩ := box26 w (.slice aC n cC) (.slice aO m cO) (.int .i64 (wi : Int)) (.int .i64 (t : Int)) (.int .u8 0) (.int .i64 (hy : Int)) (.int .i64 (pr : Int)) (.float .f64 lo) 31 35
  rw [hw0, hB, hR]
  clear hw0 hB hR
  have HS : Hid (∀ W', Only (fun _ => False) w0 W' → ((W'.cell? ⟨R, 0, none⟩ = some (.slice aC n cC) ∧ W'.cell? ⟨R, 1, none⟩ = some (.slice aO m cO)) ∧ (W'.cell? ⟨B, 0, none⟩ = some (.int .i64 (wi : Int)) ∧ W'.cell? ⟨B, 1, none⟩ = some (.int .i64 (t : Int)) ∧ W'.cell? ⟨B, 2, none⟩ = some (.int .u8 0) ∧ W'.cell? ⟨B, 3, none⟩ = some (.int .i64 (hy : Int)) ∧ W'.cell? ⟨B, 4, none⟩ = some (.int .i64 (pr : Int)) ∧ W'.cell? ⟨B, 5, none⟩ = some (.float .f64 lo)))) := fun W' ho => by
    have e1 := blk_keep ho H0.out.1
    have e2 := blk_keep ho H0.out.2.1
    exact ⟨⟨(blk_two e1).1, (blk_two e1).2.1⟩, blk_six e2⟩
  have HSL : Hid (∀ W', Only (fun _ => False) w0 W' → R < W'.heap.size ∧ B < W'.heap.size) := fun W' ho => ⟨(Array.getElem?_eq_some_iff.1 (blk_keep ho H0.out.1)).1, (Array.getElem?_eq_some_iff.1 (blk_keep ho H0.out.2.1)).1⟩
  have HW0 : Hid (Only (fun _ => False) w w0) := H0.out.2.2
  obtain ⟨⟨r0, r1⟩, k0, k1, k2, k3, k4, k5⟩ := HS.out w0 (Only.refl _ _)
  obtain ⟨lR0, lB1⟩ := HSL.out w0 (Only.refl _ _)
  go_wp2_with fail
  refine Calls.mono (HPA.out _ HW0.out) ?_
  rintro e Z ⟨aP, cP, rfl, hownP, hoZ⟩
  rw [← HNP.out] at hownP ⊢
  have HZ : Hid (Vw Z aP (natI P) ∧ Only (fun _ => False) w Z ∧ Only (fun _ => False) w0 Z) := ⟨own_vw hownP, HW0.out.trans hoZ, hoZ⟩
  clear hownP hoZ r0 r1 k0 k1 k2 k3 k4 k5 lR0 lB1 lRB lB lB0
  have HSZ : Hid (∀ W', Only (fun g => Z.heap.size ≤ g) Z W' → Only (fun _ => False) Z W' ∧ Only (fun _ => False) w W' ∧ Only (fun _ => False) w0 W' ∧ Vw W' aP (natI P)) := fun W' ho => by
    have h2 : Only (fun _ => False) Z W' := ho.old (fun b hb => Or.inl hb)
    exact ⟨h2, HZ.out.2.1.trans h2, HZ.out.2.2.trans h2, HZ.out.1.keep h2⟩
  go_wp2_with fail
  have hsZ := HZ.out.2.1.size
  go_loopg [6, 8, 7, 10] np (fun gh v6 v7 v8 v16 wr => ∃ (i k : Nat) (D : List Ln) (f : Nat) (al : Option Addr) (c : Nat) (W : World), W = wr ∧ gh = np - i ∧ i ≤ np ∧ v6 = .slice al k c ∧ v7 = .int .i64 (f : Int) ∧ v8 = .bool false ∧ v16 = .int .i64 (i : Int) ∧ Lv.fof C O t wi P i = D ∧ It.fr P i = f ∧ k = D.length ∧ W.ownsRow Z.heap.size 43 4 (.slice al k c) k (lnC D) ∧ Only (fun g => Z.heap.size ≤ g) Z W)
  case atStart => exact ⟨0, 0, [], 0, none, 0, _, rfl, rfl, Nat.zero_le _, rfl, rfl, rfl, rfl, rfl, rfl, rfl, ⟨rfl, Or.inl ⟨rfl, rfl⟩⟩, Only.refl _ _⟩
  case round =>
    obtain ⟨i, k, D, f, al, c, W, hW, rfl, hi, rfl, rfl, rfl, rfl, hsof, hfr, hkD, hown, hoW⟩ := hrel
    subst hW
    have HG : Hid (Lv.fof C O t wi P i = D ∧ It.fr P i = f ∧ k = D.length ∧ W.ownsRow Z.heap.size 43 4 (.slice al k c) k (lnC D) ∧ Only (fun g => Z.heap.size ≤ g) Z W) := ⟨hsof, hfr, hkD, hown, hoW⟩
    have hkf : k ≤ f := by have h := HL0.out i hi; rw [hsof, hfr] at h; rw [hkD]; exact h
    have hsz := hoW.size
    clear hsof hfr hkD hown hoW
    by_cases hlt : i < np
    · have t1 : (i : Int) < (np : Int) := by omega
      obtain ⟨x, hx⟩ : ∃ x, P[i]? = some x := ⟨_, List.getElem?_eq_getElem (by rw [← HNP.out]; exact hlt)⟩
      obtain ⟨hfx, hxn⟩ := HX0.out i x hx
      rw [HG.out.2.1] at hfx
      have HPT : Hid (∀ W', Only (fun _ => False) w W' → Calls Try.prog 23 #[.agg #[.slice aC n cC, .slice aO m cO], .int .i64 (f : Int), .int .i64 (x : Int), .agg #[.int .i64 (wi : Int), .int .i64 (t : Int), .int .u8 0, .int .i64 (hy : Int), .int .i64 (pr : Int), .float .f64 lo]] W' fun e w' => ∃ (al : Option Addr) (c : Nat), e = .returned (.tuple #[.slice al (Sp.lines C O t wi f x).length c, .bool false]) ∧ w'.ownsRow W'.heap.size 43 4 (.slice al (Sp.lines C O t wi f x).length c) (Sp.lines C O t wi f x).length (lnC (Sp.lines C O t wi f x)) ∧ Only (fun _ => False) W' w') := fun W' ho => by
        refine (HPT0.out W' i x f ho hx HG.out.2.1).mono ?_
        rintro e w' ⟨n3, al, c, hn3, he, h1, h2⟩
        subst hn3
        exact ⟨al, c, he, h1, h2⟩
      have HNX : Hid (Lv.fof C O t wi P (i + 1) = D ++ Sp.lines C O t wi f x ∧ It.fr P (i + 1) = x) := ⟨Lv.fof_next HG.out.1 hx HG.out.2.1, It.fr_succ _ hx⟩
      have hlen := HL0.out (i + 1) (by omega)
      rw [HNX.out.1, HNX.out.2] at hlen
      obtain ⟨M, hM⟩ : ∃ z, z = (Sp.lines C O t wi f x) := ⟨_, rfl⟩
      rw [← hM] at HPT HNX
      rw [← hM] at hlen
      clear hM
      obtain ⟨n2, hn2⟩ : ∃ z, z = M.length := ⟨_, rfl⟩
      have hkn : k + n2 ≤ x := by
        have h : (D ++ M).length ≤ x := hlen
        rw [List.length_append, ← HG.out.2.2.1, ← hn2] at h
        exact h
      have HM : Hid (n2 = M.length) := hn2
      rw [← hn2] at HPT
      clear hlen hn2
      have hcx := natI_get hx
      obtain ⟨b0, off, e0, hb0, hc⟩ := (HSZ.out W HG.out.2.2.2.2).2.2.2.cells (by rw [natI_len, ← HNP.out]; omega)
      subst e0
      have c1 := hc i _ hcx
      have HCX : Hid ((natI P)[i]? = some (.int .i64 (x : Int))) := hcx
      clear hcx hx
      obtain ⟨⟨r0, r1⟩, k0, k1, k2, k3, k4, k5⟩ := HS.out W (HSZ.out W HG.out.2.2.2.2).2.2.1
      obtain ⟨lR0, lB1⟩ := HSL.out W (HSZ.out W HG.out.2.2.2.2).2.2.1
      go_wp2_with fail
      go_region_held3 (fun W' => (((W'.cell? ⟨R, 0, none⟩ = some (.slice aC n cC) ∧ W'.cell? ⟨R, 1, none⟩ = some (.slice aO m cO)) ∧ (W'.cell? ⟨B, 0, none⟩ = some (.int .i64 (wi : Int)) ∧ W'.cell? ⟨B, 1, none⟩ = some (.int .i64 (t : Int)) ∧ W'.cell? ⟨B, 2, none⟩ = some (.int .u8 0) ∧ W'.cell? ⟨B, 3, none⟩ = some (.int .i64 (hy : Int)) ∧ W'.cell? ⟨B, 4, none⟩ = some (.int .i64 (pr : Int)) ∧ W'.cell? ⟨B, 5, none⟩ = some (.float .f64 lo))) ∧ W'.cell? ⟨b0, off + i, none⟩ = some (.int .i64 (x : Int)))) ((first | exact ⟨HS.out _ (HSZ.out W HG.out.2.2.2.2).2.2.1.drew, keep0 (Only.refl _ _).drew c1⟩ | exact ⟨HS.out _ (HSZ.out _ H2.out.2.2.2.1).2.2.1, keep0 H2.out.2.2.1 c1⟩)) ((go_at_call 23; refine Calls.mono (HPT.out _ (HSZ.out W HG.out.2.2.2.2).2.1.drew) ?_; rintro e W2 ⟨a2, c2, rfl, hown2, ho2'⟩; have ho2 : Only (fun _ => False) W W2 := (Only.refl _ _).drew.trans ho2'; clear ho2'; have H2 : Hid (n2 = M.length ∧ W2.ownsRow W.heap.size 43 4 (.slice a2 n2 c2) n2 (lnC M) ∧ Only (fun _ => False) W W2 ∧ Only (fun g => Z.heap.size ≤ g) Z W2 ∧ W2.ownsRow Z.heap.size 43 4 (.slice al k c) k (lnC D)) := ⟨HM.out, hown2, ho2, HG.out.2.2.2.2.trans (ho2.mono (fun _ h => h.elim)), own_only HG.out.2.2.2.1 ho2 (fun _ _ h => h)⟩; clear hown2 ho2))
      have c1' := keep0 H2.out.2.2.1 c1
      have hb0' : b0 < W2.heap.size := World.block_lt_of_cell? W2 _ c1'
      clear hc c1 hb0 r0 r1 k0 k1 k2 k3 k4 k5 lR0 lB1
      have hsz2 := H2.out.2.2.2.1.size
      have hW2 := H2.out.2.2.1.size
      have C3 : Hid (∀ W', Only (fun g => Z.heap.size ≤ g) Z W' → W'.cell? ⟨b0, off + i, none⟩ = some (.int .i64 (x : Int))) := fun W' ho => by
        obtain ⟨b1, off1, e1, hb1, hc1⟩ := (HSZ.out W' ho).2.2.2.cells (by rw [natI_len, ← HNP.out]; omega)
        injection e1 with e1
        injection e1 with e2 e3
        subst e2 e3
        exact hc1 i _ HCX.out
      go_wp2_with (at_builtin; (refine wpList_appLs rfl _ _ rfl Z.heap.size al k c D rfl H2.out.2.2.2.2 a2 n2 c2 M rfl HM.out (own_vw H2.out.2.1) (k + n2) rfl (by omega) hsz2 ?_; intro al' cap w3 hown3 ho3; have H3 : Hid (w3.ownsRow Z.heap.size 43 4 (.slice al' (k + n2) cap) (k + n2) (lnC (D ++ M)) ∧ Only (fun g => Z.heap.size ≤ g) Z w3) := ⟨hown3, appLs_only H2.out.2.2.2.2 ho3 H2.out.2.2.2.1⟩; have c3' : w3.cell? ⟨b0, off + i, none⟩ = some (.int .i64 (x : Int)) := C3.out _ H3.out.2; have hb3 : b0 < w3.heap.size := World.block_lt_of_cell? w3 _ c3'; clear hown3 ho3))
      go_roundg (np - (i + 1))
      case measure => omega
      case rel => exact ⟨i + 1, k + n2, D ++ M, x, al', cap, _, rfl, rfl, by omega, by go_num, rfl, rfl, by go_num, HNX.out.1, HNX.out.2, by rw [List.length_append, ← HG.out.2.2.1, ← HM.out], H3.out.1, H3.out.2⟩
    · have t1 : decide ((i : Int) < (np : Int)) = false := decide_eq_false (by omega)
      have hin : i = np := by omega
      subst hin
      go_wp2_with fail
      go_ret2
      exact ⟨k, al, c, by rw [HG.out.1]; exact HG.out.2.2.1, by rw [HG.out.1]; rfl, by rw [HG.out.1]; exact own_base2 HG.out.2.2.2.1 hsZ, (HSZ.out W HG.out.2.2.2.2).2.1⟩
end Go.Proofs.Ytegoadhnilmchaa
