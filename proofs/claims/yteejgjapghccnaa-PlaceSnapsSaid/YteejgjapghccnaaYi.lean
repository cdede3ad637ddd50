/-
  place's begins and makeRow: the bytes of the boundaries; a line as a row.
-/
import Derived.Test.YteejgjapghccnaaYh
import Derived.Test.YteejgjapghccnaaAn
import Derived.Test.YteejgjapghccnaaPt
import Derived.Test.YteejgjapghccnaaPc
namespace Go.Proofs.Yteejgjapghccnaa
open Go.RowKit Go.Maps
set_option linter.unusedVariables false
set_option linter.unusedSimpArgs false
theorem bys_next {C : List Ct} (hC : Lv.Ctg C) {i : Nat} {c : Ct} (h : C[i]? = some c) : (Lv.bys C).take (i + 1) = (Lv.bys C).take i ++ [c.pl] := by
  have hi := (List.getElem?_eq_some_iff.1 h).1
  have e : (Lv.bys C)[i]? = some c.pl := by
    rw [Lv.bys_at (by omega)]
    have h2 := (hC i hi).1
    unfold Sp.at' at h2
    rw [List.getD_eq_getElem?_getD, h] at h2
    rw [← h2]
    rfl
  exact take_snoc e
theorem bys_end (C : List Ct) : Lv.bys C = (Lv.bys C).take C.length ++ [It.sum C] := by
  have e := take_snoc (Lv.bys_last C)
  rw [← e, ← Lv.bys_len C, List.take_length]
set_option maxRecDepth 100000 in
set_option maxHeartbeats 4000000 in
theorem begins_any (C : List Ct) (O : List Nat) (n m : Nat) (aC aO : Option Addr) (cC cO : Nat) (w : World) (hP : Pv w C O n m aC aO cC cO) (hC : Lv.Ctg C) (hs : It.sum C ≤ 1000000) :
    Calls Try.prog 28 #[.agg #[.slice aC n cC, .slice aO m cO]] w fun e w' => ∃ al c, e = .returned (.slice al (n + 1) c) ∧ w'.ownsRow w.heap.size 3 1 (.slice al (n + 1) c) (n + 1) (natI (Lv.bys C)) ∧ Only (fun _ => False) w w' := by
  obtain ⟨i3, g3, g30, g31, g32⟩ := info_parts info3
  have HP : Hid (Pv w C O n m aC aO cC cO ∧ Lv.Ctg C) := ⟨hP, hC⟩
  have h1 := hP.few
  obtain ⟨s, hs'⟩ : ∃ s, s = It.sum C := ⟨_, rfl⟩
  have HBY : Hid (∀ W, Only (fun _ => False) w W → Calls Try.prog 37 #[.agg #[.slice aC n cC, .slice aO m cO]] W fun e w' => e = .returned (.int .i64 (s : Int)) ∧ Only (fun _ => False) W w') := fun W ho => by
    have h := bytes_any C aC cC m aO cO W (hP.vC.keep ho) (by rw [← hP.hn]; exact h1) hs
    rw [← hP.hn, ← hs'] at h
    exact h
  have HE : Hid (Lv.bys C = (Lv.bys C).take n ++ [s]) := by rw [hP.hn, hs']; exact bys_end C
  have hs2 : s ≤ 1000000 := by omega
  clear hP hC hs hs'
  go_enter Try.func28, Try.ntmps28
  go_upto_region 1 with fail
  obtain ⟨R, w0, hw0, hR, H0, r0, r1, lR⟩ := box2 w (.slice aC n cC) (.slice aO m cO) 31
  rw [hw0, hR]
  clear hw0 hR
  go_upto_region 2 with (refine wpList_make_own _ rfl _ _ 37 rfl w0.heap.size 3 i3 (.int .i64 0) 1 Try.underlying37 g3 g30 g31 .i64 .i64 _ (n + 1) rfl rfl (by omega) (by rw [g32]; omega) (by unfold maxLen; omega) (Nat.le_refl _) ?_; intro Z hownZ hgZ)
  have hoZ : Only (fun _ => False) w0 Z := (Only.refl _ _).grown hgZ (fun k h => by cases h)
  have HZ : Hid (Z.ownsRow w0.heap.size 3 1 (.slice (some ⟨w0.heap.size, 0, none⟩) 0 (n + 1)) 0 (natI []) ∧ Only (fun _ => False) w0 Z ∧ Only (fun _ => False) w w0 ∧ w0.heap[R]? = some (.cells #[.slice aC n cC, .slice aO m cO] 31 (0, 0))) := ⟨hownZ, hoZ, H0.out.2, H0.out.1⟩
  clear hownZ hgZ hoZ H0 r0 r1 lR
  have HS : Hid (∀ W', Only (fun g => w0.heap.size ≤ g) w0 W' → Only (fun _ => False) w W' ∧ W'.cell? ⟨R, 0, none⟩ = some (.slice aC n cC) ∧ W'.cell? ⟨R, 1, none⟩ = some (.slice aO m cO) ∧ R < W'.heap.size) := fun W' ho => by
    have h2 : Only (fun _ => False) w0 W' := ho.old (fun b hb => Or.inl hb)
    exact ⟨HZ.out.2.2.1.trans h2, blk_two (blk_keep h2 HZ.out.2.2.2)⟩
  have HZ2 : Hid (Only (fun g => w0.heap.size ≤ g) w0 Z) := HZ.out.2.1.mono (fun _ h => h.elim)
  obtain ⟨-, r0, r1, lR⟩ := HS.out Z HZ2.out
  go_wp2_with fail
  go_loopg [3, 14] n (fun gh v3 v14 wr => ∃ (i : Nat) (al : Option Addr) (c : Nat) (W : World), W = wr ∧ gh = n - i ∧ i ≤ n ∧ v3 = .slice al i c ∧ v14 = .int .i64 (i : Int) ∧ W.ownsRow w0.heap.size 3 1 (.slice al i c) i (natI ((Lv.bys C).take i)) ∧ Only (fun g => w0.heap.size ≤ g) w0 W)
  case atStart => exact ⟨0, _, _, _, rfl, rfl, Nat.zero_le _, rfl, rfl, HZ.out.1, HZ2.out⟩
  case round =>
    obtain ⟨i, al, c, W, hW, rfl, hi, rfl, rfl, hown, hoW⟩ := hrel
    subst hW
    have HG : Hid (W.ownsRow w0.heap.size 3 1 (.slice al i c) i (natI ((Lv.bys C).take i)) ∧ Only (fun g => w0.heap.size ≤ g) w0 W) := ⟨hown, hoW⟩
    have hsz := hoW.size
    clear hown hoW r0 r1 lR
    obtain ⟨-, r0, r1, lR⟩ := HS.out W HG.out.2
    by_cases hlt : i < n
    · have t1 : (i : Int) < (n : Int) := by omega
      obtain ⟨z, hz⟩ : ∃ z, C[i]? = some z := ⟨_, List.getElem?_eq_getElem (by rw [← HP.out.1.hn]; omega)⟩
      obtain ⟨xp, xl, xc, xk, rfl, hxc, hxk⟩ := HP.out.1.ok.nat hz
      obtain ⟨g, off, rfl, hg, c0, c1, c2, c3⟩ := (HP.out.1.vC.keep (HS.out W HG.out.2).1).cluster (k := i) hz
      simp only at c0 c1 c2 c3
      have HX : Hid ((Lv.bys C).take (i + 1) = (Lv.bys C).take i ++ [xp]) := bys_next HP.out.2 hz
      clear hz
      have HVA : Hid _ := heap_alloc2_new W (.cells #[.int .i64 (xp : Int), .int .i64 (xl : Int), .int .i64 (xc : Int), .int .u8 (xk : Int)] 55) (.cells #[.int .i64 (xp : Int)] 3)
      go_wp2_with (at_builtin; (refine wpList_app1 rfl _ _ rfl w0.heap.size al i c ((Lv.bys C).take i) rfl ((HG.out.1.alloc _).alloc _) (W.heap.size + 1) 1 xp rfl HVA.out (by omega) (by rw [size_alloc1, size_alloc1]; omega) ?_; intro g5 cap5 w5 hown5 ho5; have H5 : Hid (w5.ownsRow w0.heap.size 3 1 (.slice (some ⟨g5, 0, none⟩) (i + 1) cap5) (i + 1) (natI ((Lv.bys C).take (i + 1))) ∧ Only (fun g => w0.heap.size ≤ g) w0 w5) := ⟨by rw [HX.out]; exact hown5, app1_only ((HG.out.1.alloc _).alloc _) ho5 ((HG.out.2.alloc _).alloc _)⟩; clear hown5 ho5))
      go_roundg (n - (i + 1))
      case measure => omega
      case rel => exact ⟨i + 1, _, _, _, rfl, rfl, by omega, rfl, by go_num, H5.out.1, H5.out.2⟩
    · have t1 : decide ((i : Int) < (n : Int)) = false := decide_eq_false (by omega)
      have hin : i = n := by omega
      subst hin
      go_wp2_with fail
      refine Calls.mono (HBY.out _ (HS.out W HG.out.2).1) ?_
      rintro e w2 ⟨rfl, ho2⟩
      have H2 : Hid (w2.ownsRow w0.heap.size 3 1 (.slice al i c) i (natI ((Lv.bys C).take i)) ∧ Only (fun g => w0.heap.size ≤ g) w0 w2) := ⟨own_only HG.out.1 ho2 (fun _ _ h => h), HG.out.2.trans (ho2.mono (fun _ h => h.elim))⟩
      have hsz2 := H2.out.2.size
      clear ho2 r0 r1 lR
      have HVA : Hid _ := heap_alloc_new w2 (.cells #[.int .i64 (s : Int)] 3)
      go_wp2_with (at_builtin; (refine wpList_app1 rfl _ _ rfl w0.heap.size al i c ((Lv.bys C).take i) rfl (H2.out.1.alloc _) w2.heap.size 1 s rfl HVA.out (by omega) (by rw [size_alloc1]; omega) ?_; intro g5 cap5 w5 hown5 ho5; have H5 : Hid (w5.ownsRow w0.heap.size 3 1 (.slice (some ⟨g5, 0, none⟩) (i + 1) cap5) (i + 1) (natI (Lv.bys C)) ∧ Only (fun g => w0.heap.size ≤ g) w0 w5) := ⟨by rw [HE.out]; exact hown5, app1_only (H2.out.1.alloc _) ho5 (H2.out.2.alloc _)⟩; clear hown5 ho5))
      go_ret
      exact ⟨_, _, rfl, own_base2 H5.out.1 HZ.out.2.2.1.size, (HS.out _ H5.out.2).1⟩
theorem box242 (w : World) (v0 v1 u0 u1 u2 u3 x0 x1 : Value) (t t' t'' : TypeId) : ∃ R b q w1, ((w.alloc (.cells #[v0, v1] t)).alloc (.cells #[u0, u1, u2, u3] t')).alloc (.cells #[x0, x1] t'') = w1 ∧ w.heap.size + 1 + 1 = q ∧ w.heap.size + 1 = b ∧ w.heap.size = R ∧ Hid (w1.heap[R]? = some (.cells #[v0, v1] t (0, 0)) ∧ w1.heap[b]? = some (.cells #[u0, u1, u2, u3] t' (0, 0)) ∧ w1.heap[q]? = some (.cells #[x0, x1] t'' (0, 0)) ∧ Only (fun _ => False) w w1) ∧ R < b ∧ b < q ∧ w.heap.size ≤ q := by
  have h3 := blk3 w (.cells #[v0, v1] t) (.cells #[u0, u1, u2, u3] t') (.cells #[x0, x1] t'')
  have o3 : Only (fun _ => False) ((w.alloc (.cells #[v0, v1] t)).alloc (.cells #[u0, u1, u2, u3] t')) (((w.alloc (.cells #[v0, v1] t)).alloc (.cells #[u0, u1, u2, u3] t')).alloc (.cells #[x0, x1] t'')) := (Only.refl _ _).alloc _
  exact ⟨_, _, _, _, rfl, rfl, rfl, rfl, ⟨blk_keep o3 (bx_made w _ _), blk_keep o3 (heap_alloc2_new w _ _), h3.1, (((Only.refl _ _).alloc _).alloc _).alloc _⟩, Nat.lt_succ_self _, Nat.lt_succ_self _, by omega⟩
set_option maxRecDepth 100000 in
set_option maxHeartbeats 4000000 in
theorem makeRow_any (C : List Ct) (O : List Nat) (n m : Nat) (aC aO : Option Addr) (cC cO t la lb lc le : Nat) (w : World) (hP : Pv w C O n m aC aO cC cO) (hx : la ≤ lb) (hy : lb ≤ n) (h0 : 0 < t) (ht : t ≤ 1000) :
    Calls Try.prog 29 #[.agg #[.slice aC n cC, .slice aO m cO], .agg #[.int .i64 (la : Int), .int .i64 (lb : Int), .int .i64 (lc : Int), .int .u8 (le : Int)], .int .i64 (t : Int)] w fun e w' => ∃ al k c, e = .returned (.agg #[.int .i64 (la : Int), .slice al k c]) ∧ k = lb - la + 1 ∧ w'.ownsRow w.heap.size 3 1 (.slice al k c) k (natI (Sp.cols C t la (lb - la))) ∧ Only (fun _ => False) w w' := by
  have HC : Hid (∀ W, Only (fun _ => False) w W → Calls Try.prog 38 #[.agg #[.slice aC n cC, .slice aO m cO], .int .i64 (la : Int), .int .i64 (lb : Int), .int .i64 (t : Int)] W fun e w' => ∃ al k c, e = .returned (.slice al k c) ∧ k = lb - la + 1 ∧ w'.ownsRow W.heap.size 3 1 (.slice al k c) k (natI (Sp.cols C t la (lb - la))) ∧ Only (fun _ => False) W w') := fun W ho => by
    refine (columns_any C O n m aC aO cC cO la lb t W (hP.keep ho) hx hy h0 ht).mono ?_
    rintro e w' ⟨al, c, he, hown, ho'⟩
    rw [Lv.cols_len] at he hown
    exact ⟨al, _, c, he, rfl, hown, ho'⟩
  have h1 := hP.few
  clear hP
  have t1 : (0 : Int) ≤ (la : Int) := by omega
  have t2 : (la : Int) ≤ (n : Int) := by omega
  go_enter Try.func29, Try.ntmps29
  go_upto_region 1 with fail
  obtain ⟨R, b, q, w0, hw0, hq, hb, hR, H0, l1, l2, l3⟩ := box242 w (.slice aC n cC) (.slice aO m cO) (.int .i64 (la : Int)) (.int .i64 (lb : Int)) (.int .i64 (lc : Int)) (.int .u8 (le : Int)) (.int .i64 0) (.slice none 0 0) 31 59 80
  rw [hw0, hq, hb, hR]
  clear hw0 hq hb hR
  obtain ⟨r0, r1, lR⟩ := blk_two H0.out.1
  obtain ⟨b0, b1, b2, b3⟩ := blk_four H0.out.2.1
  have lb' : b < w0.heap.size := (Array.getElem?_eq_some_iff.1 H0.out.2.1).1
  go_wp2_with fail
  refine Calls.mono (HC.out _ H0.out.2.2.2) ?_
  rintro e w1 ⟨al, k, c, rfl, hk, hown, ho1⟩
  have H1 : Hid (k = lb - la + 1 ∧ w1.ownsRow w0.heap.size 3 1 (.slice al k c) k (natI (Sp.cols C t la (lb - la))) ∧ Only (fun _ => False) w w1 ∧ w1.heap[q]? = some (.cells #[.int .i64 0, .slice none 0 0] 80 (0, 0)) ∧ w.heap.size ≤ q ∧ Only (fun _ => False) w w0) := ⟨hk, hown, H0.out.2.2.2.trans ho1, blk_keep ho1 H0.out.2.2.1, l3, H0.out.2.2.2⟩
  clear hk hown ho1 r0 r1 lR b0 b1 b2 b3 lb'
  go_wp2_with (refine wpList_store_row rfl 80 _ _ rfl q #[.int .i64 (la : Int), .slice al k c] rfl rfl 80 _ H1.out.2.2.2.1 (by kernel_rfl) rfl (by simp [Value.oneCell']) ?_)
  refine bodyPost_ret (v := .agg #[.int .i64 (la : Int), .slice al k c]) (results_cell_row rfl _ _ q 80 #[.int .i64 (la : Int), .slice al k c] (0, 0) _ rfl (setRow_heap _ _ _ _ _ _ H1.out.2.2.2.1) Try.underlying80 rfl (by kernel_rfl)) rfl ⟨al, k, c, rfl, H1.out.1, ?_, H1.out.2.2.1.setRowNew H1.out.2.2.2.2.1 _⟩
  exact own_base2 (own_stay H1.out.2.1 (Only.setRow w1 q _) (fun g hg he => own_ne H1.out.2.1 H1.out.2.2.2.1 (by decide) (by rw [← he]; exact hg))) H1.out.2.2.2.2.2.size
end Go.Proofs.Yteejgjapghccnaa
