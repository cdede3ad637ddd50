/-
  place's Make: a text's lines as a map.
-/
import Derived.Test.YteejgjapghccnaaYi
import Derived.Laws.MakeOwn
namespace Go.Proofs.Yteejgjapghccnaa
open Go.RowKit Go.Maps
set_option linter.unusedVariables false
set_option linter.unusedSimpArgs false
theorem wp_make_full {P : Program} (w : World) {o : Oper} {a : Act} {K : Act → World → Prop} {Q : Exit → Act → World → Prop}
    (l c : Operand) (t : TypeId) (hop : o.op = Op.makeSlice t l c)
    (base : Nat) (e : TypeId) (i : TypeInfo) (z : Value) (size : Nat) (h1 : P.underlying t = some (.slice e)) (h2 : P.info? e = some i) (h3 : i.zero = some z) (h4 : i.size = size)
    (kl kc : IntKind) (L C : Int) (n : Nat) (hl : a.eval l = .int kl L) (hc : a.eval c = .int kc C) (hL : L = (n : Int)) (hC : C = (n : Int)) (b2 : i.bytes * n ≤ 281474976710656) (b3 : n ≤ maxLen) (b4 : base ≤ w.heap.size)
    (hK : ∀ w', w'.ownsRow base e size (.slice (some ⟨w.heap.size, 0, none⟩) n n) n (madeCells z.cells (n * size)).toList → w.grownBy w' none → K (a.put o.dst (.slice (some ⟨w.heap.size, 0, none⟩) n n)) w') :
    Oper.wp P o a w K Q := by
  obtain ⟨w', hrun, r1, r2⟩ := run_make_full (P := P) w base t e i z size h1 h2 h3 h4 kl kc n b2 b3 b4
  subst hL
  subst hC
  unfold Oper.wp
  simp [execOp, hop, hl, hc, hrun, Result.andThen]
  exact hK w' r1 r2
/-- rows in a block, while they are made. -/
def Rb (W : World) (rb : Nat) (R : List Rw) : Prop := W.heap[rb]? = some (.cells (rwC R).toArray 80 (0, 0))
theorem rwC_set : ∀ (R : List Rw) (i : Nat) (x : Rw), i < R.length → ((rwC R).set (i * 2) (.int .i64 (x.a : Int))).set (i * 2 + 1) (.slice x.al x.n x.c) = rwC (R.set i x)
  | [], i, x, h => by simp at h
  | y :: R, 0, x, h => rfl
  | y :: R, i + 1, x, h => by
    have e : rwC (y :: R) = .int .i64 (y.a : Int) :: .slice y.al y.n y.c :: rwC R := rfl
    have ih := rwC_set R i x (by simpa using h)
    rw [e, show (i + 1) * 2 = i * 2 + 1 + 1 by omega, List.set_cons_succ, List.set_cons_succ, List.set_cons_succ, List.set_cons_succ, ih]
    rfl
theorem Rb.set {W : World} {rb : Nat} {R : List Rw} (h : Rb W rb R) {i : Nat} (hi : i < R.length) (x : Rw) : Rb ((W.setCell ⟨rb, i * 2, none⟩ (.int .i64 (x.a : Int))).setCell ⟨rb, i * 2 + 1, none⟩ (.slice x.al x.n x.c)) rb (R.set i x) := by
  unfold Rb
  rw [heap_setCell_at (heap_setCell_at h _) _, ← rwC_set R i x hi]
  simp
theorem Rb.cells {W : World} {rb : Nat} {R : List Rw} (h : Rb W rb R) {i : Nat} {x : Rw} (hi : R[i]? = some x) : W.cell? ⟨rb, i * 2, none⟩ = some (.int .i64 (x.a : Int)) ∧ W.cell? ⟨rb, i * 2 + 1, none⟩ = some (.slice x.al x.n x.c) := by
  obtain ⟨q0, q1⟩ := rwC_at R i x hi
  refine ⟨?_, ?_⟩
  · rw [cell_blk h, List.getElem?_toArray]; exact q0
  · rw [cell_blk h, List.getElem?_toArray]; exact q1
theorem Rb.keep {W W' : World} {rb : Nat} {R : List Rw} (h : Rb W rb R) (ho : Only (fun _ => False) W W') : Rb W' rb R := blk_keep ho h
theorem rwC_rep : ∀ (N j : Nat), (rwC (List.replicate N ⟨0, none, 0, 0⟩))[j]? = if j < N * 2 then some (if j % 2 = 0 then .int .i64 0 else .slice none 0 0) else none
  | 0, j => by
    rw [if_neg (by omega)]
    rfl
  | N + 1, j => by
    have e : rwC (List.replicate (N + 1) ⟨0, none, 0, 0⟩) = .int .i64 0 :: .slice none 0 0 :: rwC (List.replicate N ⟨0, none, 0, 0⟩) := rfl
    rw [e]
    rcases j with _ | _ | j
    · rw [if_pos (by omega)]
      rfl
    · rw [if_pos (by omega)]
      rfl
    · rw [List.getElem?_cons_succ, List.getElem?_cons_succ, rwC_rep N j]
      by_cases h : j < N * 2
      · rw [if_pos h, if_pos (show j + 1 + 1 < (N + 1) * 2 by omega), show (j + 1 + 1) % 2 = j % 2 by omega]
      · rw [if_neg h, if_neg (show ¬ j + 1 + 1 < (N + 1) * 2 by omega)]
theorem Rb.made {W : World} {base rb N : Nat} (h : W.ownsRow base 80 2 (.slice (some ⟨rb, 0, none⟩) N N) N (madeCells #[.int .i64 0, .slice none 0 0] (N * 2)).toList) : Rb W rb (List.replicate N ⟨0, none, 0, 0⟩) ∧ base ≤ rb := by
  obtain ⟨hl, ⟨hv, h0⟩ | ⟨g, cap, cur, hv, h1, h2, h3, h4, h5, h6⟩⟩ := h
  · cases hv
  · injection hv with e1 e2 e3
    injection e1 with e1
    injection e1 with e1
    subst e1
    subst e3
    refine ⟨?_, h1⟩
    unfold Rb
    rw [h2]
    congr 2
    have hs : cur.toList.length = N * 2 := by rw [Array.length_toList, h5]
    rw [List.take_of_length_le (by omega)] at h6
    have h7 : cur = madeCells #[.int .i64 0, .slice none 0 0] (N * 2) := by
      apply Array.ext'
      exact h6
    rw [h7]
    apply Array.ext_getElem?
    intro i
    have e9 : (rwC (List.replicate N ⟨0, none, 0, 0⟩)).toArray[i]? = if i < N * 2 then some (if i % 2 = 0 then .int .i64 0 else .slice none 0 0) else none := by
      rw [List.getElem?_toArray]
      exact rwC_rep N i
    rw [e9]
    by_cases hi : i < N * 2
    · rw [if_pos hi, Array.getElem?_eq_getElem (by rw [size_madeCells]; exact hi)]
      simp only [madeCells, Array.getElem_map, Array.getElem_range]
      rcases (show i % 2 = 0 ∨ i % 2 = 1 by omega) with q | q
      · rw [if_pos q]; simp [q]
      · rw [if_neg (by omega)]; simp [q]
    · rw [if_neg hi, Array.getElem?_eq_none (by rw [size_madeCells]; omega)]
/-- what holds while rows are made. -/
structure MkInv (W Y : World) (C : List Ct) (t n N : Nat) (L' : List Ln) (M rb : Nat) (aB : Option Addr) (cB i : Nat) (Rs : List Rw) (W2 : World) : Prop where
  len : Rs.length = N
  mem : Rb W2 rb Rs
  row : ∀ (j : Nat) (l : Ln) (r : Rw), j < i → L'[j]? = some l → Rs[j]? = some r → r.a = l.a ∧ r.n = l.b - l.a + 1 ∧ W2.ownsRow W.heap.size 3 1 (.slice r.al r.n r.c) r.n (natI (Sp.cols C t l.a (l.b - l.a)))
  blk : W2.heap[M]? = some (.cells #[.slice aB (n + 1) cB, .slice (some ⟨rb, 0, none⟩) N N] 75 (0, 0))
  bys : W2.ownsRow W.heap.size 3 1 (.slice aB (n + 1) cB) (n + 1) (natI (Lv.bys C))
  only : Only (fun g => g = rb) Y W2
theorem MkInv.keep {W Y : World} {C : List Ct} {t n N : Nat} {L' : List Ln} {M rb : Nat} {aB : Option Addr} {cB i : Nat} {Rs : List Rw} {W2 W3 : World} (h : MkInv W Y C t n N L' M rb aB cB i Rs W2) (ho : Only (fun _ => False) W2 W3) : MkInv W Y C t n N L' M rb aB cB i Rs W3 :=
  ⟨h.len, h.mem.keep ho, fun j l r h1 h2 h3 => ⟨(h.row j l r h1 h2 h3).1, (h.row j l r h1 h2 h3).2.1, own_only (h.row j l r h1 h2 h3).2.2 ho (fun _ _ h => h)⟩, blk_keep ho h.blk, own_only h.bys ho (fun _ _ h => h), h.only.trans (ho.mono (fun _ h => h.elim))⟩
theorem MkInv.ne {W Y : World} {C : List Ct} {t n N : Nat} {L' : List Ln} {M rb : Nat} {aB : Option Addr} {cB i : Nat} {Rs : List Rw} {W2 : World} (h : MkInv W Y C t n N L' M rb aB cB i Rs W2) : M ≠ rb := fun e => by
  have h1 := h.blk
  rw [e, show W2.heap[rb]? = _ from h.mem] at h1
  injection h1 with h1
  injection h1 with _ h2
  cases h2
theorem MkInv.step {W Y : World} {C : List Ct} {t n N : Nat} {L' : List Ln} {M rb : Nat} {aB : Option Addr} {cB i : Nat} {Rs : List Rw} {y : World} (h : MkInv W Y C t n N L' M rb aB cB i Rs y) {l : Ln} (hl : L'[i]? = some l) (hi : i < N) {al : Option Addr} {k c : Nat} (hk : k = l.b - l.a + 1) (hown : y.ownsRow W.heap.size 3 1 (.slice al k c) k (natI (Sp.cols C t l.a (l.b - l.a)))) :
    MkInv W Y C t n N L' M rb aB cB (i + 1) (Rs.set i ⟨l.a, al, k, c⟩) ((y.setCell ⟨rb, i * 2, none⟩ (.int .i64 (l.a : Int))).setCell ⟨rb, i * 2 + 1, none⟩ (.slice al k c)) := by
  have ho : Only (fun g => g = rb) y ((y.setCell ⟨rb, i * 2, none⟩ (.int .i64 (l.a : Int))).setCell ⟨rb, i * 2 + 1, none⟩ (.slice al k c)) := ((Only.refl (fun g => g = rb) y).setCell (p := ⟨rb, i * 2, none⟩) rfl _).setCell (p := ⟨rb, i * 2 + 1, none⟩) rfl _
  have stay : ∀ {v : Value} {m : Nat} {xs : List Value}, y.ownsRow W.heap.size 3 1 v m xs → ((y.setCell ⟨rb, i * 2, none⟩ (.int .i64 (l.a : Int))).setCell ⟨rb, i * 2 + 1, none⟩ (.slice al k c)).ownsRow W.heap.size 3 1 v m xs := fun hv => own_stay hv ho (fun g hg he => own_ne hv h.mem (by decide) (by rw [← he]; exact hg))
  have hiR : i < Rs.length := by rw [h.len]; exact hi
  refine ⟨by rw [List.length_set]; exact h.len, h.mem.set hiR ⟨l.a, al, k, c⟩, ?_, ?_, stay h.bys, h.only.trans ho⟩
  · intro j m r h1 h2 h3
    by_cases e : j = i
    · subst e
      rw [hl] at h2
      injection h2 with h2
      subst h2
      rw [List.getElem?_set_self hiR] at h3
      injection h3 with h3
      subst h3
      exact ⟨rfl, hk, stay hown⟩
    · rw [List.getElem?_set_ne (fun q => e q.symm)] at h3
      have q := h.row j m r (by omega) h2 h3
      exact ⟨q.1, q.2.1, stay q.2.2⟩
  · exact (ho.block M (Array.getElem?_eq_some_iff.1 h.blk).1 (fun q => h.ne q)).trans h.blk
theorem MkInv.mp {W Y : World} {C : List Ct} {t n N : Nat} {L' : List Ln} {M rb : Nat} {aB : Option Addr} {cB : Nat} {Rs : List Rw} {W2 W9 : World} (h : MkInv W Y C t n N L' M rb aB cB N Rs W2) (hn : n = C.length) (hN : N = L'.length) (hM : W.heap.size ≤ M) (hr : W.heap.size ≤ rb) (ho : Only (fun g => g < W.heap.size) W2 W9) : Mp W9 M C t L' Rs aB (some ⟨rb, 0, none⟩) cB N := by
  have stay : ∀ {v : Value} {m : Nat} {xs : List Value}, W2.ownsRow W.heap.size 3 1 v m xs → W9.ownsRow W.heap.size 3 1 v m xs := fun hv => own_stay hv ho (fun g hg he => by have := (own_own hv hg).1; omega)
  have far : ∀ {b : Nat} {o : Obj}, W2.heap[b]? = some o → W.heap.size ≤ b → W9.heap[b]? = some o := fun {b} {o} hb hl => (ho.block b (Array.getElem?_eq_some_iff.1 hb).1 (by omega)).trans hb
  have hrb : Rb W9 rb Rs := far h.mem hr
  refine ⟨by rw [← hn, ← hN]; exact far h.blk hM, own_vw (stay h.bys), vw_blk hrb, by rw [h.len, hN], fun i l r h1 h2 => ?_⟩
  have q := h.row i l r (by rw [hN]; exact (List.getElem?_eq_some_iff.1 h1).1) h1 h2
  exact ⟨q.1, q.2.1, own_vw (stay q.2.2)⟩
theorem infoRow : (Try.prog.info? 80).map (fun i => (i.zero, i.size, i.bytes)) = some (some (.agg #[.int .i64 0, .slice none 0 0]), 2, 32) := by kernel_rfl
set_option maxRecDepth 100000 in
set_option maxHeartbeats 8000000 in
theorem make_far (C : List Ct) (O : List Nat) (n m : Nat) (aC aO : Option Addr) (cC cO t : Nat) (L : List Ln) (nl : Nat) (al : Option Addr) (cl : Nat) (w : World) (hP : Pv w C O n m aC aO cC cO) (hC : Lv.Ctg C) (hs : It.sum C ≤ 1000000) (hR : Lv.Chn 0 n L) (hV : Vw w al (lnC L)) (hnl : nl = L.length) (hfew : n ≤ 1000) (h0 : 0 < t) (ht : t ≤ 1000) :
    Calls Try.prog 19 #[.agg #[.slice aC n cC, .slice aO m cO], .slice al nl cl, .int .i64 (t : Int)] w fun e w' => ∃ M, e = .returned (.pointer (some ⟨M, 0, none⟩)) ∧ (∀ W', Only (fun g => g < w.heap.size) w' W' → Mpp W' M n C t (Lv.rof L)) ∧ Only (fun _ => False) w w' := by
  obtain ⟨i3, g3, g30, g31, g32⟩ := info_parts infoRow
  obtain ⟨i4, f3, f30, f31, f32⟩ := info_parts infoLn
  have hrws := Lv.rws_rof hR
  obtain ⟨L', hL'⟩ : ∃ x, x = Lv.rof L := ⟨_, rfl⟩
  obtain ⟨N, hN⟩ : ∃ x, x = L'.length := ⟨_, rfl⟩
  rw [← hL'] at hrws
  have hNl := rlen hrws
  rw [← hN] at hNl
  obtain ⟨hN0, hN1⟩ := hNl
  have HBG : Hid (∀ W, Only (fun _ => False) w W → Calls Try.prog 28 #[.agg #[.slice aC n cC, .slice aO m cO]] W fun e w' => ∃ al c, e = .returned (.slice al (n + 1) c) ∧ w'.ownsRow W.heap.size 3 1 (.slice al (n + 1) c) (n + 1) (natI (Lv.bys C)) ∧ Only (fun _ => False) W w') := fun W ho => begins_any C O n m aC aO cC cO W (hP.keep ho) hC hs
  have HMR : Hid (∀ W la lb lc le, Only (fun _ => False) w W → la ≤ lb → lb ≤ n → Calls Try.prog 29 #[.agg #[.slice aC n cC, .slice aO m cO], .agg #[.int .i64 ((la : Nat) : Int), .int .i64 ((lb : Nat) : Int), .int .i64 ((lc : Nat) : Int), .int .u8 ((le : Nat) : Int)], .int .i64 (t : Int)] W fun e w' => ∃ al k c, e = .returned (.agg #[.int .i64 (la : Int), .slice al k c]) ∧ k = lb - la + 1 ∧ w'.ownsRow W.heap.size 3 1 (.slice al k c) k (natI (Sp.cols C t la (lb - la))) ∧ Only (fun _ => False) W w') := fun W la lb lc le ho h1 h2 => makeRow_any C O n m aC aO cC cO t la lb lc le W (hP.keep ho) h1 h2 h0 ht
  have HL : Hid (L' = Lv.rof L ∧ N = L'.length ∧ Lv.Rws n L' ∧ nl = L.length) := ⟨hL', hN, hrws, hnl⟩
  have HV : Hid (Vw w al (lnC L)) := hV
  have HF : Hid (n = C.length ∧ Lv.Ctg C ∧ Cok C ∧ It.sum C ≤ 1000000 ∧ 0 < t ∧ t ≤ 1000) := ⟨hP.hn, hC, hP.ok, hs, h0, ht⟩
  have hnlk : nl ≤ n := by have := hR.len; omega
  rw [← hL']
  clear hP hC hs hR hV hL' hN hrws hnl
  go_enter Try.func19, Try.ntmps19
  go_upto_region 1 with fail
  obtain ⟨R, w0, hw0, hR, H0, r0, r1, lR⟩ := box2 w (.slice aC n cC) (.slice aO m cO) 31
  rw [hw0, hR]
  have HW0 : Hid (w0.heap[R]? = some (.cells #[.slice aC n cC, .slice aO m cO] 31 (0, 0)) ∧ Only (fun _ => False) w w0) := H0.out
  clear hw0 hR H0
  have HSS : Hid (∀ W', Only (fun _ => False) w0 W' → (W'.cell? ⟨R, 0, none⟩ = some (.slice aC n cC) ∧ W'.cell? ⟨R, 1, none⟩ = some (.slice aO m cO))) := fun W' ho => ⟨(blk_two (blk_keep ho HW0.out.1)).1, (blk_two (blk_keep ho HW0.out.1)).2.1⟩
  have HLR : Hid (∀ W', Only (fun _ => False) w0 W' → R < W'.heap.size) := fun W' ho => (blk_two (blk_keep ho HW0.out.1)).2.2
  have hNm : N ≤ 1001 := by omega
  by_cases hz : nl = 0
  · have t1 : ((nl : Int) == 0) = true := by rw [beq_iff_eq]; omega
    have hL0 : L = [] := List.eq_nil_of_length_eq_zero (by rw [← HL.out.2.2.2]; exact hz)
    have HL1 : Hid (L' = [⟨0, 0, 0, 0⟩] ∧ N = 1) := by
      have e := HL.out.1
      rw [hL0] at e
      exact ⟨e, by rw [HL.out.2.1, e]; rfl⟩
    have hNz : N ≤ 1 := Nat.le_of_eq HL1.out.2
    clear hz hL0
    go_upto_region 3 with (refine wpList_make_full _ rfl _ _ 32 rfl w0.heap.size 59 i4 (.agg #[.int .i64 0, .int .i64 0, .int .i64 0, .int .u8 0]) 4 Try.underlying32 f3 f30 f31 .i64 .i64 _ _ N rfl rfl (by omega) (by omega) (by rw [f32]; omega) (by unfold maxLen; omega) (Nat.le_refl _) ?_; intro W hown1 hg1)
    have H1 : Hid (Vw W (some ⟨w0.heap.size, 0, none⟩) (lnC L') ∧ Only (fun _ => False) w0 W ∧ Only (fun _ => False) w W) := by
      have ho : Only (fun _ => False) w0 W := (Only.refl _ _).grown hg1 (fun k h => by cases h)
      refine ⟨?_, ho, HW0.out.2.trans ho⟩
      have h := own_vw hown1
      have e : (madeCells (Value.agg #[.int .i64 0, .int .i64 0, .int .i64 0, .int .u8 0]).cells (1 * 4)).toList = lnC [⟨0, 0, 0, 0⟩] := by kernel_rfl
      rw [HL1.out.2, e] at h
      rw [HL1.out.1]
      exact h
    clear hown1 hg1 hNz HL1
    obtain ⟨a1, ha1⟩ : ∃ x, x = some (⟨w0.heap.size, 0, none⟩ : Addr) := ⟨_, rfl⟩
    obtain ⟨c1, hc1⟩ : ∃ x, x = N := ⟨_, rfl⟩
    rw [← ha1] at H1 ⊢
    clear ha1 hc1 r0 r1 lR
    go_cut [7] from 14 to 20 (fun v7 wr => ∃ (M rb : Nat) (aB : Option Addr) (cB : Nat) (Y : World), Y = wr ∧ v7 = .pointer (some ⟨M, 0, none⟩) ∧ Y.heap[M]? = some (.cells #[.slice aB (n + 1) cB, .slice (some ⟨rb, 0, none⟩) N N] 75 (0, 0)) ∧ Y.ownsRow W.heap.size 3 1 (.slice aB (n + 1) cB) (n + 1) (natI (Lv.bys C)) ∧ Rb Y rb (List.replicate N ⟨0, none, 0, 0⟩) ∧ W.heap.size ≤ rb ∧ W.heap.size ≤ M ∧ Only (fun _ => False) W Y)
    case first =>
      have HXD : Hid (Only (fun _ => False) W W.drew) := (Only.refl _ _).drew
      refine wp_region_held_drew (S := (fun W' => (W'.cell? ⟨R, 0, none⟩ = some (.slice aC n cC) ∧ W'.cell? ⟨R, 1, none⟩ = some (.slice aO m cO)))) (by kernel_rfl) (HSS.out _ (H1.out.2.1.trans HXD.out)) (fun hHeld => ?_)
      refine wpAnyH_take (i := 0) (oi := { dst := some 14, op := _, type := _, pos := _, after := _, guard := _ }) (v := .agg #[.slice aC n cC, .slice aO m cO]) rfl (by kernel_rfl) (by kernel_rfl) (by kernel_rfl) (fun _ _ _ h => h) (Or.inl ⟨by rfl, fun w hSw => by obtain ⟨y0, y1⟩ := hSw; first | (go_simp; done) | go_simp⟩) (by assumption) ?_
      (try simp only [Act.put, List.setIfInBounds_toArray, List.set_cons_zero, List.set_cons_succ])
      refine wpAnyH_take (i := 2) (oi := { dst := some 16, op := _, type := _, pos := _, after := _, guard := _ }) (v := .slice a1 N N) rfl (by kernel_rfl) (by kernel_rfl) (by kernel_rfl) (fun _ _ _ h => h) (Or.inl ⟨by rfl, fun w hSw => by obtain ⟨y0, y1⟩ := hSw; first | (go_simp; done) | go_simp⟩) (by assumption) ?_
      (try simp only [Act.put, List.setIfInBounds_toArray, List.set_cons_zero, List.set_cons_succ])
      refine wpAnyH_take (i := 3) (oi := { dst := some 17, op := _, type := _, pos := _, after := _, guard := _ }) (v := .int .i64 (N : Int)) rfl (by kernel_rfl) (by kernel_rfl) (by kernel_rfl) (fun _ _ _ h => h) (Or.inl ⟨by rfl, fun w hSw => by obtain ⟨y0, y1⟩ := hSw; first | (go_simp; done) | go_simp⟩) (by assumption) ?_
      (try simp only [Act.put, List.setIfInBounds_toArray, List.set_cons_zero, List.set_cons_succ])
      refine wpAnyH_ready (rs := [1, 4]) (by kernel_rfl) (by simp) ?_
      refine AllReadyH.cons rfl (fun K hK => ?_) (AllReadyH.cons rfl (fun K hK => ?_) AllReadyH.nil)
      · rw [if_pos (by rfl)]
        go_simp
        refine Calls.mono (HBG.out _ (H1.out.2.2.trans HXD.out)) ?_
        rintro e y1 ⟨aB, cB, rfl, hownB, hoY⟩
        have HXy1 : Hid (Only (fun _ => False) W y1) := HXD.out.trans hoY
        have HOy1 : Hid (y1.ownsRow W.heap.size 3 1 (.slice aB (n + 1) cB) (n + 1) (natI (Lv.bys C))) := own_base2 hownB HXD.out.size
        clear hownB hoY
        refine hK.out _ _ (HSS.out _ (H1.out.2.1.trans HXy1.out)) (fun hHeld => ?_)
        clear hK
        (try simp only [Act.put, List.setIfInBounds_toArray, List.set_cons_zero, List.set_cons_succ])
        refine wpAnyH_ready (rs := [4]) (by kernel_rfl) (by simp) ?_
        refine AllReadyH.cons rfl (fun K hK => ?_) AllReadyH.nil
        rw [if_pos (by rfl)]
        refine wp_make_full _ _ _ 73 rfl W.heap.size 80 i3 (.agg #[.int .i64 0, .slice none 0 0]) 2 Try.underlying73 g3 g30 g31 .i64 .i64 _ _ N rfl rfl rfl rfl (by rw [g32]; omega) (by unfold maxLen; omega) HXy1.out.size ?_
        intro y2 hownR hgR
        have hoY : Only (fun _ => False) y1 y2 := (Only.refl _ _).grown hgR (fun k h => by cases h)
        have HXy2 : Hid (Only (fun _ => False) W y2) := HXy1.out.trans hoY
        obtain ⟨rb, hrb⟩ : ∃ x, x = y1.heap.size := ⟨_, rfl⟩
        rw [← hrb] at hownR ⊢
        have HRy2 : Hid (Rb y2 rb (List.replicate N ⟨0, none, 0, 0⟩) ∧ W.heap.size ≤ rb) := Rb.made hownR
        have HOy2 : Hid (y2.ownsRow W.heap.size 3 1 (.slice aB (n + 1) cB) (n + 1) (natI (Lv.bys C))) := own_only HOy1.out hoY (fun _ _ h => h)
        clear hownR hgR hoY hrb
        refine hK.out _ _ (HSS.out _ (H1.out.2.1.trans HXy2.out)) (fun hHeld => ?_)
        clear hK
        (try simp only [Act.put, List.setIfInBounds_toArray, List.set_cons_zero, List.set_cons_succ])
        refine wpAnyH_take (i := 5) (oi := { dst := some 19, op := _, type := _, pos := _, after := _, guard := _ }) (v := .agg #[.slice aB (n + 1) cB, .slice (some ⟨rb, 0, none⟩) N N]) rfl (by kernel_rfl) (by kernel_rfl) (by kernel_rfl) (fun _ _ _ h => h) (Or.inl ⟨by rfl, fun w hSw => by obtain ⟨y0, y1⟩ := hSw; first | (go_simp; done) | go_simp⟩) (by assumption) ?_
        (try simp only [Act.put, List.setIfInBounds_toArray, List.set_cons_zero, List.set_cons_succ])
        refine wpAnyH_ready (rs := [6]) (by kernel_rfl) (by simp) ?_
        refine AllReadyH.cons rfl (fun K hK => ?_) AllReadyH.nil
        rw [if_pos (by rfl)]
        go_simp
        obtain ⟨z, M, hz, hM, HZ⟩ : ∃ z M, z = y2.alloc (.cells #[.slice aB (n + 1) cB, .slice (some ⟨rb, 0, none⟩) N N] 75) ∧ M = y2.heap.size ∧ Hid (z.heap[M]? = some (.cells #[.slice aB (n + 1) cB, .slice (some ⟨rb, 0, none⟩) N N] 75 (0, 0)) ∧ Only (fun _ => False) y2 z) := ⟨_, _, rfl, rfl, ⟨heap_alloc_new _ _, (Only.refl _ _).alloc _⟩⟩
        have HMS : Hid (W.heap.size ≤ M) := by rw [hM]; exact HXy2.out.size
        rw [← hz, ← hM]
        clear hz hM
        refine hK.out _ _ (HSS.out _ (H1.out.2.1.trans (HXy2.out.trans HZ.out.2))) (fun hHeld => ?_)
        clear hK
        (try simp only [Act.put, List.setIfInBounds_toArray, List.set_cons_zero, List.set_cons_succ])
        refine wpAnyH_take (i := 7) (oi := { dst := some 7, op := _, type := _, pos := _, after := _, guard := _ }) (v := .pointer (some ⟨M, 0, none⟩)) rfl (by kernel_rfl) (by kernel_rfl) (by kernel_rfl) (fun _ _ _ h => h) (Or.inl ⟨by rfl, fun w hSw => by obtain ⟨y0, y1⟩ := hSw; first | (go_simp; done) | go_simp⟩) (by assumption) ?_
        (try simp only [Act.put, List.setIfInBounds_toArray, List.set_cons_zero, List.set_cons_succ])
        refine wpAnyH_done (by kernel_rfl) ?_ _
        clear hHeld
        go_wp2_with fail
        go_meet
        exact ⟨M, rb, aB, cB, _, rfl, rfl, HZ.out.1, own_only HOy2.out HZ.out.2 (fun _ _ h => h), HRy2.out.1.keep HZ.out.2, HRy2.out.2, HMS.out, HXy2.out.trans HZ.out.2⟩
      · rw [if_pos (by rfl)]
        refine wp_make_full _ _ _ 73 rfl W.heap.size 80 i3 (.agg #[.int .i64 0, .slice none 0 0]) 2 Try.underlying73 g3 g30 g31 .i64 .i64 _ _ N rfl rfl rfl rfl (by rw [g32]; omega) (by unfold maxLen; omega) HXD.out.size ?_
        intro y1 hownR hgR
        have hoY : Only (fun _ => False) W.drew y1 := (Only.refl _ _).grown hgR (fun k h => by cases h)
        have HXy1 : Hid (Only (fun _ => False) W y1) := HXD.out.trans hoY
        obtain ⟨rb, hrb⟩ : ∃ x, x = W.drew.heap.size := ⟨_, rfl⟩
        rw [← hrb] at hownR ⊢
        have HRy1 : Hid (Rb y1 rb (List.replicate N ⟨0, none, 0, 0⟩) ∧ W.heap.size ≤ rb) := Rb.made hownR
        clear hownR hgR hoY hrb
        refine hK.out _ _ (HSS.out _ (H1.out.2.1.trans HXy1.out)) (fun hHeld => ?_)
        clear hK
        (try simp only [Act.put, List.setIfInBounds_toArray, List.set_cons_zero, List.set_cons_succ])
        refine wpAnyH_ready (rs := [1]) (by kernel_rfl) (by simp) ?_
        refine AllReadyH.cons rfl (fun K hK => ?_) AllReadyH.nil
        rw [if_pos (by rfl)]
        go_simp
        refine Calls.mono (HBG.out _ (H1.out.2.2.trans HXy1.out)) ?_
        rintro e y2 ⟨aB, cB, rfl, hownB, hoY⟩
        have HXy2 : Hid (Only (fun _ => False) W y2) := HXy1.out.trans hoY
        have HOy2 : Hid (y2.ownsRow W.heap.size 3 1 (.slice aB (n + 1) cB) (n + 1) (natI (Lv.bys C))) := own_base2 hownB HXy1.out.size
        have HRy2 : Hid (Rb y2 rb (List.replicate N ⟨0, none, 0, 0⟩) ∧ W.heap.size ≤ rb) := ⟨HRy1.out.1.keep hoY, HRy1.out.2⟩
        clear hownB hoY
        refine hK.out _ _ (HSS.out _ (H1.out.2.1.trans HXy2.out)) (fun hHeld => ?_)
        clear hK
        (try simp only [Act.put, List.setIfInBounds_toArray, List.set_cons_zero, List.set_cons_succ])
        refine wpAnyH_take (i := 5) (oi := { dst := some 19, op := _, type := _, pos := _, after := _, guard := _ }) (v := .agg #[.slice aB (n + 1) cB, .slice (some ⟨rb, 0, none⟩) N N]) rfl (by kernel_rfl) (by kernel_rfl) (by kernel_rfl) (fun _ _ _ h => h) (Or.inl ⟨by rfl, fun w hSw => by obtain ⟨y0, y1⟩ := hSw; first | (go_simp; done) | go_simp⟩) (by assumption) ?_
        (try simp only [Act.put, List.setIfInBounds_toArray, List.set_cons_zero, List.set_cons_succ])
        refine wpAnyH_ready (rs := [6]) (by kernel_rfl) (by simp) ?_
        refine AllReadyH.cons rfl (fun K hK => ?_) AllReadyH.nil
        rw [if_pos (by rfl)]
        go_simp
        obtain ⟨z, M, hz, hM, HZ⟩ : ∃ z M, z = y2.alloc (.cells #[.slice aB (n + 1) cB, .slice (some ⟨rb, 0, none⟩) N N] 75) ∧ M = y2.heap.size ∧ Hid (z.heap[M]? = some (.cells #[.slice aB (n + 1) cB, .slice (some ⟨rb, 0, none⟩) N N] 75 (0, 0)) ∧ Only (fun _ => False) y2 z) := ⟨_, _, rfl, rfl, ⟨heap_alloc_new _ _, (Only.refl _ _).alloc _⟩⟩
        have HMS : Hid (W.heap.size ≤ M) := by rw [hM]; exact HXy2.out.size
        rw [← hz, ← hM]
        clear hz hM
        refine hK.out _ _ (HSS.out _ (H1.out.2.1.trans (HXy2.out.trans HZ.out.2))) (fun hHeld => ?_)
        clear hK
        (try simp only [Act.put, List.setIfInBounds_toArray, List.set_cons_zero, List.set_cons_succ])
        refine wpAnyH_take (i := 7) (oi := { dst := some 7, op := _, type := _, pos := _, after := _, guard := _ }) (v := .pointer (some ⟨M, 0, none⟩)) rfl (by kernel_rfl) (by kernel_rfl) (by kernel_rfl) (fun _ _ _ h => h) (Or.inl ⟨by rfl, fun w hSw => by obtain ⟨y0, y1⟩ := hSw; first | (go_simp; done) | go_simp⟩) (by assumption) ?_
        (try simp only [Act.put, List.setIfInBounds_toArray, List.set_cons_zero, List.set_cons_succ])
        refine wpAnyH_done (by kernel_rfl) ?_ _
        clear hHeld
        go_wp2_with fail
        go_meet
        exact ⟨M, rb, aB, cB, _, rfl, rfl, HZ.out.1, own_only HOy2.out HZ.out.2 (fun _ _ h => h), HRy2.out.1.keep HZ.out.2, HRy2.out.2, HMS.out, HXy2.out.trans HZ.out.2⟩
    case rest =>
      obtain ⟨M, rb, aB, cB, Y, hY, rfl, hM, hB, hRb, hrb, hMs, hoY⟩ := hcut
      subst hY
      have HMS : Hid (W.heap.size ≤ M) := hMs
      clear hMs
      have HY : Hid (Y.heap[M]? = some (.cells #[.slice aB (n + 1) cB, .slice (some ⟨rb, 0, none⟩) N N] 75 (0, 0)) ∧ Y.ownsRow W.heap.size 3 1 (.slice aB (n + 1) cB) (n + 1) (natI (Lv.bys C)) ∧ Rb Y rb (List.replicate N ⟨0, none, 0, 0⟩) ∧ W.heap.size ≤ rb ∧ Only (fun _ => False) W Y) := ⟨hM, hB, hRb, hrb, hoY⟩
      have HS2 : Hid (∀ W', Only (fun g => g = rb) Y W' → Only (fun _ => False) W W') := fun W' ho => ((HY.out.2.2.2.2.mono (fun _ h => h.elim)).trans ho).old (fun b hb => Or.inl (by rw [hb]; exact HY.out.2.2.2.1))
      clear hM hB hRb hrb hoY
      go_wp2_with fail
      go_loopg [23] N (fun gh v23 wr => ∃ (i : Nat) (Rs : List Rw) (W2 : World), W2 = wr ∧ gh = N - i ∧ i ≤ N ∧ v23 = .int .i64 (i : Int) ∧ MkInv W Y C t n N L' M rb aB cB i Rs W2)
      case atStart => exact ⟨0, List.replicate N ⟨0, none, 0, 0⟩, _, rfl, rfl, Nat.zero_le _, rfl, ⟨List.length_replicate, HY.out.2.2.1, fun j l r h => absurd h (Nat.not_lt_zero _), HY.out.1, HY.out.2.1, Only.refl _ _⟩⟩
      case round =>
        obtain ⟨i, Rs, W2, hW2, rfl, hi, rfl, hinv⟩ := hrel
        subst hW2
        have HI : Hid (MkInv W Y C t n N L' M rb aB cB i Rs W2) := hinv
        have hrbl : rb < W2.heap.size := (Array.getElem?_eq_some_iff.1 hinv.mem).1
        clear hinv
        by_cases hlt : i < N
        · have t1 : (i : Int) < (N : Int) := by omega
          obtain ⟨l, hl⟩ : ∃ l, L'[i]? = some l := ⟨_, List.getElem?_eq_getElem (by rw [← HL.out.2.1]; exact hlt)⟩
          have hat := HL.out.2.2.1.at hl
          obtain ⟨bl, ol, e0, hbl, c0, c1', c2, c3⟩ := (H1.out.1.keep (HS2.out W2 HI.out.only)).line hl
          obtain ⟨la, lb, lc, le⟩ := l
          simp only at c0 c1' c2 c3 hat
          have hat1 := hat.1
          have hat2 := hat.2.1
          have HLN : Hid (L'[i]? = some ⟨la, lb, lc, le⟩) := hl
          subst e0
          clear hat hl
          go_upto_region 7 with fail
          obtain ⟨lk, W3, hW3, hlk, H3, -⟩ := box4 W2 (.int .i64 (la : Int)) (.int .i64 (lb : Int)) (.int .i64 (lc : Int)) (.int .u8 (le : Int)) 59
          rw [hW3, hlk]
          have hlkr : rb < lk := by omega
          clear hW3 hlk c0 c1' c2 c3 hbl
          have HM1 : Hid (M ≠ rb) := HI.out.ne
          have HR1 : Hid (R ≠ rb) := fun e => by
            have h1 := HLR.out w0 (Only.refl _ _)
            have h2 := H1.out.2.1.size
            have h3 := HY.out.2.2.2.1
            omega
          have HW3 : Hid (Only (fun g => g = rb) Y W3 ∧ Only (fun _ => False) W2 W3) := ⟨HI.out.only.trans (H3.out.2.1.mono (fun _ h => h.elim)), H3.out.2.1⟩
          have HK : Hid (∀ W', Only (fun g => g = rb) W3 W' → ((W'.cell? ⟨R, 0, none⟩ = some (.slice aC n cC) ∧ W'.cell? ⟨R, 1, none⟩ = some (.slice aO m cO)) ∧ W'.cell? ⟨M, 1, none⟩ = some (.slice (some ⟨rb, 0, none⟩) N N) ∧ (W'.cell? ⟨lk, 0, none⟩ = some (.int .i64 (la : Int)) ∧ W'.cell? ⟨lk, 1, none⟩ = some (.int .i64 (lb : Int)) ∧ W'.cell? ⟨lk, 2, none⟩ = some (.int .i64 (lc : Int)) ∧ W'.cell? ⟨lk, 3, none⟩ = some (.int .u8 (le : Int))))) := fun W' ho => by
            have h2 := HSS.out W' (H1.out.2.1.trans (HS2.out W' (HW3.out.1.trans ho)))
            have hm := (ho.block M (Nat.lt_of_lt_of_le (Array.getElem?_eq_some_iff.1 HI.out.blk).1 HW3.out.2.size) (fun h => HM1.out h)).trans (blk_keep HW3.out.2 HI.out.blk)
            have hl := (ho.block lk (Array.getElem?_eq_some_iff.1 H3.out.1).1 (by omega)).trans H3.out.1
            exact ⟨h2, (blk_two hm).2.1, blk_four hl⟩
          have HKL : Hid (∀ W', Only (fun g => g = rb) W3 W' → R < W'.heap.size ∧ M < W'.heap.size ∧ lk < W'.heap.size) := fun W' ho => ⟨HLR.out W' (H1.out.2.1.trans (HS2.out W' (HW3.out.1.trans ho))), Nat.lt_of_lt_of_le (Array.getElem?_eq_some_iff.1 HI.out.blk).1 (Nat.le_trans HW3.out.2.size ho.size), Nat.lt_of_lt_of_le (Array.getElem?_eq_some_iff.1 H3.out.1).1 ho.size⟩
          obtain ⟨⟨r0, r1⟩, m1, k0, k1, k2, k3⟩ := HK.out W3 (Only.refl _ _)
          obtain ⟨lR, lM, llk⟩ := HKL.out W3 (Only.refl _ _)
          have HWM : Hid (Only (fun _ => False) w W3) := H1.out.2.2.trans (HS2.out W3 HW3.out.1)
          go_region_held3 (fun W' => ((W'.cell? ⟨R, 0, none⟩ = some (.slice aC n cC) ∧ W'.cell? ⟨R, 1, none⟩ = some (.slice aO m cO)) ∧ W'.cell? ⟨M, 1, none⟩ = some (.slice (some ⟨rb, 0, none⟩) N N) ∧ (W'.cell? ⟨lk, 0, none⟩ = some (.int .i64 (la : Int)) ∧ W'.cell? ⟨lk, 1, none⟩ = some (.int .i64 (lb : Int)) ∧ W'.cell? ⟨lk, 2, none⟩ = some (.int .i64 (lc : Int)) ∧ W'.cell? ⟨lk, 3, none⟩ = some (.int .u8 (le : Int))))) ((first | exact HK.out _ (Only.refl _ _).drew | exact HK.out _ HQ.out.2.2.2 | exact HK.out _ ((HQ.out.2.2.2.setCell (p := ⟨rb, i * 2, none⟩) rfl _).setCell (p := ⟨rb, i * 2 + 1, none⟩) rfl _) | trace_state)) ((go_at_call 29; refine Calls.mono (HMR.out _ la lb lc le HWM.out.drew hat1 hat2) ?_; rintro e y ⟨al2, kn2, c2, rfl, hk2, hown2, ho2'⟩; have HQ : Hid (kn2 = lb - la + 1 ∧ y.ownsRow W.heap.size 3 1 (.slice al2 kn2 c2) kn2 (natI (Sp.cols C t la (lb - la))) ∧ Only (fun _ => False) W3 y ∧ Only (fun g => g = rb) W3 y) := ⟨hk2, own_base2 hown2 (HS2.out W3 HW3.out.1).size, (Only.refl _ _).drew.trans ho2', ((Only.refl (fun _ => False) W3).drew.trans ho2').mono (fun _ h => h.elim)⟩; clear hk2 hown2 ho2'; have hyR : Rb y rb Rs := (HI.out.mem.keep HW3.out.2).keep HQ.out.2.2.1; obtain ⟨x0, x1⟩ := hyR.cells (i := i) (List.getElem?_eq_getElem (by rw [HI.out.len]; exact hlt)); have fx0 : y.frozen? ⟨rb, i * 2, none⟩ = false := fz_blk hyR _; have fx1 : y.frozen? ⟨rb, i * 2 + 1, none⟩ = false := fz_blk hyR _; have lx : rb < y.heap.size := (Array.getElem?_eq_some_iff.1 hyR).1; clear hyR))
          obtain ⟨z, hz⟩ : ∃ Z, Z = (y.setCell ⟨rb, i * 2, none⟩ (.int .i64 (la : Int))).setCell ⟨rb, i * 2 + 1, none⟩ (.slice al2 kn2 c2) := ⟨_, rfl⟩
          have H5 : Hid (MkInv W Y C t n N L' M rb aB cB (i + 1) (Rs.set i ⟨la, al2, kn2, c2⟩) z) := by
            rw [hz]
            exact ((HI.out.keep HW3.out.2).keep HQ.out.2.2.1).step HLN.out hlt HQ.out.1 HQ.out.2.1
          rw [← hz]
          clear hz x0 x1 fx0 fx1 lx r0 r1 m1 k0 k1 k2 k3 lR lM llk
          go_wp2_with fail
          go_roundg (N - (i + 1))
          case measure => omega
          case rel => exact ⟨i + 1, _, _, rfl, rfl, by omega, by go_num, H5.out⟩
        · have t1 : decide ((i : Int) < (N : Int)) = false := decide_eq_false (by omega)
          have hiN : i = N := by omega
          have HF2 : Hid (MkInv W Y C t n N L' M rb aB cB N Rs W2) := by
            have h := HI.out
            rw [hiN] at h
            exact h
          clear hiN
          go_wp2_with fail
          go_ret
          refine ⟨M, rfl, fun W9 ho9 => ⟨⟨Rs, _, _, _, _, HF2.out.mp HF.out.1 HL.out.2.1 HMS.out HY.out.2.2.2.1 (ho9.mono (fun g hg => Nat.lt_of_lt_of_le hg H1.out.2.2.size))⟩, HF.out.1, HF.out.2.1, HL.out.2.2.1, HF.out.2.2.1, hfew, HF.out.2.2.2.1, HF.out.2.2.2.2.1, HF.out.2.2.2.2.2⟩, H1.out.2.2.trans (HS2.out W2 HF2.out.only)⟩
  · have t1 : ((nl : Int) == 0) = false := by rw [beq_eq_false_iff_ne]; omega
    have HL1 : Hid (L' = L ∧ nl = N) := by
      have hne : L ≠ [] := fun e => hz (by rw [HL.out.2.2.2, e]; rfl)
      have e := HL.out.1.trans (Lv.rof_self hne)
      exact ⟨e, by rw [HL.out.2.1, HL.out.2.2.2, e]⟩
    clear hz
    go_upto_region 3 with fail
    have H1 : Hid (Vw w0 al (lnC L') ∧ Only (fun _ => False) w0 w0 ∧ Only (fun _ => False) w w0) := ⟨by rw [HL1.out.1]; exact HV.out.keep HW0.out.2, Only.refl _ _, HW0.out.2⟩
    obtain ⟨W, hW⟩ : ∃ x, x = w0 := ⟨_, rfl⟩
    have H1' : Hid (Vw W al (lnC L') ∧ Only (fun _ => False) w0 W ∧ Only (fun _ => False) w W) := by rw [hW]; exact H1.out
    rw [HL1.out.2, ← hW]
    clear hW r0 r1 lR
    go_cut [7] from 14 to 20 (fun v7 wr => ∃ (M rb : Nat) (aB : Option Addr) (cB : Nat) (Y : World), Y = wr ∧ v7 = .pointer (some ⟨M, 0, none⟩) ∧ Y.heap[M]? = some (.cells #[.slice aB (n + 1) cB, .slice (some ⟨rb, 0, none⟩) N N] 75 (0, 0)) ∧ Y.ownsRow W.heap.size 3 1 (.slice aB (n + 1) cB) (n + 1) (natI (Lv.bys C)) ∧ Rb Y rb (List.replicate N ⟨0, none, 0, 0⟩) ∧ W.heap.size ≤ rb ∧ W.heap.size ≤ M ∧ Only (fun _ => False) W Y)
    case first =>
      have HXD : Hid (Only (fun _ => False) W W.drew) := (Only.refl _ _).drew
      refine wp_region_held_drew (S := (fun W' => (W'.cell? ⟨R, 0, none⟩ = some (.slice aC n cC) ∧ W'.cell? ⟨R, 1, none⟩ = some (.slice aO m cO)))) (by kernel_rfl) (HSS.out _ (H1'.out.2.1.trans HXD.out)) (fun hHeld => ?_)
      refine wpAnyH_take (i := 0) (oi := { dst := some 14, op := _, type := _, pos := _, after := _, guard := _ }) (v := .agg #[.slice aC n cC, .slice aO m cO]) rfl (by kernel_rfl) (by kernel_rfl) (by kernel_rfl) (fun _ _ _ h => h) (Or.inl ⟨by rfl, fun w hSw => by obtain ⟨y0, y1⟩ := hSw; first | (go_simp; done) | go_simp⟩) (by assumption) ?_
      (try simp only [Act.put, List.setIfInBounds_toArray, List.set_cons_zero, List.set_cons_succ])
      refine wpAnyH_take (i := 2) (oi := { dst := some 16, op := _, type := _, pos := _, after := _, guard := _ }) (v := .slice al N cl) rfl (by kernel_rfl) (by kernel_rfl) (by kernel_rfl) (fun _ _ _ h => h) (Or.inl ⟨by rfl, fun w hSw => by obtain ⟨y0, y1⟩ := hSw; first | (go_simp; done) | go_simp⟩) (by assumption) ?_
      (try simp only [Act.put, List.setIfInBounds_toArray, List.set_cons_zero, List.set_cons_succ])
      refine wpAnyH_take (i := 3) (oi := { dst := some 17, op := _, type := _, pos := _, after := _, guard := _ }) (v := .int .i64 (N : Int)) rfl (by kernel_rfl) (by kernel_rfl) (by kernel_rfl) (fun _ _ _ h => h) (Or.inl ⟨by rfl, fun w hSw => by obtain ⟨y0, y1⟩ := hSw; first | (go_simp; done) | go_simp⟩) (by assumption) ?_
      (try simp only [Act.put, List.setIfInBounds_toArray, List.set_cons_zero, List.set_cons_succ])
      refine wpAnyH_ready (rs := [1, 4]) (by kernel_rfl) (by simp) ?_
      refine AllReadyH.cons rfl (fun K hK => ?_) (AllReadyH.cons rfl (fun K hK => ?_) AllReadyH.nil)
      · rw [if_pos (by rfl)]
        go_simp
        refine Calls.mono (HBG.out _ (H1'.out.2.2.trans HXD.out)) ?_
        rintro e y1 ⟨aB, cB, rfl, hownB, hoY⟩
        have HXy1 : Hid (Only (fun _ => False) W y1) := HXD.out.trans hoY
        have HOy1 : Hid (y1.ownsRow W.heap.size 3 1 (.slice aB (n + 1) cB) (n + 1) (natI (Lv.bys C))) := own_base2 hownB HXD.out.size
        clear hownB hoY
        refine hK.out _ _ (HSS.out _ (H1'.out.2.1.trans HXy1.out)) (fun hHeld => ?_)
        clear hK
        (try simp only [Act.put, List.setIfInBounds_toArray, List.set_cons_zero, List.set_cons_succ])
        refine wpAnyH_ready (rs := [4]) (by kernel_rfl) (by simp) ?_
        refine AllReadyH.cons rfl (fun K hK => ?_) AllReadyH.nil
        rw [if_pos (by rfl)]
        refine wp_make_full _ _ _ 73 rfl W.heap.size 80 i3 (.agg #[.int .i64 0, .slice none 0 0]) 2 Try.underlying73 g3 g30 g31 .i64 .i64 _ _ N rfl rfl rfl rfl (by rw [g32]; omega) (by unfold maxLen; omega) HXy1.out.size ?_
        intro y2 hownR hgR
        have hoY : Only (fun _ => False) y1 y2 := (Only.refl _ _).grown hgR (fun k h => by cases h)
        have HXy2 : Hid (Only (fun _ => False) W y2) := HXy1.out.trans hoY
        obtain ⟨rb, hrb⟩ : ∃ x, x = y1.heap.size := ⟨_, rfl⟩
        rw [← hrb] at hownR ⊢
        have HRy2 : Hid (Rb y2 rb (List.replicate N ⟨0, none, 0, 0⟩) ∧ W.heap.size ≤ rb) := Rb.made hownR
        have HOy2 : Hid (y2.ownsRow W.heap.size 3 1 (.slice aB (n + 1) cB) (n + 1) (natI (Lv.bys C))) := own_only HOy1.out hoY (fun _ _ h => h)
        clear hownR hgR hoY hrb
        refine hK.out _ _ (HSS.out _ (H1'.out.2.1.trans HXy2.out)) (fun hHeld => ?_)
        clear hK
        (try simp only [Act.put, List.setIfInBounds_toArray, List.set_cons_zero, List.set_cons_succ])
        refine wpAnyH_take (i := 5) (oi := { dst := some 19, op := _, type := _, pos := _, after := _, guard := _ }) (v := .agg #[.slice aB (n + 1) cB, .slice (some ⟨rb, 0, none⟩) N N]) rfl (by kernel_rfl) (by kernel_rfl) (by kernel_rfl) (fun _ _ _ h => h) (Or.inl ⟨by rfl, fun w hSw => by obtain ⟨y0, y1⟩ := hSw; first | (go_simp; done) | go_simp⟩) (by assumption) ?_
        (try simp only [Act.put, List.setIfInBounds_toArray, List.set_cons_zero, List.set_cons_succ])
        refine wpAnyH_ready (rs := [6]) (by kernel_rfl) (by simp) ?_
        refine AllReadyH.cons rfl (fun K hK => ?_) AllReadyH.nil
        rw [if_pos (by rfl)]
        go_simp
        obtain ⟨z, M, hz, hM, HZ⟩ : ∃ z M, z = y2.alloc (.cells #[.slice aB (n + 1) cB, .slice (some ⟨rb, 0, none⟩) N N] 75) ∧ M = y2.heap.size ∧ Hid (z.heap[M]? = some (.cells #[.slice aB (n + 1) cB, .slice (some ⟨rb, 0, none⟩) N N] 75 (0, 0)) ∧ Only (fun _ => False) y2 z) := ⟨_, _, rfl, rfl, ⟨heap_alloc_new _ _, (Only.refl _ _).alloc _⟩⟩
        have HMS : Hid (W.heap.size ≤ M) := by rw [hM]; exact HXy2.out.size
        rw [← hz, ← hM]
        clear hz hM
        refine hK.out _ _ (HSS.out _ (H1'.out.2.1.trans (HXy2.out.trans HZ.out.2))) (fun hHeld => ?_)
        clear hK
        (try simp only [Act.put, List.setIfInBounds_toArray, List.set_cons_zero, List.set_cons_succ])
        refine wpAnyH_take (i := 7) (oi := { dst := some 7, op := _, type := _, pos := _, after := _, guard := _ }) (v := .pointer (some ⟨M, 0, none⟩)) rfl (by kernel_rfl) (by kernel_rfl) (by kernel_rfl) (fun _ _ _ h => h) (Or.inl ⟨by rfl, fun w hSw => by obtain ⟨y0, y1⟩ := hSw; first | (go_simp; done) | go_simp⟩) (by assumption) ?_
        (try simp only [Act.put, List.setIfInBounds_toArray, List.set_cons_zero, List.set_cons_succ])
        refine wpAnyH_done (by kernel_rfl) ?_ _
        clear hHeld
        go_wp2_with fail
        go_meet
        exact ⟨M, rb, aB, cB, _, rfl, rfl, HZ.out.1, own_only HOy2.out HZ.out.2 (fun _ _ h => h), HRy2.out.1.keep HZ.out.2, HRy2.out.2, HMS.out, HXy2.out.trans HZ.out.2⟩
      · rw [if_pos (by rfl)]
        refine wp_make_full _ _ _ 73 rfl W.heap.size 80 i3 (.agg #[.int .i64 0, .slice none 0 0]) 2 Try.underlying73 g3 g30 g31 .i64 .i64 _ _ N rfl rfl rfl rfl (by rw [g32]; omega) (by unfold maxLen; omega) HXD.out.size ?_
        intro y1 hownR hgR
        have hoY : Only (fun _ => False) W.drew y1 := (Only.refl _ _).grown hgR (fun k h => by cases h)
        have HXy1 : Hid (Only (fun _ => False) W y1) := HXD.out.trans hoY
        obtain ⟨rb, hrb⟩ : ∃ x, x = W.drew.heap.size := ⟨_, rfl⟩
        rw [← hrb] at hownR ⊢
        have HRy1 : Hid (Rb y1 rb (List.replicate N ⟨0, none, 0, 0⟩) ∧ W.heap.size ≤ rb) := Rb.made hownR
        clear hownR hgR hoY hrb
        refine hK.out _ _ (HSS.out _ (H1'.out.2.1.trans HXy1.out)) (fun hHeld => ?_)
        clear hK
        (try simp only [Act.put, List.setIfInBounds_toArray, List.set_cons_zero, List.set_cons_succ])
        refine wpAnyH_ready (rs := [1]) (by kernel_rfl) (by simp) ?_
        refine AllReadyH.cons rfl (fun K hK => ?_) AllReadyH.nil
        rw [if_pos (by rfl)]
        go_simp
        refine Calls.mono (HBG.out _ (H1'.out.2.2.trans HXy1.out)) ?_
        rintro e y2 ⟨aB, cB, rfl, hownB, hoY⟩
        have HXy2 : Hid (Only (fun _ => False) W y2) := HXy1.out.trans hoY
        have HOy2 : Hid (y2.ownsRow W.heap.size 3 1 (.slice aB (n + 1) cB) (n + 1) (natI (Lv.bys C))) := own_base2 hownB HXy1.out.size
        have HRy2 : Hid (Rb y2 rb (List.replicate N ⟨0, none, 0, 0⟩) ∧ W.heap.size ≤ rb) := ⟨HRy1.out.1.keep hoY, HRy1.out.2⟩
        clear hownB hoY
        refine hK.out _ _ (HSS.out _ (H1'.out.2.1.trans HXy2.out)) (fun hHeld => ?_)
        clear hK
        (try simp only [Act.put, List.setIfInBounds_toArray, List.set_cons_zero, List.set_cons_succ])
        refine wpAnyH_take (i := 5) (oi := { dst := some 19, op := _, type := _, pos := _, after := _, guard := _ }) (v := .agg #[.slice aB (n + 1) cB, .slice (some ⟨rb, 0, none⟩) N N]) rfl (by kernel_rfl) (by kernel_rfl) (by kernel_rfl) (fun _ _ _ h => h) (Or.inl ⟨by rfl, fun w hSw => by obtain ⟨y0, y1⟩ := hSw; first | (go_simp; done) | go_simp⟩) (by assumption) ?_
        (try simp only [Act.put, List.setIfInBounds_toArray, List.set_cons_zero, List.set_cons_succ])
        refine wpAnyH_ready (rs := [6]) (by kernel_rfl) (by simp) ?_
        refine AllReadyH.cons rfl (fun K hK => ?_) AllReadyH.nil
        rw [if_pos (by rfl)]
        go_simp
        obtain ⟨z, M, hz, hM, HZ⟩ : ∃ z M, z = y2.alloc (.cells #[.slice aB (n + 1) cB, .slice (some ⟨rb, 0, none⟩) N N] 75) ∧ M = y2.heap.size ∧ Hid (z.heap[M]? = some (.cells #[.slice aB (n + 1) cB, .slice (some ⟨rb, 0, none⟩) N N] 75 (0, 0)) ∧ Only (fun _ => False) y2 z) := ⟨_, _, rfl, rfl, ⟨heap_alloc_new _ _, (Only.refl _ _).alloc _⟩⟩
        have HMS : Hid (W.heap.size ≤ M) := by rw [hM]; exact HXy2.out.size
        rw [← hz, ← hM]
        clear hz hM
        refine hK.out _ _ (HSS.out _ (H1'.out.2.1.trans (HXy2.out.trans HZ.out.2))) (fun hHeld => ?_)
        clear hK
        (try simp only [Act.put, List.setIfInBounds_toArray, List.set_cons_zero, List.set_cons_succ])
        refine wpAnyH_take (i := 7) (oi := { dst := some 7, op := _, type := _, pos := _, after := _, guard := _ }) (v := .pointer (some ⟨M, 0, none⟩)) rfl (by kernel_rfl) (by kernel_rfl) (by kernel_rfl) (fun _ _ _ h => h) (Or.inl ⟨by rfl, fun w hSw => by obtain ⟨y0, y1⟩ := hSw; first | (go_simp; done) | go_simp⟩) (by assumption) ?_
        (try simp only [Act.put, List.setIfInBounds_toArray, List.set_cons_zero, List.set_cons_succ])
        refine wpAnyH_done (by kernel_rfl) ?_ _
        clear hHeld
        go_wp2_with fail
        go_meet
        exact ⟨M, rb, aB, cB, _, rfl, rfl, HZ.out.1, own_only HOy2.out HZ.out.2 (fun _ _ h => h), HRy2.out.1.keep HZ.out.2, HRy2.out.2, HMS.out, HXy2.out.trans HZ.out.2⟩
    case rest =>
      obtain ⟨M, rb, aB, cB, Y, hY, rfl, hM, hB, hRb, hrb, hMs, hoY⟩ := hcut
      subst hY
      have HMS : Hid (W.heap.size ≤ M) := hMs
      clear hMs
      have HY : Hid (Y.heap[M]? = some (.cells #[.slice aB (n + 1) cB, .slice (some ⟨rb, 0, none⟩) N N] 75 (0, 0)) ∧ Y.ownsRow W.heap.size 3 1 (.slice aB (n + 1) cB) (n + 1) (natI (Lv.bys C)) ∧ Rb Y rb (List.replicate N ⟨0, none, 0, 0⟩) ∧ W.heap.size ≤ rb ∧ Only (fun _ => False) W Y) := ⟨hM, hB, hRb, hrb, hoY⟩
      have HS2 : Hid (∀ W', Only (fun g => g = rb) Y W' → Only (fun _ => False) W W') := fun W' ho => ((HY.out.2.2.2.2.mono (fun _ h => h.elim)).trans ho).old (fun b hb => Or.inl (by rw [hb]; exact HY.out.2.2.2.1))
      clear hM hB hRb hrb hoY
      go_wp2_with fail
      go_loopg [23] N (fun gh v23 wr => ∃ (i : Nat) (Rs : List Rw) (W2 : World), W2 = wr ∧ gh = N - i ∧ i ≤ N ∧ v23 = .int .i64 (i : Int) ∧ MkInv W Y C t n N L' M rb aB cB i Rs W2)
      case atStart => exact ⟨0, List.replicate N ⟨0, none, 0, 0⟩, _, rfl, rfl, Nat.zero_le _, rfl, ⟨List.length_replicate, HY.out.2.2.1, fun j l r h => absurd h (Nat.not_lt_zero _), HY.out.1, HY.out.2.1, Only.refl _ _⟩⟩
      case round =>
        obtain ⟨i, Rs, W2, hW2, rfl, hi, rfl, hinv⟩ := hrel
        subst hW2
        have HI : Hid (MkInv W Y C t n N L' M rb aB cB i Rs W2) := hinv
        have hrbl : rb < W2.heap.size := (Array.getElem?_eq_some_iff.1 hinv.mem).1
        clear hinv
        by_cases hlt : i < N
        · have t1 : (i : Int) < (N : Int) := by omega
          obtain ⟨l, hl⟩ : ∃ l, L'[i]? = some l := ⟨_, List.getElem?_eq_getElem (by rw [← HL.out.2.1]; exact hlt)⟩
          have hat := HL.out.2.2.1.at hl
          obtain ⟨bl, ol, e0, hbl, c0, cl', c2, c3⟩ := (H1'.out.1.keep (HS2.out W2 HI.out.only)).line hl
          obtain ⟨la, lb, lc, le⟩ := l
          simp only at c0 cl' c2 c3 hat
          have hat1 := hat.1
          have hat2 := hat.2.1
          have HLN : Hid (L'[i]? = some ⟨la, lb, lc, le⟩) := hl
          subst e0
          clear hat hl
          go_upto_region 7 with fail
          obtain ⟨lk, W3, hW3, hlk, H3, -⟩ := box4 W2 (.int .i64 (la : Int)) (.int .i64 (lb : Int)) (.int .i64 (lc : Int)) (.int .u8 (le : Int)) 59
          rw [hW3, hlk]
          have hlkr : rb < lk := by omega
          clear hW3 hlk c0 cl' c2 c3 hbl
          have HM1 : Hid (M ≠ rb) := HI.out.ne
          have HR1 : Hid (R ≠ rb) := fun e => by
            have h1 := HLR.out w0 (Only.refl _ _)
            have h2 := H1'.out.2.1.size
            have h3 := HY.out.2.2.2.1
            omega
          have HW3 : Hid (Only (fun g => g = rb) Y W3 ∧ Only (fun _ => False) W2 W3) := ⟨HI.out.only.trans (H3.out.2.1.mono (fun _ h => h.elim)), H3.out.2.1⟩
          have HK : Hid (∀ W', Only (fun g => g = rb) W3 W' → ((W'.cell? ⟨R, 0, none⟩ = some (.slice aC n cC) ∧ W'.cell? ⟨R, 1, none⟩ = some (.slice aO m cO)) ∧ W'.cell? ⟨M, 1, none⟩ = some (.slice (some ⟨rb, 0, none⟩) N N) ∧ (W'.cell? ⟨lk, 0, none⟩ = some (.int .i64 (la : Int)) ∧ W'.cell? ⟨lk, 1, none⟩ = some (.int .i64 (lb : Int)) ∧ W'.cell? ⟨lk, 2, none⟩ = some (.int .i64 (lc : Int)) ∧ W'.cell? ⟨lk, 3, none⟩ = some (.int .u8 (le : Int))))) := fun W' ho => by
            have h2 := HSS.out W' (H1'.out.2.1.trans (HS2.out W' (HW3.out.1.trans ho)))
            have hm := (ho.block M (Nat.lt_of_lt_of_le (Array.getElem?_eq_some_iff.1 HI.out.blk).1 HW3.out.2.size) (fun h => HM1.out h)).trans (blk_keep HW3.out.2 HI.out.blk)
            have hl := (ho.block lk (Array.getElem?_eq_some_iff.1 H3.out.1).1 (by omega)).trans H3.out.1
            exact ⟨h2, (blk_two hm).2.1, blk_four hl⟩
          have HKL : Hid (∀ W', Only (fun g => g = rb) W3 W' → R < W'.heap.size ∧ M < W'.heap.size ∧ lk < W'.heap.size) := fun W' ho => ⟨HLR.out W' (H1'.out.2.1.trans (HS2.out W' (HW3.out.1.trans ho))), Nat.lt_of_lt_of_le (Array.getElem?_eq_some_iff.1 HI.out.blk).1 (Nat.le_trans HW3.out.2.size ho.size), Nat.lt_of_lt_of_le (Array.getElem?_eq_some_iff.1 H3.out.1).1 ho.size⟩
          obtain ⟨⟨r0, r1⟩, m1, k0, k1, k2, k3⟩ := HK.out W3 (Only.refl _ _)
          obtain ⟨lR, lM, llk⟩ := HKL.out W3 (Only.refl _ _)
          have HWM : Hid (Only (fun _ => False) w W3) := H1'.out.2.2.trans (HS2.out W3 HW3.out.1)
          go_region_held3 (fun W' => ((W'.cell? ⟨R, 0, none⟩ = some (.slice aC n cC) ∧ W'.cell? ⟨R, 1, none⟩ = some (.slice aO m cO)) ∧ W'.cell? ⟨M, 1, none⟩ = some (.slice (some ⟨rb, 0, none⟩) N N) ∧ (W'.cell? ⟨lk, 0, none⟩ = some (.int .i64 (la : Int)) ∧ W'.cell? ⟨lk, 1, none⟩ = some (.int .i64 (lb : Int)) ∧ W'.cell? ⟨lk, 2, none⟩ = some (.int .i64 (lc : Int)) ∧ W'.cell? ⟨lk, 3, none⟩ = some (.int .u8 (le : Int))))) ((first | exact HK.out _ (Only.refl _ _).drew | exact HK.out _ HQ.out.2.2.2 | exact HK.out _ ((HQ.out.2.2.2.setCell (p := ⟨rb, i * 2, none⟩) rfl _).setCell (p := ⟨rb, i * 2 + 1, none⟩) rfl _) | trace_state)) ((go_at_call 29; refine Calls.mono (HMR.out _ la lb lc le HWM.out.drew hat1 hat2) ?_; rintro e y ⟨al2, kn2, c2, rfl, hk2, hown2, ho2'⟩; have HQ : Hid (kn2 = lb - la + 1 ∧ y.ownsRow W.heap.size 3 1 (.slice al2 kn2 c2) kn2 (natI (Sp.cols C t la (lb - la))) ∧ Only (fun _ => False) W3 y ∧ Only (fun g => g = rb) W3 y) := ⟨hk2, own_base2 hown2 (HS2.out W3 HW3.out.1).size, (Only.refl _ _).drew.trans ho2', ((Only.refl (fun _ => False) W3).drew.trans ho2').mono (fun _ h => h.elim)⟩; clear hk2 hown2 ho2'; have hyR : Rb y rb Rs := (HI.out.mem.keep HW3.out.2).keep HQ.out.2.2.1; obtain ⟨x0, x1⟩ := hyR.cells (i := i) (List.getElem?_eq_getElem (by rw [HI.out.len]; exact hlt)); have fx0 : y.frozen? ⟨rb, i * 2, none⟩ = false := fz_blk hyR _; have fx1 : y.frozen? ⟨rb, i * 2 + 1, none⟩ = false := fz_blk hyR _; have lx : rb < y.heap.size := (Array.getElem?_eq_some_iff.1 hyR).1; clear hyR))
          obtain ⟨z, hz⟩ : ∃ Z, Z = (y.setCell ⟨rb, i * 2, none⟩ (.int .i64 (la : Int))).setCell ⟨rb, i * 2 + 1, none⟩ (.slice al2 kn2 c2) := ⟨_, rfl⟩
          have H5 : Hid (MkInv W Y C t n N L' M rb aB cB (i + 1) (Rs.set i ⟨la, al2, kn2, c2⟩) z) := by
            rw [hz]
            exact ((HI.out.keep HW3.out.2).keep HQ.out.2.2.1).step HLN.out hlt HQ.out.1 HQ.out.2.1
          rw [← hz]
          clear hz x0 x1 fx0 fx1 lx r0 r1 m1 k0 k1 k2 k3 lR lM llk
          go_wp2_with fail
          go_roundg (N - (i + 1))
          case measure => omega
          case rel => exact ⟨i + 1, _, _, rfl, rfl, by omega, by go_num, H5.out⟩
        · have t1 : decide ((i : Int) < (N : Int)) = false := decide_eq_false (by omega)
          have hiN : i = N := by omega
          have HF2 : Hid (MkInv W Y C t n N L' M rb aB cB N Rs W2) := by
            have h := HI.out
            rw [hiN] at h
            exact h
          clear hiN
          go_wp2_with fail
          go_ret
          refine ⟨M, rfl, fun W9 ho9 => ⟨⟨Rs, _, _, _, _, HF2.out.mp HF.out.1 HL.out.2.1 HMS.out HY.out.2.2.2.1 (ho9.mono (fun g hg => Nat.lt_of_lt_of_le hg H1'.out.2.2.size))⟩, HF.out.1, HF.out.2.1, HL.out.2.2.1, HF.out.2.2.1, hfew, HF.out.2.2.2.1, HF.out.2.2.2.2.1, HF.out.2.2.2.2.2⟩, H1'.out.2.2.trans (HS2.out W2 HF2.out.only)⟩
theorem make_map (C : List Ct) (O : List Nat) (n m : Nat) (aC aO : Option Addr) (cC cO t : Nat) (L : List Ln) (nl : Nat) (al : Option Addr) (cl : Nat) (w : World) (hP : Pv w C O n m aC aO cC cO) (hC : Lv.Ctg C) (hs : It.sum C ≤ 1000000) (hR : Lv.Chn 0 n L) (hV : Vw w al (lnC L)) (hnl : nl = L.length) (hfew : n ≤ 1000) (h0 : 0 < t) (ht : t ≤ 1000) :
    Calls Try.prog 19 #[.agg #[.slice aC n cC, .slice aO m cO], .slice al nl cl, .int .i64 (t : Int)] w fun e w' => ∃ M, e = .returned (.pointer (some ⟨M, 0, none⟩)) ∧ Mpp w' M n C t (Lv.rof L) ∧ Only (fun _ => False) w w' := by
  refine (make_far C O n m aC aO cC cO t L nl al cl w hP hC hs hR hV hnl hfew h0 ht).mono ?_
  rintro e w' ⟨M, he, hM, ho⟩
  exact ⟨M, he, hM w' (Only.refl _ _), ho⟩
end Go.Proofs.Yteejgjapghccnaa
