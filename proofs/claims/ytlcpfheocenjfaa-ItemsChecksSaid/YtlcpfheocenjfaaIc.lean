/-
  items.Check, the reference's Check.
-/
import Derived.Test.YtlcpfheocenjfaaIk
namespace Go.Proofs.Ytlcpfheocenjfaa
open Go.RowKit Go.Maps
set_option linter.unusedVariables false
set_option linter.unusedSimpArgs false
namespace It
def chk (C : List Cg) (O : List Nat) : Bool := fit O C.length && row C 0
end It
set_option maxRecDepth 100000 in
set_option maxHeartbeats 4000000 in
theorem icheck_any (C : List Cg) (O : List Nat) (aC aO : Option Addr) (cC cO : Nat) (w : World) (hV : Vw w aC (cgC C)) (hk : ∀ c ∈ C, c.kind < 256) (hVO : Vw w aO (u8s O)) (hkO : ∀ x ∈ O, x < 256) (hC : C.length ≤ 100000) (hO : O.length ≤ 100000) :
    Calls Try.prog 30 #[.agg #[.slice aC C.length cC, .slice aO O.length cO]] w fun e w' => e = .returned (.bool (It.chk C O)) ∧ Only (fun _ => False) w w' := by
  have HF : Hid (∀ W, Only (fun _ => False) w W → Calls Try.prog 45 #[.slice aO O.length cO, .int .i64 (C.length : Int)] W fun e w' => e = .returned (.bool (It.fit O C.length)) ∧ w' = W) := fun W ho => fits_any O C.length aO cO W (hVO.keep ho) hkO (by omega) (by omega)
  have HR : Hid (∀ W, Only (fun _ => False) w W → Calls Try.prog 46 #[.slice aC C.length cC] W fun e w' => e = .returned (.bool (It.row C 0)) ∧ Only (fun _ => False) W w') := fun W ho => inRow_any C aC cC W (hV.keep ho) hk (by omega)
  obtain ⟨bf, hbf⟩ : ∃ b, b = It.fit O C.length := ⟨_, rfl⟩
  obtain ⟨br, hbr⟩ : ∃ b, b = It.row C 0 := ⟨_, rfl⟩
  have HB : Hid (It.chk C O = (bf && br)) := by rw [hbf, hbr]; exact rfl
  rw [← hbf] at HF
  rw [← hbr] at HR
  obtain ⟨n, hn⟩ : ∃ n, n = C.length := ⟨_, rfl⟩
  obtain ⟨m, hm⟩ : ∃ n, n = O.length := ⟨_, rfl⟩
  rw [← hn] at HF HR hC ⊢
  rw [← hm] at HF hO ⊢
  clear hV hk hVO hkO hbf hbr hn hm
  cases bf with
  | false =>
    have HE : Hid (It.chk C O = false) := by rw [HB.out]; exact rfl
    go_enter Try.func30, Try.ntmps30
    go_wp2_with (go_at_call 45; refine Calls.mono (HF.out _ ((Only.refl _ _).alloc _)) ?_; rintro e w1 ⟨rfl, rfl⟩)
    go_ret
    exact ⟨by rw [HE.out]; rfl, (Only.refl _ _).alloc _⟩
  | true =>
    have HE : Hid (It.chk C O = br) := by rw [HB.out]; exact rfl
    go_enter Try.func30, Try.ntmps30
    go_wp2_with (first | (go_at_call 45; refine Calls.mono (HF.out _ ((Only.refl _ _).alloc _)) ?_; rintro e w1 ⟨rfl, rfl⟩) | (go_at_call 46; refine Calls.mono (HR.out _ ((Only.refl _ _).alloc _)) ?_; rintro e w2 ⟨rfl, ho2⟩; have HO2 : Hid (Only (fun _ => False) w w2) := ((Only.refl _ _).alloc _).trans ho2; clear ho2) | fail)
    go_ret
    exact ⟨by rw [HE.out]; rfl, HO2.out⟩
/-- the reference's test of one cluster and what may be done ahead of it. -/
theorem good_ref {e : Int} {cp cl cc : Int} {ck : Nat} (h0 : 0 ≤ e) (h1 : e ≤ 4096) : It.good e ⟨cp, cl, cc, ck⟩ ↔ (cp = e ∧ 1 ≤ cl ∧ cl ≤ 4096 ∧ e + cl ≤ 4096 ∧ 0 ≤ cc ∧ cc ≤ 2 ∧ ck ≤ 2) := by
  unfold It.good
  simp only
  omega
/-- how far both are right: rows from k on, and what may be done there. -/
def It.both (C : List Cg) (O : List Nat) (k : Nat) (e : Int) : Bool := It.row (C.drop k) e && ((O.drop k).take (C.length - k)).all (fun x => decide (x ≤ 3))
theorem both_zero (C : List Cg) (O : List Nat) (h : O.length = C.length + 1) (h2 : O.getD C.length 0 = 2) : It.both C O 0 0 = (It.row C 0 && O.all (fun x => decide (x ≤ 3))) := by
  unfold It.both
  rw [List.drop_zero, List.drop_zero, Nat.sub_zero]
  have e : O = O.take C.length ++ [2] := by
    have hl : C.length < O.length := by omega
    have h3 : O[C.length]? = some 2 := by
      rw [List.getElem?_eq_getElem hl]
      rw [List.getD_eq_getElem?_getD, List.getElem?_eq_getElem hl] at h2
      exact congrArg some h2
    have h4 := take_snoc h3
    rw [List.take_of_length_le (by omega)] at h4
    exact h4
  conv => rhs; rw [e]
  rw [List.all_append]
  simp
theorem both_end (C : List Cg) (O : List Nat) (k : Nat) (e : Int) (h : C.length ≤ k) : It.both C O k e = true := by
  unfold It.both
  rw [List.drop_eq_nil_of_le h, show C.length - k = 0 by omega]
  simp [It.row]
theorem both_no1 {C : List Cg} {O : List Nat} {k : Nat} {e : Int} {c : Cg} (hc : C[k]? = some c) (h : ¬ It.good e c) : It.both C O k e = false := by
  unfold It.both
  rw [It.row_no hc h]
  rfl
theorem both_no2 {C : List Cg} {O : List Nat} {k : Nat} {e : Int} {x : Nat} (hk : k < C.length) (hx : O[k]? = some x) (h : ¬ x ≤ 3) : It.both C O k e = false := by
  unfold It.both
  rw [Bool.and_eq_false_iff]
  refine Or.inr ?_
  rw [List.all_eq_false]
  have hl := List.getElem?_eq_some_iff.1 hx
  refine ⟨x, ?_, by simpa using h⟩
  rw [List.drop_eq_getElem_cons hl.1, hl.2, show C.length - k = (C.length - k - 1) + 1 by omega]
  simp
theorem both_yes {C : List Cg} {O : List Nat} {k : Nat} {e : Int} {c : Cg} {x : Nat} (hc : C[k]? = some c) (hx : O[k]? = some x) (hg : It.good e c) (h : x ≤ 3) : It.both C O k e = It.both C O (k + 1) (e + c.len) := by
  have hk := (List.getElem?_eq_some_iff.1 hc).1
  have hl := List.getElem?_eq_some_iff.1 hx
  unfold It.both
  rw [It.row_yes hc hg, List.drop_eq_getElem_cons hl.1, hl.2, show C.length - k = (C.length - (k + 1)) + 1 by omega, List.take_succ_cons, List.all_cons, decide_eq_true h, Bool.true_and]
set_option maxRecDepth 100000 in
set_option maxHeartbeats 4000000 in
theorem refCheck_any (C : List Cg) (O : List Nat) (aC aO : Option Addr) (cC cO : Nat) (w : World) (hV : Vw w aC (cgC C)) (hk : ∀ c ∈ C, c.kind < 256) (hi : ∀ c ∈ C, -9223372036854775808 ≤ c.len ∧ c.len ≤ 9223372036854775807) (hVO : Vw w aO (u8s O)) (hkO : ∀ x ∈ O, x < 256) (hC : C.length ≤ 100000) (hO : O.length ≤ 100000) :
    Calls Try.prog 33 #[.agg #[.slice aC C.length cC, .slice aO O.length cO]] w fun e w' => e = .returned (.bool (It.chk C O)) ∧ Only (fun _ => False) w w' := by
  have HV : Hid (Vw w aC (cgC C) ∧ (∀ c ∈ C, c.kind < 256) ∧ Vw w aO (u8s O) ∧ (∀ x ∈ O, x < 256) ∧ ∀ c ∈ C, -9223372036854775808 ≤ c.len ∧ c.len ≤ 9223372036854775807) := ⟨hV, hk, hVO, hkO, hi⟩
  obtain ⟨rb, hrb⟩ : ∃ b, b = It.chk C O := ⟨_, rfl⟩
  have HRB : Hid (rb = It.chk C O) := hrb
  obtain ⟨n, hn⟩ : ∃ n, n = C.length := ⟨_, rfl⟩
  obtain ⟨m, hm⟩ : ∃ n, n = O.length := ⟨_, rfl⟩
  have HN : Hid (n = C.length ∧ m = O.length) := ⟨hn, hm⟩
  rw [← hn] at hC ⊢
  rw [← hm] at hO ⊢
  rw [← hrb]
  clear hV hk hVO hkO hn hm hrb hi
  by_cases h1 : m = n + 1
  · have t1 : ((m : Int) != (n : Int) + 1) = false := by simp; omega
    obtain ⟨x, hx⟩ : ∃ x, O[n]? = some x := ⟨_, List.getElem?_eq_getElem (by rw [← HN.out.2]; omega)⟩
    obtain ⟨y, hy⟩ : ∃ y, O[0]? = some y := ⟨_, List.getElem?_eq_getElem (by rw [← HN.out.2]; omega)⟩
    obtain ⟨b, off, rfl, hb, hc⟩ := HV.out.2.2.1.cells (by rw [u8s_len, ← HN.out.2]; omega)
    have c1 := hc n _ (u8s_at hx)
    have c2 : w.cell? ⟨b, off, none⟩ = some (.int .u8 (y : Int)) := hc 0 _ (u8s_at hy)
    have hx8 : x < 256 := HV.out.2.2.2.1 x (List.mem_of_getElem? hx)
    have hy8 : y < 256 := HV.out.2.2.2.1 y (List.mem_of_getElem? hy)
    have t2 : (n : Int) < (m : Int) := by omega
    have hdx : O.getD n 0 = x := by rw [List.getD_eq_getElem?_getD, hx]; rfl
    have hdy : O.getD 0 0 = y := by rw [List.getD_eq_getElem?_getD, hy]; rfl
    by_cases hg : x = 2 ∧ (0 < n → y = 0)
    · have HFT : Hid (rb = It.both C O 0 0) := by
        rw [HRB.out, both_zero C O (by rw [← HN.out.1, ← HN.out.2]; exact h1) (by rw [← HN.out.1, hdx]; exact hg.1)]
        unfold It.chk It.fit
        rw [← HN.out.1, hdx, hdy, decide_eq_true ⟨by rw [← HN.out.2]; exact h1, hg.1, hg.2⟩, Bool.true_and, Bool.and_comm]
        exact rfl
      have u1 : ((x : Int) != 2) = false := by simp; omega
      have HCE : Hid (∀ (j z : Nat), O[j]? = some z → w.cell? ⟨b, off + j, none⟩ = some (.int .u8 (z : Int))) := fun j z hz => hc j _ (u8s_at hz)
      have hnm : n < m := by omega
      by_cases h0 : 0 < n
      · have u2 : (0 : Int) < (n : Int) := by omega
        have u3 : ((y : Int) != 0) = false := by have := hg.2 h0; simp; omega
        have u4 : (0 : Int) < (m : Int) := by omega
        clear hx hy hc hdx hdy hg h1
        go_enter Try.func33, Try.ntmps33
        go_wp2_with fail
        obtain ⟨w0, hw0⟩ : ∃ Z, Z = w.alloc (.cells #[.slice aC n cC, .slice (some ⟨b, off, none⟩) m cO] 62) := ⟨_, rfl⟩
        rw [← hw0]
        obtain ⟨R, hR⟩ : ∃ b, b = w.heap.size := ⟨_, rfl⟩
        rw [← hR]
        have H0 : Hid (Only (fun _ => False) w w0 ∧ w0.heap[R]? = some (.cells #[.slice aC n cC, .slice (some ⟨b, off, none⟩) m cO] 62 (0, 0))) := by
          rw [hw0, hR]
          exact ⟨(Only.refl _ _).alloc _, heap_alloc_new w _⟩
        clear hw0 hR
        go_loopg [4, 5] n (fun gh v4 v5 wr => ∃ (k : Nat) (e : Int) (W : World), W = wr ∧ gh = n - k ∧ k ≤ n ∧ v4 = .int .i64 e ∧ v5 = .int .i64 (k : Int) ∧ 0 ≤ e ∧ e ≤ 4096 ∧ It.both C O k e = rb ∧ Only (fun _ => False) w0 W)
        case atStart => exact ⟨0, 0, _, rfl, rfl, Nat.zero_le _, rfl, rfl, Int.le_refl _, by omega, HFT.out.symm, Only.refl _ _⟩
        case round =>
          obtain ⟨k, e, W, hW, rfl, hk, rfl, rfl, he0, he1, hrow, hoW⟩ := hrel
          subst hW
          have HG : Hid (It.both C O k e = rb ∧ Only (fun _ => False) w W) := ⟨hrow, H0.out.1.trans hoW⟩
          have hbR := (hoW.block R (Array.getElem?_eq_some_iff.1 H0.out.2).1 (fun h => h)).trans H0.out.2
          have r0 : W.cell? ⟨R, 0, none⟩ = some (.slice aC n cC) := cell_blk hbR
          have r1 : W.cell? ⟨R, 1, none⟩ = some (.slice (some ⟨b, off, none⟩) m cO) := cell_blk hbR
          have lR : R < W.heap.size := (Array.getElem?_eq_some_iff.1 hbR).1
          have HOW : Hid (Only (fun _ => False) w0 W) := hoW
          clear hrow hoW hbR
          by_cases hlt : k < n
          · have t9 : (k : Int) < (n : Int) := by omega
            have t10 : (k : Int) < (m : Int) := by omega
            obtain ⟨c, hcc⟩ : ∃ c, C[k]? = some c := ⟨_, List.getElem?_eq_getElem (by rw [← HN.out.1]; exact hlt)⟩
            obtain ⟨z, hz⟩ : ∃ z, O[k]? = some z := ⟨_, List.getElem?_eq_getElem (by rw [← HN.out.2]; omega)⟩
            obtain ⟨b2, off2, rfl, hb2, d0, d1, d2, d3⟩ := (HV.out.1.keep HG.out.2).cg hcc
            have d4 := keep0 HG.out.2 (HCE.out k z hz)
            have hk8 : c.kind < 256 := HV.out.2.1 c (List.mem_of_getElem? hcc)
            have hz8 : z < 256 := HV.out.2.2.2.1 z (List.mem_of_getElem? hz)
            have hcl := HV.out.2.2.2.2 c (List.mem_of_getElem? hcc)
            have HC : Hid (C[k]? = some c ∧ O[k]? = some z) := ⟨hcc, hz⟩
            have lb : b < W.heap.size := World.block_lt_of_cell? W _ d4
            obtain ⟨cp, cl, cc, ck⟩ := c
            simp only at d0 d1 d2 d3 hk8 hcl
            clear hcc hz
            by_cases hg : (cp = e ∧ 1 ≤ cl ∧ cl ≤ 4096 ∧ e + cl ≤ 4096 ∧ 0 ≤ cc ∧ cc ≤ 2 ∧ ck ≤ 2) ∧ z ≤ 3
            · have HR : Hid (It.both C O (k + 1) (e + cl) = rb) := by rw [← both_yes HC.out.1 HC.out.2 ((good_ref he0 he1).2 hg.1) hg.2]; exact HG.out.1
              obtain ⟨⟨g1, g2, g3, g4, g5, g6, g7⟩, g8⟩ := hg
              have u1 : (cp != e) = false := by simp; exact g1
              have u2 : decide (cl < 1) = false := decide_eq_false (by omega)
              have u3 : decide (4096 < cl) = false := decide_eq_false (by omega)
              have u4 : decide (4096 < e + cl) = false := decide_eq_false (by omega)
              have u5 : decide (cc < 0) = false := decide_eq_false (by omega)
              have u6 : decide (2 < cc) = false := decide_eq_false (by omega)
              have u7 : decide ((2 : Int) < (ck : Int)) = false := decide_eq_false (by omega)
              have u8 : decide ((3 : Int) < (z : Int)) = false := decide_eq_false (by omega)
              have hb1 : e + cl ≤ 4096 := by omega
              have hb0 : 0 ≤ e + cl := by omega
              clear g1 hcl
              go_wp2_with fail
              go_roundg (n - (k + 1))
              case measure => omega
              case rel => exact ⟨k + 1, e + cl, _, rfl, rfl, by omega, by go_num, by go_num, hb0, hb1, HR.out, HOW.out.alloc _⟩
            · have HF : Hid (rb = false) := by
                rw [← HG.out.1]
                by_cases hg1 : It.good e ⟨cp, cl, cc, ck⟩
                · exact both_no2 (by rw [← HN.out.1]; exact hlt) HC.out.2 (fun h3 => hg ⟨(good_ref he0 he1).1 hg1, h3⟩)
                · exact both_no1 HC.out.1 hg1
              have HGN : Hid (¬ ((cp = e ∧ 1 ≤ cl ∧ cl ≤ 4096 ∧ e + cl ≤ 4096 ∧ 0 ≤ cc ∧ cc ≤ 2 ∧ ck ≤ 2) ∧ z ≤ 3)) := hg
              clear hg
              go_wp2_with fail
              all_goals first
                | (go_ret; exact ⟨by rw [HF.out]; rfl, HG.out.2.alloc _⟩)
                | (exfalso; have := HGN.out; omega)
          · have t9 : decide ((k : Int) < (n : Int)) = false := decide_eq_false (by omega)
            have HF : Hid (rb = true) := by rw [← HG.out.1]; exact both_end C O k e (by rw [← HN.out.1]; omega)
            go_wp2_with fail
            go_ret
            exact ⟨by rw [HF.out]; rfl, HG.out.2⟩
      · have u2 : decide ((0 : Int) < (n : Int)) = false := decide_eq_false (by omega)
        have HZ : Hid (n = 0) := Nat.eq_zero_of_not_pos h0
        clear hx hy hc hdx hdy hg h1
        go_enter Try.func33, Try.ntmps33
        go_wp2_with fail
        obtain ⟨w0, hw0⟩ : ∃ Z, Z = w.alloc (.cells #[.slice aC n cC, .slice (some ⟨b, off, none⟩) m cO] 62) := ⟨_, rfl⟩
        rw [← hw0]
        obtain ⟨R, hR⟩ : ∃ b, b = w.heap.size := ⟨_, rfl⟩
        rw [← hR]
        have H0 : Hid (Only (fun _ => False) w w0 ∧ w0.heap[R]? = some (.cells #[.slice aC n cC, .slice (some ⟨b, off, none⟩) m cO] 62 (0, 0))) := by
          rw [hw0, hR]
          exact ⟨(Only.refl _ _).alloc _, heap_alloc_new w _⟩
        clear hw0 hR
        go_loopg [4, 5] n (fun gh v4 v5 wr => ∃ (k : Nat) (e : Int) (W : World), W = wr ∧ gh = n - k ∧ k ≤ n ∧ v4 = .int .i64 e ∧ v5 = .int .i64 (k : Int) ∧ 0 ≤ e ∧ e ≤ 4096 ∧ It.both C O k e = rb ∧ Only (fun _ => False) w0 W)
        case atStart => exact ⟨0, 0, _, rfl, rfl, Nat.zero_le _, rfl, rfl, Int.le_refl _, by omega, HFT.out.symm, Only.refl _ _⟩
        case round =>
          obtain ⟨k, e, W, hW, rfl, hk, rfl, rfl, he0, he1, hrow, hoW⟩ := hrel
          subst hW
          have HG : Hid (It.both C O k e = rb ∧ Only (fun _ => False) w W) := ⟨hrow, H0.out.1.trans hoW⟩
          have hbR := (hoW.block R (Array.getElem?_eq_some_iff.1 H0.out.2).1 (fun h => h)).trans H0.out.2
          have r0 : W.cell? ⟨R, 0, none⟩ = some (.slice aC n cC) := cell_blk hbR
          have r1 : W.cell? ⟨R, 1, none⟩ = some (.slice (some ⟨b, off, none⟩) m cO) := cell_blk hbR
          have lR : R < W.heap.size := (Array.getElem?_eq_some_iff.1 hbR).1
          have HOW : Hid (Only (fun _ => False) w0 W) := hoW
          clear hrow hoW hbR
          by_cases hlt : k < n
          · exfalso; have := HZ.out; omega
          · have t9 : decide ((k : Int) < (n : Int)) = false := decide_eq_false (by omega)
            have HF : Hid (rb = true) := by rw [← HG.out.1]; exact both_end C O k e (by rw [← HN.out.1]; omega)
            go_wp2_with fail
            go_ret
            exact ⟨by rw [HF.out]; rfl, HG.out.2⟩
    · have HF : Hid (rb = false) := by
        rw [HRB.out]
        unfold It.chk It.fit
        rw [← HN.out.1, hdx, hdy, decide_eq_false (fun h => hg ⟨h.2.1, h.2.2⟩), Bool.false_and]
        exact rfl
      have HGN : Hid (¬ (x = 2 ∧ (0 < n → y = 0))) := hg
      have u4 : (0 : Int) < (m : Int) := by omega
      clear hx hy hc hdx hdy hg h1
      by_cases hx2 : x = 2
      · have u1 : ((x : Int) != 2) = false := by simp; omega
        have h0 : 0 < n := Nat.pos_of_ne_zero (fun h => HGN.out ⟨hx2, fun h2 => by omega⟩)
        have u2 : (0 : Int) < (n : Int) := by omega
        have u3 : ((y : Int) != 0) = true := by simp; intro h; exact HGN.out ⟨hx2, fun _ => by omega⟩
        clear hx2
        go_enter Try.func33, Try.ntmps33
        go_wp2_with fail
        go_ret
        exact ⟨by rw [HF.out]; rfl, (Only.refl _ _).alloc _⟩
      · have u1 : ((x : Int) != 2) = true := by simp; omega
        go_enter Try.func33, Try.ntmps33
        go_wp2_with fail
        go_ret
        exact ⟨by rw [HF.out]; rfl, (Only.refl _ _).alloc _⟩
  · have t1 : ((m : Int) != (n : Int) + 1) = true := by simp; omega
    have HF : Hid (rb = false) := by
      rw [HRB.out]
      unfold It.chk It.fit
      rw [decide_eq_false (fun h => h1 (by rw [HN.out.1, HN.out.2]; exact h.1)), Bool.false_and]
      exact rfl
    clear h1
    go_enter Try.func33, Try.ntmps33
    go_wp2_with fail
    go_ret
    exact ⟨by rw [HF.out]; rfl, (Only.refl _ _).alloc _⟩
end Go.Proofs.Ytlcpfheocenjfaa
