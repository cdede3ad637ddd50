/-
  items.Make.
-/
import Derived.Test.YtlcpfheocenjfaaIt1
namespace Go.Proofs.Ytlcpfheocenjfaa
open Go.RowKit Go.Maps
set_option linter.unusedVariables false
set_option linter.unusedSimpArgs false
def opf (Bk : List Nat) (Pt : List Bool) (P : List Nat) (j : Nat) : Nat := if j = 0 then 0 else It.ah Bk Pt (P.getD j 0)
/-- the first k are laid, nothing behind them. -/
def oplaid (Bk : List Nat) (Pt : List Bool) (P : List Nat) (q k : Nat) : Array Value := rowOf (q + 1) (fun j => Value.int .u8 ((if j < k then opf Bk Pt P j else 0 : Nat) : Int))
theorem oplaid_at {Bk : List Nat} {Pt : List Bool} {P : List Nat} {q k j : Nat} (h : k ≤ j) (hj : j ≤ q) : (oplaid Bk Pt P q k)[j]? = some (.int .u8 0) := by
  unfold oplaid
  rw [rowOf_at _ (by omega), if_neg (by omega)]
  rfl
theorem oplaid_one {Bk : List Nat} {Pt : List Bool} {P : List Nat} {q : Nat} : (oplaid Bk Pt P q 1)[0]? = some (.int .u8 0) := by
  unfold oplaid
  rw [rowOf_at _ (by omega), if_pos (by omega)]
  rfl
theorem oplaid_set {Bk : List Nat} {Pt : List Bool} {P : List Nat} {q k v : Nat} (h : 1 ≤ k) (hv : v = It.ah Bk Pt (P.getD k 0)) : (oplaid Bk Pt P q k).setIfInBounds k (.int .u8 (v : Int)) = oplaid Bk Pt P q (k + 1) := by
  unfold oplaid
  rw [rowOf_set]
  unfold rowOf
  congr 2
  funext j
  by_cases hj : j = k
  · subst hj
    have e : opf Bk Pt P j = v := by unfold opf; rw [if_neg (by omega), hv]
    rw [if_pos rfl, if_pos (by omega), e]
  · rw [if_neg hj]
    by_cases hj2 : j < k
    · rw [if_pos hj2, if_pos (by omega)]
    · rw [if_neg hj2, if_neg (by omega)]
theorem oplaid_end {Bk : List Nat} {Pt : List Bool} {P : List Nat} {q k : Nat} (h : q ≤ k) : (oplaid Bk Pt P q k).setIfInBounds q (.int .u8 2) = (u8s (It.opl Bk Pt P q)).toArray := by
  unfold oplaid
  rw [rowOf_set]
  unfold rowOf u8s It.opl
  rw [List.map_map]
  congr 1
  apply List.map_congr_left
  intro j hj
  have hj' := List.mem_range.1 hj
  show (if j = q then Value.int .u8 2 else Value.int .u8 ((if j < k then opf Bk Pt P j else 0 : Nat) : Int)) = Value.int .u8 ((It.op Bk Pt P q j : Nat) : Int)
  unfold It.op
  by_cases hjq : j = q
  · rw [if_pos hjq, if_pos hjq]
    rfl
  · rw [if_neg hjq, if_neg hjq, if_pos (by omega)]
    rfl
theorem made_op (Bk : List Nat) (Pt : List Bool) (P : List Nat) (q : Nat) : madeCells #[.int .u8 0] (q + 1) = oplaid Bk Pt P q 1 := by
  unfold oplaid
  apply Array.ext
  · simp [rowOf, size_madeCells]
  · intro i h1 h2
    have e : (if i < 1 then opf Bk Pt P i else 0 : Nat) = 0 := by
      by_cases h : i < 1
      · rw [if_pos h]; unfold opf; rw [if_pos (by omega)]
      · rw [if_neg h]
    have e2 : (rowOf (q + 1) (fun j => Value.int .u8 ((if j < 1 then opf Bk Pt P j else 0 : Nat) : Int)))[i] = Value.int .u8 ((if i < 1 then opf Bk Pt P i else 0 : Nat) : Int) := by simp [rowOf]
    rw [e2, e]
    simp [madeCells, Nat.mod_one]
theorem own_base2 {w : World} {base base' e size n : Nat} {v : Value} {xs : List Value} (h : w.ownsRow base e size v n xs) (hb : base' ≤ base) : w.ownsRow base' e size v n xs := by
  obtain ⟨hl, h | ⟨g, cap, cur, hv, hg, h1⟩⟩ := h
  · exact ⟨hl, Or.inl h⟩
  · exact ⟨hl, Or.inr ⟨g, cap, cur, hv, Nat.le_trans hb hg, h1⟩⟩
def paP (C : List Ct) (O : List Nat) (w : World) (e : Ending) (w' : World) : Prop := ∃ (aC aO : Option Addr) (cC cO : Nat), e = .returned (.agg #[.slice aC C.length cC, .slice aO O.length cO]) ∧ w'.ownsRow w.heap.size 48 4 (.slice aC C.length cC) C.length (ctC C) ∧ w'.ownsRow w.heap.size 54 1 (.slice aO O.length cO) O.length (u8s O) ∧ Only (fun _ => False) w w'
set_option maxRecDepth 100000 in
set_option maxHeartbeats 4000000 in
theorem items_any (most : Int) (L : List Rg) (base T : Nat) (S : List Sn) (M Bk : List Nat) (Pt : List Bool) (aS aM aB aP : Option Addr) (cS cM cB cP : Nat) (w : World) (hT : Tab w base T L) (hok : Pr.okFrom most (-1) L = true) (hV : Vw w aS (snC S)) (hF : Fits S) (hVM : Vw w aM (u8s M)) (hBM : ∀ x ∈ M, x < 256) (hVB : Vw w aB (u8s Bk)) (hBB : ∀ x ∈ Bk, x < 256) (hVP : Vw w aP (bools Pt)) (hm : S.length ≤ 100000) (hmM : M.length ≤ maxLen) (hmB : Bk.length ≤ maxLen) (hmP : Pt.length ≤ maxLen) (hc : S.length ≤ cS) (hcm : cS ≤ maxLen) :
    Calls Try.prog 26 #[.slice aS S.length cS, .slice aM M.length cM, .slice aB Bk.length cB, .slice aP Pt.length cP, .pointer (some ⟨T, 0, none⟩)] w (paP (Ce.cls (Pr.of L) S M) (It.opl Bk Pt (Ce.starts M S.length) (Ce.cls (Pr.of L) S M).length) w) := by
  have HC : Hid (∀ W, Only (fun _ => False) w W → Calls Try.prog 18 #[.slice aS S.length cS, .slice aM M.length cM, .pointer (some ⟨T, 0, none⟩)] W (ceP (Pr.of L) S M W)) := fun W ho => cells_any most L base T S M aS aM cS cM W (hT.keep ho) hok (hV.keep ho) hF (hVM.keep ho) hBM (by omega) hmM hc hcm
  have HA : Hid (∀ W, Only (fun _ => False) w W → ∀ i : Nat, i ≤ 1000000 → Calls Try.prog 44 #[.int .i64 (i : Int), .slice aB Bk.length cB, .slice aP Pt.length cP] W fun e w' => e = .returned (.int .u8 (It.ah Bk Pt i : Int)) ∧ w' = W) := fun W ho i hi => ahead_any i Bk Pt aB aP cB cP W hi (hVB.keep ho) hBB (hVP.keep ho) hmB hmP
  obtain ⟨C, hC⟩ : ∃ C, C = Ce.cls (Pr.of L) S M := ⟨_, rfl⟩
  obtain ⟨P, hP⟩ : ∃ P, P = Ce.starts M S.length := ⟨_, rfl⟩
  obtain ⟨q, hq⟩ : ∃ q, q = C.length := ⟨_, rfl⟩
  unfold ceP at HC
  rw [← hC, ← hP] at HC
  rw [← hC, ← hP]
  have hPl : P.length = q + 1 := by rw [hP, hq, hC, Ce.cls_len, Ce.starts_len]
  have hqn : q ≤ S.length := by rw [hq, hC, Ce.cls_len]; exact Ce.st_len _ _
  have hPn : ∀ (k x : Nat), P[k]? = some x → x ≤ 1000000 := fun k x h => by rw [hP] at h; have := Ce.starts_le h; omega
  have HQ : Hid (q = C.length ∧ (∀ (k x : Nat), P[k]? = some x → x ≤ 1000000) ∧ (∀ x ∈ Bk, x < 256)) := ⟨hq, hPn, hBB⟩
  obtain ⟨q1, hq1⟩ : ∃ q1, q1 = q + 1 := ⟨_, rfl⟩
  unfold paP
  rw [It.opl_len]
  rw [← hq] at HC ⊢
  rw [hPl, ← hq1] at HC
  rw [← hq1]
  have HQ1 : Hid (q1 = q + 1) := hq1
  obtain ⟨n, hn⟩ : ∃ n, n = S.length := ⟨_, rfl⟩
  obtain ⟨nM, hnM⟩ : ∃ n, n = M.length := ⟨_, rfl⟩
  obtain ⟨nB, hnB⟩ : ∃ n, n = Bk.length := ⟨_, rfl⟩
  obtain ⟨nP, hnP⟩ : ∃ n, n = Pt.length := ⟨_, rfl⟩
  rw [← hn] at HC hm hqn ⊢
  rw [← hnM] at HC ⊢
  rw [← hnB, ← hnP] at HA
  rw [← hnB, ← hnP]
  clear hT hok hV hF hVM hBM hVB hBB hVP hmM hmB hmP hc hcm hC hP hq hPn hn hnM hnB hnP
  have HPL : Hid (P.length = q + 1) := hPl
  clear hPl hq1
  go_enter Try.func26, Try.ntmps26
  go_wp2_with fail
  obtain ⟨w0, hw0⟩ : ∃ Z, Z = w.alloc (.cells #[.slice none 0 0, .slice none 0 0] 62) := ⟨_, rfl⟩
  rw [← hw0]
  obtain ⟨R, hR⟩ : ∃ b, b = w.heap.size := ⟨_, rfl⟩
  rw [← hR]
  have H0 : Hid (Only (fun _ => False) w w0 ∧ w0.heap[R]? = some (.cells #[.slice none 0 0, .slice none 0 0] 62 (0, 0)) ∧ R = w.heap.size) := by
    rw [hw0, hR]
    exact ⟨(Only.refl _ _).alloc _, heap_alloc_new w _, rfl⟩
  clear hw0 hR
  refine Calls.mono (HC.out w0 H0.out.1) ?_
  rintro e w1 ⟨aC, aQ, cC, cQ, rfl, hcl, hst, ho1⟩
  have hs0 := H0.out.1.size
  have lR0 : R < w0.heap.size := (Array.getElem?_eq_some_iff.1 H0.out.2.1).1
  have H1 : Hid (w1.ownsRow w0.heap.size 48 4 (.slice aC q cC) q (ctC C) ∧ w1.ownsRow w0.heap.size 3 1 (.slice aQ q1 cQ) q1 (natI P) ∧ Only (fun _ => False) w w1 ∧ w1.heap[R]? = some (.cells #[.slice none 0 0, .slice none 0 0] 62 (0, 0))) := ⟨hcl, hst, H0.out.1.trans ho1, (ho1.block R lR0 (fun h => h)).trans H0.out.2.1⟩
  have hs1 := ho1.size
  clear hcl hst ho1
  go_wp2_with fail
  have hq1 : q1 = q + 1 := HQ1.out
  rw [show ((q : Int) + 1) = (q1 : Int) by omega, run_make_row' (P := Try.prog) 38 54 (.int .u8 0) 1 Try.underlying38 info54 rfl .i64 .i64 q1 (by omega) (by omega) w1]
  obtain ⟨W2, hW2⟩ : ∃ Z, Z = w1.alloc (.cells (madeCells #[.int .u8 0] q1) 54) := ⟨_, rfl⟩
  rw [← hW2]
  obtain ⟨B, hB⟩ : ∃ b, b = w1.heap.size := ⟨_, rfl⟩
  rw [← hB]
  have H2 : Hid (W2.heap[B]? = some (.cells (oplaid Bk Pt P q 1) 54 (0, 0)) ∧ Only (fun b => B ≤ b) w1 W2 ∧ B = w1.heap.size) := by
    rw [hW2, hB, hq1, made_op Bk Pt P q]
    exact ⟨heap_alloc_new w1 _, (Only.refl _ _).alloc _, rfl⟩
  obtain ⟨gP, capP, evP, lgP, _, hcP⟩ := own_cells H1.out.2.1 (by omega)
  have eaP : aQ = some ⟨gP, 0, none⟩ := by injection evP
  subst eaP
  have HP : Hid (∀ W, Only (fun b => B ≤ b) w1 W → ∀ (j x : Nat), P[j]? = some x → W.cell? ⟨gP, j, none⟩ = some (.int .i64 (x : Int))) := fun W ho j x hj => keepS ho (hcP j _ (natI_get hj)) (by omega)
  have lgB : gP < B := by omega
  have lRB : R < B := by omega
  have hqq1 : q < q1 := by omega
  clear hW2 hB hq1 hcP evP
  go_wp2_with fail
  go_loopg [15] (q - 1) (fun gh v wr => ∃ (k : Nat) (W : World), W = wr ∧ gh = q - k ∧ 1 ≤ k ∧ (k ≤ q ∨ k = 1) ∧ v = .int .i64 (k : Int) ∧ W.heap[B]? = some (.cells (oplaid Bk Pt P q k) 54 (0, 0)) ∧ Only (fun b => B ≤ b) w1 W)
  case atStart => exact ⟨1, _, rfl, rfl, Nat.le_refl _, Or.inr rfl, rfl, H2.out.1, H2.out.2.1⟩
  case round =>
    obtain ⟨k, W3, hW3, rfl, hk1, hk2, rfl, hb3, ho3⟩ := hrel
    subst hW3
    have H3 : Hid (W3.heap[B]? = some (.cells (oplaid Bk Pt P q k) 54 (0, 0)) ∧ Only (fun b => B ≤ b) w1 W3 ∧ Only (fun _ => False) w W3) := ⟨hb3, ho3, H1.out.2.2.1.trans (ho3.old (fun b hb => Or.inl (by have := H2.out.2.2; omega)))⟩
    have lB3 : B < W3.heap.size := (Array.getElem?_eq_some_iff.1 hb3).1
    have fB : ∀ x, W3.frozen? ⟨B, x, none⟩ = false := fun x => fz_blk hb3 x
    by_cases hkq : k < q
    · have t1 : (k : Int) < (q : Int) := by omega
      have t2 : (k : Int) < (q1 : Int) := by omega
      obtain ⟨x, hx⟩ : ∃ x, P[k]? = some x := ⟨_, List.getElem?_eq_getElem (by rw [HPL.out]; omega)⟩
      have p1 := HP.out W3 ho3 k x hx
      have d1 : W3.cell? ⟨B, k, none⟩ = some (.int .u8 0) := by rw [cell_blk hb3, oplaid_at (Nat.le_refl _) (by omega)]
      have hgd : P.getD k 0 = x := by rw [List.getD_eq_getElem?_getD, hx]; rfl
      obtain ⟨v, hv⟩ : ∃ v, v = It.ah Bk Pt x := ⟨_, rfl⟩
      have HV : Hid (v = It.ah Bk Pt (P.getD k 0)) := by rw [hgd]; exact hv
      have HCA : Hid (∀ W, Only (fun _ => False) W3 W → Calls Try.prog 44 #[.int .i64 (x : Int), .slice aB nB cB, .slice aP nP cP] W fun e w' => e = .returned (.int .u8 (v : Int)) ∧ w' = W) := fun W ho => by rw [hv]; exact HA.out W (H3.out.2.2.trans ho) x (HQ.out.2.1 k x hx)
      have lgP3 : gP < W3.heap.size := World.block_lt_of_cell? W3 _ p1
      clear hb3 ho3 hx hgd hv
      go_wp2_with (go_at_call 44; refine Calls.mono (HCA.out _ (Only.refl _ _)) ?_; rintro e w4 ⟨rfl, rfl⟩)
      all_goals
        go_roundg (q - (k + 1))
        case measure => omega
        case rel => exact ⟨k + 1, _, rfl, rfl, by omega, by omega, by go_num, by rw [← oplaid_set hk1 HV.out]; exact heap_setCell_at H3.out.1 _, by first | exact (H3.out.2.1.setCell (p := ⟨B, k, none⟩) (Nat.le_refl B) _).drew | exact H3.out.2.1.setCell (p := ⟨B, k, none⟩) (Nat.le_refl B) _⟩
    · have t1 : decide ((k : Int) < (q : Int)) = false := decide_eq_false (by omega)
      have t2 : (q : Int) < (q1 : Int) := by omega
      have d1 : W3.cell? ⟨B, q, none⟩ = some (.int .u8 0) := by
        rw [cell_blk hb3]
        by_cases hkq2 : k ≤ q
        · exact oplaid_at hkq2 (Nat.le_refl _)
        · have e1 : k = 1 := by omega
          have e2 : q = 0 := by omega
          rw [e1, e2]
          exact oplaid_one
      have hbR : W3.heap[R]? = some (.cells #[.slice none 0 0, .slice none 0 0] 62 (0, 0)) := (ho3.block R (by omega) (by omega)).trans H1.out.2.2.2
      have HBE : Hid ((W3.setCell ⟨B, q, none⟩ (.int .u8 2)).heap[B]? = some (.cells (u8s (It.opl Bk Pt P q)).toArray 54 (0, 0)) ∧ W3.heap[R]? = some (.cells #[.slice none 0 0, .slice none 0 0] 62 (0, 0))) := ⟨by rw [heap_setCell_at hb3, oplaid_end (by omega)], hbR⟩
      have r0 : W3.cell? ⟨R, 0, none⟩ = some (.slice none 0 0) := cell_blk hbR
      have r1 : W3.cell? ⟨R, 1, none⟩ = some (.slice none 0 0) := cell_blk hbR
      have fR : ∀ x, W3.frozen? ⟨R, x, none⟩ = false := fun x => fz_blk hbR x
      have lR3 : R < W3.heap.size := (Array.getElem?_eq_some_iff.1 hbR).1
      have ne1 : ¬ R = B := by omega
      have ne2 : ¬ B = R := by omega
      clear hb3 ho3 hbR
      go_wp2_with fail
      refine bodyPost_ret (v := .agg #[.slice aC q cC, .slice (some ⟨B, 0, none⟩) q1 q1]) (results_cell_row rfl _ _ R 62 #[.slice aC q cC, .slice (some ⟨B, 0, none⟩) q1 q1] (0, 0) _ rfl (heap_setCell_at (k := 1) (heap_setCell_at (k := 0) ((Below.heap_setCell _ _ _ _ ne1).trans HBE.out.2) _) _) Try.underlying62 rfl (by kernel_rfl)) rfl ?_
      have e1 := HQ1.out
      have hR1 : R = w.heap.size := H0.out.2.2
      have hOO : Only (fun b => b = B ∨ b = R) W3 (((W3.setCell ⟨B, q, none⟩ (.int .u8 2)).setCell ⟨R, 0, none⟩ (.slice aC q cC)).setCell ⟨R, 1, none⟩ (.slice (some ⟨B, 0, none⟩) q1 q1)) := (((Only.refl _ W3).setCell (p := ⟨B, q, none⟩) (Or.inl rfl) _).setCell (p := ⟨R, 0, none⟩) (Or.inr rfl) _).setCell (p := ⟨R, 1, none⟩) (Or.inr rfl) _
      refine ⟨aC, some ⟨B, 0, none⟩, cC, q1, rfl, ?_, ?_, ?_⟩
      · refine own_base2 (own_stay (own_stay H1.out.1 H3.out.2.1 (fun g hg hb => ?_)) hOO (fun g hg hb => ?_)) (by omega)
        · have := own_lt H1.out.1 hg
          have := H2.out.2.2
          omega
        · have h1 := (own_own H1.out.1 hg).1
          have := own_lt H1.out.1 hg
          have := H2.out.2.2
          rcases hb with hb | hb <;> omega
      · have hl : (u8s (It.opl Bk Pt P q)).length = q1 := by rw [u8s_len, It.opl_len, e1]
        have hbb : (((W3.setCell ⟨B, q, none⟩ (.int .u8 2)).setCell ⟨R, 0, none⟩ (.slice aC q cC)).setCell ⟨R, 1, none⟩ (.slice (some ⟨B, 0, none⟩) q1 q1)).heap[B]? = some (.cells (u8s (It.opl Bk Pt P q)).toArray 54 (0, 0)) := (Below.heap_setCell _ _ _ _ ne2).trans ((Below.heap_setCell _ _ _ _ ne2).trans HBE.out.1)
        exact ⟨by rw [hl, Nat.mul_one], Or.inr ⟨B, q1, _, rfl, by omega, hbb, Nat.le_refl _, by unfold maxLen; omega, by simp [hl], by rw [List.take_of_length_le (by simp [hl])]⟩⟩
      · have h1 : Only (fun b => w.heap.size ≤ b) w W3 := H3.out.2.2.mono (fun _ h => h.elim)
        exact (h1.trans (hOO.mono (fun b hb => by rcases hb with hb | hb <;> omega))).old (fun b hb => Or.inl hb)
end Go.Proofs.Ytlcpfheocenjfaa
