/-
  stanzaref10.Make.
-/
import Derived.Test.YtlcpfheocenjfaaRc
import Derived.Test.YtlcpfheocenjfaaIt2
import Derived.Test.YtlcpfheocenjfaaPa
import Derived.Test.YtlcpfheocenjfaaCe5
namespace Go.Proofs.Ytlcpfheocenjfaa
open Go.RowKit Go.Maps
set_option linter.unusedVariables false
set_option linter.unusedSimpArgs false
theorem op_at {Bk : List Nat} {Pt : List Bool} {M : List Nat} {n k i : Nat} (h : (Ce.starts M n)[k]? = some i) : It.op Bk Pt (Ce.starts M n) (Ce.st M n).length k = if i = n then 2 else if i = 0 then 0 else It.ah Bk Pt i := by
  have hg : (Ce.starts M n).getD k 0 = i := by rw [List.getD_eq_getElem?_getD, h]; rfl
  unfold It.op
  rw [hg]
  by_cases h1 : i = n
  · rw [if_pos h1, if_pos (Ce.starts_end (by rw [h, h1]))]
  · rw [if_neg h1, if_neg (fun e => by
      rw [e, Ce.starts_last] at h
      injection h with h
      exact h1 h.symm)]
    by_cases h2 : i = 0
    · rw [if_pos h2, if_pos]
      by_cases h3 : k = 0
      · exact h3
      · have := Ce.starts_lt Ce.starts_first h (Nat.pos_of_ne_zero h3)
        omega
    · rw [if_neg h2, if_neg (fun e => by
        rw [e, Ce.starts_first] at h
        injection h with h
        exact h2 h.symm)]
theorem opl_snoc (Bk : List Nat) (Pt : List Bool) (P : List Nat) (q k : Nat) : (List.range (k + 1)).map (It.op Bk Pt P q) = (List.range k).map (It.op Bk Pt P q) ++ [It.op Bk Pt P q k] := by simp [List.range_succ]
set_option maxRecDepth 100000 in
set_option maxHeartbeats 4000000 in
theorem refMake_any (L : List Rg) (S : List Sn) (M Bk : List Nat) (Pt : List Bool) (aS aM aB aP aL : Option Addr) (cS cM cB cP bL oL cL : Nat) (w : World) (hL : Sees w L aL bL oL cL) (hLn : L.length ≤ 256) (hok : Pr.okFrom 256 (-1) L = true) (hV : Vw w aS (snC S)) (hF : Fits S) (hVM : Vw w aM (u8s M)) (hB : ∀ x ∈ M, x < 256) (hVB : Vw w aB (u8s Bk)) (hBB : ∀ x ∈ Bk, x < 256) (hVP : Vw w aP (bools Pt)) (hn : S.length ≤ 100000) (hm : M.length ≤ maxLen) (hmB : Bk.length ≤ maxLen) (hmP : Pt.length ≤ maxLen) :
    Calls Try.prog 28 #[.slice aS S.length cS, .slice aM M.length cM, .slice aB Bk.length cB, .slice aP Pt.length cP, .slice aL L.length cL] w (paP (Ce.cls (Pr.of L) S M) (It.opl Bk Pt (Ce.starts M S.length) (Ce.cls (Pr.of L) S M).length) w) := by
  have HC : Hid (∀ W, Only (fun _ => False) w W → Calls Try.prog 20 #[.slice aS S.length cS, .slice aM M.length cM, .slice aL L.length cL] W (ceP (Pr.of L) S M W)) := fun W ho => refClusters_any L S M aS aM aL cS cM bL oL cL W (hL.keep ho) hLn hok (hV.keep ho) hF (hVM.keep ho) hB hn hm
  have HV : Hid (Vw w aB (u8s Bk) ∧ (∀ x ∈ Bk, x < 256) ∧ Vw w aP (bools Pt)) := ⟨hVB, hBB, hVP⟩
  have HQ : Hid ((Ce.cls (Pr.of L) S M).length = (Ce.st M S.length).length ∧ (Ce.starts M S.length).length = (Ce.st M S.length).length + 1) := ⟨Ce.cls_len _ _ _, Ce.starts_len _ _⟩
  obtain ⟨C, hC⟩ : ∃ C, C = Ce.cls (Pr.of L) S M := ⟨_, rfl⟩
  obtain ⟨q, hq⟩ : ∃ q, q = (Ce.st M S.length).length := ⟨_, rfl⟩
  have hq2 : q ≤ 100000 := by rw [hq]; have := Ce.st_len M S.length; omega
  have HOP : Hid (∀ k i, (Ce.starts M S.length)[k]? = some i → It.op Bk Pt (Ce.starts M S.length) q k = if i = S.length then 2 else if i = 0 then 0 else It.ah Bk Pt i) := fun k i h => by rw [hq]; exact op_at h
  have HLE : Hid (∀ (k i : Nat), (Ce.starts M S.length)[k]? = some i → i ≤ S.length) := fun k i h => Ce.starts_le h
  unfold ceP at HC
  rw [← hC] at HC HQ ⊢
  obtain ⟨P, hP⟩ : ∃ P, P = Ce.starts M S.length := ⟨_, rfl⟩
  rw [← hP] at HC HQ HOP HLE ⊢
  rw [← hq] at HQ
  rw [HQ.out.1] at HC ⊢
  rw [HQ.out.2] at HC
  obtain ⟨ns, hns⟩ : ∃ n, n = S.length := ⟨_, rfl⟩
  obtain ⟨nM, hnM⟩ : ∃ n, n = M.length := ⟨_, rfl⟩
  obtain ⟨nB, hnB⟩ : ∃ n, n = Bk.length := ⟨_, rfl⟩
  obtain ⟨nP, hnP⟩ : ∃ n, n = Pt.length := ⟨_, rfl⟩
  obtain ⟨nL, hnL⟩ : ∃ n, n = L.length := ⟨_, rfl⟩
  have HN : Hid (nB = Bk.length ∧ nP = Pt.length) := ⟨hnB, hnP⟩
  rw [← hns] at HC HOP HLE hn ⊢
  rw [← hnM] at HC ⊢
  rw [← hnB] at hmB ⊢
  rw [← hnP] at hmP ⊢
  rw [← hnL] at HC ⊢
  have hmB' : nB ≤ 9223372036854775807 := hmB
  have hmP' : nP ≤ 9223372036854775807 := hmP
  clear hL hLn hok hV hF hVM hB hVB hBB hVP hm hmB hmP hC hq hP hns hnM hnB hnP hnL
  obtain ⟨j3, h3, h30, h31, h32⟩ := info_parts info54
  go_enter Try.func28, Try.ntmps28
  go_wp2_with fail
  obtain ⟨R0, hR0⟩ : ∃ b, b = w.heap.size := ⟨_, rfl⟩
  obtain ⟨w0, hw0⟩ : ∃ Z, Z = w.alloc (.cells #[.slice none 0 0, .slice none 0 0] 62) := ⟨_, rfl⟩
  rw [← hw0, ← hR0]
  have H0 : Hid (w0.heap[R0]? = some (.cells #[.slice none 0 0, .slice none 0 0] 62 (0, 0)) ∧ Only (fun _ => False) w w0 ∧ R0 = w.heap.size ∧ w0.heap.size = R0 + 1) := by
    rw [hw0, hR0]
    exact ⟨heap_alloc_new w _, (Only.refl _ _).alloc _, rfl, Array.size_push _⟩
  clear hw0 hR0
  refine Calls.mono (HC.out _ H0.out.2.1) ?_
  rintro e w1 ⟨aC, aQ, cC, cQ, rfl, hcl, hst, ho1⟩
  have H1 : Hid (w1.ownsRow w0.heap.size 48 4 (.slice aC q cC) q (ctC C) ∧ Vw w1 aQ (natI P) ∧ Only (fun _ => False) w0 w1 ∧ w1.heap[R0]? = some (.cells #[.slice none 0 0, .slice none 0 0] 62 (0, 0))) := ⟨hcl, own_vw hst, ho1, blk_keep ho1 H0.out.1⟩
  clear hcl hst ho1
  go_wp2_with fail
  obtain ⟨R, hR⟩ : ∃ b, b = w1.heap.size := ⟨_, rfl⟩
  obtain ⟨w2, hw2⟩ : ∃ Z, Z = w1.alloc (.cells #[.slice aC q cC, .slice none 0 0] 62) := ⟨_, rfl⟩
  rw [← hw2, ← hR]
  have H2 : Hid (w2.heap[R]? = some (.cells #[.slice aC q cC, .slice none 0 0] 62 (0, 0)) ∧ Only (fun _ => False) w1 w2 ∧ R = w1.heap.size ∧ w2.heap.size = R + 1) := by
    rw [hw2, hR]
    exact ⟨heap_alloc_new w1 _, (Only.refl _ _).alloc _, rfl, Array.size_push _⟩
  have hs2 : R + 1 ≤ w2.heap.size := Nat.le_of_eq H2.out.2.2.2.symm
  have hs1 := H1.out.2.2.1.size
  have hs0 : w.heap.size ≤ R0 := Nat.le_of_eq H0.out.2.2.1.symm
  have hs0' : R0 + 1 ≤ w0.heap.size := Nat.le_of_eq H0.out.2.2.2.symm
  have hs3 : w1.heap.size ≤ R := Nat.le_of_eq H2.out.2.2.1.symm
  clear hw2 hR
  have HOW : Hid (Only (fun _ => False) w w2) := H0.out.2.1.trans (H1.out.2.2.1.trans H2.out.2.1)
  go_loopg [14] (q + 1) (fun gh v wr => ∃ (k : Nat) (aO : Option Addr) (cO : Nat) (W2 : World), W2 = wr ∧ gh = q + 1 - k ∧ k ≤ q + 1 ∧ v = .int .i64 (k : Int) ∧ W2.heap[R]? = some (.cells #[.slice aC q cC, .slice aO k cO] 62 (0, 0)) ∧ W2.ownsRow w2.heap.size 54 1 (.slice aO k cO) k (u8s ((List.range k).map (It.op Bk Pt P q))) ∧ Only (fun b => b = R ∨ w2.heap.size ≤ b) w2 W2)
  case atStart => exact ⟨0, none, 0, _, rfl, rfl, Nat.zero_le _, rfl, H2.out.1, ⟨rfl, Or.inl ⟨rfl, rfl⟩⟩, Only.refl _ _⟩
  case round =>
    obtain ⟨k, aO, cO, W2, hW2, rfl, hk, rfl, hbR, hown, hoW⟩ := hrel
    subst hW2
    have HG2 : Hid (W2.ownsRow w2.heap.size 54 1 (.slice aO k cO) k (u8s ((List.range k).map (It.op Bk Pt P q))) ∧ Only (fun b => b = R ∨ w2.heap.size ≤ b) w2 W2 ∧ W2.heap[R]? = some (.cells #[.slice aC q cC, .slice aO k cO] 62 (0, 0)) ∧ Only (fun _ => False) w1 W2) := ⟨hown, hoW, hbR, ((H2.out.2.1.mono (S' := fun b => R ≤ b) (fun _ h => h.elim)).trans (hoW.mono (fun b hb => by rcases hb with hb | hb <;> omega))).old (fun b hb => Or.inl (by omega))⟩
    have HWW : Hid (Only (fun _ => False) w W2) := H0.out.2.1.trans (H1.out.2.2.1.trans HG2.out.2.2.2)
    have hsz2 := hoW.size
    obtain ⟨e0', e1', lR2⟩ := blk_two hbR
    have fR2 : ∀ x, W2.frozen? ⟨R, x, none⟩ = false := fun x => fz_blk hbR x
    clear hown hoW hbR
    by_cases hlt : k < q + 1
    · have t1 : (k : Int) < (q : Int) + 1 := by omega
      obtain ⟨i, hi⟩ : ∃ i, P[k]? = some i := ⟨_, List.getElem?_eq_getElem (by rw [HQ.out.2]; exact hlt)⟩
      have hile : i ≤ ns := HLE.out k i hi
      obtain ⟨bQ, oQ, eQ, hbQ, hcQ⟩ := (H1.out.2.1.keep HG2.out.2.2.2).cells (by rw [natI_len, HQ.out.2]; omega)
      subst eQ
      have cQ1 : W2.cell? ⟨bQ, oQ + k, none⟩ = some (.int .i64 (i : Int)) := hcQ k _ (by simp [natI, hi])
      have HOK : Hid (It.op Bk Pt P q k = if i = ns then 2 else if i = 0 then 0 else It.ah Bk Pt i) := HOP.out k i hi
      clear hi hcQ
      by_cases hB : i < nB
      · have tB : (i : Int) < (nB : Int) := by omega
        obtain ⟨x, hx⟩ : ∃ x, Bk[i]? = some x := ⟨_, List.getElem?_eq_getElem (by rw [← HN.out.1]; exact hB)⟩
        have hx8 : x < 256 := HV.out.2.1 x (List.mem_of_getElem? hx)
        obtain ⟨bB, oB, eB, hbB, hcB⟩ := (HV.out.1.keep HWW.out).cells (by rw [u8s_len, ← HN.out.1]; omega)
        subst eB
        have cB1 := hcB i _ (u8s_at hx)
        have HA : Hid (It.ah Bk Pt i = if x = 0 ∧ Pt.getD i false = true then 3 else x) := by
          unfold It.ah
          rw [if_pos (by rw [← HN.out.1]; exact hB), show Bk.getD i 0 = x by rw [List.getD_eq_getElem?_getD, hx]; rfl]
          exact rfl
        clear hx hcB
        by_cases hx0 : x = 0
        · subst hx0
          by_cases hPt : i < nP
          · have tP : (i : Int) < (nP : Int) := by omega
            obtain ⟨y, hy⟩ : ∃ y, Pt[i]? = some y := ⟨_, List.getElem?_eq_getElem (by rw [← HN.out.2]; exact hPt)⟩
            obtain ⟨bP, oP, eP, hbP, hcP⟩ := (HV.out.2.2.keep HWW.out).cells (by rw [bools_len, ← HN.out.2]; omega)
            subst eP
            have cP1 := hcP i _ (bools_at hy)
            have hyd : Pt.getD i false = y := by rw [List.getD_eq_getElem?_getD, hy]; rfl
            rw [hyd] at HA
            clear hy hcP hyd
            cases y with
            | true =>
              have HAH : Hid (It.ah Bk Pt i = 3) := HA.out
              clear HA
              by_cases hi1 : i = ns
              · have en : ((i : Int) == (ns : Int)) = true := by rw [beq_iff_eq]; omega
                have HO : Hid (It.op Bk Pt P q k = 2) := by rw [HOK.out, if_pos hi1]; exact rfl
                by_cases hi0 : i = 0
                · have e0 : ((i : Int) == 0) = true := by rw [beq_iff_eq]; omega
                  clear hi1 hi0
                  have HVA : Hid _ := blk1 W2 (.cells #[.int .u8 2] 54)
                  have HO1 : Hid (u8s ((List.range (k + 1)).map (It.op Bk Pt P q)) = u8s ((List.range k).map (It.op Bk Pt P q)) ++ [.int .u8 2]) := by rw [opl_snoc, u8s_snoc, HO.out]; exact rfl
                  go_wp2_with (at_builtin; (refine wpList_append_lies _ rfl _ _ 38 rfl w2.heap.size 54 j3 (.int .u8 0) 1 1 Try.underlying38 h3 h30 h31 h32 rfl (by decide) (.slice aO k cO) k (u8s ((List.range k).map (It.op Bk Pt P q))) rfl (HG2.out.1.alloc _) ⟨W2.heap.size, 0, none⟩ 1 1 [.int .u8 2] rfl rfl (World.news_of_block (cs := #[.int .u8 2]) HVA.out.1) (fun u hu => by simp at hu; rcases hu with rfl; rfl) (by decide) (by unfold maxLen; omega) (by omega) (by rw [HVA.out.2]; omega) (W2.heap.size + 1) HVA.out.2 ?_; intro g5 cap5 w5 hown5 hgrow5 hat5 hlt5; have hoo : Only (fun b => (Value.slice aO k cO).ownBlock = some b) W2 w5 := ((Only.refl (fun b => (Value.slice aO k cO).ownBlock = some b) W2).alloc _).grown hgrow5 (fun k hk => hk); have hbR5 : w5.heap[R]? = some (.cells #[.slice aC q cC, .slice aO k cO] 62 (0, 0)) := (hoo.block R lR2 (fun h => by have := (own_own HG2.out.1 h).1; omega)).trans HG2.out.2.2.1; obtain ⟨q0, q1, lR5⟩ := blk_two hbR5; have fR5 : ∀ x, w5.frozen? ⟨R, x, none⟩ = false := fun x => fz_blk hbR5 x; have H5 : Hid (w5.ownsRow w2.heap.size 54 1 (.slice (some ⟨g5, 0, none⟩) (k + 1) cap5) (k + 1) (u8s ((List.range (k + 1)).map (It.op Bk Pt P q))) ∧ Only (fun b => b = R ∨ w2.heap.size ≤ b) w2 w5 ∧ w5.heap[R]? = some (.cells #[.slice aC q cC, .slice aO k cO] 62 (0, 0))) := ⟨by rw [HO1.out]; exact hown5, HG2.out.2.1.trans (hoo.mono (fun b hb => Or.inr (own_own HG2.out.1 hb).1)), hbR5⟩; clear hown5 hgrow5 hat5 hoo hbR5))
                  go_roundg (q + 1 - (k + 1))
                  case measure => omega
                  case rel => exact ⟨k + 1, some ⟨g5, 0, none⟩, cap5, _, rfl, rfl, by omega, by go_num, heap_setCell_at H5.out.2.2 _, own_only H5.out.1 ((Only.refl (fun b => b = R) w5).setCell (p := ⟨R, 1, none⟩) rfl _) (fun g hg he => by omega), H5.out.2.1.setCell (p := ⟨R, 1, none⟩) (Or.inl rfl) _⟩
                · have e0 : ((i : Int) == 0) = false := by rw [beq_eq_false_iff_ne]; omega
                  clear hi1 hi0
                  have HVA : Hid _ := blk1 W2 (.cells #[.int .u8 2] 54)
                  have HO1 : Hid (u8s ((List.range (k + 1)).map (It.op Bk Pt P q)) = u8s ((List.range k).map (It.op Bk Pt P q)) ++ [.int .u8 2]) := by rw [opl_snoc, u8s_snoc, HO.out]; exact rfl
                  go_wp2_with (at_builtin; (refine wpList_append_lies _ rfl _ _ 38 rfl w2.heap.size 54 j3 (.int .u8 0) 1 1 Try.underlying38 h3 h30 h31 h32 rfl (by decide) (.slice aO k cO) k (u8s ((List.range k).map (It.op Bk Pt P q))) rfl (HG2.out.1.alloc _) ⟨W2.heap.size, 0, none⟩ 1 1 [.int .u8 2] rfl rfl (World.news_of_block (cs := #[.int .u8 2]) HVA.out.1) (fun u hu => by simp at hu; rcases hu with rfl; rfl) (by decide) (by unfold maxLen; omega) (by omega) (by rw [HVA.out.2]; omega) (W2.heap.size + 1) HVA.out.2 ?_; intro g5 cap5 w5 hown5 hgrow5 hat5 hlt5; have hoo : Only (fun b => (Value.slice aO k cO).ownBlock = some b) W2 w5 := ((Only.refl (fun b => (Value.slice aO k cO).ownBlock = some b) W2).alloc _).grown hgrow5 (fun k hk => hk); have hbR5 : w5.heap[R]? = some (.cells #[.slice aC q cC, .slice aO k cO] 62 (0, 0)) := (hoo.block R lR2 (fun h => by have := (own_own HG2.out.1 h).1; omega)).trans HG2.out.2.2.1; obtain ⟨q0, q1, lR5⟩ := blk_two hbR5; have fR5 : ∀ x, w5.frozen? ⟨R, x, none⟩ = false := fun x => fz_blk hbR5 x; have H5 : Hid (w5.ownsRow w2.heap.size 54 1 (.slice (some ⟨g5, 0, none⟩) (k + 1) cap5) (k + 1) (u8s ((List.range (k + 1)).map (It.op Bk Pt P q))) ∧ Only (fun b => b = R ∨ w2.heap.size ≤ b) w2 w5 ∧ w5.heap[R]? = some (.cells #[.slice aC q cC, .slice aO k cO] 62 (0, 0))) := ⟨by rw [HO1.out]; exact hown5, HG2.out.2.1.trans (hoo.mono (fun b hb => Or.inr (own_own HG2.out.1 hb).1)), hbR5⟩; clear hown5 hgrow5 hat5 hoo hbR5))
                  go_roundg (q + 1 - (k + 1))
                  case measure => omega
                  case rel => exact ⟨k + 1, some ⟨g5, 0, none⟩, cap5, _, rfl, rfl, by omega, by go_num, heap_setCell_at H5.out.2.2 _, own_only H5.out.1 ((Only.refl (fun b => b = R) w5).setCell (p := ⟨R, 1, none⟩) rfl _) (fun g hg he => by omega), H5.out.2.1.setCell (p := ⟨R, 1, none⟩) (Or.inl rfl) _⟩
              · have en : ((i : Int) == (ns : Int)) = false := by rw [beq_eq_false_iff_ne]; omega
                by_cases hi0 : i = 0
                · have e0 : ((i : Int) == 0) = true := by rw [beq_iff_eq]; omega
                  have HO : Hid (It.op Bk Pt P q k = 0) := by rw [HOK.out, if_neg hi1, if_pos hi0]; exact rfl
                  clear hi1 hi0
                  have HVA : Hid _ := blk1 W2 (.cells #[.int .u8 0] 54)
                  have HO1 : Hid (u8s ((List.range (k + 1)).map (It.op Bk Pt P q)) = u8s ((List.range k).map (It.op Bk Pt P q)) ++ [.int .u8 0]) := by rw [opl_snoc, u8s_snoc, HO.out]; exact rfl
                  go_wp2_with (at_builtin; (refine wpList_append_lies _ rfl _ _ 38 rfl w2.heap.size 54 j3 (.int .u8 0) 1 1 Try.underlying38 h3 h30 h31 h32 rfl (by decide) (.slice aO k cO) k (u8s ((List.range k).map (It.op Bk Pt P q))) rfl (HG2.out.1.alloc _) ⟨W2.heap.size, 0, none⟩ 1 1 [.int .u8 0] rfl rfl (World.news_of_block (cs := #[.int .u8 0]) HVA.out.1) (fun u hu => by simp at hu; rcases hu with rfl; rfl) (by decide) (by unfold maxLen; omega) (by omega) (by rw [HVA.out.2]; omega) (W2.heap.size + 1) HVA.out.2 ?_; intro g5 cap5 w5 hown5 hgrow5 hat5 hlt5; have hoo : Only (fun b => (Value.slice aO k cO).ownBlock = some b) W2 w5 := ((Only.refl (fun b => (Value.slice aO k cO).ownBlock = some b) W2).alloc _).grown hgrow5 (fun k hk => hk); have hbR5 : w5.heap[R]? = some (.cells #[.slice aC q cC, .slice aO k cO] 62 (0, 0)) := (hoo.block R lR2 (fun h => by have := (own_own HG2.out.1 h).1; omega)).trans HG2.out.2.2.1; obtain ⟨q0, q1, lR5⟩ := blk_two hbR5; have fR5 : ∀ x, w5.frozen? ⟨R, x, none⟩ = false := fun x => fz_blk hbR5 x; have H5 : Hid (w5.ownsRow w2.heap.size 54 1 (.slice (some ⟨g5, 0, none⟩) (k + 1) cap5) (k + 1) (u8s ((List.range (k + 1)).map (It.op Bk Pt P q))) ∧ Only (fun b => b = R ∨ w2.heap.size ≤ b) w2 w5 ∧ w5.heap[R]? = some (.cells #[.slice aC q cC, .slice aO k cO] 62 (0, 0))) := ⟨by rw [HO1.out]; exact hown5, HG2.out.2.1.trans (hoo.mono (fun b hb => Or.inr (own_own HG2.out.1 hb).1)), hbR5⟩; clear hown5 hgrow5 hat5 hoo hbR5))
                  go_roundg (q + 1 - (k + 1))
                  case measure => omega
                  case rel => exact ⟨k + 1, some ⟨g5, 0, none⟩, cap5, _, rfl, rfl, by omega, by go_num, heap_setCell_at H5.out.2.2 _, own_only H5.out.1 ((Only.refl (fun b => b = R) w5).setCell (p := ⟨R, 1, none⟩) rfl _) (fun g hg he => by omega), H5.out.2.1.setCell (p := ⟨R, 1, none⟩) (Or.inl rfl) _⟩
                · have e0 : ((i : Int) == 0) = false := by rw [beq_eq_false_iff_ne]; omega
                  have HO : Hid (It.op Bk Pt P q k = 3) := by rw [HOK.out, if_neg hi1, if_neg hi0]; exact HAH.out
                  clear hi1 hi0
                  have HVA : Hid _ := blk1 W2 (.cells #[.int .u8 3] 54)
                  have HO1 : Hid (u8s ((List.range (k + 1)).map (It.op Bk Pt P q)) = u8s ((List.range k).map (It.op Bk Pt P q)) ++ [.int .u8 3]) := by rw [opl_snoc, u8s_snoc, HO.out]; exact rfl
                  go_wp2_with (at_builtin; (refine wpList_append_lies _ rfl _ _ 38 rfl w2.heap.size 54 j3 (.int .u8 0) 1 1 Try.underlying38 h3 h30 h31 h32 rfl (by decide) (.slice aO k cO) k (u8s ((List.range k).map (It.op Bk Pt P q))) rfl (HG2.out.1.alloc _) ⟨W2.heap.size, 0, none⟩ 1 1 [.int .u8 3] rfl rfl (World.news_of_block (cs := #[.int .u8 3]) HVA.out.1) (fun u hu => by simp at hu; rcases hu with rfl; rfl) (by decide) (by unfold maxLen; omega) (by omega) (by rw [HVA.out.2]; omega) (W2.heap.size + 1) HVA.out.2 ?_; intro g5 cap5 w5 hown5 hgrow5 hat5 hlt5; have hoo : Only (fun b => (Value.slice aO k cO).ownBlock = some b) W2 w5 := ((Only.refl (fun b => (Value.slice aO k cO).ownBlock = some b) W2).alloc _).grown hgrow5 (fun k hk => hk); have hbR5 : w5.heap[R]? = some (.cells #[.slice aC q cC, .slice aO k cO] 62 (0, 0)) := (hoo.block R lR2 (fun h => by have := (own_own HG2.out.1 h).1; omega)).trans HG2.out.2.2.1; obtain ⟨q0, q1, lR5⟩ := blk_two hbR5; have fR5 : ∀ x, w5.frozen? ⟨R, x, none⟩ = false := fun x => fz_blk hbR5 x; have H5 : Hid (w5.ownsRow w2.heap.size 54 1 (.slice (some ⟨g5, 0, none⟩) (k + 1) cap5) (k + 1) (u8s ((List.range (k + 1)).map (It.op Bk Pt P q))) ∧ Only (fun b => b = R ∨ w2.heap.size ≤ b) w2 w5 ∧ w5.heap[R]? = some (.cells #[.slice aC q cC, .slice aO k cO] 62 (0, 0))) := ⟨by rw [HO1.out]; exact hown5, HG2.out.2.1.trans (hoo.mono (fun b hb => Or.inr (own_own HG2.out.1 hb).1)), hbR5⟩; clear hown5 hgrow5 hat5 hoo hbR5))
                  go_roundg (q + 1 - (k + 1))
                  case measure => omega
                  case rel => exact ⟨k + 1, some ⟨g5, 0, none⟩, cap5, _, rfl, rfl, by omega, by go_num, heap_setCell_at H5.out.2.2 _, own_only H5.out.1 ((Only.refl (fun b => b = R) w5).setCell (p := ⟨R, 1, none⟩) rfl _) (fun g hg he => by omega), H5.out.2.1.setCell (p := ⟨R, 1, none⟩) (Or.inl rfl) _⟩
            | false =>
              have HAH : Hid (It.ah Bk Pt i = 0) := HA.out
              clear HA
              by_cases hi1 : i = ns
              · have en : ((i : Int) == (ns : Int)) = true := by rw [beq_iff_eq]; omega
                have HO : Hid (It.op Bk Pt P q k = 2) := by rw [HOK.out, if_pos hi1]; exact rfl
                by_cases hi0 : i = 0
                · have e0 : ((i : Int) == 0) = true := by rw [beq_iff_eq]; omega
                  clear hi1 hi0
                  have HVA : Hid _ := blk1 W2 (.cells #[.int .u8 2] 54)
                  have HO1 : Hid (u8s ((List.range (k + 1)).map (It.op Bk Pt P q)) = u8s ((List.range k).map (It.op Bk Pt P q)) ++ [.int .u8 2]) := by rw [opl_snoc, u8s_snoc, HO.out]; exact rfl
                  go_wp2_with (at_builtin; (refine wpList_append_lies _ rfl _ _ 38 rfl w2.heap.size 54 j3 (.int .u8 0) 1 1 Try.underlying38 h3 h30 h31 h32 rfl (by decide) (.slice aO k cO) k (u8s ((List.range k).map (It.op Bk Pt P q))) rfl (HG2.out.1.alloc _) ⟨W2.heap.size, 0, none⟩ 1 1 [.int .u8 2] rfl rfl (World.news_of_block (cs := #[.int .u8 2]) HVA.out.1) (fun u hu => by simp at hu; rcases hu with rfl; rfl) (by decide) (by unfold maxLen; omega) (by omega) (by rw [HVA.out.2]; omega) (W2.heap.size + 1) HVA.out.2 ?_; intro g5 cap5 w5 hown5 hgrow5 hat5 hlt5; have hoo : Only (fun b => (Value.slice aO k cO).ownBlock = some b) W2 w5 := ((Only.refl (fun b => (Value.slice aO k cO).ownBlock = some b) W2).alloc _).grown hgrow5 (fun k hk => hk); have hbR5 : w5.heap[R]? = some (.cells #[.slice aC q cC, .slice aO k cO] 62 (0, 0)) := (hoo.block R lR2 (fun h => by have := (own_own HG2.out.1 h).1; omega)).trans HG2.out.2.2.1; obtain ⟨q0, q1, lR5⟩ := blk_two hbR5; have fR5 : ∀ x, w5.frozen? ⟨R, x, none⟩ = false := fun x => fz_blk hbR5 x; have H5 : Hid (w5.ownsRow w2.heap.size 54 1 (.slice (some ⟨g5, 0, none⟩) (k + 1) cap5) (k + 1) (u8s ((List.range (k + 1)).map (It.op Bk Pt P q))) ∧ Only (fun b => b = R ∨ w2.heap.size ≤ b) w2 w5 ∧ w5.heap[R]? = some (.cells #[.slice aC q cC, .slice aO k cO] 62 (0, 0))) := ⟨by rw [HO1.out]; exact hown5, HG2.out.2.1.trans (hoo.mono (fun b hb => Or.inr (own_own HG2.out.1 hb).1)), hbR5⟩; clear hown5 hgrow5 hat5 hoo hbR5))
                  go_roundg (q + 1 - (k + 1))
                  case measure => omega
                  case rel => exact ⟨k + 1, some ⟨g5, 0, none⟩, cap5, _, rfl, rfl, by omega, by go_num, heap_setCell_at H5.out.2.2 _, own_only H5.out.1 ((Only.refl (fun b => b = R) w5).setCell (p := ⟨R, 1, none⟩) rfl _) (fun g hg he => by omega), H5.out.2.1.setCell (p := ⟨R, 1, none⟩) (Or.inl rfl) _⟩
                · have e0 : ((i : Int) == 0) = false := by rw [beq_eq_false_iff_ne]; omega
                  clear hi1 hi0
                  have HVA : Hid _ := blk1 W2 (.cells #[.int .u8 2] 54)
                  have HO1 : Hid (u8s ((List.range (k + 1)).map (It.op Bk Pt P q)) = u8s ((List.range k).map (It.op Bk Pt P q)) ++ [.int .u8 2]) := by rw [opl_snoc, u8s_snoc, HO.out]; exact rfl
                  go_wp2_with (at_builtin; (refine wpList_append_lies _ rfl _ _ 38 rfl w2.heap.size 54 j3 (.int .u8 0) 1 1 Try.underlying38 h3 h30 h31 h32 rfl (by decide) (.slice aO k cO) k (u8s ((List.range k).map (It.op Bk Pt P q))) rfl (HG2.out.1.alloc _) ⟨W2.heap.size, 0, none⟩ 1 1 [.int .u8 2] rfl rfl (World.news_of_block (cs := #[.int .u8 2]) HVA.out.1) (fun u hu => by simp at hu; rcases hu with rfl; rfl) (by decide) (by unfold maxLen; omega) (by omega) (by rw [HVA.out.2]; omega) (W2.heap.size + 1) HVA.out.2 ?_; intro g5 cap5 w5 hown5 hgrow5 hat5 hlt5; have hoo : Only (fun b => (Value.slice aO k cO).ownBlock = some b) W2 w5 := ((Only.refl (fun b => (Value.slice aO k cO).ownBlock = some b) W2).alloc _).grown hgrow5 (fun k hk => hk); have hbR5 : w5.heap[R]? = some (.cells #[.slice aC q cC, .slice aO k cO] 62 (0, 0)) := (hoo.block R lR2 (fun h => by have := (own_own HG2.out.1 h).1; omega)).trans HG2.out.2.2.1; obtain ⟨q0, q1, lR5⟩ := blk_two hbR5; have fR5 : ∀ x, w5.frozen? ⟨R, x, none⟩ = false := fun x => fz_blk hbR5 x; have H5 : Hid (w5.ownsRow w2.heap.size 54 1 (.slice (some ⟨g5, 0, none⟩) (k + 1) cap5) (k + 1) (u8s ((List.range (k + 1)).map (It.op Bk Pt P q))) ∧ Only (fun b => b = R ∨ w2.heap.size ≤ b) w2 w5 ∧ w5.heap[R]? = some (.cells #[.slice aC q cC, .slice aO k cO] 62 (0, 0))) := ⟨by rw [HO1.out]; exact hown5, HG2.out.2.1.trans (hoo.mono (fun b hb => Or.inr (own_own HG2.out.1 hb).1)), hbR5⟩; clear hown5 hgrow5 hat5 hoo hbR5))
                  go_roundg (q + 1 - (k + 1))
                  case measure => omega
                  case rel => exact ⟨k + 1, some ⟨g5, 0, none⟩, cap5, _, rfl, rfl, by omega, by go_num, heap_setCell_at H5.out.2.2 _, own_only H5.out.1 ((Only.refl (fun b => b = R) w5).setCell (p := ⟨R, 1, none⟩) rfl _) (fun g hg he => by omega), H5.out.2.1.setCell (p := ⟨R, 1, none⟩) (Or.inl rfl) _⟩
              · have en : ((i : Int) == (ns : Int)) = false := by rw [beq_eq_false_iff_ne]; omega
                by_cases hi0 : i = 0
                · have e0 : ((i : Int) == 0) = true := by rw [beq_iff_eq]; omega
                  have HO : Hid (It.op Bk Pt P q k = 0) := by rw [HOK.out, if_neg hi1, if_pos hi0]; exact rfl
                  clear hi1 hi0
                  have HVA : Hid _ := blk1 W2 (.cells #[.int .u8 0] 54)
                  have HO1 : Hid (u8s ((List.range (k + 1)).map (It.op Bk Pt P q)) = u8s ((List.range k).map (It.op Bk Pt P q)) ++ [.int .u8 0]) := by rw [opl_snoc, u8s_snoc, HO.out]; exact rfl
                  go_wp2_with (at_builtin; (refine wpList_append_lies _ rfl _ _ 38 rfl w2.heap.size 54 j3 (.int .u8 0) 1 1 Try.underlying38 h3 h30 h31 h32 rfl (by decide) (.slice aO k cO) k (u8s ((List.range k).map (It.op Bk Pt P q))) rfl (HG2.out.1.alloc _) ⟨W2.heap.size, 0, none⟩ 1 1 [.int .u8 0] rfl rfl (World.news_of_block (cs := #[.int .u8 0]) HVA.out.1) (fun u hu => by simp at hu; rcases hu with rfl; rfl) (by decide) (by unfold maxLen; omega) (by omega) (by rw [HVA.out.2]; omega) (W2.heap.size + 1) HVA.out.2 ?_; intro g5 cap5 w5 hown5 hgrow5 hat5 hlt5; have hoo : Only (fun b => (Value.slice aO k cO).ownBlock = some b) W2 w5 := ((Only.refl (fun b => (Value.slice aO k cO).ownBlock = some b) W2).alloc _).grown hgrow5 (fun k hk => hk); have hbR5 : w5.heap[R]? = some (.cells #[.slice aC q cC, .slice aO k cO] 62 (0, 0)) := (hoo.block R lR2 (fun h => by have := (own_own HG2.out.1 h).1; omega)).trans HG2.out.2.2.1; obtain ⟨q0, q1, lR5⟩ := blk_two hbR5; have fR5 : ∀ x, w5.frozen? ⟨R, x, none⟩ = false := fun x => fz_blk hbR5 x; have H5 : Hid (w5.ownsRow w2.heap.size 54 1 (.slice (some ⟨g5, 0, none⟩) (k + 1) cap5) (k + 1) (u8s ((List.range (k + 1)).map (It.op Bk Pt P q))) ∧ Only (fun b => b = R ∨ w2.heap.size ≤ b) w2 w5 ∧ w5.heap[R]? = some (.cells #[.slice aC q cC, .slice aO k cO] 62 (0, 0))) := ⟨by rw [HO1.out]; exact hown5, HG2.out.2.1.trans (hoo.mono (fun b hb => Or.inr (own_own HG2.out.1 hb).1)), hbR5⟩; clear hown5 hgrow5 hat5 hoo hbR5))
                  go_roundg (q + 1 - (k + 1))
                  case measure => omega
                  case rel => exact ⟨k + 1, some ⟨g5, 0, none⟩, cap5, _, rfl, rfl, by omega, by go_num, heap_setCell_at H5.out.2.2 _, own_only H5.out.1 ((Only.refl (fun b => b = R) w5).setCell (p := ⟨R, 1, none⟩) rfl _) (fun g hg he => by omega), H5.out.2.1.setCell (p := ⟨R, 1, none⟩) (Or.inl rfl) _⟩
                · have e0 : ((i : Int) == 0) = false := by rw [beq_eq_false_iff_ne]; omega
                  have HO : Hid (It.op Bk Pt P q k = 0) := by rw [HOK.out, if_neg hi1, if_neg hi0]; exact HAH.out
                  clear hi1 hi0
                  have HVA : Hid _ := blk1 W2 (.cells #[.int .u8 0] 54)
                  have HO1 : Hid (u8s ((List.range (k + 1)).map (It.op Bk Pt P q)) = u8s ((List.range k).map (It.op Bk Pt P q)) ++ [.int .u8 0]) := by rw [opl_snoc, u8s_snoc, HO.out]; exact rfl
                  go_wp2_with (at_builtin; (refine wpList_append_lies _ rfl _ _ 38 rfl w2.heap.size 54 j3 (.int .u8 0) 1 1 Try.underlying38 h3 h30 h31 h32 rfl (by decide) (.slice aO k cO) k (u8s ((List.range k).map (It.op Bk Pt P q))) rfl (HG2.out.1.alloc _) ⟨W2.heap.size, 0, none⟩ 1 1 [.int .u8 0] rfl rfl (World.news_of_block (cs := #[.int .u8 0]) HVA.out.1) (fun u hu => by simp at hu; rcases hu with rfl; rfl) (by decide) (by unfold maxLen; omega) (by omega) (by rw [HVA.out.2]; omega) (W2.heap.size + 1) HVA.out.2 ?_; intro g5 cap5 w5 hown5 hgrow5 hat5 hlt5; have hoo : Only (fun b => (Value.slice aO k cO).ownBlock = some b) W2 w5 := ((Only.refl (fun b => (Value.slice aO k cO).ownBlock = some b) W2).alloc _).grown hgrow5 (fun k hk => hk); have hbR5 : w5.heap[R]? = some (.cells #[.slice aC q cC, .slice aO k cO] 62 (0, 0)) := (hoo.block R lR2 (fun h => by have := (own_own HG2.out.1 h).1; omega)).trans HG2.out.2.2.1; obtain ⟨q0, q1, lR5⟩ := blk_two hbR5; have fR5 : ∀ x, w5.frozen? ⟨R, x, none⟩ = false := fun x => fz_blk hbR5 x; have H5 : Hid (w5.ownsRow w2.heap.size 54 1 (.slice (some ⟨g5, 0, none⟩) (k + 1) cap5) (k + 1) (u8s ((List.range (k + 1)).map (It.op Bk Pt P q))) ∧ Only (fun b => b = R ∨ w2.heap.size ≤ b) w2 w5 ∧ w5.heap[R]? = some (.cells #[.slice aC q cC, .slice aO k cO] 62 (0, 0))) := ⟨by rw [HO1.out]; exact hown5, HG2.out.2.1.trans (hoo.mono (fun b hb => Or.inr (own_own HG2.out.1 hb).1)), hbR5⟩; clear hown5 hgrow5 hat5 hoo hbR5))
                  go_roundg (q + 1 - (k + 1))
                  case measure => omega
                  case rel => exact ⟨k + 1, some ⟨g5, 0, none⟩, cap5, _, rfl, rfl, by omega, by go_num, heap_setCell_at H5.out.2.2 _, own_only H5.out.1 ((Only.refl (fun b => b = R) w5).setCell (p := ⟨R, 1, none⟩) rfl _) (fun g hg he => by omega), H5.out.2.1.setCell (p := ⟨R, 1, none⟩) (Or.inl rfl) _⟩
          · have tP : decide ((i : Int) < (nP : Int)) = false := decide_eq_false (by omega)
            have HAH : Hid (It.ah Bk Pt i = 0) := by
              rw [HA.out, if_neg (fun h => by
                have := h.2
                rw [List.getD_eq_getElem?_getD, List.getElem?_eq_none (by rw [← HN.out.2]; omega)] at this
                cases this)]
              exact rfl
            clear HA
            by_cases hi1 : i = ns
            · have en : ((i : Int) == (ns : Int)) = true := by rw [beq_iff_eq]; omega
              have HO : Hid (It.op Bk Pt P q k = 2) := by rw [HOK.out, if_pos hi1]; exact rfl
              by_cases hi0 : i = 0
              · have e0 : ((i : Int) == 0) = true := by rw [beq_iff_eq]; omega
                clear hi1 hi0
                have HVA : Hid _ := blk1 W2 (.cells #[.int .u8 2] 54)
                have HO1 : Hid (u8s ((List.range (k + 1)).map (It.op Bk Pt P q)) = u8s ((List.range k).map (It.op Bk Pt P q)) ++ [.int .u8 2]) := by rw [opl_snoc, u8s_snoc, HO.out]; exact rfl
                go_wp2_with (at_builtin; (refine wpList_append_lies _ rfl _ _ 38 rfl w2.heap.size 54 j3 (.int .u8 0) 1 1 Try.underlying38 h3 h30 h31 h32 rfl (by decide) (.slice aO k cO) k (u8s ((List.range k).map (It.op Bk Pt P q))) rfl (HG2.out.1.alloc _) ⟨W2.heap.size, 0, none⟩ 1 1 [.int .u8 2] rfl rfl (World.news_of_block (cs := #[.int .u8 2]) HVA.out.1) (fun u hu => by simp at hu; rcases hu with rfl; rfl) (by decide) (by unfold maxLen; omega) (by omega) (by rw [HVA.out.2]; omega) (W2.heap.size + 1) HVA.out.2 ?_; intro g5 cap5 w5 hown5 hgrow5 hat5 hlt5; have hoo : Only (fun b => (Value.slice aO k cO).ownBlock = some b) W2 w5 := ((Only.refl (fun b => (Value.slice aO k cO).ownBlock = some b) W2).alloc _).grown hgrow5 (fun k hk => hk); have hbR5 : w5.heap[R]? = some (.cells #[.slice aC q cC, .slice aO k cO] 62 (0, 0)) := (hoo.block R lR2 (fun h => by have := (own_own HG2.out.1 h).1; omega)).trans HG2.out.2.2.1; obtain ⟨q0, q1, lR5⟩ := blk_two hbR5; have fR5 : ∀ x, w5.frozen? ⟨R, x, none⟩ = false := fun x => fz_blk hbR5 x; have H5 : Hid (w5.ownsRow w2.heap.size 54 1 (.slice (some ⟨g5, 0, none⟩) (k + 1) cap5) (k + 1) (u8s ((List.range (k + 1)).map (It.op Bk Pt P q))) ∧ Only (fun b => b = R ∨ w2.heap.size ≤ b) w2 w5 ∧ w5.heap[R]? = some (.cells #[.slice aC q cC, .slice aO k cO] 62 (0, 0))) := ⟨by rw [HO1.out]; exact hown5, HG2.out.2.1.trans (hoo.mono (fun b hb => Or.inr (own_own HG2.out.1 hb).1)), hbR5⟩; clear hown5 hgrow5 hat5 hoo hbR5))
                go_roundg (q + 1 - (k + 1))
                case measure => omega
                case rel => exact ⟨k + 1, some ⟨g5, 0, none⟩, cap5, _, rfl, rfl, by omega, by go_num, heap_setCell_at H5.out.2.2 _, own_only H5.out.1 ((Only.refl (fun b => b = R) w5).setCell (p := ⟨R, 1, none⟩) rfl _) (fun g hg he => by omega), H5.out.2.1.setCell (p := ⟨R, 1, none⟩) (Or.inl rfl) _⟩
              · have e0 : ((i : Int) == 0) = false := by rw [beq_eq_false_iff_ne]; omega
                clear hi1 hi0
                have HVA : Hid _ := blk1 W2 (.cells #[.int .u8 2] 54)
                have HO1 : Hid (u8s ((List.range (k + 1)).map (It.op Bk Pt P q)) = u8s ((List.range k).map (It.op Bk Pt P q)) ++ [.int .u8 2]) := by rw [opl_snoc, u8s_snoc, HO.out]; exact rfl
                go_wp2_with (at_builtin; (refine wpList_append_lies _ rfl _ _ 38 rfl w2.heap.size 54 j3 (.int .u8 0) 1 1 Try.underlying38 h3 h30 h31 h32 rfl (by decide) (.slice aO k cO) k (u8s ((List.range k).map (It.op Bk Pt P q))) rfl (HG2.out.1.alloc _) ⟨W2.heap.size, 0, none⟩ 1 1 [.int .u8 2] rfl rfl (World.news_of_block (cs := #[.int .u8 2]) HVA.out.1) (fun u hu => by simp at hu; rcases hu with rfl; rfl) (by decide) (by unfold maxLen; omega) (by omega) (by rw [HVA.out.2]; omega) (W2.heap.size + 1) HVA.out.2 ?_; intro g5 cap5 w5 hown5 hgrow5 hat5 hlt5; have hoo : Only (fun b => (Value.slice aO k cO).ownBlock = some b) W2 w5 := ((Only.refl (fun b => (Value.slice aO k cO).ownBlock = some b) W2).alloc _).grown hgrow5 (fun k hk => hk); have hbR5 : w5.heap[R]? = some (.cells #[.slice aC q cC, .slice aO k cO] 62 (0, 0)) := (hoo.block R lR2 (fun h => by have := (own_own HG2.out.1 h).1; omega)).trans HG2.out.2.2.1; obtain ⟨q0, q1, lR5⟩ := blk_two hbR5; have fR5 : ∀ x, w5.frozen? ⟨R, x, none⟩ = false := fun x => fz_blk hbR5 x; have H5 : Hid (w5.ownsRow w2.heap.size 54 1 (.slice (some ⟨g5, 0, none⟩) (k + 1) cap5) (k + 1) (u8s ((List.range (k + 1)).map (It.op Bk Pt P q))) ∧ Only (fun b => b = R ∨ w2.heap.size ≤ b) w2 w5 ∧ w5.heap[R]? = some (.cells #[.slice aC q cC, .slice aO k cO] 62 (0, 0))) := ⟨by rw [HO1.out]; exact hown5, HG2.out.2.1.trans (hoo.mono (fun b hb => Or.inr (own_own HG2.out.1 hb).1)), hbR5⟩; clear hown5 hgrow5 hat5 hoo hbR5))
                go_roundg (q + 1 - (k + 1))
                case measure => omega
                case rel => exact ⟨k + 1, some ⟨g5, 0, none⟩, cap5, _, rfl, rfl, by omega, by go_num, heap_setCell_at H5.out.2.2 _, own_only H5.out.1 ((Only.refl (fun b => b = R) w5).setCell (p := ⟨R, 1, none⟩) rfl _) (fun g hg he => by omega), H5.out.2.1.setCell (p := ⟨R, 1, none⟩) (Or.inl rfl) _⟩
            · have en : ((i : Int) == (ns : Int)) = false := by rw [beq_eq_false_iff_ne]; omega
              by_cases hi0 : i = 0
              · have e0 : ((i : Int) == 0) = true := by rw [beq_iff_eq]; omega
                have HO : Hid (It.op Bk Pt P q k = 0) := by rw [HOK.out, if_neg hi1, if_pos hi0]; exact rfl
                clear hi1 hi0
                have HVA : Hid _ := blk1 W2 (.cells #[.int .u8 0] 54)
                have HO1 : Hid (u8s ((List.range (k + 1)).map (It.op Bk Pt P q)) = u8s ((List.range k).map (It.op Bk Pt P q)) ++ [.int .u8 0]) := by rw [opl_snoc, u8s_snoc, HO.out]; exact rfl
                go_wp2_with (at_builtin; (refine wpList_append_lies _ rfl _ _ 38 rfl w2.heap.size 54 j3 (.int .u8 0) 1 1 Try.underlying38 h3 h30 h31 h32 rfl (by decide) (.slice aO k cO) k (u8s ((List.range k).map (It.op Bk Pt P q))) rfl (HG2.out.1.alloc _) ⟨W2.heap.size, 0, none⟩ 1 1 [.int .u8 0] rfl rfl (World.news_of_block (cs := #[.int .u8 0]) HVA.out.1) (fun u hu => by simp at hu; rcases hu with rfl; rfl) (by decide) (by unfold maxLen; omega) (by omega) (by rw [HVA.out.2]; omega) (W2.heap.size + 1) HVA.out.2 ?_; intro g5 cap5 w5 hown5 hgrow5 hat5 hlt5; have hoo : Only (fun b => (Value.slice aO k cO).ownBlock = some b) W2 w5 := ((Only.refl (fun b => (Value.slice aO k cO).ownBlock = some b) W2).alloc _).grown hgrow5 (fun k hk => hk); have hbR5 : w5.heap[R]? = some (.cells #[.slice aC q cC, .slice aO k cO] 62 (0, 0)) := (hoo.block R lR2 (fun h => by have := (own_own HG2.out.1 h).1; omega)).trans HG2.out.2.2.1; obtain ⟨q0, q1, lR5⟩ := blk_two hbR5; have fR5 : ∀ x, w5.frozen? ⟨R, x, none⟩ = false := fun x => fz_blk hbR5 x; have H5 : Hid (w5.ownsRow w2.heap.size 54 1 (.slice (some ⟨g5, 0, none⟩) (k + 1) cap5) (k + 1) (u8s ((List.range (k + 1)).map (It.op Bk Pt P q))) ∧ Only (fun b => b = R ∨ w2.heap.size ≤ b) w2 w5 ∧ w5.heap[R]? = some (.cells #[.slice aC q cC, .slice aO k cO] 62 (0, 0))) := ⟨by rw [HO1.out]; exact hown5, HG2.out.2.1.trans (hoo.mono (fun b hb => Or.inr (own_own HG2.out.1 hb).1)), hbR5⟩; clear hown5 hgrow5 hat5 hoo hbR5))
                go_roundg (q + 1 - (k + 1))
                case measure => omega
                case rel => exact ⟨k + 1, some ⟨g5, 0, none⟩, cap5, _, rfl, rfl, by omega, by go_num, heap_setCell_at H5.out.2.2 _, own_only H5.out.1 ((Only.refl (fun b => b = R) w5).setCell (p := ⟨R, 1, none⟩) rfl _) (fun g hg he => by omega), H5.out.2.1.setCell (p := ⟨R, 1, none⟩) (Or.inl rfl) _⟩
              · have e0 : ((i : Int) == 0) = false := by rw [beq_eq_false_iff_ne]; omega
                have HO : Hid (It.op Bk Pt P q k = 0) := by rw [HOK.out, if_neg hi1, if_neg hi0]; exact HAH.out
                clear hi1 hi0
                have HVA : Hid _ := blk1 W2 (.cells #[.int .u8 0] 54)
                have HO1 : Hid (u8s ((List.range (k + 1)).map (It.op Bk Pt P q)) = u8s ((List.range k).map (It.op Bk Pt P q)) ++ [.int .u8 0]) := by rw [opl_snoc, u8s_snoc, HO.out]; exact rfl
                go_wp2_with (at_builtin; (refine wpList_append_lies _ rfl _ _ 38 rfl w2.heap.size 54 j3 (.int .u8 0) 1 1 Try.underlying38 h3 h30 h31 h32 rfl (by decide) (.slice aO k cO) k (u8s ((List.range k).map (It.op Bk Pt P q))) rfl (HG2.out.1.alloc _) ⟨W2.heap.size, 0, none⟩ 1 1 [.int .u8 0] rfl rfl (World.news_of_block (cs := #[.int .u8 0]) HVA.out.1) (fun u hu => by simp at hu; rcases hu with rfl; rfl) (by decide) (by unfold maxLen; omega) (by omega) (by rw [HVA.out.2]; omega) (W2.heap.size + 1) HVA.out.2 ?_; intro g5 cap5 w5 hown5 hgrow5 hat5 hlt5; have hoo : Only (fun b => (Value.slice aO k cO).ownBlock = some b) W2 w5 := ((Only.refl (fun b => (Value.slice aO k cO).ownBlock = some b) W2).alloc _).grown hgrow5 (fun k hk => hk); have hbR5 : w5.heap[R]? = some (.cells #[.slice aC q cC, .slice aO k cO] 62 (0, 0)) := (hoo.block R lR2 (fun h => by have := (own_own HG2.out.1 h).1; omega)).trans HG2.out.2.2.1; obtain ⟨q0, q1, lR5⟩ := blk_two hbR5; have fR5 : ∀ x, w5.frozen? ⟨R, x, none⟩ = false := fun x => fz_blk hbR5 x; have H5 : Hid (w5.ownsRow w2.heap.size 54 1 (.slice (some ⟨g5, 0, none⟩) (k + 1) cap5) (k + 1) (u8s ((List.range (k + 1)).map (It.op Bk Pt P q))) ∧ Only (fun b => b = R ∨ w2.heap.size ≤ b) w2 w5 ∧ w5.heap[R]? = some (.cells #[.slice aC q cC, .slice aO k cO] 62 (0, 0))) := ⟨by rw [HO1.out]; exact hown5, HG2.out.2.1.trans (hoo.mono (fun b hb => Or.inr (own_own HG2.out.1 hb).1)), hbR5⟩; clear hown5 hgrow5 hat5 hoo hbR5))
                go_roundg (q + 1 - (k + 1))
                case measure => omega
                case rel => exact ⟨k + 1, some ⟨g5, 0, none⟩, cap5, _, rfl, rfl, by omega, by go_num, heap_setCell_at H5.out.2.2 _, own_only H5.out.1 ((Only.refl (fun b => b = R) w5).setCell (p := ⟨R, 1, none⟩) rfl _) (fun g hg he => by omega), H5.out.2.1.setCell (p := ⟨R, 1, none⟩) (Or.inl rfl) _⟩
        · have tx : ((x : Int) == 0) = false := by rw [beq_eq_false_iff_ne]; omega
          have HAH : Hid (It.ah Bk Pt i = x) := by rw [HA.out, if_neg (fun h => hx0 h.1)]; exact rfl
          clear HA hx0
          by_cases hi1 : i = ns
          · have en : ((i : Int) == (ns : Int)) = true := by rw [beq_iff_eq]; omega
            have HO : Hid (It.op Bk Pt P q k = 2) := by rw [HOK.out, if_pos hi1]; exact rfl
            by_cases hi0 : i = 0
            · have e0 : ((i : Int) == 0) = true := by rw [beq_iff_eq]; omega
              clear hi1 hi0
              have HVA : Hid _ := blk1 W2 (.cells #[.int .u8 2] 54)
              have HO1 : Hid (u8s ((List.range (k + 1)).map (It.op Bk Pt P q)) = u8s ((List.range k).map (It.op Bk Pt P q)) ++ [.int .u8 2]) := by rw [opl_snoc, u8s_snoc, HO.out]; exact rfl
              go_wp2_with (at_builtin; (refine wpList_append_lies _ rfl _ _ 38 rfl w2.heap.size 54 j3 (.int .u8 0) 1 1 Try.underlying38 h3 h30 h31 h32 rfl (by decide) (.slice aO k cO) k (u8s ((List.range k).map (It.op Bk Pt P q))) rfl (HG2.out.1.alloc _) ⟨W2.heap.size, 0, none⟩ 1 1 [.int .u8 2] rfl rfl (World.news_of_block (cs := #[.int .u8 2]) HVA.out.1) (fun u hu => by simp at hu; rcases hu with rfl; rfl) (by decide) (by unfold maxLen; omega) (by omega) (by rw [HVA.out.2]; omega) (W2.heap.size + 1) HVA.out.2 ?_; intro g5 cap5 w5 hown5 hgrow5 hat5 hlt5; have hoo : Only (fun b => (Value.slice aO k cO).ownBlock = some b) W2 w5 := ((Only.refl (fun b => (Value.slice aO k cO).ownBlock = some b) W2).alloc _).grown hgrow5 (fun k hk => hk); have hbR5 : w5.heap[R]? = some (.cells #[.slice aC q cC, .slice aO k cO] 62 (0, 0)) := (hoo.block R lR2 (fun h => by have := (own_own HG2.out.1 h).1; omega)).trans HG2.out.2.2.1; obtain ⟨q0, q1, lR5⟩ := blk_two hbR5; have fR5 : ∀ x, w5.frozen? ⟨R, x, none⟩ = false := fun x => fz_blk hbR5 x; have H5 : Hid (w5.ownsRow w2.heap.size 54 1 (.slice (some ⟨g5, 0, none⟩) (k + 1) cap5) (k + 1) (u8s ((List.range (k + 1)).map (It.op Bk Pt P q))) ∧ Only (fun b => b = R ∨ w2.heap.size ≤ b) w2 w5 ∧ w5.heap[R]? = some (.cells #[.slice aC q cC, .slice aO k cO] 62 (0, 0))) := ⟨by rw [HO1.out]; exact hown5, HG2.out.2.1.trans (hoo.mono (fun b hb => Or.inr (own_own HG2.out.1 hb).1)), hbR5⟩; clear hown5 hgrow5 hat5 hoo hbR5))
              go_roundg (q + 1 - (k + 1))
              case measure => omega
              case rel => exact ⟨k + 1, some ⟨g5, 0, none⟩, cap5, _, rfl, rfl, by omega, by go_num, heap_setCell_at H5.out.2.2 _, own_only H5.out.1 ((Only.refl (fun b => b = R) w5).setCell (p := ⟨R, 1, none⟩) rfl _) (fun g hg he => by omega), H5.out.2.1.setCell (p := ⟨R, 1, none⟩) (Or.inl rfl) _⟩
            · have e0 : ((i : Int) == 0) = false := by rw [beq_eq_false_iff_ne]; omega
              clear hi1 hi0
              have HVA : Hid _ := blk1 W2 (.cells #[.int .u8 2] 54)
              have HO1 : Hid (u8s ((List.range (k + 1)).map (It.op Bk Pt P q)) = u8s ((List.range k).map (It.op Bk Pt P q)) ++ [.int .u8 2]) := by rw [opl_snoc, u8s_snoc, HO.out]; exact rfl
              go_wp2_with (at_builtin; (refine wpList_append_lies _ rfl _ _ 38 rfl w2.heap.size 54 j3 (.int .u8 0) 1 1 Try.underlying38 h3 h30 h31 h32 rfl (by decide) (.slice aO k cO) k (u8s ((List.range k).map (It.op Bk Pt P q))) rfl (HG2.out.1.alloc _) ⟨W2.heap.size, 0, none⟩ 1 1 [.int .u8 2] rfl rfl (World.news_of_block (cs := #[.int .u8 2]) HVA.out.1) (fun u hu => by simp at hu; rcases hu with rfl; rfl) (by decide) (by unfold maxLen; omega) (by omega) (by rw [HVA.out.2]; omega) (W2.heap.size + 1) HVA.out.2 ?_; intro g5 cap5 w5 hown5 hgrow5 hat5 hlt5; have hoo : Only (fun b => (Value.slice aO k cO).ownBlock = some b) W2 w5 := ((Only.refl (fun b => (Value.slice aO k cO).ownBlock = some b) W2).alloc _).grown hgrow5 (fun k hk => hk); have hbR5 : w5.heap[R]? = some (.cells #[.slice aC q cC, .slice aO k cO] 62 (0, 0)) := (hoo.block R lR2 (fun h => by have := (own_own HG2.out.1 h).1; omega)).trans HG2.out.2.2.1; obtain ⟨q0, q1, lR5⟩ := blk_two hbR5; have fR5 : ∀ x, w5.frozen? ⟨R, x, none⟩ = false := fun x => fz_blk hbR5 x; have H5 : Hid (w5.ownsRow w2.heap.size 54 1 (.slice (some ⟨g5, 0, none⟩) (k + 1) cap5) (k + 1) (u8s ((List.range (k + 1)).map (It.op Bk Pt P q))) ∧ Only (fun b => b = R ∨ w2.heap.size ≤ b) w2 w5 ∧ w5.heap[R]? = some (.cells #[.slice aC q cC, .slice aO k cO] 62 (0, 0))) := ⟨by rw [HO1.out]; exact hown5, HG2.out.2.1.trans (hoo.mono (fun b hb => Or.inr (own_own HG2.out.1 hb).1)), hbR5⟩; clear hown5 hgrow5 hat5 hoo hbR5))
              go_roundg (q + 1 - (k + 1))
              case measure => omega
              case rel => exact ⟨k + 1, some ⟨g5, 0, none⟩, cap5, _, rfl, rfl, by omega, by go_num, heap_setCell_at H5.out.2.2 _, own_only H5.out.1 ((Only.refl (fun b => b = R) w5).setCell (p := ⟨R, 1, none⟩) rfl _) (fun g hg he => by omega), H5.out.2.1.setCell (p := ⟨R, 1, none⟩) (Or.inl rfl) _⟩
          · have en : ((i : Int) == (ns : Int)) = false := by rw [beq_eq_false_iff_ne]; omega
            by_cases hi0 : i = 0
            · have e0 : ((i : Int) == 0) = true := by rw [beq_iff_eq]; omega
              have HO : Hid (It.op Bk Pt P q k = 0) := by rw [HOK.out, if_neg hi1, if_pos hi0]; exact rfl
              clear hi1 hi0
              have HVA : Hid _ := blk1 W2 (.cells #[.int .u8 0] 54)
              have HO1 : Hid (u8s ((List.range (k + 1)).map (It.op Bk Pt P q)) = u8s ((List.range k).map (It.op Bk Pt P q)) ++ [.int .u8 0]) := by rw [opl_snoc, u8s_snoc, HO.out]; exact rfl
              go_wp2_with (at_builtin; (refine wpList_append_lies _ rfl _ _ 38 rfl w2.heap.size 54 j3 (.int .u8 0) 1 1 Try.underlying38 h3 h30 h31 h32 rfl (by decide) (.slice aO k cO) k (u8s ((List.range k).map (It.op Bk Pt P q))) rfl (HG2.out.1.alloc _) ⟨W2.heap.size, 0, none⟩ 1 1 [.int .u8 0] rfl rfl (World.news_of_block (cs := #[.int .u8 0]) HVA.out.1) (fun u hu => by simp at hu; rcases hu with rfl; rfl) (by decide) (by unfold maxLen; omega) (by omega) (by rw [HVA.out.2]; omega) (W2.heap.size + 1) HVA.out.2 ?_; intro g5 cap5 w5 hown5 hgrow5 hat5 hlt5; have hoo : Only (fun b => (Value.slice aO k cO).ownBlock = some b) W2 w5 := ((Only.refl (fun b => (Value.slice aO k cO).ownBlock = some b) W2).alloc _).grown hgrow5 (fun k hk => hk); have hbR5 : w5.heap[R]? = some (.cells #[.slice aC q cC, .slice aO k cO] 62 (0, 0)) := (hoo.block R lR2 (fun h => by have := (own_own HG2.out.1 h).1; omega)).trans HG2.out.2.2.1; obtain ⟨q0, q1, lR5⟩ := blk_two hbR5; have fR5 : ∀ x, w5.frozen? ⟨R, x, none⟩ = false := fun x => fz_blk hbR5 x; have H5 : Hid (w5.ownsRow w2.heap.size 54 1 (.slice (some ⟨g5, 0, none⟩) (k + 1) cap5) (k + 1) (u8s ((List.range (k + 1)).map (It.op Bk Pt P q))) ∧ Only (fun b => b = R ∨ w2.heap.size ≤ b) w2 w5 ∧ w5.heap[R]? = some (.cells #[.slice aC q cC, .slice aO k cO] 62 (0, 0))) := ⟨by rw [HO1.out]; exact hown5, HG2.out.2.1.trans (hoo.mono (fun b hb => Or.inr (own_own HG2.out.1 hb).1)), hbR5⟩; clear hown5 hgrow5 hat5 hoo hbR5))
              go_roundg (q + 1 - (k + 1))
              case measure => omega
              case rel => exact ⟨k + 1, some ⟨g5, 0, none⟩, cap5, _, rfl, rfl, by omega, by go_num, heap_setCell_at H5.out.2.2 _, own_only H5.out.1 ((Only.refl (fun b => b = R) w5).setCell (p := ⟨R, 1, none⟩) rfl _) (fun g hg he => by omega), H5.out.2.1.setCell (p := ⟨R, 1, none⟩) (Or.inl rfl) _⟩
            · have e0 : ((i : Int) == 0) = false := by rw [beq_eq_false_iff_ne]; omega
              have HO : Hid (It.op Bk Pt P q k = x) := by rw [HOK.out, if_neg hi1, if_neg hi0]; exact HAH.out
              clear hi1 hi0
              have HVA : Hid _ := blk1 W2 (.cells #[.int .u8 (x : Int)] 54)
              have HO1 : Hid (u8s ((List.range (k + 1)).map (It.op Bk Pt P q)) = u8s ((List.range k).map (It.op Bk Pt P q)) ++ [.int .u8 (x : Int)]) := by rw [opl_snoc, u8s_snoc, HO.out]; exact rfl
              go_wp2_with (at_builtin; (refine wpList_append_lies _ rfl _ _ 38 rfl w2.heap.size 54 j3 (.int .u8 0) 1 1 Try.underlying38 h3 h30 h31 h32 rfl (by decide) (.slice aO k cO) k (u8s ((List.range k).map (It.op Bk Pt P q))) rfl (HG2.out.1.alloc _) ⟨W2.heap.size, 0, none⟩ 1 1 [.int .u8 (x : Int)] rfl rfl (World.news_of_block (cs := #[.int .u8 (x : Int)]) HVA.out.1) (fun u hu => by simp at hu; rcases hu with rfl; rfl) (by decide) (by unfold maxLen; omega) (by omega) (by rw [HVA.out.2]; omega) (W2.heap.size + 1) HVA.out.2 ?_; intro g5 cap5 w5 hown5 hgrow5 hat5 hlt5; have hoo : Only (fun b => (Value.slice aO k cO).ownBlock = some b) W2 w5 := ((Only.refl (fun b => (Value.slice aO k cO).ownBlock = some b) W2).alloc _).grown hgrow5 (fun k hk => hk); have hbR5 : w5.heap[R]? = some (.cells #[.slice aC q cC, .slice aO k cO] 62 (0, 0)) := (hoo.block R lR2 (fun h => by have := (own_own HG2.out.1 h).1; omega)).trans HG2.out.2.2.1; obtain ⟨q0, q1, lR5⟩ := blk_two hbR5; have fR5 : ∀ x, w5.frozen? ⟨R, x, none⟩ = false := fun x => fz_blk hbR5 x; have H5 : Hid (w5.ownsRow w2.heap.size 54 1 (.slice (some ⟨g5, 0, none⟩) (k + 1) cap5) (k + 1) (u8s ((List.range (k + 1)).map (It.op Bk Pt P q))) ∧ Only (fun b => b = R ∨ w2.heap.size ≤ b) w2 w5 ∧ w5.heap[R]? = some (.cells #[.slice aC q cC, .slice aO k cO] 62 (0, 0))) := ⟨by rw [HO1.out]; exact hown5, HG2.out.2.1.trans (hoo.mono (fun b hb => Or.inr (own_own HG2.out.1 hb).1)), hbR5⟩; clear hown5 hgrow5 hat5 hoo hbR5))
              go_roundg (q + 1 - (k + 1))
              case measure => omega
              case rel => exact ⟨k + 1, some ⟨g5, 0, none⟩, cap5, _, rfl, rfl, by omega, by go_num, heap_setCell_at H5.out.2.2 _, own_only H5.out.1 ((Only.refl (fun b => b = R) w5).setCell (p := ⟨R, 1, none⟩) rfl _) (fun g hg he => by omega), H5.out.2.1.setCell (p := ⟨R, 1, none⟩) (Or.inl rfl) _⟩
      · have tB : decide ((i : Int) < (nB : Int)) = false := decide_eq_false (by omega)
        have tB2 : decide (nB ≤ i) = true := decide_eq_true (by omega)
        have tB3 : decide (i < nB) = false := decide_eq_false (by omega)
        have tB4 : nB ≤ i := by omega
        have HAH : Hid (It.ah Bk Pt i = 0) := by
          unfold It.ah
          rw [if_neg (by rw [← HN.out.1]; exact hB)]
          exact rfl
        clear hB
        by_cases hi1 : i = ns
        · have en : ((i : Int) == (ns : Int)) = true := by rw [beq_iff_eq]; omega
          have HO : Hid (It.op Bk Pt P q k = 2) := by rw [HOK.out, if_pos hi1]; exact rfl
          by_cases hi0 : i = 0
          · have e0 : ((i : Int) == 0) = true := by rw [beq_iff_eq]; omega
            clear hi1 hi0
            have HVA : Hid _ := blk1 W2 (.cells #[.int .u8 2] 54)
            have HO1 : Hid (u8s ((List.range (k + 1)).map (It.op Bk Pt P q)) = u8s ((List.range k).map (It.op Bk Pt P q)) ++ [.int .u8 2]) := by rw [opl_snoc, u8s_snoc, HO.out]; exact rfl
            go_wp2_with (at_builtin; (refine wpList_append_lies _ rfl _ _ 38 rfl w2.heap.size 54 j3 (.int .u8 0) 1 1 Try.underlying38 h3 h30 h31 h32 rfl (by decide) (.slice aO k cO) k (u8s ((List.range k).map (It.op Bk Pt P q))) rfl (HG2.out.1.alloc _) ⟨W2.heap.size, 0, none⟩ 1 1 [.int .u8 2] rfl rfl (World.news_of_block (cs := #[.int .u8 2]) HVA.out.1) (fun u hu => by simp at hu; rcases hu with rfl; rfl) (by decide) (by unfold maxLen; omega) (by omega) (by rw [HVA.out.2]; omega) (W2.heap.size + 1) HVA.out.2 ?_; intro g5 cap5 w5 hown5 hgrow5 hat5 hlt5; have hoo : Only (fun b => (Value.slice aO k cO).ownBlock = some b) W2 w5 := ((Only.refl (fun b => (Value.slice aO k cO).ownBlock = some b) W2).alloc _).grown hgrow5 (fun k hk => hk); have hbR5 : w5.heap[R]? = some (.cells #[.slice aC q cC, .slice aO k cO] 62 (0, 0)) := (hoo.block R lR2 (fun h => by have := (own_own HG2.out.1 h).1; omega)).trans HG2.out.2.2.1; obtain ⟨q0, q1, lR5⟩ := blk_two hbR5; have fR5 : ∀ x, w5.frozen? ⟨R, x, none⟩ = false := fun x => fz_blk hbR5 x; have H5 : Hid (w5.ownsRow w2.heap.size 54 1 (.slice (some ⟨g5, 0, none⟩) (k + 1) cap5) (k + 1) (u8s ((List.range (k + 1)).map (It.op Bk Pt P q))) ∧ Only (fun b => b = R ∨ w2.heap.size ≤ b) w2 w5 ∧ w5.heap[R]? = some (.cells #[.slice aC q cC, .slice aO k cO] 62 (0, 0))) := ⟨by rw [HO1.out]; exact hown5, HG2.out.2.1.trans (hoo.mono (fun b hb => Or.inr (own_own HG2.out.1 hb).1)), hbR5⟩; clear hown5 hgrow5 hat5 hoo hbR5))
            go_roundg (q + 1 - (k + 1))
            case measure => omega
            case rel => exact ⟨k + 1, some ⟨g5, 0, none⟩, cap5, _, rfl, rfl, by omega, by go_num, heap_setCell_at H5.out.2.2 _, own_only H5.out.1 ((Only.refl (fun b => b = R) w5).setCell (p := ⟨R, 1, none⟩) rfl _) (fun g hg he => by omega), H5.out.2.1.setCell (p := ⟨R, 1, none⟩) (Or.inl rfl) _⟩
          · have e0 : ((i : Int) == 0) = false := by rw [beq_eq_false_iff_ne]; omega
            clear hi1 hi0
            have HVA : Hid _ := blk1 W2 (.cells #[.int .u8 2] 54)
            have HO1 : Hid (u8s ((List.range (k + 1)).map (It.op Bk Pt P q)) = u8s ((List.range k).map (It.op Bk Pt P q)) ++ [.int .u8 2]) := by rw [opl_snoc, u8s_snoc, HO.out]; exact rfl
            go_wp2_with (at_builtin; (refine wpList_append_lies _ rfl _ _ 38 rfl w2.heap.size 54 j3 (.int .u8 0) 1 1 Try.underlying38 h3 h30 h31 h32 rfl (by decide) (.slice aO k cO) k (u8s ((List.range k).map (It.op Bk Pt P q))) rfl (HG2.out.1.alloc _) ⟨W2.heap.size, 0, none⟩ 1 1 [.int .u8 2] rfl rfl (World.news_of_block (cs := #[.int .u8 2]) HVA.out.1) (fun u hu => by simp at hu; rcases hu with rfl; rfl) (by decide) (by unfold maxLen; omega) (by omega) (by rw [HVA.out.2]; omega) (W2.heap.size + 1) HVA.out.2 ?_; intro g5 cap5 w5 hown5 hgrow5 hat5 hlt5; have hoo : Only (fun b => (Value.slice aO k cO).ownBlock = some b) W2 w5 := ((Only.refl (fun b => (Value.slice aO k cO).ownBlock = some b) W2).alloc _).grown hgrow5 (fun k hk => hk); have hbR5 : w5.heap[R]? = some (.cells #[.slice aC q cC, .slice aO k cO] 62 (0, 0)) := (hoo.block R lR2 (fun h => by have := (own_own HG2.out.1 h).1; omega)).trans HG2.out.2.2.1; obtain ⟨q0, q1, lR5⟩ := blk_two hbR5; have fR5 : ∀ x, w5.frozen? ⟨R, x, none⟩ = false := fun x => fz_blk hbR5 x; have H5 : Hid (w5.ownsRow w2.heap.size 54 1 (.slice (some ⟨g5, 0, none⟩) (k + 1) cap5) (k + 1) (u8s ((List.range (k + 1)).map (It.op Bk Pt P q))) ∧ Only (fun b => b = R ∨ w2.heap.size ≤ b) w2 w5 ∧ w5.heap[R]? = some (.cells #[.slice aC q cC, .slice aO k cO] 62 (0, 0))) := ⟨by rw [HO1.out]; exact hown5, HG2.out.2.1.trans (hoo.mono (fun b hb => Or.inr (own_own HG2.out.1 hb).1)), hbR5⟩; clear hown5 hgrow5 hat5 hoo hbR5))
            go_roundg (q + 1 - (k + 1))
            case measure => omega
            case rel => exact ⟨k + 1, some ⟨g5, 0, none⟩, cap5, _, rfl, rfl, by omega, by go_num, heap_setCell_at H5.out.2.2 _, own_only H5.out.1 ((Only.refl (fun b => b = R) w5).setCell (p := ⟨R, 1, none⟩) rfl _) (fun g hg he => by omega), H5.out.2.1.setCell (p := ⟨R, 1, none⟩) (Or.inl rfl) _⟩
        · have en : ((i : Int) == (ns : Int)) = false := by rw [beq_eq_false_iff_ne]; omega
          by_cases hi0 : i = 0
          · have e0 : ((i : Int) == 0) = true := by rw [beq_iff_eq]; omega
            have HO : Hid (It.op Bk Pt P q k = 0) := by rw [HOK.out, if_neg hi1, if_pos hi0]; exact rfl
            clear hi1 hi0
            have HVA : Hid _ := blk1 W2 (.cells #[.int .u8 0] 54)
            have HO1 : Hid (u8s ((List.range (k + 1)).map (It.op Bk Pt P q)) = u8s ((List.range k).map (It.op Bk Pt P q)) ++ [.int .u8 0]) := by rw [opl_snoc, u8s_snoc, HO.out]; exact rfl
            go_wp2_with (at_builtin; (refine wpList_append_lies _ rfl _ _ 38 rfl w2.heap.size 54 j3 (.int .u8 0) 1 1 Try.underlying38 h3 h30 h31 h32 rfl (by decide) (.slice aO k cO) k (u8s ((List.range k).map (It.op Bk Pt P q))) rfl (HG2.out.1.alloc _) ⟨W2.heap.size, 0, none⟩ 1 1 [.int .u8 0] rfl rfl (World.news_of_block (cs := #[.int .u8 0]) HVA.out.1) (fun u hu => by simp at hu; rcases hu with rfl; rfl) (by decide) (by unfold maxLen; omega) (by omega) (by rw [HVA.out.2]; omega) (W2.heap.size + 1) HVA.out.2 ?_; intro g5 cap5 w5 hown5 hgrow5 hat5 hlt5; have hoo : Only (fun b => (Value.slice aO k cO).ownBlock = some b) W2 w5 := ((Only.refl (fun b => (Value.slice aO k cO).ownBlock = some b) W2).alloc _).grown hgrow5 (fun k hk => hk); have hbR5 : w5.heap[R]? = some (.cells #[.slice aC q cC, .slice aO k cO] 62 (0, 0)) := (hoo.block R lR2 (fun h => by have := (own_own HG2.out.1 h).1; omega)).trans HG2.out.2.2.1; obtain ⟨q0, q1, lR5⟩ := blk_two hbR5; have fR5 : ∀ x, w5.frozen? ⟨R, x, none⟩ = false := fun x => fz_blk hbR5 x; have H5 : Hid (w5.ownsRow w2.heap.size 54 1 (.slice (some ⟨g5, 0, none⟩) (k + 1) cap5) (k + 1) (u8s ((List.range (k + 1)).map (It.op Bk Pt P q))) ∧ Only (fun b => b = R ∨ w2.heap.size ≤ b) w2 w5 ∧ w5.heap[R]? = some (.cells #[.slice aC q cC, .slice aO k cO] 62 (0, 0))) := ⟨by rw [HO1.out]; exact hown5, HG2.out.2.1.trans (hoo.mono (fun b hb => Or.inr (own_own HG2.out.1 hb).1)), hbR5⟩; clear hown5 hgrow5 hat5 hoo hbR5))
            go_roundg (q + 1 - (k + 1))
            case measure => omega
            case rel => exact ⟨k + 1, some ⟨g5, 0, none⟩, cap5, _, rfl, rfl, by omega, by go_num, heap_setCell_at H5.out.2.2 _, own_only H5.out.1 ((Only.refl (fun b => b = R) w5).setCell (p := ⟨R, 1, none⟩) rfl _) (fun g hg he => by omega), H5.out.2.1.setCell (p := ⟨R, 1, none⟩) (Or.inl rfl) _⟩
          · have e0 : ((i : Int) == 0) = false := by rw [beq_eq_false_iff_ne]; omega
            have HO : Hid (It.op Bk Pt P q k = 0) := by rw [HOK.out, if_neg hi1, if_neg hi0]; exact HAH.out
            clear hi1 hi0
            have HVA : Hid _ := blk1 W2 (.cells #[.int .u8 0] 54)
            have HO1 : Hid (u8s ((List.range (k + 1)).map (It.op Bk Pt P q)) = u8s ((List.range k).map (It.op Bk Pt P q)) ++ [.int .u8 0]) := by rw [opl_snoc, u8s_snoc, HO.out]; exact rfl
            go_wp2_with (at_builtin; (refine wpList_append_lies _ rfl _ _ 38 rfl w2.heap.size 54 j3 (.int .u8 0) 1 1 Try.underlying38 h3 h30 h31 h32 rfl (by decide) (.slice aO k cO) k (u8s ((List.range k).map (It.op Bk Pt P q))) rfl (HG2.out.1.alloc _) ⟨W2.heap.size, 0, none⟩ 1 1 [.int .u8 0] rfl rfl (World.news_of_block (cs := #[.int .u8 0]) HVA.out.1) (fun u hu => by simp at hu; rcases hu with rfl; rfl) (by decide) (by unfold maxLen; omega) (by omega) (by rw [HVA.out.2]; omega) (W2.heap.size + 1) HVA.out.2 ?_; intro g5 cap5 w5 hown5 hgrow5 hat5 hlt5; have hoo : Only (fun b => (Value.slice aO k cO).ownBlock = some b) W2 w5 := ((Only.refl (fun b => (Value.slice aO k cO).ownBlock = some b) W2).alloc _).grown hgrow5 (fun k hk => hk); have hbR5 : w5.heap[R]? = some (.cells #[.slice aC q cC, .slice aO k cO] 62 (0, 0)) := (hoo.block R lR2 (fun h => by have := (own_own HG2.out.1 h).1; omega)).trans HG2.out.2.2.1; obtain ⟨q0, q1, lR5⟩ := blk_two hbR5; have fR5 : ∀ x, w5.frozen? ⟨R, x, none⟩ = false := fun x => fz_blk hbR5 x; have H5 : Hid (w5.ownsRow w2.heap.size 54 1 (.slice (some ⟨g5, 0, none⟩) (k + 1) cap5) (k + 1) (u8s ((List.range (k + 1)).map (It.op Bk Pt P q))) ∧ Only (fun b => b = R ∨ w2.heap.size ≤ b) w2 w5 ∧ w5.heap[R]? = some (.cells #[.slice aC q cC, .slice aO k cO] 62 (0, 0))) := ⟨by rw [HO1.out]; exact hown5, HG2.out.2.1.trans (hoo.mono (fun b hb => Or.inr (own_own HG2.out.1 hb).1)), hbR5⟩; clear hown5 hgrow5 hat5 hoo hbR5))
            go_roundg (q + 1 - (k + 1))
            case measure => omega
            case rel => exact ⟨k + 1, some ⟨g5, 0, none⟩, cap5, _, rfl, rfl, by omega, by go_num, heap_setCell_at H5.out.2.2 _, own_only H5.out.1 ((Only.refl (fun b => b = R) w5).setCell (p := ⟨R, 1, none⟩) rfl _) (fun g hg he => by omega), H5.out.2.1.setCell (p := ⟨R, 1, none⟩) (Or.inl rfl) _⟩
    · have t1 : decide ((k : Int) < (q : Int) + 1) = false := decide_eq_false (by omega)
      have hkq : k = q + 1 := by omega
      subst hkq
      have hb0 : W2.heap[R0]? = some (.cells #[.slice none 0 0, .slice none 0 0] 62 (0, 0)) := blk_keep HG2.out.2.2.2 H1.out.2.2.2
      obtain ⟨u0, u1, lu⟩ := blk_two hb0
      have fu : ∀ x, W2.frozen? ⟨R0, x, none⟩ = false := fun x => fz_blk hb0 x
      have ne1 : ¬ R0 = R := by omega
      have ne2 : ¬ R = R0 := by omega
      have HB0 : Hid (W2.heap[R0]? = some (.cells #[.slice none 0 0, .slice none 0 0] 62 (0, 0))) := hb0
      clear hb0
      go_wp2_with fail
      have hl1 : C.length = q := HQ.out.1
      have hl2 : (It.opl Bk Pt P q).length = q + 1 := It.opl_len _ _ _ _
      refine bodyPost_ret (v := .agg #[.slice aC q cC, .slice aO (q + 1) cO]) (results_cell_row rfl _ _ R0 62 #[.slice aC q cC, .slice aO (q + 1) cO] (0, 0) _ rfl (heap_setCell_at (k := 1) (heap_setCell_at (k := 0) HB0.out _) _) Try.underlying62 rfl (by kernel_rfl)) rfl ?_
      have oz : Only (fun b => b = R0) W2 ((W2.setCell ⟨R0, 0, none⟩ (.slice aC q cC)).setCell ⟨R0, 1, none⟩ (.slice aO (q + 1) cO)) := ((Only.refl (fun b => b = R0) W2).setCell (p := ⟨R0, 0, none⟩) rfl _).setCell (p := ⟨R0, 1, none⟩) rfl _
      refine ⟨aC, aO, cC, cO, by rw [hl1, hl2], ?_, ?_, ?_⟩
      · rw [hl1]
        exact own_base2 (own_stay (own_only H1.out.1 HG2.out.2.2.2 (fun _ _ h => h)) oz (fun b hb he => by have := (own_own H1.out.1 hb).1; omega)) (by omega)
      · rw [hl2]
        exact own_base2 (own_only HG2.out.1 oz (fun g hg he => by omega)) (by omega)
      · exact ((HWW.out.mono (S' := fun b => R0 ≤ b) (fun _ h => h.elim)).trans (oz.mono (fun b hb => by omega))).old (fun b hb => Or.inl (by omega))
end Go.Proofs.Ytlcpfheocenjfaa
