/-
  stanzalaw11.ItemsHyphens: its walk.
-/
import Derived.Test.YtlcpfheocenjfaaAw1
import Derived.Test.YtlcpfheocenjfaaVg
import Derived.Test.YtlcpfheocenjfaaWd
namespace Go.Proofs.Ytlcpfheocenjfaa.itemsHyphens
open Go.RowKit Go.Maps
set_option linter.unusedVariables false
set_option linter.unusedSimpArgs false
theorem op_hy (Bk : List Nat) (Pt : List Bool) (P : List Nat) (q k : Nat) : It.op Bk [] P q k = It.op Bk Pt P q k ∨ (It.op Bk [] P q k = 0 ∧ It.op Bk Pt P q k = 3 ∧ k ≠ 0 ∧ k ≠ q) := by
  unfold It.op
  by_cases h1 : k = q
  · rw [if_pos h1, if_pos h1]; exact Or.inl rfl
  · rw [if_neg h1, if_neg h1]
    by_cases h2 : k = 0
    · rw [if_pos h2, if_pos h2]; exact Or.inl rfl
    · rw [if_neg h2, if_neg h2]
      generalize P.getD k 0 = i
      unfold It.ah
      by_cases h3 : i < Bk.length
      · rw [if_pos h3, if_pos h3, if_neg (by simp)]
        by_cases h4 : Bk.getD i 0 = 0 ∧ Pt.getD i false = true
        · rw [if_pos h4]; exact Or.inr ⟨h4.1, rfl, h2, h1⟩
        · rw [if_neg h4]; exact Or.inl rfl
      · rw [if_neg h3, if_neg h3]; exact Or.inl rfl

abbrev oF : Nat → Prop := fun _ => False
theorem tA : ∀ {α : Type} (l : List α) (i : Nat) (a : α), l.toArray.setIfInBounds i a = (l.set i a).toArray := fun l i a => List.setIfInBounds_toArray l i a
theorem tB {α : Type} (x y : α) (l : List α) : (x :: l).set 0 y = y :: l := List.set_cons_zero
theorem tC {α : Type} (x y : α) (l : List α) (n : Nat) : (x :: l).set (n + 1) y = x :: l.set n y := List.set_cons_succ
abbrev zB : Obj := .cells #[.slice none 0 0, .slice none 0 0] 62 (0, 0)
theorem al_let0 (w : World) : ∃ (Y : World) (b : Nat), Y = (w.alloc (.cells #[.slice none 0 0, .slice none 0 0] 62)).drew ∧ b = w.heap.size ∧ Hid (Only oF w Y) ∧ Hid (Y.heap[b]? = some zB ∧ b = w.heap.size) := ⟨_, _, rfl, rfl, ((Only.refl _ _).alloc _).drew, heap_alloc_new w _, rfl⟩
theorem al_let (w : World) : ∃ (Y : World) (b : Nat), Y = w.alloc (.cells #[.slice none 0 0, .slice none 0 0] 62) ∧ b = w.heap.size ∧ Hid (Only oF w Y) ∧ Hid (Y.heap[b]? = some zB ∧ b = w.heap.size) := ⟨_, _, rfl, rfl, (Only.refl _ _).alloc _, heap_alloc_new w _, rfl⟩
theorem ltz {X Y : World} {b : Nat} {o : Obj} (h : X.heap[b]? = some o) (ho : Only oF X Y) : b < Y.heap.size := Nat.lt_of_lt_of_le (Array.getElem?_eq_some_iff.1 h).1 ho.size
theorem wz {w X : World} {b : Nat} (h : b = X.heap.size) (ho : Only oF w X) : w.heap.size ≤ b := by rw [h]; exact ho.size
theorem nz1 {X Y Z : World} {b n : Nat} {v : Value} {xs : List Value} {o : Obj} (hg : Z.ownsRow Y.heap.size 54 1 v n xs) (h : X.heap[b]? = some o) (ho : Only oF X Y) : ∀ g, v.ownBlock = some g → ¬ g = b := fun g hq => Nat.ne_of_gt (Nat.lt_of_lt_of_le (ltz h ho) (own_own hg hq).1)
theorem nz2 {X Z : World} {b n B : Nat} {v : Value} {xs : List Value} (hg : Z.ownsRow B 54 1 v n xs) (h : b = X.heap.size) (ho : Only oF Z X) : ∀ g, v.ownBlock = some g → ¬ g = b := fun g hq => Nat.ne_of_lt (Nat.lt_of_lt_of_le (own_lt hg hq) (by rw [h]; exact ho.size))
theorem blk_two' {w : World} {R : Nat} {t : TypeId} {v0 v1 : Value} (h : w.heap[R]? = some (.cells #[v0, v1] t (0, 0))) : w.cell? ⟨R, 0, none⟩ = some v0 ∧ w.cell? ⟨R, 1, none⟩ = some v1 ∧ R < w.heap.size ∧ ∀ x, w.frozen? ⟨R, x, none⟩ = false := ⟨cell_blk h, cell_blk h, (Array.getElem?_eq_some_iff.1 h).1, fun x => fz_blk h x⟩
theorem hy_leaf {w4 X : World} {ba bb : Nat} (v1 v2 v3 v4 : Value) (hx : Only oF w4 X) (ha : X.heap[ba]? = some zB) (hb : X.heap[bb]? = some zB) (wa : w4.heap.size ≤ ba) (wb : w4.heap.size ≤ bb) (ne : ¬ ba = bb) :
    ∃ Y1, Y1 = (X.setCell ⟨ba, 0, none⟩ v1).setCell ⟨ba, 1, none⟩ v2 ∧ Hid (Only oF w4 Y1 ∧ Only oF w4 ((Y1.setCell ⟨bb, 0, none⟩ v3).setCell ⟨bb, 1, none⟩ v4) ∧ Only (fun x => x = ba ∨ x = bb) X ((Y1.setCell ⟨bb, 0, none⟩ v3).setCell ⟨bb, 1, none⟩ v4) ∧ Y1.heap[bb]? = some zB ∧ ((Y1.setCell ⟨bb, 0, none⟩ v3).setCell ⟨bb, 1, none⟩ v4).heap[ba]? = some (.cells #[v1, v2] 62 (0, 0)) ∧ ((Y1.setCell ⟨bb, 0, none⟩ v3).setCell ⟨bb, 1, none⟩ v4).heap[bb]? = some (.cells #[v3, v4] 62 (0, 0))) := by
  refine ⟨_, rfl, ?_⟩
  have m1 := ((hx.mono (S' := fun b => w4.heap.size ≤ b) (fun _ h => h.elim)).setCell (p := ⟨ba, 0, none⟩) wa v1).setCell (p := ⟨ba, 1, none⟩) wa v2
  have m2 := (m1.setCell (p := ⟨bb, 0, none⟩) wb v3).setCell (p := ⟨bb, 1, none⟩) wb v4
  have hB := ((((Only.refl (fun x => x = ba) X).setCell (p := ⟨ba, 0, none⟩) rfl v1).setCell (p := ⟨ba, 1, none⟩) rfl v2).block bb (Array.getElem?_eq_some_iff.1 hb).1 (fun h => ne h.symm)).trans hb
  have hA := heap_setCell_at (k := 1) (heap_setCell_at (k := 0) ha v1) v2
  exact ⟨m1.old (fun b hb => Or.inl hb), m2.old (fun b hb => Or.inl hb), ((((Only.refl (fun x => x = ba ∨ x = bb) X).setCell (p := ⟨ba, 0, none⟩) (Or.inl rfl) _).setCell (p := ⟨ba, 1, none⟩) (Or.inl rfl) _).setCell (p := ⟨bb, 0, none⟩) (Or.inr rfl) _).setCell (p := ⟨bb, 1, none⟩) (Or.inr rfl) _, hB, ((((Only.refl (fun x => x = bb) _).setCell (p := ⟨bb, 0, none⟩) rfl v3).setCell (p := ⟨bb, 1, none⟩) rfl v4).block ba (Array.getElem?_eq_some_iff.1 hA).1 ne).trans hA, heap_setCell_at (k := 1) (heap_setCell_at (k := 0) hB v3) v4⟩
theorem hy_rows {X1 X2 X W : World} {ba bb b1 b2 : Nat} {xs1 xs2 : List Value} {a1 a2 : Option Addr} {k1 k2 c1 c2 : Nat} (o1 : Only oF X1 X) (o2 : Only oF X2 X) (n1a : ∀ g, (Value.slice a1 k1 c1).ownBlock = some g → ¬ g = ba) (n1b : ∀ g, (Value.slice a1 k1 c1).ownBlock = some g → ¬ g = bb) (n2a : ∀ g, (Value.slice a2 k2 c2).ownBlock = some g → ¬ g = ba) (n2b : ∀ g, (Value.slice a2 k2 c2).ownBlock = some g → ¬ g = bb) (oz : Only (fun x => x = ba ∨ x = bb) X W) (g1 : X1.ownsRow b1 54 1 (.slice a1 k1 c1) k1 xs1) (g2 : X2.ownsRow b2 54 1 (.slice a2 k2 c2) k2 xs2) : Vw W a1 xs1 ∧ Vw W a2 xs2 :=
  ⟨own_vw (own_stay (own_only g1 o1 (fun _ _ h => h)) oz (fun g hg he => he.elim (n1a g hg) (n1b g hg))), own_vw (own_stay (own_only g2 o2 (fun _ _ h => h)) oz (fun g hg he => he.elim (n2a g hg) (n2b g hg)))⟩
set_option maxRecDepth 100000 in
set_option maxHeartbeats 80000000 in
theorem walk1 (K : Kase) (w : World) (hK : K.Ok w) (hs : K.S.length ≤ 300) : Calls Try.prog 12 #[K.val] w fun e w' => e = .returned (.bool true) ∧ Only (fun _ => False) w w' := by
  obtain ⟨LS, LM, LB, LP, LR, aS0, aM0, aB0, aP0, aR0, cS0, cM0, cB0, cP0, cR0, bR0, oR0⟩ := K
  obtain ⟨vS, bS, sS, vM, bM, sM, vB, bB, sB, vP, sP, vR, fR⟩ := hK
  simp only [Kase.val] at *
  have HWO : Hid (∀ W, Only (fun _ => False) w W → Calls Try.prog 16 #[.slice aS0 LS.length cS0] W (woP LS.length W)) := fun W ho => words_any LS aS0 cS0 W (vS.keep ho) bS (by omega)
  have HM : Hid (∀ W, Only (fun _ => False) w W → Calls Try.prog 19 #[.slice aM0 LM.length cM0] W (opP LM W)) := fun W ho => opps_any LM aM0 cM0 W (vM.keep ho) bM (by omega)
  have HB : Hid (∀ W, Only (fun _ => False) w W → Calls Try.prog 19 #[.slice aB0 LB.length cB0] W (opP LB W)) := fun W ho => opps_any LB aB0 cB0 W (vB.keep ho) bB (by omega)
  have HT : Hid (∀ W, Calls Try.prog 15 #[.slice none 0 0, .int .i64 1] W (tbP [] W)) := fun W => table_any [] 1 none 0 0 0 W (sees_nil W) (by decide) (by decide)
  have HP : Hid (Vw w aP0 (bools LP) ∧ LP.length ≤ maxLen ∧ (∀ x ∈ LM, x < 256) ∧ (∀ x ∈ LB, x < 256) ∧ LM.length ≤ 140737488351232 ∧ LB.length ≤ 140737488351232) := ⟨vP, sP, bM, bB, sM, sB⟩
  obtain ⟨n0, hn0⟩ : ∃ n, n = LS.length := ⟨_, rfl⟩
  obtain ⟨nM, hnM⟩ : ∃ n, n = LM.length := ⟨_, rfl⟩
  obtain ⟨nB, hnB⟩ : ∃ n, n = LB.length := ⟨_, rfl⟩
  obtain ⟨nP, hnP⟩ : ∃ n, n = LP.length := ⟨_, rfl⟩
  obtain ⟨nR, hnR⟩ : ∃ n, n = LR.length := ⟨_, rfl⟩
  have HN : Hid (nM = LM.length ∧ nB = LB.length ∧ nP = LP.length) := ⟨hnM, hnB, hnP⟩
  rw [← hn0] at hs HWO ⊢
  rw [← hnM] at HM ⊢
  rw [← hnB] at HB ⊢
  rw [← hnP] at ⊢
  rw [← hnR] at ⊢
  clear vS bS sS vM bM sM vB bB sB vP sP vR fR hn0 hnM hnB hnP hnR
  have s0 : decide ((300 : Int) < (n0 : Int)) = false := decide_eq_false (by omega)
  go_enter Try.func12, Try.ntmps12
  go_wp2_with fail
  obtain ⟨R, hR⟩ : ∃ b, b = w.heap.size := ⟨_, rfl⟩
  obtain ⟨w0, hw0⟩ : ∃ Z, Z = w.alloc (.cells #[.slice aS0 n0 cS0, .slice aM0 nM cM0, .slice aB0 nB cB0, .slice aP0 nP cP0, .slice aR0 nR cR0] 60) := ⟨_, rfl⟩
  rw [← hw0, ← hR]
  have H0 : Hid (w0.heap[R]? = some (.cells #[.slice aS0 n0 cS0, .slice aM0 nM cM0, .slice aB0 nB cB0, .slice aP0 nP cP0, .slice aR0 nR cR0] 60 (0, 0)) ∧ Only (fun _ => False) w w0) := by
    rw [hw0, hR]
    exact ⟨heap_alloc_new w _, (Only.refl _ _).alloc _⟩
  clear hw0 hR
  refine (awake11_any _).mono ?_
  rintro e w1 ⟨rfl, ho1⟩
  have H1 : Hid _ := And.intro (blk_keep ho1 H0.out.1) (H0.out.2.trans ho1)
  obtain ⟨k0, k1, k2, k3, k4, l1⟩ := blk_five H1.out.1
  clear ho1
  go_wp2_with fail
  refine Calls.mono (HT.out _) ?_
  rintro e w2 ⟨T, rfl, hT, ho2⟩
  have H2 : Hid _ := And.intro (blk_keep ho2 H1.out.1) (And.intro (H1.out.2.trans ho2) hT)
  clear k0 k1 k2 k3 k4
  obtain ⟨k0, k1, k2, k3, k4, l2⟩ := blk_five H2.out.1
  clear ho2 hT
  go_wp2_with fail
  refine Calls.mono (HWO.out _ H2.out.2.1) ?_
  rintro e w3 ⟨D, aD, cD, rfl, hD, hDB, hDl, ho3⟩
  have hDc := own_le hD
  have H3 : Hid _ := And.intro (blk_keep ho3 H2.out.1) (And.intro (H2.out.2.1.trans ho3) (And.intro (H2.out.2.2.keep ho3) (And.intro (own_vw hD) hDB)))
  clear k0 k1 k2 k3 k4
  obtain ⟨k0, k1, k2, k3, k4, l3⟩ := blk_five H3.out.1
  clear ho3 hD hDB
  go_wp2_with fail
  refine Calls.mono (all_signs D aD cD w3 H3.out.2.2.2.1 H3.out.2.2.2.2 (by omega) hDc) ?_
  rintro e w4 ⟨S, aS, cS, rfl, hS, hF, hR, hSl, ho4⟩
  have hSc := own_le hS
  have hScm := own_cap hS
  have H4 : Hid _ := And.intro (blk_keep ho4 H3.out.1) (And.intro (H3.out.2.1.trans ho4) (And.intro (H3.out.2.2.1.keep ho4) (And.intro (own_vw hS) hF)))
  clear k0 k1 k2 k3 k4
  obtain ⟨k0, k1, k2, k3, k4, l4⟩ := blk_five H4.out.1
  have HI : Hid (∀ W, Only (fun _ => False) w4 W → ∀ (aM : Option Addr) (cM : Nat) (aB : Option Addr) (cB : Nat) (Pt : List Bool) (aP : Option Addr) (cP : Nat), Vw W aM (u8s LM) → Vw W aB (u8s LB) → Vw W aP (bools Pt) → Pt.length ≤ maxLen → Calls Try.prog 26 #[.slice aS S.length cS, .slice aM LM.length cM, .slice aB LB.length cB, .slice aP Pt.length cP, .pointer (some ⟨T, 0, none⟩)] W (paP (Ce.cls (Pr.of []) S LM) (It.opl LB Pt (Ce.starts LM S.length) (Ce.cls (Pr.of []) S LM).length) W)) := fun W ho aM cM aB cB Pt aP cP h1 h2 h3 h4 => items_any 1 [] _ T S LM LB Pt aS aM aB aP cS cM cB cP W (H4.out.2.2.1.keep ho) (by decide) (H4.out.2.2.2.1.keep ho) H4.out.2.2.2.2 h1 HP.out.2.2.1 h2 HP.out.2.2.2.1 h3 (by omega) (by unfold maxLen; have := HP.out.2.2.2.2.1; omega) (by unfold maxLen; have := HP.out.2.2.2.2.2; omega) h4 hSc hScm
  obtain ⟨n, hn⟩ : ∃ n, n = S.length := ⟨_, rfl⟩
  obtain ⟨q, hq⟩ : ∃ q, q = (Ce.cls (Pr.of []) S LM).length := ⟨_, rfl⟩
  have hq2 : q ≤ 100000 := by rw [hq, Ce.cls_len]; have := Ce.st_len LM S.length; omega
  have HQ : Hid (q = (Ce.cls (Pr.of []) S LM).length) := hq
  rw [← hn] at HI hSc hSl ⊢
  have HOW : Hid (Only (fun _ => False) w w4) := H4.out.2.1
  have HKS : Hid (∀ W', Only (fun _ => False) w4 W' → W'.cell? ⟨R, 1, none⟩ = some (.slice aM0 nM cM0) ∧ W'.cell? ⟨R, 2, none⟩ = some (.slice aB0 nB cB0) ∧ W'.cell? ⟨R, 3, none⟩ = some (.slice aP0 nP cP0)) := fun W' ho => ⟨(blk_five (blk_keep ho H4.out.1)).2.1, (blk_five (blk_keep ho H4.out.1)).2.2.1, (blk_five (blk_keep ho H4.out.1)).2.2.2.1⟩
  obtain ⟨P, hP⟩ : ∃ P, P = Ce.starts LM n := ⟨_, rfl⟩
  obtain ⟨O1, hO1⟩ : ∃ O, O = It.opl LB [] P q := ⟨_, rfl⟩
  obtain ⟨O2, hO2⟩ : ∃ O, O = It.opl LB LP P q := ⟨_, rfl⟩
  have HQL : Hid (O1.length = q + 1 ∧ O2.length = q + 1) := ⟨by rw [hO1, It.opl_len], by rw [hO2, It.opl_len]⟩
  have HOP : Hid (∀ k, k ≤ q → ∃ x y, O1[k]? = some x ∧ O2[k]? = some y ∧ x < 256 ∧ y < 256 ∧ (x = y ∨ (x = 0 ∧ y = 3 ∧ k ≠ 0 ∧ k ≠ q))) := fun k hk => ⟨_, _, by rw [hO1]; exact It.opl_at hk, by rw [hO2]; exact It.opl_at hk, It.op_lt HP.out.2.2.2.1, It.op_lt HP.out.2.2.2.1, op_hy LB LP P q k⟩
  have HI1 : Hid (∀ W, Only (fun _ => False) w4 W → ∀ (aM : Option Addr) (cM : Nat) (aB : Option Addr) (cB : Nat), Vw W aM (u8s LM) → Vw W aB (u8s LB) → Calls Try.prog 26 #[.slice aS n cS, .slice aM nM cM, .slice aB nB cB, .slice none 0 0, .pointer (some ⟨T, 0, none⟩)] W fun e w' => ∃ (aC aO : Option Addr) (cC cO : Nat), e = .returned (.agg #[.slice aC q cC, .slice aO (q + 1) cO]) ∧ w'.ownsRow W.heap.size 54 1 (.slice aO (q + 1) cO) (q + 1) (u8s O1) ∧ Only (fun _ => False) W w') := fun W ho aM cM aB cB h1 h2 => by
    have h := HI.out W ho aM cM aB cB [] none 0 h1 h2 (Vw.nil _ _) (Nat.zero_le _)
    unfold paP at h
    rw [← HQ.out, ← hP, ← hO1, HQL.out.1, ← HN.out.1, ← HN.out.2.1] at h
    exact Calls.mono h (fun e w' ⟨aC, aO, cC, cO, h1, _, h3, h4⟩ => ⟨aC, aO, cC, cO, h1, h3, h4⟩)
  have HI2 : Hid (∀ W, Only (fun _ => False) w4 W → ∀ (aM : Option Addr) (cM : Nat) (aB : Option Addr) (cB : Nat), Vw W aM (u8s LM) → Vw W aB (u8s LB) → Calls Try.prog 26 #[.slice aS n cS, .slice aM nM cM, .slice aB nB cB, .slice aP0 nP cP0, .pointer (some ⟨T, 0, none⟩)] W fun e w' => ∃ (aC aO : Option Addr) (cC cO : Nat), e = .returned (.agg #[.slice aC q cC, .slice aO (q + 1) cO]) ∧ w'.ownsRow W.heap.size 54 1 (.slice aO (q + 1) cO) (q + 1) (u8s O2) ∧ Only (fun _ => False) W w') := fun W ho aM cM aB cB h1 h2 => by
    have h := HI.out W ho aM cM aB cB LP aP0 cP0 h1 h2 (HP.out.1.keep (HOW.out.trans ho)) HP.out.2.1
    unfold paP at h
    rw [← HQ.out, ← hP, ← hO2, HQL.out.2, ← HN.out.1, ← HN.out.2.1, ← HN.out.2.2] at h
    exact Calls.mono h (fun e w' ⟨aC, aO, cC, cO, h1, _, h3, h4⟩ => ⟨aC, aO, cC, cO, h1, h3, h4⟩)
  unfold opP at HM HB
  rw [← HN.out.1] at HM
  rw [← HN.out.2.1] at HB
  clear hO1 hO2 hP
  clear ho4 hS hF hR hn hq hDl hDc hSl
  go_wp2_with fail
  go_cut [6, 7] (fun v6 v7 wr => ∃ (B6 B7 : Nat) (aC aO aD aQ : Option Addr) (cC cO cD cQ : Nat) (W : World), W = wr ∧ v6 = .pointer (some ⟨B6, 0, none⟩) ∧ v7 = .pointer (some ⟨B7, 0, none⟩) ∧ W.heap[B6]? = some (.cells #[.slice aC q cC, .slice aO (q + 1) cO] 62 (0, 0)) ∧ W.heap[B7]? = some (.cells #[.slice aD q cD, .slice aQ (q + 1) cQ] 62 (0, 0)) ∧ Vw W aO (u8s O1) ∧ Vw W aQ (u8s O2) ∧ Only (fun _ => False) w4 W)
  case first =>
   have XD : Hid (Only oF w4 w4.drew) := (Only.refl _ _).drew
   refine wp_region_held_drew (S := (fun W' => W'.cell? ⟨R, 1, none⟩ = some (.slice aM0 nM cM0) ∧ W'.cell? ⟨R, 2, none⟩ = some (.slice aB0 nB cB0) ∧ W'.cell? ⟨R, 3, none⟩ = some (.slice aP0 nP cP0))) (by kernel_rfl) (HKS.out _ (Only.refl _ _).drew) (fun hHeld => ?_)
   refine wpAnyH_take (i := 0) (oi := { dst := some 25, op := _, type := _, pos := _, after := _, guard := _ }) (v := .slice aS n cS) rfl (by kernel_rfl) (by kernel_rfl) (by kernel_rfl) (fun _ _ _ h => h) (Or.inl ⟨by rfl, fun w hSw => by obtain ⟨y0, y1, y2⟩ := hSw; first | (go_simp; done) | go_simp⟩) (by assumption) ?_
   (try simp only [Act.put, List.setIfInBounds_toArray, List.set_cons_zero, List.set_cons_succ])
   refine wpAnyH_take (i := 1) (oi := { dst := some 26, op := _, type := _, pos := _, after := _, guard := _ }) (v := .pointer (some ⟨R, 1, none⟩)) rfl (by kernel_rfl) (by kernel_rfl) (by kernel_rfl) (fun _ _ _ h => h) (Or.inl ⟨by rfl, fun w hSw => by obtain ⟨y0, y1, y2⟩ := hSw; first | (go_simp; done) | go_simp⟩) (by assumption) ?_
   (try simp only [Act.put, List.setIfInBounds_toArray, List.set_cons_zero, List.set_cons_succ])
   refine wpAnyH_take (i := 2) (oi := { dst := some 27, op := _, type := _, pos := _, after := _, guard := _ }) (v := .slice aM0 nM cM0) rfl (by kernel_rfl) (by kernel_rfl) (by kernel_rfl) (fun _ _ _ h => h) (Or.inl ⟨by rfl, fun w hSw => by obtain ⟨y0, y1, y2⟩ := hSw; first | (go_simp; done) | go_simp⟩) (by assumption) ?_
   (try simp only [Act.put, List.setIfInBounds_toArray, List.set_cons_zero, List.set_cons_succ])
   refine wpAnyH_take (i := 4) (oi := { dst := some 29, op := _, type := _, pos := _, after := _, guard := _ }) (v := .pointer (some ⟨R, 2, none⟩)) rfl (by kernel_rfl) (by kernel_rfl) (by kernel_rfl) (fun _ _ _ h => h) (Or.inl ⟨by rfl, fun w hSw => by obtain ⟨y0, y1, y2⟩ := hSw; first | (go_simp; done) | go_simp⟩) (by assumption) ?_
   (try simp only [Act.put, List.setIfInBounds_toArray, List.set_cons_zero, List.set_cons_succ])
   refine wpAnyH_take (i := 5) (oi := { dst := some 30, op := _, type := _, pos := _, after := _, guard := _ }) (v := .slice aB0 nB cB0) rfl (by kernel_rfl) (by kernel_rfl) (by kernel_rfl) (fun _ _ _ h => h) (Or.inl ⟨by rfl, fun w hSw => by obtain ⟨y0, y1, y2⟩ := hSw; first | (go_simp; done) | go_simp⟩) (by assumption) ?_
   (try simp only [Act.put, List.setIfInBounds_toArray, List.set_cons_zero, List.set_cons_succ])
   refine wpAnyH_take (i := 7) (oi := { dst := some 32, op := _, type := _, pos := _, after := _, guard := _ }) (v := .pointer (some ⟨T, 0, none⟩)) rfl (by kernel_rfl) (by kernel_rfl) (by kernel_rfl) (fun _ _ _ h => h) (Or.inl ⟨by rfl, fun w hSw => by obtain ⟨y0, y1, y2⟩ := hSw; first | (go_simp; done) | go_simp⟩) (by assumption) ?_
   (try simp only [Act.put, List.setIfInBounds_toArray, List.set_cons_zero, List.set_cons_succ])
   refine wpAnyH_take (i := 9) (oi := { dst := some 34, op := _, type := _, pos := _, after := _, guard := _ }) (v := .slice aS n cS) rfl (by kernel_rfl) (by kernel_rfl) (by kernel_rfl) (fun _ _ _ h => h) (Or.inl ⟨by rfl, fun w hSw => by obtain ⟨y0, y1, y2⟩ := hSw; first | (go_simp; done) | go_simp⟩) (by assumption) ?_
   (try simp only [Act.put, List.setIfInBounds_toArray, List.set_cons_zero, List.set_cons_succ])
   refine wpAnyH_take (i := 10) (oi := { dst := some 35, op := _, type := _, pos := _, after := _, guard := _ }) (v := .pointer (some ⟨R, 1, none⟩)) rfl (by kernel_rfl) (by kernel_rfl) (by kernel_rfl) (fun _ _ _ h => h) (Or.inl ⟨by rfl, fun w hSw => by obtain ⟨y0, y1, y2⟩ := hSw; first | (go_simp; done) | go_simp⟩) (by assumption) ?_
   (try simp only [Act.put, List.setIfInBounds_toArray, List.set_cons_zero, List.set_cons_succ])
   refine wpAnyH_take (i := 11) (oi := { dst := some 36, op := _, type := _, pos := _, after := _, guard := _ }) (v := .slice aM0 nM cM0) rfl (by kernel_rfl) (by kernel_rfl) (by kernel_rfl) (fun _ _ _ h => h) (Or.inl ⟨by rfl, fun w hSw => by obtain ⟨y0, y1, y2⟩ := hSw; first | (go_simp; done) | go_simp⟩) (by assumption) ?_
   (try simp only [Act.put, List.setIfInBounds_toArray, List.set_cons_zero, List.set_cons_succ])
   refine wpAnyH_take (i := 13) (oi := { dst := some 38, op := _, type := _, pos := _, after := _, guard := _ }) (v := .pointer (some ⟨R, 2, none⟩)) rfl (by kernel_rfl) (by kernel_rfl) (by kernel_rfl) (fun _ _ _ h => h) (Or.inl ⟨by rfl, fun w hSw => by obtain ⟨y0, y1, y2⟩ := hSw; first | (go_simp; done) | go_simp⟩) (by assumption) ?_
   (try simp only [Act.put, List.setIfInBounds_toArray, List.set_cons_zero, List.set_cons_succ])
   refine wpAnyH_take (i := 14) (oi := { dst := some 39, op := _, type := _, pos := _, after := _, guard := _ }) (v := .slice aB0 nB cB0) rfl (by kernel_rfl) (by kernel_rfl) (by kernel_rfl) (fun _ _ _ h => h) (Or.inl ⟨by rfl, fun w hSw => by obtain ⟨y0, y1, y2⟩ := hSw; first | (go_simp; done) | go_simp⟩) (by assumption) ?_
   (try simp only [Act.put, List.setIfInBounds_toArray, List.set_cons_zero, List.set_cons_succ])
   refine wpAnyH_take (i := 16) (oi := { dst := some 41, op := _, type := _, pos := _, after := _, guard := _ }) (v := .pointer (some ⟨R, 3, none⟩)) rfl (by kernel_rfl) (by kernel_rfl) (by kernel_rfl) (fun _ _ _ h => h) (Or.inl ⟨by rfl, fun w hSw => by obtain ⟨y0, y1, y2⟩ := hSw; first | (go_simp; done) | go_simp⟩) (by assumption) ?_
   (try simp only [Act.put, List.setIfInBounds_toArray, List.set_cons_zero, List.set_cons_succ])
   refine wpAnyH_take (i := 17) (oi := { dst := some 42, op := _, type := _, pos := _, after := _, guard := _ }) (v := .slice aP0 nP cP0) rfl (by kernel_rfl) (by kernel_rfl) (by kernel_rfl) (fun _ _ _ h => h) (Or.inl ⟨by rfl, fun w hSw => by obtain ⟨y0, y1, y2⟩ := hSw; first | (go_simp; done) | go_simp⟩) (by assumption) ?_
   (try simp only [Act.put, List.setIfInBounds_toArray, List.set_cons_zero, List.set_cons_succ])
   refine wpAnyH_take (i := 18) (oi := { dst := some 43, op := _, type := _, pos := _, after := _, guard := _ }) (v := .pointer (some ⟨T, 0, none⟩)) rfl (by kernel_rfl) (by kernel_rfl) (by kernel_rfl) (fun _ _ _ h => h) (Or.inl ⟨by rfl, fun w hSw => by obtain ⟨y0, y1, y2⟩ := hSw; first | (go_simp; done) | go_simp⟩) (by assumption) ?_
   (try simp only [Act.put, List.setIfInBounds_toArray, List.set_cons_zero, List.set_cons_succ])
   refine wpAnyH_ready (rs := [3, 20, 21]) (by kernel_rfl) (by simp) (.cons rfl (fun K hK => ?_) (.cons rfl (fun K hK => ?_) (.cons rfl (fun K hK => ?_) .nil)))
   · as_aux_lemma =>
     rw [if_pos (by rfl)]; go_simp
     refine Calls.mono (HM.out _ (HOW.out.trans XD.out)) ?_; rintro e x1 ⟨m0, n0, rfl, hw, ho⟩
     have F0 : Hid (Vw x1 m0 (u8s LM)) := own_vw hw
     have S1 : Hid (Only oF w4.drew x1) := ho
     have X1 : Hid (Only oF w4 x1) := XD.out.trans ho
     clear hw ho
     refine hK.out _ _ (HKS.out _ X1.out) (fun hHeld => ?_); clear hK; (try simp only [Act.put, tA, tB, tC])
     refine wpAnyH_ready (rs := [6, 20, 21]) (by kernel_rfl) (by simp) (.cons rfl (fun K hK => ?_) (.cons rfl (fun K hK => ?_) (.cons rfl (fun K hK => ?_) .nil)))
     · as_aux_lemma =>
       rw [if_pos (by rfl)]; go_simp
       refine Calls.mono (HB.out _ (HOW.out.trans X1.out)) ?_; rintro e x2 ⟨m1, n1, rfl, hw, ho⟩
       have F1 : Hid (Vw x2 m1 (u8s LB)) := own_vw hw
       have S2 : Hid (Only oF x1 x2) := ho
       have X2 : Hid (Only oF w4 x2) := X1.out.trans ho
       clear hw ho
       refine hK.out _ _ (HKS.out _ X2.out) (fun hHeld => ?_); clear hK; (try simp only [Act.put, tA, tB, tC])
       refine wpAnyH_ready (rs := [8, 20, 21]) (by kernel_rfl) (by simp) (.cons rfl (fun K hK => ?_) (.cons rfl (fun K hK => ?_) (.cons rfl (fun K hK => ?_) .nil)))
       · as_aux_lemma =>
         rw [if_pos (by rfl)]; go_simp
         refine Calls.mono (HI1.out _ X2.out m0 n0 m1 n1 (F0.out.keep (S2.out)) (F1.out.keep (Only.refl oF _))) ?_; rintro e x3 ⟨p1, r1, s1, u1, rfl, hw, ho⟩
         have G1 : Hid _ := hw
         have S3 : Hid (Only oF x2 x3) := ho
         have X3 : Hid (Only oF w4 x3) := X2.out.trans ho
         clear hw ho
         refine hK.out _ _ (HKS.out _ X3.out) (fun hHeld => ?_); clear hK; (try simp only [Act.put, tA, tB, tC])
         refine wpAnyH_ready (rs := [12, 20, 21]) (by kernel_rfl) (by simp) (.cons rfl (fun K hK => ?_) (.cons rfl (fun K hK => ?_) (.cons rfl (fun K hK => ?_) .nil)))
         · as_aux_lemma =>
           rw [if_pos (by rfl)]; go_simp
           refine Calls.mono (HM.out _ (HOW.out.trans X3.out)) ?_; rintro e x4 ⟨m3, n3, rfl, hw, ho⟩
           have F3 : Hid (Vw x4 m3 (u8s LM)) := own_vw hw
           have S4 : Hid (Only oF x3 x4) := ho
           have X4 : Hid (Only oF w4 x4) := X3.out.trans ho
           clear hw ho
           refine hK.out _ _ (HKS.out _ X4.out) (fun hHeld => ?_); clear hK; (try simp only [Act.put, tA, tB, tC])
           refine wpAnyH_ready (rs := [15, 20, 21]) (by kernel_rfl) (by simp) (.cons rfl (fun K hK => ?_) (.cons rfl (fun K hK => ?_) (.cons rfl (fun K hK => ?_) .nil)))
           · as_aux_lemma =>
             rw [if_pos (by rfl)]; go_simp
             refine Calls.mono (HB.out _ (HOW.out.trans X4.out)) ?_; rintro e x5 ⟨m4, n4, rfl, hw, ho⟩
             have F4 : Hid (Vw x5 m4 (u8s LB)) := own_vw hw
             have S5 : Hid (Only oF x4 x5) := ho
             have X5 : Hid (Only oF w4 x5) := X4.out.trans ho
             clear hw ho
             refine hK.out _ _ (HKS.out _ X5.out) (fun hHeld => ?_); clear hK; (try simp only [Act.put, tA, tB, tC])
             refine wpAnyH_ready (rs := [19, 20, 21]) (by kernel_rfl) (by simp) (.cons rfl (fun K hK => ?_) (.cons rfl (fun K hK => ?_) (.cons rfl (fun K hK => ?_) .nil)))
             · as_aux_lemma =>
               rw [if_pos (by rfl)]; go_simp
               refine Calls.mono (HI2.out _ X5.out m3 n3 m4 n4 (F3.out.keep (S5.out)) (F4.out.keep (Only.refl oF _))) ?_; rintro e x6 ⟨p2, r2, s2, u2, rfl, hw, ho⟩
               have G2 : Hid _ := hw
               have S6 : Hid (Only oF x5 x6) := ho
               have X6 : Hid (Only oF w4 x6) := X5.out.trans ho
               clear hw ho
               refine hK.out _ _ (HKS.out _ X6.out) (fun hHeld => ?_); clear hK; (try simp only [Act.put, tA, tB, tC])
               refine wpAnyH_ready (rs := [20, 21]) (by kernel_rfl) (by simp) (.cons rfl (fun K hK => ?_) (.cons rfl (fun K hK => ?_) .nil))
               · as_aux_lemma =>
                 rw [if_pos (by rfl)]; go_simp
                 obtain ⟨x7, ba, hY, hb, S7, Zba⟩ := al_let x6
                 have X7 : Hid (Only oF w4 x7) := X6.out.trans S7.out
                 rw [← hY, ← hb]; clear hY hb
                 refine hK.out _ _ (HKS.out _ X7.out) (fun hHeld => ?_); clear hK; (try simp only [Act.put, tA, tB, tC])
                 refine wpAnyH_ready (rs := [21]) (by kernel_rfl) (by simp) (.cons rfl (fun K hK => ?_) .nil)
                 rw [if_pos (by rfl)]; go_simp
                 obtain ⟨x8, bb, hY, hb, S8, Zbb⟩ := al_let x7
                 have X8 : Hid (Only oF w4 x8) := X7.out.trans S8.out
                 rw [← hY, ← hb]; clear hY hb
                 refine hK.out _ _ (HKS.out _ X8.out) (fun hHeld => ?_); clear hK; (try simp only [Act.put, tA, tB, tC])
                 have hlt : ba < bb := by rw [Zbb.out.2]; exact ltz Zba.out.1 (Only.refl oF _)
                 have ne1 : ¬ ba = bb := by omega
                 have ne2 : ¬ bb = ba := by omega
                 have A : Hid _ := blk_keep (S8.out) Zba.out.1
                 have B : Hid _ := blk_keep (Only.refl oF _) Zbb.out.1
                 obtain ⟨Y1, hY, L⟩ := hy_leaf (.slice p1 q s1) (.slice r1 (q + 1) u1) (.slice p2 q s2) (.slice r2 (q + 1) u2) X8.out A.out B.out (wz Zba.out.2 X6.out) (wz Zbb.out.2 X7.out) ne1
                 have V : Hid _ := hy_rows (S4.out.trans (S5.out.trans (S6.out.trans (S7.out.trans (S8.out))))) (S7.out.trans (S8.out)) (nz2 G1.out Zba.out.2 (S4.out.trans (S5.out.trans (S6.out)))) (nz2 G1.out Zbb.out.2 (S4.out.trans (S5.out.trans (S6.out.trans (S7.out))))) (nz2 G2.out Zba.out.2 (Only.refl oF _)) (nz2 G2.out Zbb.out.2 (S7.out)) L.out.2.2.1 G1.out G2.out
                 obtain ⟨z0, z1, zl, zf⟩ := blk_two' A.out
                 refine wpAnyH_ready (rs := [22]) (by kernel_rfl) (by simp) (.cons rfl (fun K hK => ?_) .nil)
                 rw [if_pos (by rfl)]; go_simp
                 refine hK.out _ _ (by rw [← hY]; exact HKS.out _ L.out.1) (fun hHeld => ?_); clear hK z0 z1 zl zf; (try simp only [Act.put, tA, tB, tC])
                 rw [← hY]
                 obtain ⟨z0, z1, zl, zf⟩ := blk_two' L.out.2.2.2.1
                 clear hY
                 refine wpAnyH_ready (rs := [23]) (by kernel_rfl) (by simp) (.cons rfl (fun K hK => ?_) .nil)
                 rw [if_pos (by rfl)]; go_simp
                 refine hK.out _ _ (HKS.out _ L.out.2.1) (fun hHeld => ?_); clear hK z0 z1 zl zf; (try simp only [Act.put, tA, tB, tC])
                 refine wpAnyH_done (by kernel_rfl) ?_ _; clear hHeld; go_wp2_with fail; go_meet
                 exact ⟨ba, bb, p1, r1, p2, r2, s1, u1, s2, u2, _, rfl, rfl, rfl, L.out.2.2.2.2.1, L.out.2.2.2.2.2, V.out.1, V.out.2, L.out.2.1⟩
               · as_aux_lemma =>
                 rw [if_pos (by rfl)]; go_simp
                 obtain ⟨x7, bb, hY, hb, S7, Zbb⟩ := al_let x6
                 have X7 : Hid (Only oF w4 x7) := X6.out.trans S7.out
                 rw [← hY, ← hb]; clear hY hb
                 refine hK.out _ _ (HKS.out _ X7.out) (fun hHeld => ?_); clear hK; (try simp only [Act.put, tA, tB, tC])
                 refine wpAnyH_ready (rs := [20]) (by kernel_rfl) (by simp) (.cons rfl (fun K hK => ?_) .nil)
                 rw [if_pos (by rfl)]; go_simp
                 obtain ⟨x8, ba, hY, hb, S8, Zba⟩ := al_let x7
                 have X8 : Hid (Only oF w4 x8) := X7.out.trans S8.out
                 rw [← hY, ← hb]; clear hY hb
                 refine hK.out _ _ (HKS.out _ X8.out) (fun hHeld => ?_); clear hK; (try simp only [Act.put, tA, tB, tC])
                 have hlt : bb < ba := by rw [Zba.out.2]; exact ltz Zbb.out.1 (Only.refl oF _)
                 have ne1 : ¬ ba = bb := by omega
                 have ne2 : ¬ bb = ba := by omega
                 have A : Hid _ := blk_keep (Only.refl oF _) Zba.out.1
                 have B : Hid _ := blk_keep (S8.out) Zbb.out.1
                 obtain ⟨Y1, hY, L⟩ := hy_leaf (.slice p1 q s1) (.slice r1 (q + 1) u1) (.slice p2 q s2) (.slice r2 (q + 1) u2) X8.out A.out B.out (wz Zba.out.2 X7.out) (wz Zbb.out.2 X6.out) ne1
                 have V : Hid _ := hy_rows (S4.out.trans (S5.out.trans (S6.out.trans (S7.out.trans (S8.out))))) (S7.out.trans (S8.out)) (nz2 G1.out Zba.out.2 (S4.out.trans (S5.out.trans (S6.out.trans (S7.out))))) (nz2 G1.out Zbb.out.2 (S4.out.trans (S5.out.trans (S6.out)))) (nz2 G2.out Zba.out.2 (S7.out)) (nz2 G2.out Zbb.out.2 (Only.refl oF _)) L.out.2.2.1 G1.out G2.out
                 obtain ⟨z0, z1, zl, zf⟩ := blk_two' A.out
                 refine wpAnyH_ready (rs := [22]) (by kernel_rfl) (by simp) (.cons rfl (fun K hK => ?_) .nil)
                 rw [if_pos (by rfl)]; go_simp
                 refine hK.out _ _ (by rw [← hY]; exact HKS.out _ L.out.1) (fun hHeld => ?_); clear hK z0 z1 zl zf; (try simp only [Act.put, tA, tB, tC])
                 rw [← hY]
                 obtain ⟨z0, z1, zl, zf⟩ := blk_two' L.out.2.2.2.1
                 clear hY
                 refine wpAnyH_ready (rs := [23]) (by kernel_rfl) (by simp) (.cons rfl (fun K hK => ?_) .nil)
                 rw [if_pos (by rfl)]; go_simp
                 refine hK.out _ _ (HKS.out _ L.out.2.1) (fun hHeld => ?_); clear hK z0 z1 zl zf; (try simp only [Act.put, tA, tB, tC])
                 refine wpAnyH_done (by kernel_rfl) ?_ _; clear hHeld; go_wp2_with fail; go_meet
                 exact ⟨ba, bb, p1, r1, p2, r2, s1, u1, s2, u2, _, rfl, rfl, rfl, L.out.2.2.2.2.1, L.out.2.2.2.2.2, V.out.1, V.out.2, L.out.2.1⟩
             · as_aux_lemma =>
               rw [if_pos (by rfl)]; go_simp
               obtain ⟨x6, ba, hY, hb, S6, Zba⟩ := al_let x5
               have X6 : Hid (Only oF w4 x6) := X5.out.trans S6.out
               rw [← hY, ← hb]; clear hY hb
               refine hK.out _ _ (HKS.out _ X6.out) (fun hHeld => ?_); clear hK; (try simp only [Act.put, tA, tB, tC])
               refine wpAnyH_ready (rs := [19, 21]) (by kernel_rfl) (by simp) (.cons rfl (fun K hK => ?_) (.cons rfl (fun K hK => ?_) .nil))
               · as_aux_lemma =>
                 rw [if_pos (by rfl)]; go_simp
                 refine Calls.mono (HI2.out _ X6.out m3 n3 m4 n4 (F3.out.keep (S5.out.trans (S6.out))) (F4.out.keep (S6.out))) ?_; rintro e x7 ⟨p2, r2, s2, u2, rfl, hw, ho⟩
                 have G2 : Hid _ := hw
                 have S7 : Hid (Only oF x6 x7) := ho
                 have X7 : Hid (Only oF w4 x7) := X6.out.trans ho
                 clear hw ho
                 refine hK.out _ _ (HKS.out _ X7.out) (fun hHeld => ?_); clear hK; (try simp only [Act.put, tA, tB, tC])
                 refine wpAnyH_ready (rs := [21]) (by kernel_rfl) (by simp) (.cons rfl (fun K hK => ?_) .nil)
                 rw [if_pos (by rfl)]; go_simp
                 obtain ⟨x8, bb, hY, hb, S8, Zbb⟩ := al_let x7
                 have X8 : Hid (Only oF w4 x8) := X7.out.trans S8.out
                 rw [← hY, ← hb]; clear hY hb
                 refine hK.out _ _ (HKS.out _ X8.out) (fun hHeld => ?_); clear hK; (try simp only [Act.put, tA, tB, tC])
                 have hlt : ba < bb := by rw [Zbb.out.2]; exact ltz Zba.out.1 (S7.out)
                 have ne1 : ¬ ba = bb := by omega
                 have ne2 : ¬ bb = ba := by omega
                 have A : Hid _ := blk_keep (S7.out.trans (S8.out)) Zba.out.1
                 have B : Hid _ := blk_keep (Only.refl oF _) Zbb.out.1
                 obtain ⟨Y1, hY, L⟩ := hy_leaf (.slice p1 q s1) (.slice r1 (q + 1) u1) (.slice p2 q s2) (.slice r2 (q + 1) u2) X8.out A.out B.out (wz Zba.out.2 X5.out) (wz Zbb.out.2 X7.out) ne1
                 have V : Hid _ := hy_rows (S4.out.trans (S5.out.trans (S6.out.trans (S7.out.trans (S8.out))))) (S8.out) (nz2 G1.out Zba.out.2 (S4.out.trans (S5.out))) (nz2 G1.out Zbb.out.2 (S4.out.trans (S5.out.trans (S6.out.trans (S7.out))))) (nz1 G2.out Zba.out.1 (Only.refl oF _)) (nz2 G2.out Zbb.out.2 (Only.refl oF _)) L.out.2.2.1 G1.out G2.out
                 obtain ⟨z0, z1, zl, zf⟩ := blk_two' A.out
                 refine wpAnyH_ready (rs := [22]) (by kernel_rfl) (by simp) (.cons rfl (fun K hK => ?_) .nil)
                 rw [if_pos (by rfl)]; go_simp
                 refine hK.out _ _ (by rw [← hY]; exact HKS.out _ L.out.1) (fun hHeld => ?_); clear hK z0 z1 zl zf; (try simp only [Act.put, tA, tB, tC])
                 rw [← hY]
                 obtain ⟨z0, z1, zl, zf⟩ := blk_two' L.out.2.2.2.1
                 clear hY
                 refine wpAnyH_ready (rs := [23]) (by kernel_rfl) (by simp) (.cons rfl (fun K hK => ?_) .nil)
                 rw [if_pos (by rfl)]; go_simp
                 refine hK.out _ _ (HKS.out _ L.out.2.1) (fun hHeld => ?_); clear hK z0 z1 zl zf; (try simp only [Act.put, tA, tB, tC])
                 refine wpAnyH_done (by kernel_rfl) ?_ _; clear hHeld; go_wp2_with fail; go_meet
                 exact ⟨ba, bb, p1, r1, p2, r2, s1, u1, s2, u2, _, rfl, rfl, rfl, L.out.2.2.2.2.1, L.out.2.2.2.2.2, V.out.1, V.out.2, L.out.2.1⟩
               · as_aux_lemma =>
                 rw [if_pos (by rfl)]; go_simp
                 obtain ⟨x7, bb, hY, hb, S7, Zbb⟩ := al_let x6
                 have X7 : Hid (Only oF w4 x7) := X6.out.trans S7.out
                 rw [← hY, ← hb]; clear hY hb
                 refine hK.out _ _ (HKS.out _ X7.out) (fun hHeld => ?_); clear hK; (try simp only [Act.put, tA, tB, tC])
                 refine wpAnyH_ready (rs := [19]) (by kernel_rfl) (by simp) (.cons rfl (fun K hK => ?_) .nil)
                 rw [if_pos (by rfl)]; go_simp
                 refine Calls.mono (HI2.out _ X7.out m3 n3 m4 n4 (F3.out.keep (S5.out.trans (S6.out.trans (S7.out)))) (F4.out.keep (S6.out.trans (S7.out)))) ?_; rintro e x8 ⟨p2, r2, s2, u2, rfl, hw, ho⟩
                 have G2 : Hid _ := hw
                 have S8 : Hid (Only oF x7 x8) := ho
                 have X8 : Hid (Only oF w4 x8) := X7.out.trans ho
                 clear hw ho
                 refine hK.out _ _ (HKS.out _ X8.out) (fun hHeld => ?_); clear hK; (try simp only [Act.put, tA, tB, tC])
                 have hlt : ba < bb := by rw [Zbb.out.2]; exact ltz Zba.out.1 (Only.refl oF _)
                 have ne1 : ¬ ba = bb := by omega
                 have ne2 : ¬ bb = ba := by omega
                 have A : Hid _ := blk_keep (S7.out.trans (S8.out)) Zba.out.1
                 have B : Hid _ := blk_keep (S8.out) Zbb.out.1
                 obtain ⟨Y1, hY, L⟩ := hy_leaf (.slice p1 q s1) (.slice r1 (q + 1) u1) (.slice p2 q s2) (.slice r2 (q + 1) u2) X8.out A.out B.out (wz Zba.out.2 X5.out) (wz Zbb.out.2 X6.out) ne1
                 have V : Hid _ := hy_rows (S4.out.trans (S5.out.trans (S6.out.trans (S7.out.trans (S8.out))))) (Only.refl oF _) (nz2 G1.out Zba.out.2 (S4.out.trans (S5.out))) (nz2 G1.out Zbb.out.2 (S4.out.trans (S5.out.trans (S6.out)))) (nz1 G2.out Zba.out.1 (S7.out)) (nz1 G2.out Zbb.out.1 (Only.refl oF _)) L.out.2.2.1 G1.out G2.out
                 obtain ⟨z0, z1, zl, zf⟩ := blk_two' A.out
                 refine wpAnyH_ready (rs := [22]) (by kernel_rfl) (by simp) (.cons rfl (fun K hK => ?_) .nil)
                 rw [if_pos (by rfl)]; go_simp
                 refine hK.out _ _ (by rw [← hY]; exact HKS.out _ L.out.1) (fun hHeld => ?_); clear hK z0 z1 zl zf; (try simp only [Act.put, tA, tB, tC])
                 rw [← hY]
                 obtain ⟨z0, z1, zl, zf⟩ := blk_two' L.out.2.2.2.1
                 clear hY
                 refine wpAnyH_ready (rs := [23]) (by kernel_rfl) (by simp) (.cons rfl (fun K hK => ?_) .nil)
                 rw [if_pos (by rfl)]; go_simp
                 refine hK.out _ _ (HKS.out _ L.out.2.1) (fun hHeld => ?_); clear hK z0 z1 zl zf; (try simp only [Act.put, tA, tB, tC])
                 refine wpAnyH_done (by kernel_rfl) ?_ _; clear hHeld; go_wp2_with fail; go_meet
                 exact ⟨ba, bb, p1, r1, p2, r2, s1, u1, s2, u2, _, rfl, rfl, rfl, L.out.2.2.2.2.1, L.out.2.2.2.2.2, V.out.1, V.out.2, L.out.2.1⟩
             · as_aux_lemma =>
               rw [if_pos (by rfl)]; go_simp
               obtain ⟨x6, bb, hY, hb, S6, Zbb⟩ := al_let x5
               have X6 : Hid (Only oF w4 x6) := X5.out.trans S6.out
               rw [← hY, ← hb]; clear hY hb
               refine hK.out _ _ (HKS.out _ X6.out) (fun hHeld => ?_); clear hK; (try simp only [Act.put, tA, tB, tC])
               refine wpAnyH_ready (rs := [19, 20]) (by kernel_rfl) (by simp) (.cons rfl (fun K hK => ?_) (.cons rfl (fun K hK => ?_) .nil))
               · as_aux_lemma =>
                 rw [if_pos (by rfl)]; go_simp
                 refine Calls.mono (HI2.out _ X6.out m3 n3 m4 n4 (F3.out.keep (S5.out.trans (S6.out))) (F4.out.keep (S6.out))) ?_; rintro e x7 ⟨p2, r2, s2, u2, rfl, hw, ho⟩
                 have G2 : Hid _ := hw
                 have S7 : Hid (Only oF x6 x7) := ho
                 have X7 : Hid (Only oF w4 x7) := X6.out.trans ho
                 clear hw ho
                 refine hK.out _ _ (HKS.out _ X7.out) (fun hHeld => ?_); clear hK; (try simp only [Act.put, tA, tB, tC])
                 refine wpAnyH_ready (rs := [20]) (by kernel_rfl) (by simp) (.cons rfl (fun K hK => ?_) .nil)
                 rw [if_pos (by rfl)]; go_simp
                 obtain ⟨x8, ba, hY, hb, S8, Zba⟩ := al_let x7
                 have X8 : Hid (Only oF w4 x8) := X7.out.trans S8.out
                 rw [← hY, ← hb]; clear hY hb
                 refine hK.out _ _ (HKS.out _ X8.out) (fun hHeld => ?_); clear hK; (try simp only [Act.put, tA, tB, tC])
                 have hlt : bb < ba := by rw [Zba.out.2]; exact ltz Zbb.out.1 (S7.out)
                 have ne1 : ¬ ba = bb := by omega
                 have ne2 : ¬ bb = ba := by omega
                 have A : Hid _ := blk_keep (Only.refl oF _) Zba.out.1
                 have B : Hid _ := blk_keep (S7.out.trans (S8.out)) Zbb.out.1
                 obtain ⟨Y1, hY, L⟩ := hy_leaf (.slice p1 q s1) (.slice r1 (q + 1) u1) (.slice p2 q s2) (.slice r2 (q + 1) u2) X8.out A.out B.out (wz Zba.out.2 X7.out) (wz Zbb.out.2 X5.out) ne1
                 have V : Hid _ := hy_rows (S4.out.trans (S5.out.trans (S6.out.trans (S7.out.trans (S8.out))))) (S8.out) (nz2 G1.out Zba.out.2 (S4.out.trans (S5.out.trans (S6.out.trans (S7.out))))) (nz2 G1.out Zbb.out.2 (S4.out.trans (S5.out))) (nz2 G2.out Zba.out.2 (Only.refl oF _)) (nz1 G2.out Zbb.out.1 (Only.refl oF _)) L.out.2.2.1 G1.out G2.out
                 obtain ⟨z0, z1, zl, zf⟩ := blk_two' A.out
                 refine wpAnyH_ready (rs := [22]) (by kernel_rfl) (by simp) (.cons rfl (fun K hK => ?_) .nil)
                 rw [if_pos (by rfl)]; go_simp
                 refine hK.out _ _ (by rw [← hY]; exact HKS.out _ L.out.1) (fun hHeld => ?_); clear hK z0 z1 zl zf; (try simp only [Act.put, tA, tB, tC])
                 rw [← hY]
                 obtain ⟨z0, z1, zl, zf⟩ := blk_two' L.out.2.2.2.1
                 clear hY
                 refine wpAnyH_ready (rs := [23]) (by kernel_rfl) (by simp) (.cons rfl (fun K hK => ?_) .nil)
                 rw [if_pos (by rfl)]; go_simp
                 refine hK.out _ _ (HKS.out _ L.out.2.1) (fun hHeld => ?_); clear hK z0 z1 zl zf; (try simp only [Act.put, tA, tB, tC])
                 refine wpAnyH_done (by kernel_rfl) ?_ _; clear hHeld; go_wp2_with fail; go_meet
                 exact ⟨ba, bb, p1, r1, p2, r2, s1, u1, s2, u2, _, rfl, rfl, rfl, L.out.2.2.2.2.1, L.out.2.2.2.2.2, V.out.1, V.out.2, L.out.2.1⟩
               · as_aux_lemma =>
                 rw [if_pos (by rfl)]; go_simp
                 obtain ⟨x7, ba, hY, hb, S7, Zba⟩ := al_let x6
                 have X7 : Hid (Only oF w4 x7) := X6.out.trans S7.out
                 rw [← hY, ← hb]; clear hY hb
                 refine hK.out _ _ (HKS.out _ X7.out) (fun hHeld => ?_); clear hK; (try simp only [Act.put, tA, tB, tC])
                 refine wpAnyH_ready (rs := [19]) (by kernel_rfl) (by simp) (.cons rfl (fun K hK => ?_) .nil)
                 rw [if_pos (by rfl)]; go_simp
                 refine Calls.mono (HI2.out _ X7.out m3 n3 m4 n4 (F3.out.keep (S5.out.trans (S6.out.trans (S7.out)))) (F4.out.keep (S6.out.trans (S7.out)))) ?_; rintro e x8 ⟨p2, r2, s2, u2, rfl, hw, ho⟩
                 have G2 : Hid _ := hw
                 have S8 : Hid (Only oF x7 x8) := ho
                 have X8 : Hid (Only oF w4 x8) := X7.out.trans ho
                 clear hw ho
                 refine hK.out _ _ (HKS.out _ X8.out) (fun hHeld => ?_); clear hK; (try simp only [Act.put, tA, tB, tC])
                 have hlt : bb < ba := by rw [Zba.out.2]; exact ltz Zbb.out.1 (Only.refl oF _)
                 have ne1 : ¬ ba = bb := by omega
                 have ne2 : ¬ bb = ba := by omega
                 have A : Hid _ := blk_keep (S8.out) Zba.out.1
                 have B : Hid _ := blk_keep (S7.out.trans (S8.out)) Zbb.out.1
                 obtain ⟨Y1, hY, L⟩ := hy_leaf (.slice p1 q s1) (.slice r1 (q + 1) u1) (.slice p2 q s2) (.slice r2 (q + 1) u2) X8.out A.out B.out (wz Zba.out.2 X6.out) (wz Zbb.out.2 X5.out) ne1
                 have V : Hid _ := hy_rows (S4.out.trans (S5.out.trans (S6.out.trans (S7.out.trans (S8.out))))) (Only.refl oF _) (nz2 G1.out Zba.out.2 (S4.out.trans (S5.out.trans (S6.out)))) (nz2 G1.out Zbb.out.2 (S4.out.trans (S5.out))) (nz1 G2.out Zba.out.1 (Only.refl oF _)) (nz1 G2.out Zbb.out.1 (S7.out)) L.out.2.2.1 G1.out G2.out
                 obtain ⟨z0, z1, zl, zf⟩ := blk_two' A.out
                 refine wpAnyH_ready (rs := [22]) (by kernel_rfl) (by simp) (.cons rfl (fun K hK => ?_) .nil)
                 rw [if_pos (by rfl)]; go_simp
                 refine hK.out _ _ (by rw [← hY]; exact HKS.out _ L.out.1) (fun hHeld => ?_); clear hK z0 z1 zl zf; (try simp only [Act.put, tA, tB, tC])
                 rw [← hY]
                 obtain ⟨z0, z1, zl, zf⟩ := blk_two' L.out.2.2.2.1
                 clear hY
                 refine wpAnyH_ready (rs := [23]) (by kernel_rfl) (by simp) (.cons rfl (fun K hK => ?_) .nil)
                 rw [if_pos (by rfl)]; go_simp
                 refine hK.out _ _ (HKS.out _ L.out.2.1) (fun hHeld => ?_); clear hK z0 z1 zl zf; (try simp only [Act.put, tA, tB, tC])
                 refine wpAnyH_done (by kernel_rfl) ?_ _; clear hHeld; go_wp2_with fail; go_meet
                 exact ⟨ba, bb, p1, r1, p2, r2, s1, u1, s2, u2, _, rfl, rfl, rfl, L.out.2.2.2.2.1, L.out.2.2.2.2.2, V.out.1, V.out.2, L.out.2.1⟩
           · as_aux_lemma =>
             rw [if_pos (by rfl)]; go_simp
             obtain ⟨x5, ba, hY, hb, S5, Zba⟩ := al_let x4
             have X5 : Hid (Only oF w4 x5) := X4.out.trans S5.out
             rw [← hY, ← hb]; clear hY hb
             refine hK.out _ _ (HKS.out _ X5.out) (fun hHeld => ?_); clear hK; (try simp only [Act.put, tA, tB, tC])
             refine wpAnyH_ready (rs := [15, 21]) (by kernel_rfl) (by simp) (.cons rfl (fun K hK => ?_) (.cons rfl (fun K hK => ?_) .nil))
             · as_aux_lemma =>
               rw [if_pos (by rfl)]; go_simp
               refine Calls.mono (HB.out _ (HOW.out.trans X5.out)) ?_; rintro e x6 ⟨m4, n4, rfl, hw, ho⟩
               have F4 : Hid (Vw x6 m4 (u8s LB)) := own_vw hw
               have S6 : Hid (Only oF x5 x6) := ho
               have X6 : Hid (Only oF w4 x6) := X5.out.trans ho
               clear hw ho
               refine hK.out _ _ (HKS.out _ X6.out) (fun hHeld => ?_); clear hK; (try simp only [Act.put, tA, tB, tC])
               refine wpAnyH_ready (rs := [19, 21]) (by kernel_rfl) (by simp) (.cons rfl (fun K hK => ?_) (.cons rfl (fun K hK => ?_) .nil))
               · as_aux_lemma =>
                 rw [if_pos (by rfl)]; go_simp
                 refine Calls.mono (HI2.out _ X6.out m3 n3 m4 n4 (F3.out.keep (S5.out.trans (S6.out))) (F4.out.keep (Only.refl oF _))) ?_; rintro e x7 ⟨p2, r2, s2, u2, rfl, hw, ho⟩
                 have G2 : Hid _ := hw
                 have S7 : Hid (Only oF x6 x7) := ho
                 have X7 : Hid (Only oF w4 x7) := X6.out.trans ho
                 clear hw ho
                 refine hK.out _ _ (HKS.out _ X7.out) (fun hHeld => ?_); clear hK; (try simp only [Act.put, tA, tB, tC])
                 refine wpAnyH_ready (rs := [21]) (by kernel_rfl) (by simp) (.cons rfl (fun K hK => ?_) .nil)
                 rw [if_pos (by rfl)]; go_simp
                 obtain ⟨x8, bb, hY, hb, S8, Zbb⟩ := al_let x7
                 have X8 : Hid (Only oF w4 x8) := X7.out.trans S8.out
                 rw [← hY, ← hb]; clear hY hb
                 refine hK.out _ _ (HKS.out _ X8.out) (fun hHeld => ?_); clear hK; (try simp only [Act.put, tA, tB, tC])
                 have hlt : ba < bb := by rw [Zbb.out.2]; exact ltz Zba.out.1 (S6.out.trans (S7.out))
                 have ne1 : ¬ ba = bb := by omega
                 have ne2 : ¬ bb = ba := by omega
                 have A : Hid _ := blk_keep (S6.out.trans (S7.out.trans (S8.out))) Zba.out.1
                 have B : Hid _ := blk_keep (Only.refl oF _) Zbb.out.1
                 obtain ⟨Y1, hY, L⟩ := hy_leaf (.slice p1 q s1) (.slice r1 (q + 1) u1) (.slice p2 q s2) (.slice r2 (q + 1) u2) X8.out A.out B.out (wz Zba.out.2 X4.out) (wz Zbb.out.2 X7.out) ne1
                 have V : Hid _ := hy_rows (S4.out.trans (S5.out.trans (S6.out.trans (S7.out.trans (S8.out))))) (S8.out) (nz2 G1.out Zba.out.2 (S4.out)) (nz2 G1.out Zbb.out.2 (S4.out.trans (S5.out.trans (S6.out.trans (S7.out))))) (nz1 G2.out Zba.out.1 (S6.out)) (nz2 G2.out Zbb.out.2 (Only.refl oF _)) L.out.2.2.1 G1.out G2.out
                 obtain ⟨z0, z1, zl, zf⟩ := blk_two' A.out
                 refine wpAnyH_ready (rs := [22]) (by kernel_rfl) (by simp) (.cons rfl (fun K hK => ?_) .nil)
                 rw [if_pos (by rfl)]; go_simp
                 refine hK.out _ _ (by rw [← hY]; exact HKS.out _ L.out.1) (fun hHeld => ?_); clear hK z0 z1 zl zf; (try simp only [Act.put, tA, tB, tC])
                 rw [← hY]
                 obtain ⟨z0, z1, zl, zf⟩ := blk_two' L.out.2.2.2.1
                 clear hY
                 refine wpAnyH_ready (rs := [23]) (by kernel_rfl) (by simp) (.cons rfl (fun K hK => ?_) .nil)
                 rw [if_pos (by rfl)]; go_simp
                 refine hK.out _ _ (HKS.out _ L.out.2.1) (fun hHeld => ?_); clear hK z0 z1 zl zf; (try simp only [Act.put, tA, tB, tC])
                 refine wpAnyH_done (by kernel_rfl) ?_ _; clear hHeld; go_wp2_with fail; go_meet
                 exact ⟨ba, bb, p1, r1, p2, r2, s1, u1, s2, u2, _, rfl, rfl, rfl, L.out.2.2.2.2.1, L.out.2.2.2.2.2, V.out.1, V.out.2, L.out.2.1⟩
               · as_aux_lemma =>
                 rw [if_pos (by rfl)]; go_simp
                 obtain ⟨x7, bb, hY, hb, S7, Zbb⟩ := al_let x6
                 have X7 : Hid (Only oF w4 x7) := X6.out.trans S7.out
                 rw [← hY, ← hb]; clear hY hb
                 refine hK.out _ _ (HKS.out _ X7.out) (fun hHeld => ?_); clear hK; (try simp only [Act.put, tA, tB, tC])
                 refine wpAnyH_ready (rs := [19]) (by kernel_rfl) (by simp) (.cons rfl (fun K hK => ?_) .nil)
                 rw [if_pos (by rfl)]; go_simp
                 refine Calls.mono (HI2.out _ X7.out m3 n3 m4 n4 (F3.out.keep (S5.out.trans (S6.out.trans (S7.out)))) (F4.out.keep (S7.out))) ?_; rintro e x8 ⟨p2, r2, s2, u2, rfl, hw, ho⟩
                 have G2 : Hid _ := hw
                 have S8 : Hid (Only oF x7 x8) := ho
                 have X8 : Hid (Only oF w4 x8) := X7.out.trans ho
                 clear hw ho
                 refine hK.out _ _ (HKS.out _ X8.out) (fun hHeld => ?_); clear hK; (try simp only [Act.put, tA, tB, tC])
                 have hlt : ba < bb := by rw [Zbb.out.2]; exact ltz Zba.out.1 (S6.out)
                 have ne1 : ¬ ba = bb := by omega
                 have ne2 : ¬ bb = ba := by omega
                 have A : Hid _ := blk_keep (S6.out.trans (S7.out.trans (S8.out))) Zba.out.1
                 have B : Hid _ := blk_keep (S8.out) Zbb.out.1
                 obtain ⟨Y1, hY, L⟩ := hy_leaf (.slice p1 q s1) (.slice r1 (q + 1) u1) (.slice p2 q s2) (.slice r2 (q + 1) u2) X8.out A.out B.out (wz Zba.out.2 X4.out) (wz Zbb.out.2 X6.out) ne1
                 have V : Hid _ := hy_rows (S4.out.trans (S5.out.trans (S6.out.trans (S7.out.trans (S8.out))))) (Only.refl oF _) (nz2 G1.out Zba.out.2 (S4.out)) (nz2 G1.out Zbb.out.2 (S4.out.trans (S5.out.trans (S6.out)))) (nz1 G2.out Zba.out.1 (S6.out.trans (S7.out))) (nz1 G2.out Zbb.out.1 (Only.refl oF _)) L.out.2.2.1 G1.out G2.out
                 obtain ⟨z0, z1, zl, zf⟩ := blk_two' A.out
                 refine wpAnyH_ready (rs := [22]) (by kernel_rfl) (by simp) (.cons rfl (fun K hK => ?_) .nil)
                 rw [if_pos (by rfl)]; go_simp
                 refine hK.out _ _ (by rw [← hY]; exact HKS.out _ L.out.1) (fun hHeld => ?_); clear hK z0 z1 zl zf; (try simp only [Act.put, tA, tB, tC])
                 rw [← hY]
                 obtain ⟨z0, z1, zl, zf⟩ := blk_two' L.out.2.2.2.1
                 clear hY
                 refine wpAnyH_ready (rs := [23]) (by kernel_rfl) (by simp) (.cons rfl (fun K hK => ?_) .nil)
                 rw [if_pos (by rfl)]; go_simp
                 refine hK.out _ _ (HKS.out _ L.out.2.1) (fun hHeld => ?_); clear hK z0 z1 zl zf; (try simp only [Act.put, tA, tB, tC])
                 refine wpAnyH_done (by kernel_rfl) ?_ _; clear hHeld; go_wp2_with fail; go_meet
                 exact ⟨ba, bb, p1, r1, p2, r2, s1, u1, s2, u2, _, rfl, rfl, rfl, L.out.2.2.2.2.1, L.out.2.2.2.2.2, V.out.1, V.out.2, L.out.2.1⟩
             · as_aux_lemma =>
               rw [if_pos (by rfl)]; go_simp
               obtain ⟨x6, bb, hY, hb, S6, Zbb⟩ := al_let x5
               have X6 : Hid (Only oF w4 x6) := X5.out.trans S6.out
               rw [← hY, ← hb]; clear hY hb
               refine hK.out _ _ (HKS.out _ X6.out) (fun hHeld => ?_); clear hK; (try simp only [Act.put, tA, tB, tC])
               refine wpAnyH_ready (rs := [15]) (by kernel_rfl) (by simp) (.cons rfl (fun K hK => ?_) .nil)
               rw [if_pos (by rfl)]; go_simp
               refine Calls.mono (HB.out _ (HOW.out.trans X6.out)) ?_; rintro e x7 ⟨m4, n4, rfl, hw, ho⟩
               have F4 : Hid (Vw x7 m4 (u8s LB)) := own_vw hw
               have S7 : Hid (Only oF x6 x7) := ho
               have X7 : Hid (Only oF w4 x7) := X6.out.trans ho
               clear hw ho
               refine hK.out _ _ (HKS.out _ X7.out) (fun hHeld => ?_); clear hK; (try simp only [Act.put, tA, tB, tC])
               refine wpAnyH_ready (rs := [19]) (by kernel_rfl) (by simp) (.cons rfl (fun K hK => ?_) .nil)
               rw [if_pos (by rfl)]; go_simp
               refine Calls.mono (HI2.out _ X7.out m3 n3 m4 n4 (F3.out.keep (S5.out.trans (S6.out.trans (S7.out)))) (F4.out.keep (Only.refl oF _))) ?_; rintro e x8 ⟨p2, r2, s2, u2, rfl, hw, ho⟩
               have G2 : Hid _ := hw
               have S8 : Hid (Only oF x7 x8) := ho
               have X8 : Hid (Only oF w4 x8) := X7.out.trans ho
               clear hw ho
               refine hK.out _ _ (HKS.out _ X8.out) (fun hHeld => ?_); clear hK; (try simp only [Act.put, tA, tB, tC])
               have hlt : ba < bb := by rw [Zbb.out.2]; exact ltz Zba.out.1 (Only.refl oF _)
               have ne1 : ¬ ba = bb := by omega
               have ne2 : ¬ bb = ba := by omega
               have A : Hid _ := blk_keep (S6.out.trans (S7.out.trans (S8.out))) Zba.out.1
               have B : Hid _ := blk_keep (S7.out.trans (S8.out)) Zbb.out.1
               obtain ⟨Y1, hY, L⟩ := hy_leaf (.slice p1 q s1) (.slice r1 (q + 1) u1) (.slice p2 q s2) (.slice r2 (q + 1) u2) X8.out A.out B.out (wz Zba.out.2 X4.out) (wz Zbb.out.2 X5.out) ne1
               have V : Hid _ := hy_rows (S4.out.trans (S5.out.trans (S6.out.trans (S7.out.trans (S8.out))))) (Only.refl oF _) (nz2 G1.out Zba.out.2 (S4.out)) (nz2 G1.out Zbb.out.2 (S4.out.trans (S5.out))) (nz1 G2.out Zba.out.1 (S6.out.trans (S7.out))) (nz1 G2.out Zbb.out.1 (S7.out)) L.out.2.2.1 G1.out G2.out
               obtain ⟨z0, z1, zl, zf⟩ := blk_two' A.out
               refine wpAnyH_ready (rs := [22]) (by kernel_rfl) (by simp) (.cons rfl (fun K hK => ?_) .nil)
               rw [if_pos (by rfl)]; go_simp
               refine hK.out _ _ (by rw [← hY]; exact HKS.out _ L.out.1) (fun hHeld => ?_); clear hK z0 z1 zl zf; (try simp only [Act.put, tA, tB, tC])
               rw [← hY]
               obtain ⟨z0, z1, zl, zf⟩ := blk_two' L.out.2.2.2.1
               clear hY
               refine wpAnyH_ready (rs := [23]) (by kernel_rfl) (by simp) (.cons rfl (fun K hK => ?_) .nil)
               rw [if_pos (by rfl)]; go_simp
               refine hK.out _ _ (HKS.out _ L.out.2.1) (fun hHeld => ?_); clear hK z0 z1 zl zf; (try simp only [Act.put, tA, tB, tC])
               refine wpAnyH_done (by kernel_rfl) ?_ _; clear hHeld; go_wp2_with fail; go_meet
               exact ⟨ba, bb, p1, r1, p2, r2, s1, u1, s2, u2, _, rfl, rfl, rfl, L.out.2.2.2.2.1, L.out.2.2.2.2.2, V.out.1, V.out.2, L.out.2.1⟩
           · as_aux_lemma =>
             rw [if_pos (by rfl)]; go_simp
             obtain ⟨x5, bb, hY, hb, S5, Zbb⟩ := al_let x4
             have X5 : Hid (Only oF w4 x5) := X4.out.trans S5.out
             rw [← hY, ← hb]; clear hY hb
             refine hK.out _ _ (HKS.out _ X5.out) (fun hHeld => ?_); clear hK; (try simp only [Act.put, tA, tB, tC])
             refine wpAnyH_ready (rs := [15, 20]) (by kernel_rfl) (by simp) (.cons rfl (fun K hK => ?_) (.cons rfl (fun K hK => ?_) .nil))
             · as_aux_lemma =>
               rw [if_pos (by rfl)]; go_simp
               refine Calls.mono (HB.out _ (HOW.out.trans X5.out)) ?_; rintro e x6 ⟨m4, n4, rfl, hw, ho⟩
               have F4 : Hid (Vw x6 m4 (u8s LB)) := own_vw hw
               have S6 : Hid (Only oF x5 x6) := ho
               have X6 : Hid (Only oF w4 x6) := X5.out.trans ho
               clear hw ho
               refine hK.out _ _ (HKS.out _ X6.out) (fun hHeld => ?_); clear hK; (try simp only [Act.put, tA, tB, tC])
               refine wpAnyH_ready (rs := [19, 20]) (by kernel_rfl) (by simp) (.cons rfl (fun K hK => ?_) (.cons rfl (fun K hK => ?_) .nil))
               · as_aux_lemma =>
                 rw [if_pos (by rfl)]; go_simp
                 refine Calls.mono (HI2.out _ X6.out m3 n3 m4 n4 (F3.out.keep (S5.out.trans (S6.out))) (F4.out.keep (Only.refl oF _))) ?_; rintro e x7 ⟨p2, r2, s2, u2, rfl, hw, ho⟩
                 have G2 : Hid _ := hw
                 have S7 : Hid (Only oF x6 x7) := ho
                 have X7 : Hid (Only oF w4 x7) := X6.out.trans ho
                 clear hw ho
                 refine hK.out _ _ (HKS.out _ X7.out) (fun hHeld => ?_); clear hK; (try simp only [Act.put, tA, tB, tC])
                 refine wpAnyH_ready (rs := [20]) (by kernel_rfl) (by simp) (.cons rfl (fun K hK => ?_) .nil)
                 rw [if_pos (by rfl)]; go_simp
                 obtain ⟨x8, ba, hY, hb, S8, Zba⟩ := al_let x7
                 have X8 : Hid (Only oF w4 x8) := X7.out.trans S8.out
                 rw [← hY, ← hb]; clear hY hb
                 refine hK.out _ _ (HKS.out _ X8.out) (fun hHeld => ?_); clear hK; (try simp only [Act.put, tA, tB, tC])
                 have hlt : bb < ba := by rw [Zba.out.2]; exact ltz Zbb.out.1 (S6.out.trans (S7.out))
                 have ne1 : ¬ ba = bb := by omega
                 have ne2 : ¬ bb = ba := by omega
                 have A : Hid _ := blk_keep (Only.refl oF _) Zba.out.1
                 have B : Hid _ := blk_keep (S6.out.trans (S7.out.trans (S8.out))) Zbb.out.1
                 obtain ⟨Y1, hY, L⟩ := hy_leaf (.slice p1 q s1) (.slice r1 (q + 1) u1) (.slice p2 q s2) (.slice r2 (q + 1) u2) X8.out A.out B.out (wz Zba.out.2 X7.out) (wz Zbb.out.2 X4.out) ne1
                 have V : Hid _ := hy_rows (S4.out.trans (S5.out.trans (S6.out.trans (S7.out.trans (S8.out))))) (S8.out) (nz2 G1.out Zba.out.2 (S4.out.trans (S5.out.trans (S6.out.trans (S7.out))))) (nz2 G1.out Zbb.out.2 (S4.out)) (nz2 G2.out Zba.out.2 (Only.refl oF _)) (nz1 G2.out Zbb.out.1 (S6.out)) L.out.2.2.1 G1.out G2.out
                 obtain ⟨z0, z1, zl, zf⟩ := blk_two' A.out
                 refine wpAnyH_ready (rs := [22]) (by kernel_rfl) (by simp) (.cons rfl (fun K hK => ?_) .nil)
                 rw [if_pos (by rfl)]; go_simp
                 refine hK.out _ _ (by rw [← hY]; exact HKS.out _ L.out.1) (fun hHeld => ?_); clear hK z0 z1 zl zf; (try simp only [Act.put, tA, tB, tC])
                 rw [← hY]
                 obtain ⟨z0, z1, zl, zf⟩ := blk_two' L.out.2.2.2.1
                 clear hY
                 refine wpAnyH_ready (rs := [23]) (by kernel_rfl) (by simp) (.cons rfl (fun K hK => ?_) .nil)
                 rw [if_pos (by rfl)]; go_simp
                 refine hK.out _ _ (HKS.out _ L.out.2.1) (fun hHeld => ?_); clear hK z0 z1 zl zf; (try simp only [Act.put, tA, tB, tC])
                 refine wpAnyH_done (by kernel_rfl) ?_ _; clear hHeld; go_wp2_with fail; go_meet
                 exact ⟨ba, bb, p1, r1, p2, r2, s1, u1, s2, u2, _, rfl, rfl, rfl, L.out.2.2.2.2.1, L.out.2.2.2.2.2, V.out.1, V.out.2, L.out.2.1⟩
               · as_aux_lemma =>
                 rw [if_pos (by rfl)]; go_simp
                 obtain ⟨x7, ba, hY, hb, S7, Zba⟩ := al_let x6
                 have X7 : Hid (Only oF w4 x7) := X6.out.trans S7.out
                 rw [← hY, ← hb]; clear hY hb
                 refine hK.out _ _ (HKS.out _ X7.out) (fun hHeld => ?_); clear hK; (try simp only [Act.put, tA, tB, tC])
                 refine wpAnyH_ready (rs := [19]) (by kernel_rfl) (by simp) (.cons rfl (fun K hK => ?_) .nil)
                 rw [if_pos (by rfl)]; go_simp
                 refine Calls.mono (HI2.out _ X7.out m3 n3 m4 n4 (F3.out.keep (S5.out.trans (S6.out.trans (S7.out)))) (F4.out.keep (S7.out))) ?_; rintro e x8 ⟨p2, r2, s2, u2, rfl, hw, ho⟩
                 have G2 : Hid _ := hw
                 have S8 : Hid (Only oF x7 x8) := ho
                 have X8 : Hid (Only oF w4 x8) := X7.out.trans ho
                 clear hw ho
                 refine hK.out _ _ (HKS.out _ X8.out) (fun hHeld => ?_); clear hK; (try simp only [Act.put, tA, tB, tC])
                 have hlt : bb < ba := by rw [Zba.out.2]; exact ltz Zbb.out.1 (S6.out)
                 have ne1 : ¬ ba = bb := by omega
                 have ne2 : ¬ bb = ba := by omega
                 have A : Hid _ := blk_keep (S8.out) Zba.out.1
                 have B : Hid _ := blk_keep (S6.out.trans (S7.out.trans (S8.out))) Zbb.out.1
                 obtain ⟨Y1, hY, L⟩ := hy_leaf (.slice p1 q s1) (.slice r1 (q + 1) u1) (.slice p2 q s2) (.slice r2 (q + 1) u2) X8.out A.out B.out (wz Zba.out.2 X6.out) (wz Zbb.out.2 X4.out) ne1
                 have V : Hid _ := hy_rows (S4.out.trans (S5.out.trans (S6.out.trans (S7.out.trans (S8.out))))) (Only.refl oF _) (nz2 G1.out Zba.out.2 (S4.out.trans (S5.out.trans (S6.out)))) (nz2 G1.out Zbb.out.2 (S4.out)) (nz1 G2.out Zba.out.1 (Only.refl oF _)) (nz1 G2.out Zbb.out.1 (S6.out.trans (S7.out))) L.out.2.2.1 G1.out G2.out
                 obtain ⟨z0, z1, zl, zf⟩ := blk_two' A.out
                 refine wpAnyH_ready (rs := [22]) (by kernel_rfl) (by simp) (.cons rfl (fun K hK => ?_) .nil)
                 rw [if_pos (by rfl)]; go_simp
                 refine hK.out _ _ (by rw [← hY]; exact HKS.out _ L.out.1) (fun hHeld => ?_); clear hK z0 z1 zl zf; (try simp only [Act.put, tA, tB, tC])
                 rw [← hY]
                 obtain ⟨z0, z1, zl, zf⟩ := blk_two' L.out.2.2.2.1
                 clear hY
                 refine wpAnyH_ready (rs := [23]) (by kernel_rfl) (by simp) (.cons rfl (fun K hK => ?_) .nil)
                 rw [if_pos (by rfl)]; go_simp
                 refine hK.out _ _ (HKS.out _ L.out.2.1) (fun hHeld => ?_); clear hK z0 z1 zl zf; (try simp only [Act.put, tA, tB, tC])
                 refine wpAnyH_done (by kernel_rfl) ?_ _; clear hHeld; go_wp2_with fail; go_meet
                 exact ⟨ba, bb, p1, r1, p2, r2, s1, u1, s2, u2, _, rfl, rfl, rfl, L.out.2.2.2.2.1, L.out.2.2.2.2.2, V.out.1, V.out.2, L.out.2.1⟩
             · as_aux_lemma =>
               rw [if_pos (by rfl)]; go_simp
               obtain ⟨x6, ba, hY, hb, S6, Zba⟩ := al_let x5
               have X6 : Hid (Only oF w4 x6) := X5.out.trans S6.out
               rw [← hY, ← hb]; clear hY hb
               refine hK.out _ _ (HKS.out _ X6.out) (fun hHeld => ?_); clear hK; (try simp only [Act.put, tA, tB, tC])
               refine wpAnyH_ready (rs := [15]) (by kernel_rfl) (by simp) (.cons rfl (fun K hK => ?_) .nil)
               rw [if_pos (by rfl)]; go_simp
               refine Calls.mono (HB.out _ (HOW.out.trans X6.out)) ?_; rintro e x7 ⟨m4, n4, rfl, hw, ho⟩
               have F4 : Hid (Vw x7 m4 (u8s LB)) := own_vw hw
               have S7 : Hid (Only oF x6 x7) := ho
               have X7 : Hid (Only oF w4 x7) := X6.out.trans ho
               clear hw ho
               refine hK.out _ _ (HKS.out _ X7.out) (fun hHeld => ?_); clear hK; (try simp only [Act.put, tA, tB, tC])
               refine wpAnyH_ready (rs := [19]) (by kernel_rfl) (by simp) (.cons rfl (fun K hK => ?_) .nil)
               rw [if_pos (by rfl)]; go_simp
               refine Calls.mono (HI2.out _ X7.out m3 n3 m4 n4 (F3.out.keep (S5.out.trans (S6.out.trans (S7.out)))) (F4.out.keep (Only.refl oF _))) ?_; rintro e x8 ⟨p2, r2, s2, u2, rfl, hw, ho⟩
               have G2 : Hid _ := hw
               have S8 : Hid (Only oF x7 x8) := ho
               have X8 : Hid (Only oF w4 x8) := X7.out.trans ho
               clear hw ho
               refine hK.out _ _ (HKS.out _ X8.out) (fun hHeld => ?_); clear hK; (try simp only [Act.put, tA, tB, tC])
               have hlt : bb < ba := by rw [Zba.out.2]; exact ltz Zbb.out.1 (Only.refl oF _)
               have ne1 : ¬ ba = bb := by omega
               have ne2 : ¬ bb = ba := by omega
               have A : Hid _ := blk_keep (S7.out.trans (S8.out)) Zba.out.1
               have B : Hid _ := blk_keep (S6.out.trans (S7.out.trans (S8.out))) Zbb.out.1
               obtain ⟨Y1, hY, L⟩ := hy_leaf (.slice p1 q s1) (.slice r1 (q + 1) u1) (.slice p2 q s2) (.slice r2 (q + 1) u2) X8.out A.out B.out (wz Zba.out.2 X5.out) (wz Zbb.out.2 X4.out) ne1
               have V : Hid _ := hy_rows (S4.out.trans (S5.out.trans (S6.out.trans (S7.out.trans (S8.out))))) (Only.refl oF _) (nz2 G1.out Zba.out.2 (S4.out.trans (S5.out))) (nz2 G1.out Zbb.out.2 (S4.out)) (nz1 G2.out Zba.out.1 (S7.out)) (nz1 G2.out Zbb.out.1 (S6.out.trans (S7.out))) L.out.2.2.1 G1.out G2.out
               obtain ⟨z0, z1, zl, zf⟩ := blk_two' A.out
               refine wpAnyH_ready (rs := [22]) (by kernel_rfl) (by simp) (.cons rfl (fun K hK => ?_) .nil)
               rw [if_pos (by rfl)]; go_simp
               refine hK.out _ _ (by rw [← hY]; exact HKS.out _ L.out.1) (fun hHeld => ?_); clear hK z0 z1 zl zf; (try simp only [Act.put, tA, tB, tC])
               rw [← hY]
               obtain ⟨z0, z1, zl, zf⟩ := blk_two' L.out.2.2.2.1
               clear hY
               refine wpAnyH_ready (rs := [23]) (by kernel_rfl) (by simp) (.cons rfl (fun K hK => ?_) .nil)
               rw [if_pos (by rfl)]; go_simp
               refine hK.out _ _ (HKS.out _ L.out.2.1) (fun hHeld => ?_); clear hK z0 z1 zl zf; (try simp only [Act.put, tA, tB, tC])
               refine wpAnyH_done (by kernel_rfl) ?_ _; clear hHeld; go_wp2_with fail; go_meet
               exact ⟨ba, bb, p1, r1, p2, r2, s1, u1, s2, u2, _, rfl, rfl, rfl, L.out.2.2.2.2.1, L.out.2.2.2.2.2, V.out.1, V.out.2, L.out.2.1⟩
         · as_aux_lemma =>
           rw [if_pos (by rfl)]; go_simp
           obtain ⟨x4, ba, hY, hb, S4, Zba⟩ := al_let x3
           have X4 : Hid (Only oF w4 x4) := X3.out.trans S4.out
           rw [← hY, ← hb]; clear hY hb
           refine hK.out _ _ (HKS.out _ X4.out) (fun hHeld => ?_); clear hK; (try simp only [Act.put, tA, tB, tC])
           refine wpAnyH_ready (rs := [12, 21]) (by kernel_rfl) (by simp) (.cons rfl (fun K hK => ?_) (.cons rfl (fun K hK => ?_) .nil))
           · as_aux_lemma =>
             rw [if_pos (by rfl)]; go_simp
             refine Calls.mono (HM.out _ (HOW.out.trans X4.out)) ?_; rintro e x5 ⟨m3, n3, rfl, hw, ho⟩
             have F3 : Hid (Vw x5 m3 (u8s LM)) := own_vw hw
             have S5 : Hid (Only oF x4 x5) := ho
             have X5 : Hid (Only oF w4 x5) := X4.out.trans ho
             clear hw ho
             refine hK.out _ _ (HKS.out _ X5.out) (fun hHeld => ?_); clear hK; (try simp only [Act.put, tA, tB, tC])
             refine wpAnyH_ready (rs := [15, 21]) (by kernel_rfl) (by simp) (.cons rfl (fun K hK => ?_) (.cons rfl (fun K hK => ?_) .nil))
             · as_aux_lemma =>
               rw [if_pos (by rfl)]; go_simp
               refine Calls.mono (HB.out _ (HOW.out.trans X5.out)) ?_; rintro e x6 ⟨m4, n4, rfl, hw, ho⟩
               have F4 : Hid (Vw x6 m4 (u8s LB)) := own_vw hw
               have S6 : Hid (Only oF x5 x6) := ho
               have X6 : Hid (Only oF w4 x6) := X5.out.trans ho
               clear hw ho
               refine hK.out _ _ (HKS.out _ X6.out) (fun hHeld => ?_); clear hK; (try simp only [Act.put, tA, tB, tC])
               refine wpAnyH_ready (rs := [19, 21]) (by kernel_rfl) (by simp) (.cons rfl (fun K hK => ?_) (.cons rfl (fun K hK => ?_) .nil))
               · as_aux_lemma =>
                 rw [if_pos (by rfl)]; go_simp
                 refine Calls.mono (HI2.out _ X6.out m3 n3 m4 n4 (F3.out.keep (S6.out)) (F4.out.keep (Only.refl oF _))) ?_; rintro e x7 ⟨p2, r2, s2, u2, rfl, hw, ho⟩
                 have G2 : Hid _ := hw
                 have S7 : Hid (Only oF x6 x7) := ho
                 have X7 : Hid (Only oF w4 x7) := X6.out.trans ho
                 clear hw ho
                 refine hK.out _ _ (HKS.out _ X7.out) (fun hHeld => ?_); clear hK; (try simp only [Act.put, tA, tB, tC])
                 refine wpAnyH_ready (rs := [21]) (by kernel_rfl) (by simp) (.cons rfl (fun K hK => ?_) .nil)
                 rw [if_pos (by rfl)]; go_simp
                 obtain ⟨x8, bb, hY, hb, S8, Zbb⟩ := al_let x7
                 have X8 : Hid (Only oF w4 x8) := X7.out.trans S8.out
                 rw [← hY, ← hb]; clear hY hb
                 refine hK.out _ _ (HKS.out _ X8.out) (fun hHeld => ?_); clear hK; (try simp only [Act.put, tA, tB, tC])
                 have hlt : ba < bb := by rw [Zbb.out.2]; exact ltz Zba.out.1 (S5.out.trans (S6.out.trans (S7.out)))
                 have ne1 : ¬ ba = bb := by omega
                 have ne2 : ¬ bb = ba := by omega
                 have A : Hid _ := blk_keep (S5.out.trans (S6.out.trans (S7.out.trans (S8.out)))) Zba.out.1
                 have B : Hid _ := blk_keep (Only.refl oF _) Zbb.out.1
                 obtain ⟨Y1, hY, L⟩ := hy_leaf (.slice p1 q s1) (.slice r1 (q + 1) u1) (.slice p2 q s2) (.slice r2 (q + 1) u2) X8.out A.out B.out (wz Zba.out.2 X3.out) (wz Zbb.out.2 X7.out) ne1
                 have V : Hid _ := hy_rows (S4.out.trans (S5.out.trans (S6.out.trans (S7.out.trans (S8.out))))) (S8.out) (nz2 G1.out Zba.out.2 (Only.refl oF _)) (nz2 G1.out Zbb.out.2 (S4.out.trans (S5.out.trans (S6.out.trans (S7.out))))) (nz1 G2.out Zba.out.1 (S5.out.trans (S6.out))) (nz2 G2.out Zbb.out.2 (Only.refl oF _)) L.out.2.2.1 G1.out G2.out
                 obtain ⟨z0, z1, zl, zf⟩ := blk_two' A.out
                 refine wpAnyH_ready (rs := [22]) (by kernel_rfl) (by simp) (.cons rfl (fun K hK => ?_) .nil)
                 rw [if_pos (by rfl)]; go_simp
                 refine hK.out _ _ (by rw [← hY]; exact HKS.out _ L.out.1) (fun hHeld => ?_); clear hK z0 z1 zl zf; (try simp only [Act.put, tA, tB, tC])
                 rw [← hY]
                 obtain ⟨z0, z1, zl, zf⟩ := blk_two' L.out.2.2.2.1
                 clear hY
                 refine wpAnyH_ready (rs := [23]) (by kernel_rfl) (by simp) (.cons rfl (fun K hK => ?_) .nil)
                 rw [if_pos (by rfl)]; go_simp
                 refine hK.out _ _ (HKS.out _ L.out.2.1) (fun hHeld => ?_); clear hK z0 z1 zl zf; (try simp only [Act.put, tA, tB, tC])
                 refine wpAnyH_done (by kernel_rfl) ?_ _; clear hHeld; go_wp2_with fail; go_meet
                 exact ⟨ba, bb, p1, r1, p2, r2, s1, u1, s2, u2, _, rfl, rfl, rfl, L.out.2.2.2.2.1, L.out.2.2.2.2.2, V.out.1, V.out.2, L.out.2.1⟩
               · as_aux_lemma =>
                 rw [if_pos (by rfl)]; go_simp
                 obtain ⟨x7, bb, hY, hb, S7, Zbb⟩ := al_let x6
                 have X7 : Hid (Only oF w4 x7) := X6.out.trans S7.out
                 rw [← hY, ← hb]; clear hY hb
                 refine hK.out _ _ (HKS.out _ X7.out) (fun hHeld => ?_); clear hK; (try simp only [Act.put, tA, tB, tC])
                 refine wpAnyH_ready (rs := [19]) (by kernel_rfl) (by simp) (.cons rfl (fun K hK => ?_) .nil)
                 rw [if_pos (by rfl)]; go_simp
                 refine Calls.mono (HI2.out _ X7.out m3 n3 m4 n4 (F3.out.keep (S6.out.trans (S7.out))) (F4.out.keep (S7.out))) ?_; rintro e x8 ⟨p2, r2, s2, u2, rfl, hw, ho⟩
                 have G2 : Hid _ := hw
                 have S8 : Hid (Only oF x7 x8) := ho
                 have X8 : Hid (Only oF w4 x8) := X7.out.trans ho
                 clear hw ho
                 refine hK.out _ _ (HKS.out _ X8.out) (fun hHeld => ?_); clear hK; (try simp only [Act.put, tA, tB, tC])
                 have hlt : ba < bb := by rw [Zbb.out.2]; exact ltz Zba.out.1 (S5.out.trans (S6.out))
                 have ne1 : ¬ ba = bb := by omega
                 have ne2 : ¬ bb = ba := by omega
                 have A : Hid _ := blk_keep (S5.out.trans (S6.out.trans (S7.out.trans (S8.out)))) Zba.out.1
                 have B : Hid _ := blk_keep (S8.out) Zbb.out.1
                 obtain ⟨Y1, hY, L⟩ := hy_leaf (.slice p1 q s1) (.slice r1 (q + 1) u1) (.slice p2 q s2) (.slice r2 (q + 1) u2) X8.out A.out B.out (wz Zba.out.2 X3.out) (wz Zbb.out.2 X6.out) ne1
                 have V : Hid _ := hy_rows (S4.out.trans (S5.out.trans (S6.out.trans (S7.out.trans (S8.out))))) (Only.refl oF _) (nz2 G1.out Zba.out.2 (Only.refl oF _)) (nz2 G1.out Zbb.out.2 (S4.out.trans (S5.out.trans (S6.out)))) (nz1 G2.out Zba.out.1 (S5.out.trans (S6.out.trans (S7.out)))) (nz1 G2.out Zbb.out.1 (Only.refl oF _)) L.out.2.2.1 G1.out G2.out
                 obtain ⟨z0, z1, zl, zf⟩ := blk_two' A.out
                 refine wpAnyH_ready (rs := [22]) (by kernel_rfl) (by simp) (.cons rfl (fun K hK => ?_) .nil)
                 rw [if_pos (by rfl)]; go_simp
                 refine hK.out _ _ (by rw [← hY]; exact HKS.out _ L.out.1) (fun hHeld => ?_); clear hK z0 z1 zl zf; (try simp only [Act.put, tA, tB, tC])
                 rw [← hY]
                 obtain ⟨z0, z1, zl, zf⟩ := blk_two' L.out.2.2.2.1
                 clear hY
                 refine wpAnyH_ready (rs := [23]) (by kernel_rfl) (by simp) (.cons rfl (fun K hK => ?_) .nil)
                 rw [if_pos (by rfl)]; go_simp
                 refine hK.out _ _ (HKS.out _ L.out.2.1) (fun hHeld => ?_); clear hK z0 z1 zl zf; (try simp only [Act.put, tA, tB, tC])
                 refine wpAnyH_done (by kernel_rfl) ?_ _; clear hHeld; go_wp2_with fail; go_meet
                 exact ⟨ba, bb, p1, r1, p2, r2, s1, u1, s2, u2, _, rfl, rfl, rfl, L.out.2.2.2.2.1, L.out.2.2.2.2.2, V.out.1, V.out.2, L.out.2.1⟩
             · as_aux_lemma =>
               rw [if_pos (by rfl)]; go_simp
               obtain ⟨x6, bb, hY, hb, S6, Zbb⟩ := al_let x5
               have X6 : Hid (Only oF w4 x6) := X5.out.trans S6.out
               rw [← hY, ← hb]; clear hY hb
               refine hK.out _ _ (HKS.out _ X6.out) (fun hHeld => ?_); clear hK; (try simp only [Act.put, tA, tB, tC])
               refine wpAnyH_ready (rs := [15]) (by kernel_rfl) (by simp) (.cons rfl (fun K hK => ?_) .nil)
               rw [if_pos (by rfl)]; go_simp
               refine Calls.mono (HB.out _ (HOW.out.trans X6.out)) ?_; rintro e x7 ⟨m4, n4, rfl, hw, ho⟩
               have F4 : Hid (Vw x7 m4 (u8s LB)) := own_vw hw
               have S7 : Hid (Only oF x6 x7) := ho
               have X7 : Hid (Only oF w4 x7) := X6.out.trans ho
               clear hw ho
               refine hK.out _ _ (HKS.out _ X7.out) (fun hHeld => ?_); clear hK; (try simp only [Act.put, tA, tB, tC])
               refine wpAnyH_ready (rs := [19]) (by kernel_rfl) (by simp) (.cons rfl (fun K hK => ?_) .nil)
               rw [if_pos (by rfl)]; go_simp
               refine Calls.mono (HI2.out _ X7.out m3 n3 m4 n4 (F3.out.keep (S6.out.trans (S7.out))) (F4.out.keep (Only.refl oF _))) ?_; rintro e x8 ⟨p2, r2, s2, u2, rfl, hw, ho⟩
               have G2 : Hid _ := hw
               have S8 : Hid (Only oF x7 x8) := ho
               have X8 : Hid (Only oF w4 x8) := X7.out.trans ho
               clear hw ho
               refine hK.out _ _ (HKS.out _ X8.out) (fun hHeld => ?_); clear hK; (try simp only [Act.put, tA, tB, tC])
               have hlt : ba < bb := by rw [Zbb.out.2]; exact ltz Zba.out.1 (S5.out)
               have ne1 : ¬ ba = bb := by omega
               have ne2 : ¬ bb = ba := by omega
               have A : Hid _ := blk_keep (S5.out.trans (S6.out.trans (S7.out.trans (S8.out)))) Zba.out.1
               have B : Hid _ := blk_keep (S7.out.trans (S8.out)) Zbb.out.1
               obtain ⟨Y1, hY, L⟩ := hy_leaf (.slice p1 q s1) (.slice r1 (q + 1) u1) (.slice p2 q s2) (.slice r2 (q + 1) u2) X8.out A.out B.out (wz Zba.out.2 X3.out) (wz Zbb.out.2 X5.out) ne1
               have V : Hid _ := hy_rows (S4.out.trans (S5.out.trans (S6.out.trans (S7.out.trans (S8.out))))) (Only.refl oF _) (nz2 G1.out Zba.out.2 (Only.refl oF _)) (nz2 G1.out Zbb.out.2 (S4.out.trans (S5.out))) (nz1 G2.out Zba.out.1 (S5.out.trans (S6.out.trans (S7.out)))) (nz1 G2.out Zbb.out.1 (S7.out)) L.out.2.2.1 G1.out G2.out
               obtain ⟨z0, z1, zl, zf⟩ := blk_two' A.out
               refine wpAnyH_ready (rs := [22]) (by kernel_rfl) (by simp) (.cons rfl (fun K hK => ?_) .nil)
               rw [if_pos (by rfl)]; go_simp
               refine hK.out _ _ (by rw [← hY]; exact HKS.out _ L.out.1) (fun hHeld => ?_); clear hK z0 z1 zl zf; (try simp only [Act.put, tA, tB, tC])
               rw [← hY]
               obtain ⟨z0, z1, zl, zf⟩ := blk_two' L.out.2.2.2.1
               clear hY
               refine wpAnyH_ready (rs := [23]) (by kernel_rfl) (by simp) (.cons rfl (fun K hK => ?_) .nil)
               rw [if_pos (by rfl)]; go_simp
               refine hK.out _ _ (HKS.out _ L.out.2.1) (fun hHeld => ?_); clear hK z0 z1 zl zf; (try simp only [Act.put, tA, tB, tC])
               refine wpAnyH_done (by kernel_rfl) ?_ _; clear hHeld; go_wp2_with fail; go_meet
               exact ⟨ba, bb, p1, r1, p2, r2, s1, u1, s2, u2, _, rfl, rfl, rfl, L.out.2.2.2.2.1, L.out.2.2.2.2.2, V.out.1, V.out.2, L.out.2.1⟩
           · as_aux_lemma =>
             rw [if_pos (by rfl)]; go_simp
             obtain ⟨x5, bb, hY, hb, S5, Zbb⟩ := al_let x4
             have X5 : Hid (Only oF w4 x5) := X4.out.trans S5.out
             rw [← hY, ← hb]; clear hY hb
             refine hK.out _ _ (HKS.out _ X5.out) (fun hHeld => ?_); clear hK; (try simp only [Act.put, tA, tB, tC])
             refine wpAnyH_ready (rs := [12]) (by kernel_rfl) (by simp) (.cons rfl (fun K hK => ?_) .nil)
             rw [if_pos (by rfl)]; go_simp
             refine Calls.mono (HM.out _ (HOW.out.trans X5.out)) ?_; rintro e x6 ⟨m3, n3, rfl, hw, ho⟩
             have F3 : Hid (Vw x6 m3 (u8s LM)) := own_vw hw
             have S6 : Hid (Only oF x5 x6) := ho
             have X6 : Hid (Only oF w4 x6) := X5.out.trans ho
             clear hw ho
             refine hK.out _ _ (HKS.out _ X6.out) (fun hHeld => ?_); clear hK; (try simp only [Act.put, tA, tB, tC])
             refine wpAnyH_ready (rs := [15]) (by kernel_rfl) (by simp) (.cons rfl (fun K hK => ?_) .nil)
             rw [if_pos (by rfl)]; go_simp
             refine Calls.mono (HB.out _ (HOW.out.trans X6.out)) ?_; rintro e x7 ⟨m4, n4, rfl, hw, ho⟩
             have F4 : Hid (Vw x7 m4 (u8s LB)) := own_vw hw
             have S7 : Hid (Only oF x6 x7) := ho
             have X7 : Hid (Only oF w4 x7) := X6.out.trans ho
             clear hw ho
             refine hK.out _ _ (HKS.out _ X7.out) (fun hHeld => ?_); clear hK; (try simp only [Act.put, tA, tB, tC])
             refine wpAnyH_ready (rs := [19]) (by kernel_rfl) (by simp) (.cons rfl (fun K hK => ?_) .nil)
             rw [if_pos (by rfl)]; go_simp
             refine Calls.mono (HI2.out _ X7.out m3 n3 m4 n4 (F3.out.keep (S7.out)) (F4.out.keep (Only.refl oF _))) ?_; rintro e x8 ⟨p2, r2, s2, u2, rfl, hw, ho⟩
             have G2 : Hid _ := hw
             have S8 : Hid (Only oF x7 x8) := ho
             have X8 : Hid (Only oF w4 x8) := X7.out.trans ho
             clear hw ho
             refine hK.out _ _ (HKS.out _ X8.out) (fun hHeld => ?_); clear hK; (try simp only [Act.put, tA, tB, tC])
             have hlt : ba < bb := by rw [Zbb.out.2]; exact ltz Zba.out.1 (Only.refl oF _)
             have ne1 : ¬ ba = bb := by omega
             have ne2 : ¬ bb = ba := by omega
             have A : Hid _ := blk_keep (S5.out.trans (S6.out.trans (S7.out.trans (S8.out)))) Zba.out.1
             have B : Hid _ := blk_keep (S6.out.trans (S7.out.trans (S8.out))) Zbb.out.1
             obtain ⟨Y1, hY, L⟩ := hy_leaf (.slice p1 q s1) (.slice r1 (q + 1) u1) (.slice p2 q s2) (.slice r2 (q + 1) u2) X8.out A.out B.out (wz Zba.out.2 X3.out) (wz Zbb.out.2 X4.out) ne1
             have V : Hid _ := hy_rows (S4.out.trans (S5.out.trans (S6.out.trans (S7.out.trans (S8.out))))) (Only.refl oF _) (nz2 G1.out Zba.out.2 (Only.refl oF _)) (nz2 G1.out Zbb.out.2 (S4.out)) (nz1 G2.out Zba.out.1 (S5.out.trans (S6.out.trans (S7.out)))) (nz1 G2.out Zbb.out.1 (S6.out.trans (S7.out))) L.out.2.2.1 G1.out G2.out
             obtain ⟨z0, z1, zl, zf⟩ := blk_two' A.out
             refine wpAnyH_ready (rs := [22]) (by kernel_rfl) (by simp) (.cons rfl (fun K hK => ?_) .nil)
             rw [if_pos (by rfl)]; go_simp
             refine hK.out _ _ (by rw [← hY]; exact HKS.out _ L.out.1) (fun hHeld => ?_); clear hK z0 z1 zl zf; (try simp only [Act.put, tA, tB, tC])
             rw [← hY]
             obtain ⟨z0, z1, zl, zf⟩ := blk_two' L.out.2.2.2.1
             clear hY
             refine wpAnyH_ready (rs := [23]) (by kernel_rfl) (by simp) (.cons rfl (fun K hK => ?_) .nil)
             rw [if_pos (by rfl)]; go_simp
             refine hK.out _ _ (HKS.out _ L.out.2.1) (fun hHeld => ?_); clear hK z0 z1 zl zf; (try simp only [Act.put, tA, tB, tC])
             refine wpAnyH_done (by kernel_rfl) ?_ _; clear hHeld; go_wp2_with fail; go_meet
             exact ⟨ba, bb, p1, r1, p2, r2, s1, u1, s2, u2, _, rfl, rfl, rfl, L.out.2.2.2.2.1, L.out.2.2.2.2.2, V.out.1, V.out.2, L.out.2.1⟩
         · as_aux_lemma =>
           rw [if_pos (by rfl)]; go_simp
           obtain ⟨x4, bb, hY, hb, S4, Zbb⟩ := al_let x3
           have X4 : Hid (Only oF w4 x4) := X3.out.trans S4.out
           rw [← hY, ← hb]; clear hY hb
           refine hK.out _ _ (HKS.out _ X4.out) (fun hHeld => ?_); clear hK; (try simp only [Act.put, tA, tB, tC])
           refine wpAnyH_ready (rs := [12, 20]) (by kernel_rfl) (by simp) (.cons rfl (fun K hK => ?_) (.cons rfl (fun K hK => ?_) .nil))
           · as_aux_lemma =>
             rw [if_pos (by rfl)]; go_simp
             refine Calls.mono (HM.out _ (HOW.out.trans X4.out)) ?_; rintro e x5 ⟨m3, n3, rfl, hw, ho⟩
             have F3 : Hid (Vw x5 m3 (u8s LM)) := own_vw hw
             have S5 : Hid (Only oF x4 x5) := ho
             have X5 : Hid (Only oF w4 x5) := X4.out.trans ho
             clear hw ho
             refine hK.out _ _ (HKS.out _ X5.out) (fun hHeld => ?_); clear hK; (try simp only [Act.put, tA, tB, tC])
             refine wpAnyH_ready (rs := [15, 20]) (by kernel_rfl) (by simp) (.cons rfl (fun K hK => ?_) (.cons rfl (fun K hK => ?_) .nil))
             · as_aux_lemma =>
               rw [if_pos (by rfl)]; go_simp
               refine Calls.mono (HB.out _ (HOW.out.trans X5.out)) ?_; rintro e x6 ⟨m4, n4, rfl, hw, ho⟩
               have F4 : Hid (Vw x6 m4 (u8s LB)) := own_vw hw
               have S6 : Hid (Only oF x5 x6) := ho
               have X6 : Hid (Only oF w4 x6) := X5.out.trans ho
               clear hw ho
               refine hK.out _ _ (HKS.out _ X6.out) (fun hHeld => ?_); clear hK; (try simp only [Act.put, tA, tB, tC])
               refine wpAnyH_ready (rs := [19, 20]) (by kernel_rfl) (by simp) (.cons rfl (fun K hK => ?_) (.cons rfl (fun K hK => ?_) .nil))
               · as_aux_lemma =>
                 rw [if_pos (by rfl)]; go_simp
                 refine Calls.mono (HI2.out _ X6.out m3 n3 m4 n4 (F3.out.keep (S6.out)) (F4.out.keep (Only.refl oF _))) ?_; rintro e x7 ⟨p2, r2, s2, u2, rfl, hw, ho⟩
                 have G2 : Hid _ := hw
                 have S7 : Hid (Only oF x6 x7) := ho
                 have X7 : Hid (Only oF w4 x7) := X6.out.trans ho
                 clear hw ho
                 refine hK.out _ _ (HKS.out _ X7.out) (fun hHeld => ?_); clear hK; (try simp only [Act.put, tA, tB, tC])
                 refine wpAnyH_ready (rs := [20]) (by kernel_rfl) (by simp) (.cons rfl (fun K hK => ?_) .nil)
                 rw [if_pos (by rfl)]; go_simp
                 obtain ⟨x8, ba, hY, hb, S8, Zba⟩ := al_let x7
                 have X8 : Hid (Only oF w4 x8) := X7.out.trans S8.out
                 rw [← hY, ← hb]; clear hY hb
                 refine hK.out _ _ (HKS.out _ X8.out) (fun hHeld => ?_); clear hK; (try simp only [Act.put, tA, tB, tC])
                 have hlt : bb < ba := by rw [Zba.out.2]; exact ltz Zbb.out.1 (S5.out.trans (S6.out.trans (S7.out)))
                 have ne1 : ¬ ba = bb := by omega
                 have ne2 : ¬ bb = ba := by omega
                 have A : Hid _ := blk_keep (Only.refl oF _) Zba.out.1
                 have B : Hid _ := blk_keep (S5.out.trans (S6.out.trans (S7.out.trans (S8.out)))) Zbb.out.1
                 obtain ⟨Y1, hY, L⟩ := hy_leaf (.slice p1 q s1) (.slice r1 (q + 1) u1) (.slice p2 q s2) (.slice r2 (q + 1) u2) X8.out A.out B.out (wz Zba.out.2 X7.out) (wz Zbb.out.2 X3.out) ne1
                 have V : Hid _ := hy_rows (S4.out.trans (S5.out.trans (S6.out.trans (S7.out.trans (S8.out))))) (S8.out) (nz2 G1.out Zba.out.2 (S4.out.trans (S5.out.trans (S6.out.trans (S7.out))))) (nz2 G1.out Zbb.out.2 (Only.refl oF _)) (nz2 G2.out Zba.out.2 (Only.refl oF _)) (nz1 G2.out Zbb.out.1 (S5.out.trans (S6.out))) L.out.2.2.1 G1.out G2.out
                 obtain ⟨z0, z1, zl, zf⟩ := blk_two' A.out
                 refine wpAnyH_ready (rs := [22]) (by kernel_rfl) (by simp) (.cons rfl (fun K hK => ?_) .nil)
                 rw [if_pos (by rfl)]; go_simp
                 refine hK.out _ _ (by rw [← hY]; exact HKS.out _ L.out.1) (fun hHeld => ?_); clear hK z0 z1 zl zf; (try simp only [Act.put, tA, tB, tC])
                 rw [← hY]
                 obtain ⟨z0, z1, zl, zf⟩ := blk_two' L.out.2.2.2.1
                 clear hY
                 refine wpAnyH_ready (rs := [23]) (by kernel_rfl) (by simp) (.cons rfl (fun K hK => ?_) .nil)
                 rw [if_pos (by rfl)]; go_simp
                 refine hK.out _ _ (HKS.out _ L.out.2.1) (fun hHeld => ?_); clear hK z0 z1 zl zf; (try simp only [Act.put, tA, tB, tC])
                 refine wpAnyH_done (by kernel_rfl) ?_ _; clear hHeld; go_wp2_with fail; go_meet
                 exact ⟨ba, bb, p1, r1, p2, r2, s1, u1, s2, u2, _, rfl, rfl, rfl, L.out.2.2.2.2.1, L.out.2.2.2.2.2, V.out.1, V.out.2, L.out.2.1⟩
               · as_aux_lemma =>
                 rw [if_pos (by rfl)]; go_simp
                 obtain ⟨x7, ba, hY, hb, S7, Zba⟩ := al_let x6
                 have X7 : Hid (Only oF w4 x7) := X6.out.trans S7.out
                 rw [← hY, ← hb]; clear hY hb
                 refine hK.out _ _ (HKS.out _ X7.out) (fun hHeld => ?_); clear hK; (try simp only [Act.put, tA, tB, tC])
                 refine wpAnyH_ready (rs := [19]) (by kernel_rfl) (by simp) (.cons rfl (fun K hK => ?_) .nil)
                 rw [if_pos (by rfl)]; go_simp
                 refine Calls.mono (HI2.out _ X7.out m3 n3 m4 n4 (F3.out.keep (S6.out.trans (S7.out))) (F4.out.keep (S7.out))) ?_; rintro e x8 ⟨p2, r2, s2, u2, rfl, hw, ho⟩
                 have G2 : Hid _ := hw
                 have S8 : Hid (Only oF x7 x8) := ho
                 have X8 : Hid (Only oF w4 x8) := X7.out.trans ho
                 clear hw ho
                 refine hK.out _ _ (HKS.out _ X8.out) (fun hHeld => ?_); clear hK; (try simp only [Act.put, tA, tB, tC])
                 have hlt : bb < ba := by rw [Zba.out.2]; exact ltz Zbb.out.1 (S5.out.trans (S6.out))
                 have ne1 : ¬ ba = bb := by omega
                 have ne2 : ¬ bb = ba := by omega
                 have A : Hid _ := blk_keep (S8.out) Zba.out.1
                 have B : Hid _ := blk_keep (S5.out.trans (S6.out.trans (S7.out.trans (S8.out)))) Zbb.out.1
                 obtain ⟨Y1, hY, L⟩ := hy_leaf (.slice p1 q s1) (.slice r1 (q + 1) u1) (.slice p2 q s2) (.slice r2 (q + 1) u2) X8.out A.out B.out (wz Zba.out.2 X6.out) (wz Zbb.out.2 X3.out) ne1
                 have V : Hid _ := hy_rows (S4.out.trans (S5.out.trans (S6.out.trans (S7.out.trans (S8.out))))) (Only.refl oF _) (nz2 G1.out Zba.out.2 (S4.out.trans (S5.out.trans (S6.out)))) (nz2 G1.out Zbb.out.2 (Only.refl oF _)) (nz1 G2.out Zba.out.1 (Only.refl oF _)) (nz1 G2.out Zbb.out.1 (S5.out.trans (S6.out.trans (S7.out)))) L.out.2.2.1 G1.out G2.out
                 obtain ⟨z0, z1, zl, zf⟩ := blk_two' A.out
                 refine wpAnyH_ready (rs := [22]) (by kernel_rfl) (by simp) (.cons rfl (fun K hK => ?_) .nil)
                 rw [if_pos (by rfl)]; go_simp
                 refine hK.out _ _ (by rw [← hY]; exact HKS.out _ L.out.1) (fun hHeld => ?_); clear hK z0 z1 zl zf; (try simp only [Act.put, tA, tB, tC])
                 rw [← hY]
                 obtain ⟨z0, z1, zl, zf⟩ := blk_two' L.out.2.2.2.1
                 clear hY
                 refine wpAnyH_ready (rs := [23]) (by kernel_rfl) (by simp) (.cons rfl (fun K hK => ?_) .nil)
                 rw [if_pos (by rfl)]; go_simp
                 refine hK.out _ _ (HKS.out _ L.out.2.1) (fun hHeld => ?_); clear hK z0 z1 zl zf; (try simp only [Act.put, tA, tB, tC])
                 refine wpAnyH_done (by kernel_rfl) ?_ _; clear hHeld; go_wp2_with fail; go_meet
                 exact ⟨ba, bb, p1, r1, p2, r2, s1, u1, s2, u2, _, rfl, rfl, rfl, L.out.2.2.2.2.1, L.out.2.2.2.2.2, V.out.1, V.out.2, L.out.2.1⟩
             · as_aux_lemma =>
               rw [if_pos (by rfl)]; go_simp
               obtain ⟨x6, ba, hY, hb, S6, Zba⟩ := al_let x5
               have X6 : Hid (Only oF w4 x6) := X5.out.trans S6.out
               rw [← hY, ← hb]; clear hY hb
               refine hK.out _ _ (HKS.out _ X6.out) (fun hHeld => ?_); clear hK; (try simp only [Act.put, tA, tB, tC])
               refine wpAnyH_ready (rs := [15]) (by kernel_rfl) (by simp) (.cons rfl (fun K hK => ?_) .nil)
               rw [if_pos (by rfl)]; go_simp
               refine Calls.mono (HB.out _ (HOW.out.trans X6.out)) ?_; rintro e x7 ⟨m4, n4, rfl, hw, ho⟩
               have F4 : Hid (Vw x7 m4 (u8s LB)) := own_vw hw
               have S7 : Hid (Only oF x6 x7) := ho
               have X7 : Hid (Only oF w4 x7) := X6.out.trans ho
               clear hw ho
               refine hK.out _ _ (HKS.out _ X7.out) (fun hHeld => ?_); clear hK; (try simp only [Act.put, tA, tB, tC])
               refine wpAnyH_ready (rs := [19]) (by kernel_rfl) (by simp) (.cons rfl (fun K hK => ?_) .nil)
               rw [if_pos (by rfl)]; go_simp
               refine Calls.mono (HI2.out _ X7.out m3 n3 m4 n4 (F3.out.keep (S6.out.trans (S7.out))) (F4.out.keep (Only.refl oF _))) ?_; rintro e x8 ⟨p2, r2, s2, u2, rfl, hw, ho⟩
               have G2 : Hid _ := hw
               have S8 : Hid (Only oF x7 x8) := ho
               have X8 : Hid (Only oF w4 x8) := X7.out.trans ho
               clear hw ho
               refine hK.out _ _ (HKS.out _ X8.out) (fun hHeld => ?_); clear hK; (try simp only [Act.put, tA, tB, tC])
               have hlt : bb < ba := by rw [Zba.out.2]; exact ltz Zbb.out.1 (S5.out)
               have ne1 : ¬ ba = bb := by omega
               have ne2 : ¬ bb = ba := by omega
               have A : Hid _ := blk_keep (S7.out.trans (S8.out)) Zba.out.1
               have B : Hid _ := blk_keep (S5.out.trans (S6.out.trans (S7.out.trans (S8.out)))) Zbb.out.1
               obtain ⟨Y1, hY, L⟩ := hy_leaf (.slice p1 q s1) (.slice r1 (q + 1) u1) (.slice p2 q s2) (.slice r2 (q + 1) u2) X8.out A.out B.out (wz Zba.out.2 X5.out) (wz Zbb.out.2 X3.out) ne1
               have V : Hid _ := hy_rows (S4.out.trans (S5.out.trans (S6.out.trans (S7.out.trans (S8.out))))) (Only.refl oF _) (nz2 G1.out Zba.out.2 (S4.out.trans (S5.out))) (nz2 G1.out Zbb.out.2 (Only.refl oF _)) (nz1 G2.out Zba.out.1 (S7.out)) (nz1 G2.out Zbb.out.1 (S5.out.trans (S6.out.trans (S7.out)))) L.out.2.2.1 G1.out G2.out
               obtain ⟨z0, z1, zl, zf⟩ := blk_two' A.out
               refine wpAnyH_ready (rs := [22]) (by kernel_rfl) (by simp) (.cons rfl (fun K hK => ?_) .nil)
               rw [if_pos (by rfl)]; go_simp
               refine hK.out _ _ (by rw [← hY]; exact HKS.out _ L.out.1) (fun hHeld => ?_); clear hK z0 z1 zl zf; (try simp only [Act.put, tA, tB, tC])
               rw [← hY]
               obtain ⟨z0, z1, zl, zf⟩ := blk_two' L.out.2.2.2.1
               clear hY
               refine wpAnyH_ready (rs := [23]) (by kernel_rfl) (by simp) (.cons rfl (fun K hK => ?_) .nil)
               rw [if_pos (by rfl)]; go_simp
               refine hK.out _ _ (HKS.out _ L.out.2.1) (fun hHeld => ?_); clear hK z0 z1 zl zf; (try simp only [Act.put, tA, tB, tC])
               refine wpAnyH_done (by kernel_rfl) ?_ _; clear hHeld; go_wp2_with fail; go_meet
               exact ⟨ba, bb, p1, r1, p2, r2, s1, u1, s2, u2, _, rfl, rfl, rfl, L.out.2.2.2.2.1, L.out.2.2.2.2.2, V.out.1, V.out.2, L.out.2.1⟩
           · as_aux_lemma =>
             rw [if_pos (by rfl)]; go_simp
             obtain ⟨x5, ba, hY, hb, S5, Zba⟩ := al_let x4
             have X5 : Hid (Only oF w4 x5) := X4.out.trans S5.out
             rw [← hY, ← hb]; clear hY hb
             refine hK.out _ _ (HKS.out _ X5.out) (fun hHeld => ?_); clear hK; (try simp only [Act.put, tA, tB, tC])
             refine wpAnyH_ready (rs := [12]) (by kernel_rfl) (by simp) (.cons rfl (fun K hK => ?_) .nil)
             rw [if_pos (by rfl)]; go_simp
             refine Calls.mono (HM.out _ (HOW.out.trans X5.out)) ?_; rintro e x6 ⟨m3, n3, rfl, hw, ho⟩
             have F3 : Hid (Vw x6 m3 (u8s LM)) := own_vw hw
             have S6 : Hid (Only oF x5 x6) := ho
             have X6 : Hid (Only oF w4 x6) := X5.out.trans ho
             clear hw ho
             refine hK.out _ _ (HKS.out _ X6.out) (fun hHeld => ?_); clear hK; (try simp only [Act.put, tA, tB, tC])
             refine wpAnyH_ready (rs := [15]) (by kernel_rfl) (by simp) (.cons rfl (fun K hK => ?_) .nil)
             rw [if_pos (by rfl)]; go_simp
             refine Calls.mono (HB.out _ (HOW.out.trans X6.out)) ?_; rintro e x7 ⟨m4, n4, rfl, hw, ho⟩
             have F4 : Hid (Vw x7 m4 (u8s LB)) := own_vw hw
             have S7 : Hid (Only oF x6 x7) := ho
             have X7 : Hid (Only oF w4 x7) := X6.out.trans ho
             clear hw ho
             refine hK.out _ _ (HKS.out _ X7.out) (fun hHeld => ?_); clear hK; (try simp only [Act.put, tA, tB, tC])
             refine wpAnyH_ready (rs := [19]) (by kernel_rfl) (by simp) (.cons rfl (fun K hK => ?_) .nil)
             rw [if_pos (by rfl)]; go_simp
             refine Calls.mono (HI2.out _ X7.out m3 n3 m4 n4 (F3.out.keep (S7.out)) (F4.out.keep (Only.refl oF _))) ?_; rintro e x8 ⟨p2, r2, s2, u2, rfl, hw, ho⟩
             have G2 : Hid _ := hw
             have S8 : Hid (Only oF x7 x8) := ho
             have X8 : Hid (Only oF w4 x8) := X7.out.trans ho
             clear hw ho
             refine hK.out _ _ (HKS.out _ X8.out) (fun hHeld => ?_); clear hK; (try simp only [Act.put, tA, tB, tC])
             have hlt : bb < ba := by rw [Zba.out.2]; exact ltz Zbb.out.1 (Only.refl oF _)
             have ne1 : ¬ ba = bb := by omega
             have ne2 : ¬ bb = ba := by omega
             have A : Hid _ := blk_keep (S6.out.trans (S7.out.trans (S8.out))) Zba.out.1
             have B : Hid _ := blk_keep (S5.out.trans (S6.out.trans (S7.out.trans (S8.out)))) Zbb.out.1
             obtain ⟨Y1, hY, L⟩ := hy_leaf (.slice p1 q s1) (.slice r1 (q + 1) u1) (.slice p2 q s2) (.slice r2 (q + 1) u2) X8.out A.out B.out (wz Zba.out.2 X4.out) (wz Zbb.out.2 X3.out) ne1
             have V : Hid _ := hy_rows (S4.out.trans (S5.out.trans (S6.out.trans (S7.out.trans (S8.out))))) (Only.refl oF _) (nz2 G1.out Zba.out.2 (S4.out)) (nz2 G1.out Zbb.out.2 (Only.refl oF _)) (nz1 G2.out Zba.out.1 (S6.out.trans (S7.out))) (nz1 G2.out Zbb.out.1 (S5.out.trans (S6.out.trans (S7.out)))) L.out.2.2.1 G1.out G2.out
             obtain ⟨z0, z1, zl, zf⟩ := blk_two' A.out
             refine wpAnyH_ready (rs := [22]) (by kernel_rfl) (by simp) (.cons rfl (fun K hK => ?_) .nil)
             rw [if_pos (by rfl)]; go_simp
             refine hK.out _ _ (by rw [← hY]; exact HKS.out _ L.out.1) (fun hHeld => ?_); clear hK z0 z1 zl zf; (try simp only [Act.put, tA, tB, tC])
             rw [← hY]
             obtain ⟨z0, z1, zl, zf⟩ := blk_two' L.out.2.2.2.1
             clear hY
             refine wpAnyH_ready (rs := [23]) (by kernel_rfl) (by simp) (.cons rfl (fun K hK => ?_) .nil)
             rw [if_pos (by rfl)]; go_simp
             refine hK.out _ _ (HKS.out _ L.out.2.1) (fun hHeld => ?_); clear hK z0 z1 zl zf; (try simp only [Act.put, tA, tB, tC])
             refine wpAnyH_done (by kernel_rfl) ?_ _; clear hHeld; go_wp2_with fail; go_meet
             exact ⟨ba, bb, p1, r1, p2, r2, s1, u1, s2, u2, _, rfl, rfl, rfl, L.out.2.2.2.2.1, L.out.2.2.2.2.2, V.out.1, V.out.2, L.out.2.1⟩
       · as_aux_lemma =>
         rw [if_pos (by rfl)]; go_simp
         obtain ⟨x3, ba, hY, hb, S3, Zba⟩ := al_let x2
         have X3 : Hid (Only oF w4 x3) := X2.out.trans S3.out
         rw [← hY, ← hb]; clear hY hb
         refine hK.out _ _ (HKS.out _ X3.out) (fun hHeld => ?_); clear hK; (try simp only [Act.put, tA, tB, tC])
         refine wpAnyH_ready (rs := [8, 21]) (by kernel_rfl) (by simp) (.cons rfl (fun K hK => ?_) (.cons rfl (fun K hK => ?_) .nil))
         · as_aux_lemma =>
           rw [if_pos (by rfl)]; go_simp
           refine Calls.mono (HI1.out _ X3.out m0 n0 m1 n1 (F0.out.keep (S2.out.trans (S3.out))) (F1.out.keep (S3.out))) ?_; rintro e x4 ⟨p1, r1, s1, u1, rfl, hw, ho⟩
           have G1 : Hid _ := hw
           have S4 : Hid (Only oF x3 x4) := ho
           have X4 : Hid (Only oF w4 x4) := X3.out.trans ho
           clear hw ho
           refine hK.out _ _ (HKS.out _ X4.out) (fun hHeld => ?_); clear hK; (try simp only [Act.put, tA, tB, tC])
           refine wpAnyH_ready (rs := [12, 21]) (by kernel_rfl) (by simp) (.cons rfl (fun K hK => ?_) (.cons rfl (fun K hK => ?_) .nil))
           · as_aux_lemma =>
             rw [if_pos (by rfl)]; go_simp
             refine Calls.mono (HM.out _ (HOW.out.trans X4.out)) ?_; rintro e x5 ⟨m3, n3, rfl, hw, ho⟩
             have F3 : Hid (Vw x5 m3 (u8s LM)) := own_vw hw
             have S5 : Hid (Only oF x4 x5) := ho
             have X5 : Hid (Only oF w4 x5) := X4.out.trans ho
             clear hw ho
             refine hK.out _ _ (HKS.out _ X5.out) (fun hHeld => ?_); clear hK; (try simp only [Act.put, tA, tB, tC])
             refine wpAnyH_ready (rs := [15, 21]) (by kernel_rfl) (by simp) (.cons rfl (fun K hK => ?_) (.cons rfl (fun K hK => ?_) .nil))
             · as_aux_lemma =>
               rw [if_pos (by rfl)]; go_simp
               refine Calls.mono (HB.out _ (HOW.out.trans X5.out)) ?_; rintro e x6 ⟨m4, n4, rfl, hw, ho⟩
               have F4 : Hid (Vw x6 m4 (u8s LB)) := own_vw hw
               have S6 : Hid (Only oF x5 x6) := ho
               have X6 : Hid (Only oF w4 x6) := X5.out.trans ho
               clear hw ho
               refine hK.out _ _ (HKS.out _ X6.out) (fun hHeld => ?_); clear hK; (try simp only [Act.put, tA, tB, tC])
               refine wpAnyH_ready (rs := [19, 21]) (by kernel_rfl) (by simp) (.cons rfl (fun K hK => ?_) (.cons rfl (fun K hK => ?_) .nil))
               · as_aux_lemma =>
                 rw [if_pos (by rfl)]; go_simp
                 refine Calls.mono (HI2.out _ X6.out m3 n3 m4 n4 (F3.out.keep (S6.out)) (F4.out.keep (Only.refl oF _))) ?_; rintro e x7 ⟨p2, r2, s2, u2, rfl, hw, ho⟩
                 have G2 : Hid _ := hw
                 have S7 : Hid (Only oF x6 x7) := ho
                 have X7 : Hid (Only oF w4 x7) := X6.out.trans ho
                 clear hw ho
                 refine hK.out _ _ (HKS.out _ X7.out) (fun hHeld => ?_); clear hK; (try simp only [Act.put, tA, tB, tC])
                 refine wpAnyH_ready (rs := [21]) (by kernel_rfl) (by simp) (.cons rfl (fun K hK => ?_) .nil)
                 rw [if_pos (by rfl)]; go_simp
                 obtain ⟨x8, bb, hY, hb, S8, Zbb⟩ := al_let x7
                 have X8 : Hid (Only oF w4 x8) := X7.out.trans S8.out
                 rw [← hY, ← hb]; clear hY hb
                 refine hK.out _ _ (HKS.out _ X8.out) (fun hHeld => ?_); clear hK; (try simp only [Act.put, tA, tB, tC])
                 have hlt : ba < bb := by rw [Zbb.out.2]; exact ltz Zba.out.1 (S4.out.trans (S5.out.trans (S6.out.trans (S7.out))))
                 have ne1 : ¬ ba = bb := by omega
                 have ne2 : ¬ bb = ba := by omega
                 have A : Hid _ := blk_keep (S4.out.trans (S5.out.trans (S6.out.trans (S7.out.trans (S8.out))))) Zba.out.1
                 have B : Hid _ := blk_keep (Only.refl oF _) Zbb.out.1
                 obtain ⟨Y1, hY, L⟩ := hy_leaf (.slice p1 q s1) (.slice r1 (q + 1) u1) (.slice p2 q s2) (.slice r2 (q + 1) u2) X8.out A.out B.out (wz Zba.out.2 X2.out) (wz Zbb.out.2 X7.out) ne1
                 have V : Hid _ := hy_rows (S5.out.trans (S6.out.trans (S7.out.trans (S8.out)))) (S8.out) (nz1 G1.out Zba.out.1 (Only.refl oF _)) (nz2 G1.out Zbb.out.2 (S5.out.trans (S6.out.trans (S7.out)))) (nz1 G2.out Zba.out.1 (S4.out.trans (S5.out.trans (S6.out)))) (nz2 G2.out Zbb.out.2 (Only.refl oF _)) L.out.2.2.1 G1.out G2.out
                 obtain ⟨z0, z1, zl, zf⟩ := blk_two' A.out
                 refine wpAnyH_ready (rs := [22]) (by kernel_rfl) (by simp) (.cons rfl (fun K hK => ?_) .nil)
                 rw [if_pos (by rfl)]; go_simp
                 refine hK.out _ _ (by rw [← hY]; exact HKS.out _ L.out.1) (fun hHeld => ?_); clear hK z0 z1 zl zf; (try simp only [Act.put, tA, tB, tC])
                 rw [← hY]
                 obtain ⟨z0, z1, zl, zf⟩ := blk_two' L.out.2.2.2.1
                 clear hY
                 refine wpAnyH_ready (rs := [23]) (by kernel_rfl) (by simp) (.cons rfl (fun K hK => ?_) .nil)
                 rw [if_pos (by rfl)]; go_simp
                 refine hK.out _ _ (HKS.out _ L.out.2.1) (fun hHeld => ?_); clear hK z0 z1 zl zf; (try simp only [Act.put, tA, tB, tC])
                 refine wpAnyH_done (by kernel_rfl) ?_ _; clear hHeld; go_wp2_with fail; go_meet
                 exact ⟨ba, bb, p1, r1, p2, r2, s1, u1, s2, u2, _, rfl, rfl, rfl, L.out.2.2.2.2.1, L.out.2.2.2.2.2, V.out.1, V.out.2, L.out.2.1⟩
               · as_aux_lemma =>
                 rw [if_pos (by rfl)]; go_simp
                 obtain ⟨x7, bb, hY, hb, S7, Zbb⟩ := al_let x6
                 have X7 : Hid (Only oF w4 x7) := X6.out.trans S7.out
                 rw [← hY, ← hb]; clear hY hb
                 refine hK.out _ _ (HKS.out _ X7.out) (fun hHeld => ?_); clear hK; (try simp only [Act.put, tA, tB, tC])
                 refine wpAnyH_ready (rs := [19]) (by kernel_rfl) (by simp) (.cons rfl (fun K hK => ?_) .nil)
                 rw [if_pos (by rfl)]; go_simp
                 refine Calls.mono (HI2.out _ X7.out m3 n3 m4 n4 (F3.out.keep (S6.out.trans (S7.out))) (F4.out.keep (S7.out))) ?_; rintro e x8 ⟨p2, r2, s2, u2, rfl, hw, ho⟩
                 have G2 : Hid _ := hw
                 have S8 : Hid (Only oF x7 x8) := ho
                 have X8 : Hid (Only oF w4 x8) := X7.out.trans ho
                 clear hw ho
                 refine hK.out _ _ (HKS.out _ X8.out) (fun hHeld => ?_); clear hK; (try simp only [Act.put, tA, tB, tC])
                 have hlt : ba < bb := by rw [Zbb.out.2]; exact ltz Zba.out.1 (S4.out.trans (S5.out.trans (S6.out)))
                 have ne1 : ¬ ba = bb := by omega
                 have ne2 : ¬ bb = ba := by omega
                 have A : Hid _ := blk_keep (S4.out.trans (S5.out.trans (S6.out.trans (S7.out.trans (S8.out))))) Zba.out.1
                 have B : Hid _ := blk_keep (S8.out) Zbb.out.1
                 obtain ⟨Y1, hY, L⟩ := hy_leaf (.slice p1 q s1) (.slice r1 (q + 1) u1) (.slice p2 q s2) (.slice r2 (q + 1) u2) X8.out A.out B.out (wz Zba.out.2 X2.out) (wz Zbb.out.2 X6.out) ne1
                 have V : Hid _ := hy_rows (S5.out.trans (S6.out.trans (S7.out.trans (S8.out)))) (Only.refl oF _) (nz1 G1.out Zba.out.1 (Only.refl oF _)) (nz2 G1.out Zbb.out.2 (S5.out.trans (S6.out))) (nz1 G2.out Zba.out.1 (S4.out.trans (S5.out.trans (S6.out.trans (S7.out))))) (nz1 G2.out Zbb.out.1 (Only.refl oF _)) L.out.2.2.1 G1.out G2.out
                 obtain ⟨z0, z1, zl, zf⟩ := blk_two' A.out
                 refine wpAnyH_ready (rs := [22]) (by kernel_rfl) (by simp) (.cons rfl (fun K hK => ?_) .nil)
                 rw [if_pos (by rfl)]; go_simp
                 refine hK.out _ _ (by rw [← hY]; exact HKS.out _ L.out.1) (fun hHeld => ?_); clear hK z0 z1 zl zf; (try simp only [Act.put, tA, tB, tC])
                 rw [← hY]
                 obtain ⟨z0, z1, zl, zf⟩ := blk_two' L.out.2.2.2.1
                 clear hY
                 refine wpAnyH_ready (rs := [23]) (by kernel_rfl) (by simp) (.cons rfl (fun K hK => ?_) .nil)
                 rw [if_pos (by rfl)]; go_simp
                 refine hK.out _ _ (HKS.out _ L.out.2.1) (fun hHeld => ?_); clear hK z0 z1 zl zf; (try simp only [Act.put, tA, tB, tC])
                 refine wpAnyH_done (by kernel_rfl) ?_ _; clear hHeld; go_wp2_with fail; go_meet
                 exact ⟨ba, bb, p1, r1, p2, r2, s1, u1, s2, u2, _, rfl, rfl, rfl, L.out.2.2.2.2.1, L.out.2.2.2.2.2, V.out.1, V.out.2, L.out.2.1⟩
             · as_aux_lemma =>
               rw [if_pos (by rfl)]; go_simp
               obtain ⟨x6, bb, hY, hb, S6, Zbb⟩ := al_let x5
               have X6 : Hid (Only oF w4 x6) := X5.out.trans S6.out
               rw [← hY, ← hb]; clear hY hb
               refine hK.out _ _ (HKS.out _ X6.out) (fun hHeld => ?_); clear hK; (try simp only [Act.put, tA, tB, tC])
               refine wpAnyH_ready (rs := [15]) (by kernel_rfl) (by simp) (.cons rfl (fun K hK => ?_) .nil)
               rw [if_pos (by rfl)]; go_simp
               refine Calls.mono (HB.out _ (HOW.out.trans X6.out)) ?_; rintro e x7 ⟨m4, n4, rfl, hw, ho⟩
               have F4 : Hid (Vw x7 m4 (u8s LB)) := own_vw hw
               have S7 : Hid (Only oF x6 x7) := ho
               have X7 : Hid (Only oF w4 x7) := X6.out.trans ho
               clear hw ho
               refine hK.out _ _ (HKS.out _ X7.out) (fun hHeld => ?_); clear hK; (try simp only [Act.put, tA, tB, tC])
               refine wpAnyH_ready (rs := [19]) (by kernel_rfl) (by simp) (.cons rfl (fun K hK => ?_) .nil)
               rw [if_pos (by rfl)]; go_simp
               refine Calls.mono (HI2.out _ X7.out m3 n3 m4 n4 (F3.out.keep (S6.out.trans (S7.out))) (F4.out.keep (Only.refl oF _))) ?_; rintro e x8 ⟨p2, r2, s2, u2, rfl, hw, ho⟩
               have G2 : Hid _ := hw
               have S8 : Hid (Only oF x7 x8) := ho
               have X8 : Hid (Only oF w4 x8) := X7.out.trans ho
               clear hw ho
               refine hK.out _ _ (HKS.out _ X8.out) (fun hHeld => ?_); clear hK; (try simp only [Act.put, tA, tB, tC])
               have hlt : ba < bb := by rw [Zbb.out.2]; exact ltz Zba.out.1 (S4.out.trans (S5.out))
               have ne1 : ¬ ba = bb := by omega
               have ne2 : ¬ bb = ba := by omega
               have A : Hid _ := blk_keep (S4.out.trans (S5.out.trans (S6.out.trans (S7.out.trans (S8.out))))) Zba.out.1
               have B : Hid _ := blk_keep (S7.out.trans (S8.out)) Zbb.out.1
               obtain ⟨Y1, hY, L⟩ := hy_leaf (.slice p1 q s1) (.slice r1 (q + 1) u1) (.slice p2 q s2) (.slice r2 (q + 1) u2) X8.out A.out B.out (wz Zba.out.2 X2.out) (wz Zbb.out.2 X5.out) ne1
               have V : Hid _ := hy_rows (S5.out.trans (S6.out.trans (S7.out.trans (S8.out)))) (Only.refl oF _) (nz1 G1.out Zba.out.1 (Only.refl oF _)) (nz2 G1.out Zbb.out.2 (S5.out)) (nz1 G2.out Zba.out.1 (S4.out.trans (S5.out.trans (S6.out.trans (S7.out))))) (nz1 G2.out Zbb.out.1 (S7.out)) L.out.2.2.1 G1.out G2.out
               obtain ⟨z0, z1, zl, zf⟩ := blk_two' A.out
               refine wpAnyH_ready (rs := [22]) (by kernel_rfl) (by simp) (.cons rfl (fun K hK => ?_) .nil)
               rw [if_pos (by rfl)]; go_simp
               refine hK.out _ _ (by rw [← hY]; exact HKS.out _ L.out.1) (fun hHeld => ?_); clear hK z0 z1 zl zf; (try simp only [Act.put, tA, tB, tC])
               rw [← hY]
               obtain ⟨z0, z1, zl, zf⟩ := blk_two' L.out.2.2.2.1
               clear hY
               refine wpAnyH_ready (rs := [23]) (by kernel_rfl) (by simp) (.cons rfl (fun K hK => ?_) .nil)
               rw [if_pos (by rfl)]; go_simp
               refine hK.out _ _ (HKS.out _ L.out.2.1) (fun hHeld => ?_); clear hK z0 z1 zl zf; (try simp only [Act.put, tA, tB, tC])
               refine wpAnyH_done (by kernel_rfl) ?_ _; clear hHeld; go_wp2_with fail; go_meet
               exact ⟨ba, bb, p1, r1, p2, r2, s1, u1, s2, u2, _, rfl, rfl, rfl, L.out.2.2.2.2.1, L.out.2.2.2.2.2, V.out.1, V.out.2, L.out.2.1⟩
           · as_aux_lemma =>
             rw [if_pos (by rfl)]; go_simp
             obtain ⟨x5, bb, hY, hb, S5, Zbb⟩ := al_let x4
             have X5 : Hid (Only oF w4 x5) := X4.out.trans S5.out
             rw [← hY, ← hb]; clear hY hb
             refine hK.out _ _ (HKS.out _ X5.out) (fun hHeld => ?_); clear hK; (try simp only [Act.put, tA, tB, tC])
             refine wpAnyH_ready (rs := [12]) (by kernel_rfl) (by simp) (.cons rfl (fun K hK => ?_) .nil)
             rw [if_pos (by rfl)]; go_simp
             refine Calls.mono (HM.out _ (HOW.out.trans X5.out)) ?_; rintro e x6 ⟨m3, n3, rfl, hw, ho⟩
             have F3 : Hid (Vw x6 m3 (u8s LM)) := own_vw hw
             have S6 : Hid (Only oF x5 x6) := ho
             have X6 : Hid (Only oF w4 x6) := X5.out.trans ho
             clear hw ho
             refine hK.out _ _ (HKS.out _ X6.out) (fun hHeld => ?_); clear hK; (try simp only [Act.put, tA, tB, tC])
             refine wpAnyH_ready (rs := [15]) (by kernel_rfl) (by simp) (.cons rfl (fun K hK => ?_) .nil)
             rw [if_pos (by rfl)]; go_simp
             refine Calls.mono (HB.out _ (HOW.out.trans X6.out)) ?_; rintro e x7 ⟨m4, n4, rfl, hw, ho⟩
             have F4 : Hid (Vw x7 m4 (u8s LB)) := own_vw hw
             have S7 : Hid (Only oF x6 x7) := ho
             have X7 : Hid (Only oF w4 x7) := X6.out.trans ho
             clear hw ho
             refine hK.out _ _ (HKS.out _ X7.out) (fun hHeld => ?_); clear hK; (try simp only [Act.put, tA, tB, tC])
             refine wpAnyH_ready (rs := [19]) (by kernel_rfl) (by simp) (.cons rfl (fun K hK => ?_) .nil)
             rw [if_pos (by rfl)]; go_simp
             refine Calls.mono (HI2.out _ X7.out m3 n3 m4 n4 (F3.out.keep (S7.out)) (F4.out.keep (Only.refl oF _))) ?_; rintro e x8 ⟨p2, r2, s2, u2, rfl, hw, ho⟩
             have G2 : Hid _ := hw
             have S8 : Hid (Only oF x7 x8) := ho
             have X8 : Hid (Only oF w4 x8) := X7.out.trans ho
             clear hw ho
             refine hK.out _ _ (HKS.out _ X8.out) (fun hHeld => ?_); clear hK; (try simp only [Act.put, tA, tB, tC])
             have hlt : ba < bb := by rw [Zbb.out.2]; exact ltz Zba.out.1 (S4.out)
             have ne1 : ¬ ba = bb := by omega
             have ne2 : ¬ bb = ba := by omega
             have A : Hid _ := blk_keep (S4.out.trans (S5.out.trans (S6.out.trans (S7.out.trans (S8.out))))) Zba.out.1
             have B : Hid _ := blk_keep (S6.out.trans (S7.out.trans (S8.out))) Zbb.out.1
             obtain ⟨Y1, hY, L⟩ := hy_leaf (.slice p1 q s1) (.slice r1 (q + 1) u1) (.slice p2 q s2) (.slice r2 (q + 1) u2) X8.out A.out B.out (wz Zba.out.2 X2.out) (wz Zbb.out.2 X4.out) ne1
             have V : Hid _ := hy_rows (S5.out.trans (S6.out.trans (S7.out.trans (S8.out)))) (Only.refl oF _) (nz1 G1.out Zba.out.1 (Only.refl oF _)) (nz2 G1.out Zbb.out.2 (Only.refl oF _)) (nz1 G2.out Zba.out.1 (S4.out.trans (S5.out.trans (S6.out.trans (S7.out))))) (nz1 G2.out Zbb.out.1 (S6.out.trans (S7.out))) L.out.2.2.1 G1.out G2.out
             obtain ⟨z0, z1, zl, zf⟩ := blk_two' A.out
             refine wpAnyH_ready (rs := [22]) (by kernel_rfl) (by simp) (.cons rfl (fun K hK => ?_) .nil)
             rw [if_pos (by rfl)]; go_simp
             refine hK.out _ _ (by rw [← hY]; exact HKS.out _ L.out.1) (fun hHeld => ?_); clear hK z0 z1 zl zf; (try simp only [Act.put, tA, tB, tC])
             rw [← hY]
             obtain ⟨z0, z1, zl, zf⟩ := blk_two' L.out.2.2.2.1
             clear hY
             refine wpAnyH_ready (rs := [23]) (by kernel_rfl) (by simp) (.cons rfl (fun K hK => ?_) .nil)
             rw [if_pos (by rfl)]; go_simp
             refine hK.out _ _ (HKS.out _ L.out.2.1) (fun hHeld => ?_); clear hK z0 z1 zl zf; (try simp only [Act.put, tA, tB, tC])
             refine wpAnyH_done (by kernel_rfl) ?_ _; clear hHeld; go_wp2_with fail; go_meet
             exact ⟨ba, bb, p1, r1, p2, r2, s1, u1, s2, u2, _, rfl, rfl, rfl, L.out.2.2.2.2.1, L.out.2.2.2.2.2, V.out.1, V.out.2, L.out.2.1⟩
         · as_aux_lemma =>
           rw [if_pos (by rfl)]; go_simp
           obtain ⟨x4, bb, hY, hb, S4, Zbb⟩ := al_let x3
           have X4 : Hid (Only oF w4 x4) := X3.out.trans S4.out
           rw [← hY, ← hb]; clear hY hb
           refine hK.out _ _ (HKS.out _ X4.out) (fun hHeld => ?_); clear hK; (try simp only [Act.put, tA, tB, tC])
           refine wpAnyH_ready (rs := [8]) (by kernel_rfl) (by simp) (.cons rfl (fun K hK => ?_) .nil)
           rw [if_pos (by rfl)]; go_simp
           refine Calls.mono (HI1.out _ X4.out m0 n0 m1 n1 (F0.out.keep (S2.out.trans (S3.out.trans (S4.out)))) (F1.out.keep (S3.out.trans (S4.out)))) ?_; rintro e x5 ⟨p1, r1, s1, u1, rfl, hw, ho⟩
           have G1 : Hid _ := hw
           have S5 : Hid (Only oF x4 x5) := ho
           have X5 : Hid (Only oF w4 x5) := X4.out.trans ho
           clear hw ho
           refine hK.out _ _ (HKS.out _ X5.out) (fun hHeld => ?_); clear hK; (try simp only [Act.put, tA, tB, tC])
           refine wpAnyH_ready (rs := [12]) (by kernel_rfl) (by simp) (.cons rfl (fun K hK => ?_) .nil)
           rw [if_pos (by rfl)]; go_simp
           refine Calls.mono (HM.out _ (HOW.out.trans X5.out)) ?_; rintro e x6 ⟨m3, n3, rfl, hw, ho⟩
           have F3 : Hid (Vw x6 m3 (u8s LM)) := own_vw hw
           have S6 : Hid (Only oF x5 x6) := ho
           have X6 : Hid (Only oF w4 x6) := X5.out.trans ho
           clear hw ho
           refine hK.out _ _ (HKS.out _ X6.out) (fun hHeld => ?_); clear hK; (try simp only [Act.put, tA, tB, tC])
           refine wpAnyH_ready (rs := [15]) (by kernel_rfl) (by simp) (.cons rfl (fun K hK => ?_) .nil)
           rw [if_pos (by rfl)]; go_simp
           refine Calls.mono (HB.out _ (HOW.out.trans X6.out)) ?_; rintro e x7 ⟨m4, n4, rfl, hw, ho⟩
           have F4 : Hid (Vw x7 m4 (u8s LB)) := own_vw hw
           have S7 : Hid (Only oF x6 x7) := ho
           have X7 : Hid (Only oF w4 x7) := X6.out.trans ho
           clear hw ho
           refine hK.out _ _ (HKS.out _ X7.out) (fun hHeld => ?_); clear hK; (try simp only [Act.put, tA, tB, tC])
           refine wpAnyH_ready (rs := [19]) (by kernel_rfl) (by simp) (.cons rfl (fun K hK => ?_) .nil)
           rw [if_pos (by rfl)]; go_simp
           refine Calls.mono (HI2.out _ X7.out m3 n3 m4 n4 (F3.out.keep (S7.out)) (F4.out.keep (Only.refl oF _))) ?_; rintro e x8 ⟨p2, r2, s2, u2, rfl, hw, ho⟩
           have G2 : Hid _ := hw
           have S8 : Hid (Only oF x7 x8) := ho
           have X8 : Hid (Only oF w4 x8) := X7.out.trans ho
           clear hw ho
           refine hK.out _ _ (HKS.out _ X8.out) (fun hHeld => ?_); clear hK; (try simp only [Act.put, tA, tB, tC])
           have hlt : ba < bb := by rw [Zbb.out.2]; exact ltz Zba.out.1 (Only.refl oF _)
           have ne1 : ¬ ba = bb := by omega
           have ne2 : ¬ bb = ba := by omega
           have A : Hid _ := blk_keep (S4.out.trans (S5.out.trans (S6.out.trans (S7.out.trans (S8.out))))) Zba.out.1
           have B : Hid _ := blk_keep (S5.out.trans (S6.out.trans (S7.out.trans (S8.out)))) Zbb.out.1
           obtain ⟨Y1, hY, L⟩ := hy_leaf (.slice p1 q s1) (.slice r1 (q + 1) u1) (.slice p2 q s2) (.slice r2 (q + 1) u2) X8.out A.out B.out (wz Zba.out.2 X2.out) (wz Zbb.out.2 X3.out) ne1
           have V : Hid _ := hy_rows (S6.out.trans (S7.out.trans (S8.out))) (Only.refl oF _) (nz1 G1.out Zba.out.1 (S4.out)) (nz1 G1.out Zbb.out.1 (Only.refl oF _)) (nz1 G2.out Zba.out.1 (S4.out.trans (S5.out.trans (S6.out.trans (S7.out))))) (nz1 G2.out Zbb.out.1 (S5.out.trans (S6.out.trans (S7.out)))) L.out.2.2.1 G1.out G2.out
           obtain ⟨z0, z1, zl, zf⟩ := blk_two' A.out
           refine wpAnyH_ready (rs := [22]) (by kernel_rfl) (by simp) (.cons rfl (fun K hK => ?_) .nil)
           rw [if_pos (by rfl)]; go_simp
           refine hK.out _ _ (by rw [← hY]; exact HKS.out _ L.out.1) (fun hHeld => ?_); clear hK z0 z1 zl zf; (try simp only [Act.put, tA, tB, tC])
           rw [← hY]
           obtain ⟨z0, z1, zl, zf⟩ := blk_two' L.out.2.2.2.1
           clear hY
           refine wpAnyH_ready (rs := [23]) (by kernel_rfl) (by simp) (.cons rfl (fun K hK => ?_) .nil)
           rw [if_pos (by rfl)]; go_simp
           refine hK.out _ _ (HKS.out _ L.out.2.1) (fun hHeld => ?_); clear hK z0 z1 zl zf; (try simp only [Act.put, tA, tB, tC])
           refine wpAnyH_done (by kernel_rfl) ?_ _; clear hHeld; go_wp2_with fail; go_meet
           exact ⟨ba, bb, p1, r1, p2, r2, s1, u1, s2, u2, _, rfl, rfl, rfl, L.out.2.2.2.2.1, L.out.2.2.2.2.2, V.out.1, V.out.2, L.out.2.1⟩
       · as_aux_lemma =>
         rw [if_pos (by rfl)]; go_simp
         obtain ⟨x3, bb, hY, hb, S3, Zbb⟩ := al_let x2
         have X3 : Hid (Only oF w4 x3) := X2.out.trans S3.out
         rw [← hY, ← hb]; clear hY hb
         refine hK.out _ _ (HKS.out _ X3.out) (fun hHeld => ?_); clear hK; (try simp only [Act.put, tA, tB, tC])
         refine wpAnyH_ready (rs := [8, 20]) (by kernel_rfl) (by simp) (.cons rfl (fun K hK => ?_) (.cons rfl (fun K hK => ?_) .nil))
         · as_aux_lemma =>
           rw [if_pos (by rfl)]; go_simp
           refine Calls.mono (HI1.out _ X3.out m0 n0 m1 n1 (F0.out.keep (S2.out.trans (S3.out))) (F1.out.keep (S3.out))) ?_; rintro e x4 ⟨p1, r1, s1, u1, rfl, hw, ho⟩
           have G1 : Hid _ := hw
           have S4 : Hid (Only oF x3 x4) := ho
           have X4 : Hid (Only oF w4 x4) := X3.out.trans ho
           clear hw ho
           refine hK.out _ _ (HKS.out _ X4.out) (fun hHeld => ?_); clear hK; (try simp only [Act.put, tA, tB, tC])
           refine wpAnyH_ready (rs := [12, 20]) (by kernel_rfl) (by simp) (.cons rfl (fun K hK => ?_) (.cons rfl (fun K hK => ?_) .nil))
           · as_aux_lemma =>
             rw [if_pos (by rfl)]; go_simp
             refine Calls.mono (HM.out _ (HOW.out.trans X4.out)) ?_; rintro e x5 ⟨m3, n3, rfl, hw, ho⟩
             have F3 : Hid (Vw x5 m3 (u8s LM)) := own_vw hw
             have S5 : Hid (Only oF x4 x5) := ho
             have X5 : Hid (Only oF w4 x5) := X4.out.trans ho
             clear hw ho
             refine hK.out _ _ (HKS.out _ X5.out) (fun hHeld => ?_); clear hK; (try simp only [Act.put, tA, tB, tC])
             refine wpAnyH_ready (rs := [15, 20]) (by kernel_rfl) (by simp) (.cons rfl (fun K hK => ?_) (.cons rfl (fun K hK => ?_) .nil))
             · as_aux_lemma =>
               rw [if_pos (by rfl)]; go_simp
               refine Calls.mono (HB.out _ (HOW.out.trans X5.out)) ?_; rintro e x6 ⟨m4, n4, rfl, hw, ho⟩
               have F4 : Hid (Vw x6 m4 (u8s LB)) := own_vw hw
               have S6 : Hid (Only oF x5 x6) := ho
               have X6 : Hid (Only oF w4 x6) := X5.out.trans ho
               clear hw ho
               refine hK.out _ _ (HKS.out _ X6.out) (fun hHeld => ?_); clear hK; (try simp only [Act.put, tA, tB, tC])
               refine wpAnyH_ready (rs := [19, 20]) (by kernel_rfl) (by simp) (.cons rfl (fun K hK => ?_) (.cons rfl (fun K hK => ?_) .nil))
               · as_aux_lemma =>
                 rw [if_pos (by rfl)]; go_simp
                 refine Calls.mono (HI2.out _ X6.out m3 n3 m4 n4 (F3.out.keep (S6.out)) (F4.out.keep (Only.refl oF _))) ?_; rintro e x7 ⟨p2, r2, s2, u2, rfl, hw, ho⟩
                 have G2 : Hid _ := hw
                 have S7 : Hid (Only oF x6 x7) := ho
                 have X7 : Hid (Only oF w4 x7) := X6.out.trans ho
                 clear hw ho
                 refine hK.out _ _ (HKS.out _ X7.out) (fun hHeld => ?_); clear hK; (try simp only [Act.put, tA, tB, tC])
                 refine wpAnyH_ready (rs := [20]) (by kernel_rfl) (by simp) (.cons rfl (fun K hK => ?_) .nil)
                 rw [if_pos (by rfl)]; go_simp
                 obtain ⟨x8, ba, hY, hb, S8, Zba⟩ := al_let x7
                 have X8 : Hid (Only oF w4 x8) := X7.out.trans S8.out
                 rw [← hY, ← hb]; clear hY hb
                 refine hK.out _ _ (HKS.out _ X8.out) (fun hHeld => ?_); clear hK; (try simp only [Act.put, tA, tB, tC])
                 have hlt : bb < ba := by rw [Zba.out.2]; exact ltz Zbb.out.1 (S4.out.trans (S5.out.trans (S6.out.trans (S7.out))))
                 have ne1 : ¬ ba = bb := by omega
                 have ne2 : ¬ bb = ba := by omega
                 have A : Hid _ := blk_keep (Only.refl oF _) Zba.out.1
                 have B : Hid _ := blk_keep (S4.out.trans (S5.out.trans (S6.out.trans (S7.out.trans (S8.out))))) Zbb.out.1
                 obtain ⟨Y1, hY, L⟩ := hy_leaf (.slice p1 q s1) (.slice r1 (q + 1) u1) (.slice p2 q s2) (.slice r2 (q + 1) u2) X8.out A.out B.out (wz Zba.out.2 X7.out) (wz Zbb.out.2 X2.out) ne1
                 have V : Hid _ := hy_rows (S5.out.trans (S6.out.trans (S7.out.trans (S8.out)))) (S8.out) (nz2 G1.out Zba.out.2 (S5.out.trans (S6.out.trans (S7.out)))) (nz1 G1.out Zbb.out.1 (Only.refl oF _)) (nz2 G2.out Zba.out.2 (Only.refl oF _)) (nz1 G2.out Zbb.out.1 (S4.out.trans (S5.out.trans (S6.out)))) L.out.2.2.1 G1.out G2.out
                 obtain ⟨z0, z1, zl, zf⟩ := blk_two' A.out
                 refine wpAnyH_ready (rs := [22]) (by kernel_rfl) (by simp) (.cons rfl (fun K hK => ?_) .nil)
                 rw [if_pos (by rfl)]; go_simp
                 refine hK.out _ _ (by rw [← hY]; exact HKS.out _ L.out.1) (fun hHeld => ?_); clear hK z0 z1 zl zf; (try simp only [Act.put, tA, tB, tC])
                 rw [← hY]
                 obtain ⟨z0, z1, zl, zf⟩ := blk_two' L.out.2.2.2.1
                 clear hY
                 refine wpAnyH_ready (rs := [23]) (by kernel_rfl) (by simp) (.cons rfl (fun K hK => ?_) .nil)
                 rw [if_pos (by rfl)]; go_simp
                 refine hK.out _ _ (HKS.out _ L.out.2.1) (fun hHeld => ?_); clear hK z0 z1 zl zf; (try simp only [Act.put, tA, tB, tC])
                 refine wpAnyH_done (by kernel_rfl) ?_ _; clear hHeld; go_wp2_with fail; go_meet
                 exact ⟨ba, bb, p1, r1, p2, r2, s1, u1, s2, u2, _, rfl, rfl, rfl, L.out.2.2.2.2.1, L.out.2.2.2.2.2, V.out.1, V.out.2, L.out.2.1⟩
               · as_aux_lemma =>
                 rw [if_pos (by rfl)]; go_simp
                 obtain ⟨x7, ba, hY, hb, S7, Zba⟩ := al_let x6
                 have X7 : Hid (Only oF w4 x7) := X6.out.trans S7.out
                 rw [← hY, ← hb]; clear hY hb
                 refine hK.out _ _ (HKS.out _ X7.out) (fun hHeld => ?_); clear hK; (try simp only [Act.put, tA, tB, tC])
                 refine wpAnyH_ready (rs := [19]) (by kernel_rfl) (by simp) (.cons rfl (fun K hK => ?_) .nil)
                 rw [if_pos (by rfl)]; go_simp
                 refine Calls.mono (HI2.out _ X7.out m3 n3 m4 n4 (F3.out.keep (S6.out.trans (S7.out))) (F4.out.keep (S7.out))) ?_; rintro e x8 ⟨p2, r2, s2, u2, rfl, hw, ho⟩
                 have G2 : Hid _ := hw
                 have S8 : Hid (Only oF x7 x8) := ho
                 have X8 : Hid (Only oF w4 x8) := X7.out.trans ho
                 clear hw ho
                 refine hK.out _ _ (HKS.out _ X8.out) (fun hHeld => ?_); clear hK; (try simp only [Act.put, tA, tB, tC])
                 have hlt : bb < ba := by rw [Zba.out.2]; exact ltz Zbb.out.1 (S4.out.trans (S5.out.trans (S6.out)))
                 have ne1 : ¬ ba = bb := by omega
                 have ne2 : ¬ bb = ba := by omega
                 have A : Hid _ := blk_keep (S8.out) Zba.out.1
                 have B : Hid _ := blk_keep (S4.out.trans (S5.out.trans (S6.out.trans (S7.out.trans (S8.out))))) Zbb.out.1
                 obtain ⟨Y1, hY, L⟩ := hy_leaf (.slice p1 q s1) (.slice r1 (q + 1) u1) (.slice p2 q s2) (.slice r2 (q + 1) u2) X8.out A.out B.out (wz Zba.out.2 X6.out) (wz Zbb.out.2 X2.out) ne1
                 have V : Hid _ := hy_rows (S5.out.trans (S6.out.trans (S7.out.trans (S8.out)))) (Only.refl oF _) (nz2 G1.out Zba.out.2 (S5.out.trans (S6.out))) (nz1 G1.out Zbb.out.1 (Only.refl oF _)) (nz1 G2.out Zba.out.1 (Only.refl oF _)) (nz1 G2.out Zbb.out.1 (S4.out.trans (S5.out.trans (S6.out.trans (S7.out))))) L.out.2.2.1 G1.out G2.out
                 obtain ⟨z0, z1, zl, zf⟩ := blk_two' A.out
                 refine wpAnyH_ready (rs := [22]) (by kernel_rfl) (by simp) (.cons rfl (fun K hK => ?_) .nil)
                 rw [if_pos (by rfl)]; go_simp
                 refine hK.out _ _ (by rw [← hY]; exact HKS.out _ L.out.1) (fun hHeld => ?_); clear hK z0 z1 zl zf; (try simp only [Act.put, tA, tB, tC])
                 rw [← hY]
                 obtain ⟨z0, z1, zl, zf⟩ := blk_two' L.out.2.2.2.1
                 clear hY
                 refine wpAnyH_ready (rs := [23]) (by kernel_rfl) (by simp) (.cons rfl (fun K hK => ?_) .nil)
                 rw [if_pos (by rfl)]; go_simp
                 refine hK.out _ _ (HKS.out _ L.out.2.1) (fun hHeld => ?_); clear hK z0 z1 zl zf; (try simp only [Act.put, tA, tB, tC])
                 refine wpAnyH_done (by kernel_rfl) ?_ _; clear hHeld; go_wp2_with fail; go_meet
                 exact ⟨ba, bb, p1, r1, p2, r2, s1, u1, s2, u2, _, rfl, rfl, rfl, L.out.2.2.2.2.1, L.out.2.2.2.2.2, V.out.1, V.out.2, L.out.2.1⟩
             · as_aux_lemma =>
               rw [if_pos (by rfl)]; go_simp
               obtain ⟨x6, ba, hY, hb, S6, Zba⟩ := al_let x5
               have X6 : Hid (Only oF w4 x6) := X5.out.trans S6.out
               rw [← hY, ← hb]; clear hY hb
               refine hK.out _ _ (HKS.out _ X6.out) (fun hHeld => ?_); clear hK; (try simp only [Act.put, tA, tB, tC])
               refine wpAnyH_ready (rs := [15]) (by kernel_rfl) (by simp) (.cons rfl (fun K hK => ?_) .nil)
               rw [if_pos (by rfl)]; go_simp
               refine Calls.mono (HB.out _ (HOW.out.trans X6.out)) ?_; rintro e x7 ⟨m4, n4, rfl, hw, ho⟩
               have F4 : Hid (Vw x7 m4 (u8s LB)) := own_vw hw
               have S7 : Hid (Only oF x6 x7) := ho
               have X7 : Hid (Only oF w4 x7) := X6.out.trans ho
               clear hw ho
               refine hK.out _ _ (HKS.out _ X7.out) (fun hHeld => ?_); clear hK; (try simp only [Act.put, tA, tB, tC])
               refine wpAnyH_ready (rs := [19]) (by kernel_rfl) (by simp) (.cons rfl (fun K hK => ?_) .nil)
               rw [if_pos (by rfl)]; go_simp
               refine Calls.mono (HI2.out _ X7.out m3 n3 m4 n4 (F3.out.keep (S6.out.trans (S7.out))) (F4.out.keep (Only.refl oF _))) ?_; rintro e x8 ⟨p2, r2, s2, u2, rfl, hw, ho⟩
               have G2 : Hid _ := hw
               have S8 : Hid (Only oF x7 x8) := ho
               have X8 : Hid (Only oF w4 x8) := X7.out.trans ho
               clear hw ho
               refine hK.out _ _ (HKS.out _ X8.out) (fun hHeld => ?_); clear hK; (try simp only [Act.put, tA, tB, tC])
               have hlt : bb < ba := by rw [Zba.out.2]; exact ltz Zbb.out.1 (S4.out.trans (S5.out))
               have ne1 : ¬ ba = bb := by omega
               have ne2 : ¬ bb = ba := by omega
               have A : Hid _ := blk_keep (S7.out.trans (S8.out)) Zba.out.1
               have B : Hid _ := blk_keep (S4.out.trans (S5.out.trans (S6.out.trans (S7.out.trans (S8.out))))) Zbb.out.1
               obtain ⟨Y1, hY, L⟩ := hy_leaf (.slice p1 q s1) (.slice r1 (q + 1) u1) (.slice p2 q s2) (.slice r2 (q + 1) u2) X8.out A.out B.out (wz Zba.out.2 X5.out) (wz Zbb.out.2 X2.out) ne1
               have V : Hid _ := hy_rows (S5.out.trans (S6.out.trans (S7.out.trans (S8.out)))) (Only.refl oF _) (nz2 G1.out Zba.out.2 (S5.out)) (nz1 G1.out Zbb.out.1 (Only.refl oF _)) (nz1 G2.out Zba.out.1 (S7.out)) (nz1 G2.out Zbb.out.1 (S4.out.trans (S5.out.trans (S6.out.trans (S7.out))))) L.out.2.2.1 G1.out G2.out
               obtain ⟨z0, z1, zl, zf⟩ := blk_two' A.out
               refine wpAnyH_ready (rs := [22]) (by kernel_rfl) (by simp) (.cons rfl (fun K hK => ?_) .nil)
               rw [if_pos (by rfl)]; go_simp
               refine hK.out _ _ (by rw [← hY]; exact HKS.out _ L.out.1) (fun hHeld => ?_); clear hK z0 z1 zl zf; (try simp only [Act.put, tA, tB, tC])
               rw [← hY]
               obtain ⟨z0, z1, zl, zf⟩ := blk_two' L.out.2.2.2.1
               clear hY
               refine wpAnyH_ready (rs := [23]) (by kernel_rfl) (by simp) (.cons rfl (fun K hK => ?_) .nil)
               rw [if_pos (by rfl)]; go_simp
               refine hK.out _ _ (HKS.out _ L.out.2.1) (fun hHeld => ?_); clear hK z0 z1 zl zf; (try simp only [Act.put, tA, tB, tC])
               refine wpAnyH_done (by kernel_rfl) ?_ _; clear hHeld; go_wp2_with fail; go_meet
               exact ⟨ba, bb, p1, r1, p2, r2, s1, u1, s2, u2, _, rfl, rfl, rfl, L.out.2.2.2.2.1, L.out.2.2.2.2.2, V.out.1, V.out.2, L.out.2.1⟩
           · as_aux_lemma =>
             rw [if_pos (by rfl)]; go_simp
             obtain ⟨x5, ba, hY, hb, S5, Zba⟩ := al_let x4
             have X5 : Hid (Only oF w4 x5) := X4.out.trans S5.out
             rw [← hY, ← hb]; clear hY hb
             refine hK.out _ _ (HKS.out _ X5.out) (fun hHeld => ?_); clear hK; (try simp only [Act.put, tA, tB, tC])
             refine wpAnyH_ready (rs := [12]) (by kernel_rfl) (by simp) (.cons rfl (fun K hK => ?_) .nil)
             rw [if_pos (by rfl)]; go_simp
             refine Calls.mono (HM.out _ (HOW.out.trans X5.out)) ?_; rintro e x6 ⟨m3, n3, rfl, hw, ho⟩
             have F3 : Hid (Vw x6 m3 (u8s LM)) := own_vw hw
             have S6 : Hid (Only oF x5 x6) := ho
             have X6 : Hid (Only oF w4 x6) := X5.out.trans ho
             clear hw ho
             refine hK.out _ _ (HKS.out _ X6.out) (fun hHeld => ?_); clear hK; (try simp only [Act.put, tA, tB, tC])
             refine wpAnyH_ready (rs := [15]) (by kernel_rfl) (by simp) (.cons rfl (fun K hK => ?_) .nil)
             rw [if_pos (by rfl)]; go_simp
             refine Calls.mono (HB.out _ (HOW.out.trans X6.out)) ?_; rintro e x7 ⟨m4, n4, rfl, hw, ho⟩
             have F4 : Hid (Vw x7 m4 (u8s LB)) := own_vw hw
             have S7 : Hid (Only oF x6 x7) := ho
             have X7 : Hid (Only oF w4 x7) := X6.out.trans ho
             clear hw ho
             refine hK.out _ _ (HKS.out _ X7.out) (fun hHeld => ?_); clear hK; (try simp only [Act.put, tA, tB, tC])
             refine wpAnyH_ready (rs := [19]) (by kernel_rfl) (by simp) (.cons rfl (fun K hK => ?_) .nil)
             rw [if_pos (by rfl)]; go_simp
             refine Calls.mono (HI2.out _ X7.out m3 n3 m4 n4 (F3.out.keep (S7.out)) (F4.out.keep (Only.refl oF _))) ?_; rintro e x8 ⟨p2, r2, s2, u2, rfl, hw, ho⟩
             have G2 : Hid _ := hw
             have S8 : Hid (Only oF x7 x8) := ho
             have X8 : Hid (Only oF w4 x8) := X7.out.trans ho
             clear hw ho
             refine hK.out _ _ (HKS.out _ X8.out) (fun hHeld => ?_); clear hK; (try simp only [Act.put, tA, tB, tC])
             have hlt : bb < ba := by rw [Zba.out.2]; exact ltz Zbb.out.1 (S4.out)
             have ne1 : ¬ ba = bb := by omega
             have ne2 : ¬ bb = ba := by omega
             have A : Hid _ := blk_keep (S6.out.trans (S7.out.trans (S8.out))) Zba.out.1
             have B : Hid _ := blk_keep (S4.out.trans (S5.out.trans (S6.out.trans (S7.out.trans (S8.out))))) Zbb.out.1
             obtain ⟨Y1, hY, L⟩ := hy_leaf (.slice p1 q s1) (.slice r1 (q + 1) u1) (.slice p2 q s2) (.slice r2 (q + 1) u2) X8.out A.out B.out (wz Zba.out.2 X4.out) (wz Zbb.out.2 X2.out) ne1
             have V : Hid _ := hy_rows (S5.out.trans (S6.out.trans (S7.out.trans (S8.out)))) (Only.refl oF _) (nz2 G1.out Zba.out.2 (Only.refl oF _)) (nz1 G1.out Zbb.out.1 (Only.refl oF _)) (nz1 G2.out Zba.out.1 (S6.out.trans (S7.out))) (nz1 G2.out Zbb.out.1 (S4.out.trans (S5.out.trans (S6.out.trans (S7.out))))) L.out.2.2.1 G1.out G2.out
             obtain ⟨z0, z1, zl, zf⟩ := blk_two' A.out
             refine wpAnyH_ready (rs := [22]) (by kernel_rfl) (by simp) (.cons rfl (fun K hK => ?_) .nil)
             rw [if_pos (by rfl)]; go_simp
             refine hK.out _ _ (by rw [← hY]; exact HKS.out _ L.out.1) (fun hHeld => ?_); clear hK z0 z1 zl zf; (try simp only [Act.put, tA, tB, tC])
             rw [← hY]
             obtain ⟨z0, z1, zl, zf⟩ := blk_two' L.out.2.2.2.1
             clear hY
             refine wpAnyH_ready (rs := [23]) (by kernel_rfl) (by simp) (.cons rfl (fun K hK => ?_) .nil)
             rw [if_pos (by rfl)]; go_simp
             refine hK.out _ _ (HKS.out _ L.out.2.1) (fun hHeld => ?_); clear hK z0 z1 zl zf; (try simp only [Act.put, tA, tB, tC])
             refine wpAnyH_done (by kernel_rfl) ?_ _; clear hHeld; go_wp2_with fail; go_meet
             exact ⟨ba, bb, p1, r1, p2, r2, s1, u1, s2, u2, _, rfl, rfl, rfl, L.out.2.2.2.2.1, L.out.2.2.2.2.2, V.out.1, V.out.2, L.out.2.1⟩
         · as_aux_lemma =>
           rw [if_pos (by rfl)]; go_simp
           obtain ⟨x4, ba, hY, hb, S4, Zba⟩ := al_let x3
           have X4 : Hid (Only oF w4 x4) := X3.out.trans S4.out
           rw [← hY, ← hb]; clear hY hb
           refine hK.out _ _ (HKS.out _ X4.out) (fun hHeld => ?_); clear hK; (try simp only [Act.put, tA, tB, tC])
           refine wpAnyH_ready (rs := [8]) (by kernel_rfl) (by simp) (.cons rfl (fun K hK => ?_) .nil)
           rw [if_pos (by rfl)]; go_simp
           refine Calls.mono (HI1.out _ X4.out m0 n0 m1 n1 (F0.out.keep (S2.out.trans (S3.out.trans (S4.out)))) (F1.out.keep (S3.out.trans (S4.out)))) ?_; rintro e x5 ⟨p1, r1, s1, u1, rfl, hw, ho⟩
           have G1 : Hid _ := hw
           have S5 : Hid (Only oF x4 x5) := ho
           have X5 : Hid (Only oF w4 x5) := X4.out.trans ho
           clear hw ho
           refine hK.out _ _ (HKS.out _ X5.out) (fun hHeld => ?_); clear hK; (try simp only [Act.put, tA, tB, tC])
           refine wpAnyH_ready (rs := [12]) (by kernel_rfl) (by simp) (.cons rfl (fun K hK => ?_) .nil)
           rw [if_pos (by rfl)]; go_simp
           refine Calls.mono (HM.out _ (HOW.out.trans X5.out)) ?_; rintro e x6 ⟨m3, n3, rfl, hw, ho⟩
           have F3 : Hid (Vw x6 m3 (u8s LM)) := own_vw hw
           have S6 : Hid (Only oF x5 x6) := ho
           have X6 : Hid (Only oF w4 x6) := X5.out.trans ho
           clear hw ho
           refine hK.out _ _ (HKS.out _ X6.out) (fun hHeld => ?_); clear hK; (try simp only [Act.put, tA, tB, tC])
           refine wpAnyH_ready (rs := [15]) (by kernel_rfl) (by simp) (.cons rfl (fun K hK => ?_) .nil)
           rw [if_pos (by rfl)]; go_simp
           refine Calls.mono (HB.out _ (HOW.out.trans X6.out)) ?_; rintro e x7 ⟨m4, n4, rfl, hw, ho⟩
           have F4 : Hid (Vw x7 m4 (u8s LB)) := own_vw hw
           have S7 : Hid (Only oF x6 x7) := ho
           have X7 : Hid (Only oF w4 x7) := X6.out.trans ho
           clear hw ho
           refine hK.out _ _ (HKS.out _ X7.out) (fun hHeld => ?_); clear hK; (try simp only [Act.put, tA, tB, tC])
           refine wpAnyH_ready (rs := [19]) (by kernel_rfl) (by simp) (.cons rfl (fun K hK => ?_) .nil)
           rw [if_pos (by rfl)]; go_simp
           refine Calls.mono (HI2.out _ X7.out m3 n3 m4 n4 (F3.out.keep (S7.out)) (F4.out.keep (Only.refl oF _))) ?_; rintro e x8 ⟨p2, r2, s2, u2, rfl, hw, ho⟩
           have G2 : Hid _ := hw
           have S8 : Hid (Only oF x7 x8) := ho
           have X8 : Hid (Only oF w4 x8) := X7.out.trans ho
           clear hw ho
           refine hK.out _ _ (HKS.out _ X8.out) (fun hHeld => ?_); clear hK; (try simp only [Act.put, tA, tB, tC])
           have hlt : bb < ba := by rw [Zba.out.2]; exact ltz Zbb.out.1 (Only.refl oF _)
           have ne1 : ¬ ba = bb := by omega
           have ne2 : ¬ bb = ba := by omega
           have A : Hid _ := blk_keep (S5.out.trans (S6.out.trans (S7.out.trans (S8.out)))) Zba.out.1
           have B : Hid _ := blk_keep (S4.out.trans (S5.out.trans (S6.out.trans (S7.out.trans (S8.out))))) Zbb.out.1
           obtain ⟨Y1, hY, L⟩ := hy_leaf (.slice p1 q s1) (.slice r1 (q + 1) u1) (.slice p2 q s2) (.slice r2 (q + 1) u2) X8.out A.out B.out (wz Zba.out.2 X3.out) (wz Zbb.out.2 X2.out) ne1
           have V : Hid _ := hy_rows (S6.out.trans (S7.out.trans (S8.out))) (Only.refl oF _) (nz1 G1.out Zba.out.1 (Only.refl oF _)) (nz1 G1.out Zbb.out.1 (S4.out)) (nz1 G2.out Zba.out.1 (S5.out.trans (S6.out.trans (S7.out)))) (nz1 G2.out Zbb.out.1 (S4.out.trans (S5.out.trans (S6.out.trans (S7.out))))) L.out.2.2.1 G1.out G2.out
           obtain ⟨z0, z1, zl, zf⟩ := blk_two' A.out
           refine wpAnyH_ready (rs := [22]) (by kernel_rfl) (by simp) (.cons rfl (fun K hK => ?_) .nil)
           rw [if_pos (by rfl)]; go_simp
           refine hK.out _ _ (by rw [← hY]; exact HKS.out _ L.out.1) (fun hHeld => ?_); clear hK z0 z1 zl zf; (try simp only [Act.put, tA, tB, tC])
           rw [← hY]
           obtain ⟨z0, z1, zl, zf⟩ := blk_two' L.out.2.2.2.1
           clear hY
           refine wpAnyH_ready (rs := [23]) (by kernel_rfl) (by simp) (.cons rfl (fun K hK => ?_) .nil)
           rw [if_pos (by rfl)]; go_simp
           refine hK.out _ _ (HKS.out _ L.out.2.1) (fun hHeld => ?_); clear hK z0 z1 zl zf; (try simp only [Act.put, tA, tB, tC])
           refine wpAnyH_done (by kernel_rfl) ?_ _; clear hHeld; go_wp2_with fail; go_meet
           exact ⟨ba, bb, p1, r1, p2, r2, s1, u1, s2, u2, _, rfl, rfl, rfl, L.out.2.2.2.2.1, L.out.2.2.2.2.2, V.out.1, V.out.2, L.out.2.1⟩
     · as_aux_lemma =>
       rw [if_pos (by rfl)]; go_simp
       obtain ⟨x2, ba, hY, hb, S2, Zba⟩ := al_let x1
       have X2 : Hid (Only oF w4 x2) := X1.out.trans S2.out
       rw [← hY, ← hb]; clear hY hb
       refine hK.out _ _ (HKS.out _ X2.out) (fun hHeld => ?_); clear hK; (try simp only [Act.put, tA, tB, tC])
       refine wpAnyH_ready (rs := [6, 21]) (by kernel_rfl) (by simp) (.cons rfl (fun K hK => ?_) (.cons rfl (fun K hK => ?_) .nil))
       · as_aux_lemma =>
         rw [if_pos (by rfl)]; go_simp
         refine Calls.mono (HB.out _ (HOW.out.trans X2.out)) ?_; rintro e x3 ⟨m1, n1, rfl, hw, ho⟩
         have F1 : Hid (Vw x3 m1 (u8s LB)) := own_vw hw
         have S3 : Hid (Only oF x2 x3) := ho
         have X3 : Hid (Only oF w4 x3) := X2.out.trans ho
         clear hw ho
         refine hK.out _ _ (HKS.out _ X3.out) (fun hHeld => ?_); clear hK; (try simp only [Act.put, tA, tB, tC])
         refine wpAnyH_ready (rs := [8, 21]) (by kernel_rfl) (by simp) (.cons rfl (fun K hK => ?_) (.cons rfl (fun K hK => ?_) .nil))
         · as_aux_lemma =>
           rw [if_pos (by rfl)]; go_simp
           refine Calls.mono (HI1.out _ X3.out m0 n0 m1 n1 (F0.out.keep (S2.out.trans (S3.out))) (F1.out.keep (Only.refl oF _))) ?_; rintro e x4 ⟨p1, r1, s1, u1, rfl, hw, ho⟩
           have G1 : Hid _ := hw
           have S4 : Hid (Only oF x3 x4) := ho
           have X4 : Hid (Only oF w4 x4) := X3.out.trans ho
           clear hw ho
           refine hK.out _ _ (HKS.out _ X4.out) (fun hHeld => ?_); clear hK; (try simp only [Act.put, tA, tB, tC])
           refine wpAnyH_ready (rs := [12, 21]) (by kernel_rfl) (by simp) (.cons rfl (fun K hK => ?_) (.cons rfl (fun K hK => ?_) .nil))
           · as_aux_lemma =>
             rw [if_pos (by rfl)]; go_simp
             refine Calls.mono (HM.out _ (HOW.out.trans X4.out)) ?_; rintro e x5 ⟨m3, n3, rfl, hw, ho⟩
             have F3 : Hid (Vw x5 m3 (u8s LM)) := own_vw hw
             have S5 : Hid (Only oF x4 x5) := ho
             have X5 : Hid (Only oF w4 x5) := X4.out.trans ho
             clear hw ho
             refine hK.out _ _ (HKS.out _ X5.out) (fun hHeld => ?_); clear hK; (try simp only [Act.put, tA, tB, tC])
             refine wpAnyH_ready (rs := [15, 21]) (by kernel_rfl) (by simp) (.cons rfl (fun K hK => ?_) (.cons rfl (fun K hK => ?_) .nil))
             · as_aux_lemma =>
               rw [if_pos (by rfl)]; go_simp
               refine Calls.mono (HB.out _ (HOW.out.trans X5.out)) ?_; rintro e x6 ⟨m4, n4, rfl, hw, ho⟩
               have F4 : Hid (Vw x6 m4 (u8s LB)) := own_vw hw
               have S6 : Hid (Only oF x5 x6) := ho
               have X6 : Hid (Only oF w4 x6) := X5.out.trans ho
               clear hw ho
               refine hK.out _ _ (HKS.out _ X6.out) (fun hHeld => ?_); clear hK; (try simp only [Act.put, tA, tB, tC])
               refine wpAnyH_ready (rs := [19, 21]) (by kernel_rfl) (by simp) (.cons rfl (fun K hK => ?_) (.cons rfl (fun K hK => ?_) .nil))
               · as_aux_lemma =>
                 rw [if_pos (by rfl)]; go_simp
                 refine Calls.mono (HI2.out _ X6.out m3 n3 m4 n4 (F3.out.keep (S6.out)) (F4.out.keep (Only.refl oF _))) ?_; rintro e x7 ⟨p2, r2, s2, u2, rfl, hw, ho⟩
                 have G2 : Hid _ := hw
                 have S7 : Hid (Only oF x6 x7) := ho
                 have X7 : Hid (Only oF w4 x7) := X6.out.trans ho
                 clear hw ho
                 refine hK.out _ _ (HKS.out _ X7.out) (fun hHeld => ?_); clear hK; (try simp only [Act.put, tA, tB, tC])
                 refine wpAnyH_ready (rs := [21]) (by kernel_rfl) (by simp) (.cons rfl (fun K hK => ?_) .nil)
                 rw [if_pos (by rfl)]; go_simp
                 obtain ⟨x8, bb, hY, hb, S8, Zbb⟩ := al_let x7
                 have X8 : Hid (Only oF w4 x8) := X7.out.trans S8.out
                 rw [← hY, ← hb]; clear hY hb
                 refine hK.out _ _ (HKS.out _ X8.out) (fun hHeld => ?_); clear hK; (try simp only [Act.put, tA, tB, tC])
                 have hlt : ba < bb := by rw [Zbb.out.2]; exact ltz Zba.out.1 (S3.out.trans (S4.out.trans (S5.out.trans (S6.out.trans (S7.out)))))
                 have ne1 : ¬ ba = bb := by omega
                 have ne2 : ¬ bb = ba := by omega
                 have A : Hid _ := blk_keep (S3.out.trans (S4.out.trans (S5.out.trans (S6.out.trans (S7.out.trans (S8.out)))))) Zba.out.1
                 have B : Hid _ := blk_keep (Only.refl oF _) Zbb.out.1
                 obtain ⟨Y1, hY, L⟩ := hy_leaf (.slice p1 q s1) (.slice r1 (q + 1) u1) (.slice p2 q s2) (.slice r2 (q + 1) u2) X8.out A.out B.out (wz Zba.out.2 X1.out) (wz Zbb.out.2 X7.out) ne1
                 have V : Hid _ := hy_rows (S5.out.trans (S6.out.trans (S7.out.trans (S8.out)))) (S8.out) (nz1 G1.out Zba.out.1 (S3.out)) (nz2 G1.out Zbb.out.2 (S5.out.trans (S6.out.trans (S7.out)))) (nz1 G2.out Zba.out.1 (S3.out.trans (S4.out.trans (S5.out.trans (S6.out))))) (nz2 G2.out Zbb.out.2 (Only.refl oF _)) L.out.2.2.1 G1.out G2.out
                 obtain ⟨z0, z1, zl, zf⟩ := blk_two' A.out
                 refine wpAnyH_ready (rs := [22]) (by kernel_rfl) (by simp) (.cons rfl (fun K hK => ?_) .nil)
                 rw [if_pos (by rfl)]; go_simp
                 refine hK.out _ _ (by rw [← hY]; exact HKS.out _ L.out.1) (fun hHeld => ?_); clear hK z0 z1 zl zf; (try simp only [Act.put, tA, tB, tC])
                 rw [← hY]
                 obtain ⟨z0, z1, zl, zf⟩ := blk_two' L.out.2.2.2.1
                 clear hY
                 refine wpAnyH_ready (rs := [23]) (by kernel_rfl) (by simp) (.cons rfl (fun K hK => ?_) .nil)
                 rw [if_pos (by rfl)]; go_simp
                 refine hK.out _ _ (HKS.out _ L.out.2.1) (fun hHeld => ?_); clear hK z0 z1 zl zf; (try simp only [Act.put, tA, tB, tC])
                 refine wpAnyH_done (by kernel_rfl) ?_ _; clear hHeld; go_wp2_with fail; go_meet
                 exact ⟨ba, bb, p1, r1, p2, r2, s1, u1, s2, u2, _, rfl, rfl, rfl, L.out.2.2.2.2.1, L.out.2.2.2.2.2, V.out.1, V.out.2, L.out.2.1⟩
               · as_aux_lemma =>
                 rw [if_pos (by rfl)]; go_simp
                 obtain ⟨x7, bb, hY, hb, S7, Zbb⟩ := al_let x6
                 have X7 : Hid (Only oF w4 x7) := X6.out.trans S7.out
                 rw [← hY, ← hb]; clear hY hb
                 refine hK.out _ _ (HKS.out _ X7.out) (fun hHeld => ?_); clear hK; (try simp only [Act.put, tA, tB, tC])
                 refine wpAnyH_ready (rs := [19]) (by kernel_rfl) (by simp) (.cons rfl (fun K hK => ?_) .nil)
                 rw [if_pos (by rfl)]; go_simp
                 refine Calls.mono (HI2.out _ X7.out m3 n3 m4 n4 (F3.out.keep (S6.out.trans (S7.out))) (F4.out.keep (S7.out))) ?_; rintro e x8 ⟨p2, r2, s2, u2, rfl, hw, ho⟩
                 have G2 : Hid _ := hw
                 have S8 : Hid (Only oF x7 x8) := ho
                 have X8 : Hid (Only oF w4 x8) := X7.out.trans ho
                 clear hw ho
                 refine hK.out _ _ (HKS.out _ X8.out) (fun hHeld => ?_); clear hK; (try simp only [Act.put, tA, tB, tC])
                 have hlt : ba < bb := by rw [Zbb.out.2]; exact ltz Zba.out.1 (S3.out.trans (S4.out.trans (S5.out.trans (S6.out))))
                 have ne1 : ¬ ba = bb := by omega
                 have ne2 : ¬ bb = ba := by omega
                 have A : Hid _ := blk_keep (S3.out.trans (S4.out.trans (S5.out.trans (S6.out.trans (S7.out.trans (S8.out)))))) Zba.out.1
                 have B : Hid _ := blk_keep (S8.out) Zbb.out.1
                 obtain ⟨Y1, hY, L⟩ := hy_leaf (.slice p1 q s1) (.slice r1 (q + 1) u1) (.slice p2 q s2) (.slice r2 (q + 1) u2) X8.out A.out B.out (wz Zba.out.2 X1.out) (wz Zbb.out.2 X6.out) ne1
                 have V : Hid _ := hy_rows (S5.out.trans (S6.out.trans (S7.out.trans (S8.out)))) (Only.refl oF _) (nz1 G1.out Zba.out.1 (S3.out)) (nz2 G1.out Zbb.out.2 (S5.out.trans (S6.out))) (nz1 G2.out Zba.out.1 (S3.out.trans (S4.out.trans (S5.out.trans (S6.out.trans (S7.out)))))) (nz1 G2.out Zbb.out.1 (Only.refl oF _)) L.out.2.2.1 G1.out G2.out
                 obtain ⟨z0, z1, zl, zf⟩ := blk_two' A.out
                 refine wpAnyH_ready (rs := [22]) (by kernel_rfl) (by simp) (.cons rfl (fun K hK => ?_) .nil)
                 rw [if_pos (by rfl)]; go_simp
                 refine hK.out _ _ (by rw [← hY]; exact HKS.out _ L.out.1) (fun hHeld => ?_); clear hK z0 z1 zl zf; (try simp only [Act.put, tA, tB, tC])
                 rw [← hY]
                 obtain ⟨z0, z1, zl, zf⟩ := blk_two' L.out.2.2.2.1
                 clear hY
                 refine wpAnyH_ready (rs := [23]) (by kernel_rfl) (by simp) (.cons rfl (fun K hK => ?_) .nil)
                 rw [if_pos (by rfl)]; go_simp
                 refine hK.out _ _ (HKS.out _ L.out.2.1) (fun hHeld => ?_); clear hK z0 z1 zl zf; (try simp only [Act.put, tA, tB, tC])
                 refine wpAnyH_done (by kernel_rfl) ?_ _; clear hHeld; go_wp2_with fail; go_meet
                 exact ⟨ba, bb, p1, r1, p2, r2, s1, u1, s2, u2, _, rfl, rfl, rfl, L.out.2.2.2.2.1, L.out.2.2.2.2.2, V.out.1, V.out.2, L.out.2.1⟩
             · as_aux_lemma =>
               rw [if_pos (by rfl)]; go_simp
               obtain ⟨x6, bb, hY, hb, S6, Zbb⟩ := al_let x5
               have X6 : Hid (Only oF w4 x6) := X5.out.trans S6.out
               rw [← hY, ← hb]; clear hY hb
               refine hK.out _ _ (HKS.out _ X6.out) (fun hHeld => ?_); clear hK; (try simp only [Act.put, tA, tB, tC])
               refine wpAnyH_ready (rs := [15]) (by kernel_rfl) (by simp) (.cons rfl (fun K hK => ?_) .nil)
               rw [if_pos (by rfl)]; go_simp
               refine Calls.mono (HB.out _ (HOW.out.trans X6.out)) ?_; rintro e x7 ⟨m4, n4, rfl, hw, ho⟩
               have F4 : Hid (Vw x7 m4 (u8s LB)) := own_vw hw
               have S7 : Hid (Only oF x6 x7) := ho
               have X7 : Hid (Only oF w4 x7) := X6.out.trans ho
               clear hw ho
               refine hK.out _ _ (HKS.out _ X7.out) (fun hHeld => ?_); clear hK; (try simp only [Act.put, tA, tB, tC])
               refine wpAnyH_ready (rs := [19]) (by kernel_rfl) (by simp) (.cons rfl (fun K hK => ?_) .nil)
               rw [if_pos (by rfl)]; go_simp
               refine Calls.mono (HI2.out _ X7.out m3 n3 m4 n4 (F3.out.keep (S6.out.trans (S7.out))) (F4.out.keep (Only.refl oF _))) ?_; rintro e x8 ⟨p2, r2, s2, u2, rfl, hw, ho⟩
               have G2 : Hid _ := hw
               have S8 : Hid (Only oF x7 x8) := ho
               have X8 : Hid (Only oF w4 x8) := X7.out.trans ho
               clear hw ho
               refine hK.out _ _ (HKS.out _ X8.out) (fun hHeld => ?_); clear hK; (try simp only [Act.put, tA, tB, tC])
               have hlt : ba < bb := by rw [Zbb.out.2]; exact ltz Zba.out.1 (S3.out.trans (S4.out.trans (S5.out)))
               have ne1 : ¬ ba = bb := by omega
               have ne2 : ¬ bb = ba := by omega
               have A : Hid _ := blk_keep (S3.out.trans (S4.out.trans (S5.out.trans (S6.out.trans (S7.out.trans (S8.out)))))) Zba.out.1
               have B : Hid _ := blk_keep (S7.out.trans (S8.out)) Zbb.out.1
               obtain ⟨Y1, hY, L⟩ := hy_leaf (.slice p1 q s1) (.slice r1 (q + 1) u1) (.slice p2 q s2) (.slice r2 (q + 1) u2) X8.out A.out B.out (wz Zba.out.2 X1.out) (wz Zbb.out.2 X5.out) ne1
               have V : Hid _ := hy_rows (S5.out.trans (S6.out.trans (S7.out.trans (S8.out)))) (Only.refl oF _) (nz1 G1.out Zba.out.1 (S3.out)) (nz2 G1.out Zbb.out.2 (S5.out)) (nz1 G2.out Zba.out.1 (S3.out.trans (S4.out.trans (S5.out.trans (S6.out.trans (S7.out)))))) (nz1 G2.out Zbb.out.1 (S7.out)) L.out.2.2.1 G1.out G2.out
               obtain ⟨z0, z1, zl, zf⟩ := blk_two' A.out
               refine wpAnyH_ready (rs := [22]) (by kernel_rfl) (by simp) (.cons rfl (fun K hK => ?_) .nil)
               rw [if_pos (by rfl)]; go_simp
               refine hK.out _ _ (by rw [← hY]; exact HKS.out _ L.out.1) (fun hHeld => ?_); clear hK z0 z1 zl zf; (try simp only [Act.put, tA, tB, tC])
               rw [← hY]
               obtain ⟨z0, z1, zl, zf⟩ := blk_two' L.out.2.2.2.1
               clear hY
               refine wpAnyH_ready (rs := [23]) (by kernel_rfl) (by simp) (.cons rfl (fun K hK => ?_) .nil)
               rw [if_pos (by rfl)]; go_simp
               refine hK.out _ _ (HKS.out _ L.out.2.1) (fun hHeld => ?_); clear hK z0 z1 zl zf; (try simp only [Act.put, tA, tB, tC])
               refine wpAnyH_done (by kernel_rfl) ?_ _; clear hHeld; go_wp2_with fail; go_meet
               exact ⟨ba, bb, p1, r1, p2, r2, s1, u1, s2, u2, _, rfl, rfl, rfl, L.out.2.2.2.2.1, L.out.2.2.2.2.2, V.out.1, V.out.2, L.out.2.1⟩
           · as_aux_lemma =>
             rw [if_pos (by rfl)]; go_simp
             obtain ⟨x5, bb, hY, hb, S5, Zbb⟩ := al_let x4
             have X5 : Hid (Only oF w4 x5) := X4.out.trans S5.out
             rw [← hY, ← hb]; clear hY hb
             refine hK.out _ _ (HKS.out _ X5.out) (fun hHeld => ?_); clear hK; (try simp only [Act.put, tA, tB, tC])
             refine wpAnyH_ready (rs := [12]) (by kernel_rfl) (by simp) (.cons rfl (fun K hK => ?_) .nil)
             rw [if_pos (by rfl)]; go_simp
             refine Calls.mono (HM.out _ (HOW.out.trans X5.out)) ?_; rintro e x6 ⟨m3, n3, rfl, hw, ho⟩
             have F3 : Hid (Vw x6 m3 (u8s LM)) := own_vw hw
             have S6 : Hid (Only oF x5 x6) := ho
             have X6 : Hid (Only oF w4 x6) := X5.out.trans ho
             clear hw ho
             refine hK.out _ _ (HKS.out _ X6.out) (fun hHeld => ?_); clear hK; (try simp only [Act.put, tA, tB, tC])
             refine wpAnyH_ready (rs := [15]) (by kernel_rfl) (by simp) (.cons rfl (fun K hK => ?_) .nil)
             rw [if_pos (by rfl)]; go_simp
             refine Calls.mono (HB.out _ (HOW.out.trans X6.out)) ?_; rintro e x7 ⟨m4, n4, rfl, hw, ho⟩
             have F4 : Hid (Vw x7 m4 (u8s LB)) := own_vw hw
             have S7 : Hid (Only oF x6 x7) := ho
             have X7 : Hid (Only oF w4 x7) := X6.out.trans ho
             clear hw ho
             refine hK.out _ _ (HKS.out _ X7.out) (fun hHeld => ?_); clear hK; (try simp only [Act.put, tA, tB, tC])
             refine wpAnyH_ready (rs := [19]) (by kernel_rfl) (by simp) (.cons rfl (fun K hK => ?_) .nil)
             rw [if_pos (by rfl)]; go_simp
             refine Calls.mono (HI2.out _ X7.out m3 n3 m4 n4 (F3.out.keep (S7.out)) (F4.out.keep (Only.refl oF _))) ?_; rintro e x8 ⟨p2, r2, s2, u2, rfl, hw, ho⟩
             have G2 : Hid _ := hw
             have S8 : Hid (Only oF x7 x8) := ho
             have X8 : Hid (Only oF w4 x8) := X7.out.trans ho
             clear hw ho
             refine hK.out _ _ (HKS.out _ X8.out) (fun hHeld => ?_); clear hK; (try simp only [Act.put, tA, tB, tC])
             have hlt : ba < bb := by rw [Zbb.out.2]; exact ltz Zba.out.1 (S3.out.trans (S4.out))
             have ne1 : ¬ ba = bb := by omega
             have ne2 : ¬ bb = ba := by omega
             have A : Hid _ := blk_keep (S3.out.trans (S4.out.trans (S5.out.trans (S6.out.trans (S7.out.trans (S8.out)))))) Zba.out.1
             have B : Hid _ := blk_keep (S6.out.trans (S7.out.trans (S8.out))) Zbb.out.1
             obtain ⟨Y1, hY, L⟩ := hy_leaf (.slice p1 q s1) (.slice r1 (q + 1) u1) (.slice p2 q s2) (.slice r2 (q + 1) u2) X8.out A.out B.out (wz Zba.out.2 X1.out) (wz Zbb.out.2 X4.out) ne1
             have V : Hid _ := hy_rows (S5.out.trans (S6.out.trans (S7.out.trans (S8.out)))) (Only.refl oF _) (nz1 G1.out Zba.out.1 (S3.out)) (nz2 G1.out Zbb.out.2 (Only.refl oF _)) (nz1 G2.out Zba.out.1 (S3.out.trans (S4.out.trans (S5.out.trans (S6.out.trans (S7.out)))))) (nz1 G2.out Zbb.out.1 (S6.out.trans (S7.out))) L.out.2.2.1 G1.out G2.out
             obtain ⟨z0, z1, zl, zf⟩ := blk_two' A.out
             refine wpAnyH_ready (rs := [22]) (by kernel_rfl) (by simp) (.cons rfl (fun K hK => ?_) .nil)
             rw [if_pos (by rfl)]; go_simp
             refine hK.out _ _ (by rw [← hY]; exact HKS.out _ L.out.1) (fun hHeld => ?_); clear hK z0 z1 zl zf; (try simp only [Act.put, tA, tB, tC])
             rw [← hY]
             obtain ⟨z0, z1, zl, zf⟩ := blk_two' L.out.2.2.2.1
             clear hY
             refine wpAnyH_ready (rs := [23]) (by kernel_rfl) (by simp) (.cons rfl (fun K hK => ?_) .nil)
             rw [if_pos (by rfl)]; go_simp
             refine hK.out _ _ (HKS.out _ L.out.2.1) (fun hHeld => ?_); clear hK z0 z1 zl zf; (try simp only [Act.put, tA, tB, tC])
             refine wpAnyH_done (by kernel_rfl) ?_ _; clear hHeld; go_wp2_with fail; go_meet
             exact ⟨ba, bb, p1, r1, p2, r2, s1, u1, s2, u2, _, rfl, rfl, rfl, L.out.2.2.2.2.1, L.out.2.2.2.2.2, V.out.1, V.out.2, L.out.2.1⟩
         · as_aux_lemma =>
           rw [if_pos (by rfl)]; go_simp
           obtain ⟨x4, bb, hY, hb, S4, Zbb⟩ := al_let x3
           have X4 : Hid (Only oF w4 x4) := X3.out.trans S4.out
           rw [← hY, ← hb]; clear hY hb
           refine hK.out _ _ (HKS.out _ X4.out) (fun hHeld => ?_); clear hK; (try simp only [Act.put, tA, tB, tC])
           refine wpAnyH_ready (rs := [8]) (by kernel_rfl) (by simp) (.cons rfl (fun K hK => ?_) .nil)
           rw [if_pos (by rfl)]; go_simp
           refine Calls.mono (HI1.out _ X4.out m0 n0 m1 n1 (F0.out.keep (S2.out.trans (S3.out.trans (S4.out)))) (F1.out.keep (S4.out))) ?_; rintro e x5 ⟨p1, r1, s1, u1, rfl, hw, ho⟩
           have G1 : Hid _ := hw
           have S5 : Hid (Only oF x4 x5) := ho
           have X5 : Hid (Only oF w4 x5) := X4.out.trans ho
           clear hw ho
           refine hK.out _ _ (HKS.out _ X5.out) (fun hHeld => ?_); clear hK; (try simp only [Act.put, tA, tB, tC])
           refine wpAnyH_ready (rs := [12]) (by kernel_rfl) (by simp) (.cons rfl (fun K hK => ?_) .nil)
           rw [if_pos (by rfl)]; go_simp
           refine Calls.mono (HM.out _ (HOW.out.trans X5.out)) ?_; rintro e x6 ⟨m3, n3, rfl, hw, ho⟩
           have F3 : Hid (Vw x6 m3 (u8s LM)) := own_vw hw
           have S6 : Hid (Only oF x5 x6) := ho
           have X6 : Hid (Only oF w4 x6) := X5.out.trans ho
           clear hw ho
           refine hK.out _ _ (HKS.out _ X6.out) (fun hHeld => ?_); clear hK; (try simp only [Act.put, tA, tB, tC])
           refine wpAnyH_ready (rs := [15]) (by kernel_rfl) (by simp) (.cons rfl (fun K hK => ?_) .nil)
           rw [if_pos (by rfl)]; go_simp
           refine Calls.mono (HB.out _ (HOW.out.trans X6.out)) ?_; rintro e x7 ⟨m4, n4, rfl, hw, ho⟩
           have F4 : Hid (Vw x7 m4 (u8s LB)) := own_vw hw
           have S7 : Hid (Only oF x6 x7) := ho
           have X7 : Hid (Only oF w4 x7) := X6.out.trans ho
           clear hw ho
           refine hK.out _ _ (HKS.out _ X7.out) (fun hHeld => ?_); clear hK; (try simp only [Act.put, tA, tB, tC])
           refine wpAnyH_ready (rs := [19]) (by kernel_rfl) (by simp) (.cons rfl (fun K hK => ?_) .nil)
           rw [if_pos (by rfl)]; go_simp
           refine Calls.mono (HI2.out _ X7.out m3 n3 m4 n4 (F3.out.keep (S7.out)) (F4.out.keep (Only.refl oF _))) ?_; rintro e x8 ⟨p2, r2, s2, u2, rfl, hw, ho⟩
           have G2 : Hid _ := hw
           have S8 : Hid (Only oF x7 x8) := ho
           have X8 : Hid (Only oF w4 x8) := X7.out.trans ho
           clear hw ho
           refine hK.out _ _ (HKS.out _ X8.out) (fun hHeld => ?_); clear hK; (try simp only [Act.put, tA, tB, tC])
           have hlt : ba < bb := by rw [Zbb.out.2]; exact ltz Zba.out.1 (S3.out)
           have ne1 : ¬ ba = bb := by omega
           have ne2 : ¬ bb = ba := by omega
           have A : Hid _ := blk_keep (S3.out.trans (S4.out.trans (S5.out.trans (S6.out.trans (S7.out.trans (S8.out)))))) Zba.out.1
           have B : Hid _ := blk_keep (S5.out.trans (S6.out.trans (S7.out.trans (S8.out)))) Zbb.out.1
           obtain ⟨Y1, hY, L⟩ := hy_leaf (.slice p1 q s1) (.slice r1 (q + 1) u1) (.slice p2 q s2) (.slice r2 (q + 1) u2) X8.out A.out B.out (wz Zba.out.2 X1.out) (wz Zbb.out.2 X3.out) ne1
           have V : Hid _ := hy_rows (S6.out.trans (S7.out.trans (S8.out))) (Only.refl oF _) (nz1 G1.out Zba.out.1 (S3.out.trans (S4.out))) (nz1 G1.out Zbb.out.1 (Only.refl oF _)) (nz1 G2.out Zba.out.1 (S3.out.trans (S4.out.trans (S5.out.trans (S6.out.trans (S7.out)))))) (nz1 G2.out Zbb.out.1 (S5.out.trans (S6.out.trans (S7.out)))) L.out.2.2.1 G1.out G2.out
           obtain ⟨z0, z1, zl, zf⟩ := blk_two' A.out
           refine wpAnyH_ready (rs := [22]) (by kernel_rfl) (by simp) (.cons rfl (fun K hK => ?_) .nil)
           rw [if_pos (by rfl)]; go_simp
           refine hK.out _ _ (by rw [← hY]; exact HKS.out _ L.out.1) (fun hHeld => ?_); clear hK z0 z1 zl zf; (try simp only [Act.put, tA, tB, tC])
           rw [← hY]
           obtain ⟨z0, z1, zl, zf⟩ := blk_two' L.out.2.2.2.1
           clear hY
           refine wpAnyH_ready (rs := [23]) (by kernel_rfl) (by simp) (.cons rfl (fun K hK => ?_) .nil)
           rw [if_pos (by rfl)]; go_simp
           refine hK.out _ _ (HKS.out _ L.out.2.1) (fun hHeld => ?_); clear hK z0 z1 zl zf; (try simp only [Act.put, tA, tB, tC])
           refine wpAnyH_done (by kernel_rfl) ?_ _; clear hHeld; go_wp2_with fail; go_meet
           exact ⟨ba, bb, p1, r1, p2, r2, s1, u1, s2, u2, _, rfl, rfl, rfl, L.out.2.2.2.2.1, L.out.2.2.2.2.2, V.out.1, V.out.2, L.out.2.1⟩
       · as_aux_lemma =>
         rw [if_pos (by rfl)]; go_simp
         obtain ⟨x3, bb, hY, hb, S3, Zbb⟩ := al_let x2
         have X3 : Hid (Only oF w4 x3) := X2.out.trans S3.out
         rw [← hY, ← hb]; clear hY hb
         refine hK.out _ _ (HKS.out _ X3.out) (fun hHeld => ?_); clear hK; (try simp only [Act.put, tA, tB, tC])
         refine wpAnyH_ready (rs := [6]) (by kernel_rfl) (by simp) (.cons rfl (fun K hK => ?_) .nil)
         rw [if_pos (by rfl)]; go_simp
         refine Calls.mono (HB.out _ (HOW.out.trans X3.out)) ?_; rintro e x4 ⟨m1, n1, rfl, hw, ho⟩
         have F1 : Hid (Vw x4 m1 (u8s LB)) := own_vw hw
         have S4 : Hid (Only oF x3 x4) := ho
         have X4 : Hid (Only oF w4 x4) := X3.out.trans ho
         clear hw ho
         refine hK.out _ _ (HKS.out _ X4.out) (fun hHeld => ?_); clear hK; (try simp only [Act.put, tA, tB, tC])
         refine wpAnyH_ready (rs := [8]) (by kernel_rfl) (by simp) (.cons rfl (fun K hK => ?_) .nil)
         rw [if_pos (by rfl)]; go_simp
         refine Calls.mono (HI1.out _ X4.out m0 n0 m1 n1 (F0.out.keep (S2.out.trans (S3.out.trans (S4.out)))) (F1.out.keep (Only.refl oF _))) ?_; rintro e x5 ⟨p1, r1, s1, u1, rfl, hw, ho⟩
         have G1 : Hid _ := hw
         have S5 : Hid (Only oF x4 x5) := ho
         have X5 : Hid (Only oF w4 x5) := X4.out.trans ho
         clear hw ho
         refine hK.out _ _ (HKS.out _ X5.out) (fun hHeld => ?_); clear hK; (try simp only [Act.put, tA, tB, tC])
         refine wpAnyH_ready (rs := [12]) (by kernel_rfl) (by simp) (.cons rfl (fun K hK => ?_) .nil)
         rw [if_pos (by rfl)]; go_simp
         refine Calls.mono (HM.out _ (HOW.out.trans X5.out)) ?_; rintro e x6 ⟨m3, n3, rfl, hw, ho⟩
         have F3 : Hid (Vw x6 m3 (u8s LM)) := own_vw hw
         have S6 : Hid (Only oF x5 x6) := ho
         have X6 : Hid (Only oF w4 x6) := X5.out.trans ho
         clear hw ho
         refine hK.out _ _ (HKS.out _ X6.out) (fun hHeld => ?_); clear hK; (try simp only [Act.put, tA, tB, tC])
         refine wpAnyH_ready (rs := [15]) (by kernel_rfl) (by simp) (.cons rfl (fun K hK => ?_) .nil)
         rw [if_pos (by rfl)]; go_simp
         refine Calls.mono (HB.out _ (HOW.out.trans X6.out)) ?_; rintro e x7 ⟨m4, n4, rfl, hw, ho⟩
         have F4 : Hid (Vw x7 m4 (u8s LB)) := own_vw hw
         have S7 : Hid (Only oF x6 x7) := ho
         have X7 : Hid (Only oF w4 x7) := X6.out.trans ho
         clear hw ho
         refine hK.out _ _ (HKS.out _ X7.out) (fun hHeld => ?_); clear hK; (try simp only [Act.put, tA, tB, tC])
         refine wpAnyH_ready (rs := [19]) (by kernel_rfl) (by simp) (.cons rfl (fun K hK => ?_) .nil)
         rw [if_pos (by rfl)]; go_simp
         refine Calls.mono (HI2.out _ X7.out m3 n3 m4 n4 (F3.out.keep (S7.out)) (F4.out.keep (Only.refl oF _))) ?_; rintro e x8 ⟨p2, r2, s2, u2, rfl, hw, ho⟩
         have G2 : Hid _ := hw
         have S8 : Hid (Only oF x7 x8) := ho
         have X8 : Hid (Only oF w4 x8) := X7.out.trans ho
         clear hw ho
         refine hK.out _ _ (HKS.out _ X8.out) (fun hHeld => ?_); clear hK; (try simp only [Act.put, tA, tB, tC])
         have hlt : ba < bb := by rw [Zbb.out.2]; exact ltz Zba.out.1 (Only.refl oF _)
         have ne1 : ¬ ba = bb := by omega
         have ne2 : ¬ bb = ba := by omega
         have A : Hid _ := blk_keep (S3.out.trans (S4.out.trans (S5.out.trans (S6.out.trans (S7.out.trans (S8.out)))))) Zba.out.1
         have B : Hid _ := blk_keep (S4.out.trans (S5.out.trans (S6.out.trans (S7.out.trans (S8.out))))) Zbb.out.1
         obtain ⟨Y1, hY, L⟩ := hy_leaf (.slice p1 q s1) (.slice r1 (q + 1) u1) (.slice p2 q s2) (.slice r2 (q + 1) u2) X8.out A.out B.out (wz Zba.out.2 X1.out) (wz Zbb.out.2 X2.out) ne1
         have V : Hid _ := hy_rows (S6.out.trans (S7.out.trans (S8.out))) (Only.refl oF _) (nz1 G1.out Zba.out.1 (S3.out.trans (S4.out))) (nz1 G1.out Zbb.out.1 (S4.out)) (nz1 G2.out Zba.out.1 (S3.out.trans (S4.out.trans (S5.out.trans (S6.out.trans (S7.out)))))) (nz1 G2.out Zbb.out.1 (S4.out.trans (S5.out.trans (S6.out.trans (S7.out))))) L.out.2.2.1 G1.out G2.out
         obtain ⟨z0, z1, zl, zf⟩ := blk_two' A.out
         refine wpAnyH_ready (rs := [22]) (by kernel_rfl) (by simp) (.cons rfl (fun K hK => ?_) .nil)
         rw [if_pos (by rfl)]; go_simp
         refine hK.out _ _ (by rw [← hY]; exact HKS.out _ L.out.1) (fun hHeld => ?_); clear hK z0 z1 zl zf; (try simp only [Act.put, tA, tB, tC])
         rw [← hY]
         obtain ⟨z0, z1, zl, zf⟩ := blk_two' L.out.2.2.2.1
         clear hY
         refine wpAnyH_ready (rs := [23]) (by kernel_rfl) (by simp) (.cons rfl (fun K hK => ?_) .nil)
         rw [if_pos (by rfl)]; go_simp
         refine hK.out _ _ (HKS.out _ L.out.2.1) (fun hHeld => ?_); clear hK z0 z1 zl zf; (try simp only [Act.put, tA, tB, tC])
         refine wpAnyH_done (by kernel_rfl) ?_ _; clear hHeld; go_wp2_with fail; go_meet
         exact ⟨ba, bb, p1, r1, p2, r2, s1, u1, s2, u2, _, rfl, rfl, rfl, L.out.2.2.2.2.1, L.out.2.2.2.2.2, V.out.1, V.out.2, L.out.2.1⟩
     · as_aux_lemma =>
       rw [if_pos (by rfl)]; go_simp
       obtain ⟨x2, bb, hY, hb, S2, Zbb⟩ := al_let x1
       have X2 : Hid (Only oF w4 x2) := X1.out.trans S2.out
       rw [← hY, ← hb]; clear hY hb
       refine hK.out _ _ (HKS.out _ X2.out) (fun hHeld => ?_); clear hK; (try simp only [Act.put, tA, tB, tC])
       refine wpAnyH_ready (rs := [6, 20]) (by kernel_rfl) (by simp) (.cons rfl (fun K hK => ?_) (.cons rfl (fun K hK => ?_) .nil))
       · as_aux_lemma =>
         rw [if_pos (by rfl)]; go_simp
         refine Calls.mono (HB.out _ (HOW.out.trans X2.out)) ?_; rintro e x3 ⟨m1, n1, rfl, hw, ho⟩
         have F1 : Hid (Vw x3 m1 (u8s LB)) := own_vw hw
         have S3 : Hid (Only oF x2 x3) := ho
         have X3 : Hid (Only oF w4 x3) := X2.out.trans ho
         clear hw ho
         refine hK.out _ _ (HKS.out _ X3.out) (fun hHeld => ?_); clear hK; (try simp only [Act.put, tA, tB, tC])
         refine wpAnyH_ready (rs := [8, 20]) (by kernel_rfl) (by simp) (.cons rfl (fun K hK => ?_) (.cons rfl (fun K hK => ?_) .nil))
         · as_aux_lemma =>
           rw [if_pos (by rfl)]; go_simp
           refine Calls.mono (HI1.out _ X3.out m0 n0 m1 n1 (F0.out.keep (S2.out.trans (S3.out))) (F1.out.keep (Only.refl oF _))) ?_; rintro e x4 ⟨p1, r1, s1, u1, rfl, hw, ho⟩
           have G1 : Hid _ := hw
           have S4 : Hid (Only oF x3 x4) := ho
           have X4 : Hid (Only oF w4 x4) := X3.out.trans ho
           clear hw ho
           refine hK.out _ _ (HKS.out _ X4.out) (fun hHeld => ?_); clear hK; (try simp only [Act.put, tA, tB, tC])
           refine wpAnyH_ready (rs := [12, 20]) (by kernel_rfl) (by simp) (.cons rfl (fun K hK => ?_) (.cons rfl (fun K hK => ?_) .nil))
           · as_aux_lemma =>
             rw [if_pos (by rfl)]; go_simp
             refine Calls.mono (HM.out _ (HOW.out.trans X4.out)) ?_; rintro e x5 ⟨m3, n3, rfl, hw, ho⟩
             have F3 : Hid (Vw x5 m3 (u8s LM)) := own_vw hw
             have S5 : Hid (Only oF x4 x5) := ho
             have X5 : Hid (Only oF w4 x5) := X4.out.trans ho
             clear hw ho
             refine hK.out _ _ (HKS.out _ X5.out) (fun hHeld => ?_); clear hK; (try simp only [Act.put, tA, tB, tC])
             refine wpAnyH_ready (rs := [15, 20]) (by kernel_rfl) (by simp) (.cons rfl (fun K hK => ?_) (.cons rfl (fun K hK => ?_) .nil))
             · as_aux_lemma =>
               rw [if_pos (by rfl)]; go_simp
               refine Calls.mono (HB.out _ (HOW.out.trans X5.out)) ?_; rintro e x6 ⟨m4, n4, rfl, hw, ho⟩
               have F4 : Hid (Vw x6 m4 (u8s LB)) := own_vw hw
               have S6 : Hid (Only oF x5 x6) := ho
               have X6 : Hid (Only oF w4 x6) := X5.out.trans ho
               clear hw ho
               refine hK.out _ _ (HKS.out _ X6.out) (fun hHeld => ?_); clear hK; (try simp only [Act.put, tA, tB, tC])
               refine wpAnyH_ready (rs := [19, 20]) (by kernel_rfl) (by simp) (.cons rfl (fun K hK => ?_) (.cons rfl (fun K hK => ?_) .nil))
               · as_aux_lemma =>
                 rw [if_pos (by rfl)]; go_simp
                 refine Calls.mono (HI2.out _ X6.out m3 n3 m4 n4 (F3.out.keep (S6.out)) (F4.out.keep (Only.refl oF _))) ?_; rintro e x7 ⟨p2, r2, s2, u2, rfl, hw, ho⟩
                 have G2 : Hid _ := hw
                 have S7 : Hid (Only oF x6 x7) := ho
                 have X7 : Hid (Only oF w4 x7) := X6.out.trans ho
                 clear hw ho
                 refine hK.out _ _ (HKS.out _ X7.out) (fun hHeld => ?_); clear hK; (try simp only [Act.put, tA, tB, tC])
                 refine wpAnyH_ready (rs := [20]) (by kernel_rfl) (by simp) (.cons rfl (fun K hK => ?_) .nil)
                 rw [if_pos (by rfl)]; go_simp
                 obtain ⟨x8, ba, hY, hb, S8, Zba⟩ := al_let x7
                 have X8 : Hid (Only oF w4 x8) := X7.out.trans S8.out
                 rw [← hY, ← hb]; clear hY hb
                 refine hK.out _ _ (HKS.out _ X8.out) (fun hHeld => ?_); clear hK; (try simp only [Act.put, tA, tB, tC])
                 have hlt : bb < ba := by rw [Zba.out.2]; exact ltz Zbb.out.1 (S3.out.trans (S4.out.trans (S5.out.trans (S6.out.trans (S7.out)))))
                 have ne1 : ¬ ba = bb := by omega
                 have ne2 : ¬ bb = ba := by omega
                 have A : Hid _ := blk_keep (Only.refl oF _) Zba.out.1
                 have B : Hid _ := blk_keep (S3.out.trans (S4.out.trans (S5.out.trans (S6.out.trans (S7.out.trans (S8.out)))))) Zbb.out.1
                 obtain ⟨Y1, hY, L⟩ := hy_leaf (.slice p1 q s1) (.slice r1 (q + 1) u1) (.slice p2 q s2) (.slice r2 (q + 1) u2) X8.out A.out B.out (wz Zba.out.2 X7.out) (wz Zbb.out.2 X1.out) ne1
                 have V : Hid _ := hy_rows (S5.out.trans (S6.out.trans (S7.out.trans (S8.out)))) (S8.out) (nz2 G1.out Zba.out.2 (S5.out.trans (S6.out.trans (S7.out)))) (nz1 G1.out Zbb.out.1 (S3.out)) (nz2 G2.out Zba.out.2 (Only.refl oF _)) (nz1 G2.out Zbb.out.1 (S3.out.trans (S4.out.trans (S5.out.trans (S6.out))))) L.out.2.2.1 G1.out G2.out
                 obtain ⟨z0, z1, zl, zf⟩ := blk_two' A.out
                 refine wpAnyH_ready (rs := [22]) (by kernel_rfl) (by simp) (.cons rfl (fun K hK => ?_) .nil)
                 rw [if_pos (by rfl)]; go_simp
                 refine hK.out _ _ (by rw [← hY]; exact HKS.out _ L.out.1) (fun hHeld => ?_); clear hK z0 z1 zl zf; (try simp only [Act.put, tA, tB, tC])
                 rw [← hY]
                 obtain ⟨z0, z1, zl, zf⟩ := blk_two' L.out.2.2.2.1
                 clear hY
                 refine wpAnyH_ready (rs := [23]) (by kernel_rfl) (by simp) (.cons rfl (fun K hK => ?_) .nil)
                 rw [if_pos (by rfl)]; go_simp
                 refine hK.out _ _ (HKS.out _ L.out.2.1) (fun hHeld => ?_); clear hK z0 z1 zl zf; (try simp only [Act.put, tA, tB, tC])
                 refine wpAnyH_done (by kernel_rfl) ?_ _; clear hHeld; go_wp2_with fail; go_meet
                 exact ⟨ba, bb, p1, r1, p2, r2, s1, u1, s2, u2, _, rfl, rfl, rfl, L.out.2.2.2.2.1, L.out.2.2.2.2.2, V.out.1, V.out.2, L.out.2.1⟩
               · as_aux_lemma =>
                 rw [if_pos (by rfl)]; go_simp
                 obtain ⟨x7, ba, hY, hb, S7, Zba⟩ := al_let x6
                 have X7 : Hid (Only oF w4 x7) := X6.out.trans S7.out
                 rw [← hY, ← hb]; clear hY hb
                 refine hK.out _ _ (HKS.out _ X7.out) (fun hHeld => ?_); clear hK; (try simp only [Act.put, tA, tB, tC])
                 refine wpAnyH_ready (rs := [19]) (by kernel_rfl) (by simp) (.cons rfl (fun K hK => ?_) .nil)
                 rw [if_pos (by rfl)]; go_simp
                 refine Calls.mono (HI2.out _ X7.out m3 n3 m4 n4 (F3.out.keep (S6.out.trans (S7.out))) (F4.out.keep (S7.out))) ?_; rintro e x8 ⟨p2, r2, s2, u2, rfl, hw, ho⟩
                 have G2 : Hid _ := hw
                 have S8 : Hid (Only oF x7 x8) := ho
                 have X8 : Hid (Only oF w4 x8) := X7.out.trans ho
                 clear hw ho
                 refine hK.out _ _ (HKS.out _ X8.out) (fun hHeld => ?_); clear hK; (try simp only [Act.put, tA, tB, tC])
                 have hlt : bb < ba := by rw [Zba.out.2]; exact ltz Zbb.out.1 (S3.out.trans (S4.out.trans (S5.out.trans (S6.out))))
                 have ne1 : ¬ ba = bb := by omega
                 have ne2 : ¬ bb = ba := by omega
                 have A : Hid _ := blk_keep (S8.out) Zba.out.1
                 have B : Hid _ := blk_keep (S3.out.trans (S4.out.trans (S5.out.trans (S6.out.trans (S7.out.trans (S8.out)))))) Zbb.out.1
                 obtain ⟨Y1, hY, L⟩ := hy_leaf (.slice p1 q s1) (.slice r1 (q + 1) u1) (.slice p2 q s2) (.slice r2 (q + 1) u2) X8.out A.out B.out (wz Zba.out.2 X6.out) (wz Zbb.out.2 X1.out) ne1
                 have V : Hid _ := hy_rows (S5.out.trans (S6.out.trans (S7.out.trans (S8.out)))) (Only.refl oF _) (nz2 G1.out Zba.out.2 (S5.out.trans (S6.out))) (nz1 G1.out Zbb.out.1 (S3.out)) (nz1 G2.out Zba.out.1 (Only.refl oF _)) (nz1 G2.out Zbb.out.1 (S3.out.trans (S4.out.trans (S5.out.trans (S6.out.trans (S7.out)))))) L.out.2.2.1 G1.out G2.out
                 obtain ⟨z0, z1, zl, zf⟩ := blk_two' A.out
                 refine wpAnyH_ready (rs := [22]) (by kernel_rfl) (by simp) (.cons rfl (fun K hK => ?_) .nil)
                 rw [if_pos (by rfl)]; go_simp
                 refine hK.out _ _ (by rw [← hY]; exact HKS.out _ L.out.1) (fun hHeld => ?_); clear hK z0 z1 zl zf; (try simp only [Act.put, tA, tB, tC])
                 rw [← hY]
                 obtain ⟨z0, z1, zl, zf⟩ := blk_two' L.out.2.2.2.1
                 clear hY
                 refine wpAnyH_ready (rs := [23]) (by kernel_rfl) (by simp) (.cons rfl (fun K hK => ?_) .nil)
                 rw [if_pos (by rfl)]; go_simp
                 refine hK.out _ _ (HKS.out _ L.out.2.1) (fun hHeld => ?_); clear hK z0 z1 zl zf; (try simp only [Act.put, tA, tB, tC])
                 refine wpAnyH_done (by kernel_rfl) ?_ _; clear hHeld; go_wp2_with fail; go_meet
                 exact ⟨ba, bb, p1, r1, p2, r2, s1, u1, s2, u2, _, rfl, rfl, rfl, L.out.2.2.2.2.1, L.out.2.2.2.2.2, V.out.1, V.out.2, L.out.2.1⟩
             · as_aux_lemma =>
               rw [if_pos (by rfl)]; go_simp
               obtain ⟨x6, ba, hY, hb, S6, Zba⟩ := al_let x5
               have X6 : Hid (Only oF w4 x6) := X5.out.trans S6.out
               rw [← hY, ← hb]; clear hY hb
               refine hK.out _ _ (HKS.out _ X6.out) (fun hHeld => ?_); clear hK; (try simp only [Act.put, tA, tB, tC])
               refine wpAnyH_ready (rs := [15]) (by kernel_rfl) (by simp) (.cons rfl (fun K hK => ?_) .nil)
               rw [if_pos (by rfl)]; go_simp
               refine Calls.mono (HB.out _ (HOW.out.trans X6.out)) ?_; rintro e x7 ⟨m4, n4, rfl, hw, ho⟩
               have F4 : Hid (Vw x7 m4 (u8s LB)) := own_vw hw
               have S7 : Hid (Only oF x6 x7) := ho
               have X7 : Hid (Only oF w4 x7) := X6.out.trans ho
               clear hw ho
               refine hK.out _ _ (HKS.out _ X7.out) (fun hHeld => ?_); clear hK; (try simp only [Act.put, tA, tB, tC])
               refine wpAnyH_ready (rs := [19]) (by kernel_rfl) (by simp) (.cons rfl (fun K hK => ?_) .nil)
               rw [if_pos (by rfl)]; go_simp
               refine Calls.mono (HI2.out _ X7.out m3 n3 m4 n4 (F3.out.keep (S6.out.trans (S7.out))) (F4.out.keep (Only.refl oF _))) ?_; rintro e x8 ⟨p2, r2, s2, u2, rfl, hw, ho⟩
               have G2 : Hid _ := hw
               have S8 : Hid (Only oF x7 x8) := ho
               have X8 : Hid (Only oF w4 x8) := X7.out.trans ho
               clear hw ho
               refine hK.out _ _ (HKS.out _ X8.out) (fun hHeld => ?_); clear hK; (try simp only [Act.put, tA, tB, tC])
               have hlt : bb < ba := by rw [Zba.out.2]; exact ltz Zbb.out.1 (S3.out.trans (S4.out.trans (S5.out)))
               have ne1 : ¬ ba = bb := by omega
               have ne2 : ¬ bb = ba := by omega
               have A : Hid _ := blk_keep (S7.out.trans (S8.out)) Zba.out.1
               have B : Hid _ := blk_keep (S3.out.trans (S4.out.trans (S5.out.trans (S6.out.trans (S7.out.trans (S8.out)))))) Zbb.out.1
               obtain ⟨Y1, hY, L⟩ := hy_leaf (.slice p1 q s1) (.slice r1 (q + 1) u1) (.slice p2 q s2) (.slice r2 (q + 1) u2) X8.out A.out B.out (wz Zba.out.2 X5.out) (wz Zbb.out.2 X1.out) ne1
               have V : Hid _ := hy_rows (S5.out.trans (S6.out.trans (S7.out.trans (S8.out)))) (Only.refl oF _) (nz2 G1.out Zba.out.2 (S5.out)) (nz1 G1.out Zbb.out.1 (S3.out)) (nz1 G2.out Zba.out.1 (S7.out)) (nz1 G2.out Zbb.out.1 (S3.out.trans (S4.out.trans (S5.out.trans (S6.out.trans (S7.out)))))) L.out.2.2.1 G1.out G2.out
               obtain ⟨z0, z1, zl, zf⟩ := blk_two' A.out
               refine wpAnyH_ready (rs := [22]) (by kernel_rfl) (by simp) (.cons rfl (fun K hK => ?_) .nil)
               rw [if_pos (by rfl)]; go_simp
               refine hK.out _ _ (by rw [← hY]; exact HKS.out _ L.out.1) (fun hHeld => ?_); clear hK z0 z1 zl zf; (try simp only [Act.put, tA, tB, tC])
               rw [← hY]
               obtain ⟨z0, z1, zl, zf⟩ := blk_two' L.out.2.2.2.1
               clear hY
               refine wpAnyH_ready (rs := [23]) (by kernel_rfl) (by simp) (.cons rfl (fun K hK => ?_) .nil)
               rw [if_pos (by rfl)]; go_simp
               refine hK.out _ _ (HKS.out _ L.out.2.1) (fun hHeld => ?_); clear hK z0 z1 zl zf; (try simp only [Act.put, tA, tB, tC])
               refine wpAnyH_done (by kernel_rfl) ?_ _; clear hHeld; go_wp2_with fail; go_meet
               exact ⟨ba, bb, p1, r1, p2, r2, s1, u1, s2, u2, _, rfl, rfl, rfl, L.out.2.2.2.2.1, L.out.2.2.2.2.2, V.out.1, V.out.2, L.out.2.1⟩
           · as_aux_lemma =>
             rw [if_pos (by rfl)]; go_simp
             obtain ⟨x5, ba, hY, hb, S5, Zba⟩ := al_let x4
             have X5 : Hid (Only oF w4 x5) := X4.out.trans S5.out
             rw [← hY, ← hb]; clear hY hb
             refine hK.out _ _ (HKS.out _ X5.out) (fun hHeld => ?_); clear hK; (try simp only [Act.put, tA, tB, tC])
             refine wpAnyH_ready (rs := [12]) (by kernel_rfl) (by simp) (.cons rfl (fun K hK => ?_) .nil)
             rw [if_pos (by rfl)]; go_simp
             refine Calls.mono (HM.out _ (HOW.out.trans X5.out)) ?_; rintro e x6 ⟨m3, n3, rfl, hw, ho⟩
             have F3 : Hid (Vw x6 m3 (u8s LM)) := own_vw hw
             have S6 : Hid (Only oF x5 x6) := ho
             have X6 : Hid (Only oF w4 x6) := X5.out.trans ho
             clear hw ho
             refine hK.out _ _ (HKS.out _ X6.out) (fun hHeld => ?_); clear hK; (try simp only [Act.put, tA, tB, tC])
             refine wpAnyH_ready (rs := [15]) (by kernel_rfl) (by simp) (.cons rfl (fun K hK => ?_) .nil)
             rw [if_pos (by rfl)]; go_simp
             refine Calls.mono (HB.out _ (HOW.out.trans X6.out)) ?_; rintro e x7 ⟨m4, n4, rfl, hw, ho⟩
             have F4 : Hid (Vw x7 m4 (u8s LB)) := own_vw hw
             have S7 : Hid (Only oF x6 x7) := ho
             have X7 : Hid (Only oF w4 x7) := X6.out.trans ho
             clear hw ho
             refine hK.out _ _ (HKS.out _ X7.out) (fun hHeld => ?_); clear hK; (try simp only [Act.put, tA, tB, tC])
             refine wpAnyH_ready (rs := [19]) (by kernel_rfl) (by simp) (.cons rfl (fun K hK => ?_) .nil)
             rw [if_pos (by rfl)]; go_simp
             refine Calls.mono (HI2.out _ X7.out m3 n3 m4 n4 (F3.out.keep (S7.out)) (F4.out.keep (Only.refl oF _))) ?_; rintro e x8 ⟨p2, r2, s2, u2, rfl, hw, ho⟩
             have G2 : Hid _ := hw
             have S8 : Hid (Only oF x7 x8) := ho
             have X8 : Hid (Only oF w4 x8) := X7.out.trans ho
             clear hw ho
             refine hK.out _ _ (HKS.out _ X8.out) (fun hHeld => ?_); clear hK; (try simp only [Act.put, tA, tB, tC])
             have hlt : bb < ba := by rw [Zba.out.2]; exact ltz Zbb.out.1 (S3.out.trans (S4.out))
             have ne1 : ¬ ba = bb := by omega
             have ne2 : ¬ bb = ba := by omega
             have A : Hid _ := blk_keep (S6.out.trans (S7.out.trans (S8.out))) Zba.out.1
             have B : Hid _ := blk_keep (S3.out.trans (S4.out.trans (S5.out.trans (S6.out.trans (S7.out.trans (S8.out)))))) Zbb.out.1
             obtain ⟨Y1, hY, L⟩ := hy_leaf (.slice p1 q s1) (.slice r1 (q + 1) u1) (.slice p2 q s2) (.slice r2 (q + 1) u2) X8.out A.out B.out (wz Zba.out.2 X4.out) (wz Zbb.out.2 X1.out) ne1
             have V : Hid _ := hy_rows (S5.out.trans (S6.out.trans (S7.out.trans (S8.out)))) (Only.refl oF _) (nz2 G1.out Zba.out.2 (Only.refl oF _)) (nz1 G1.out Zbb.out.1 (S3.out)) (nz1 G2.out Zba.out.1 (S6.out.trans (S7.out))) (nz1 G2.out Zbb.out.1 (S3.out.trans (S4.out.trans (S5.out.trans (S6.out.trans (S7.out)))))) L.out.2.2.1 G1.out G2.out
             obtain ⟨z0, z1, zl, zf⟩ := blk_two' A.out
             refine wpAnyH_ready (rs := [22]) (by kernel_rfl) (by simp) (.cons rfl (fun K hK => ?_) .nil)
             rw [if_pos (by rfl)]; go_simp
             refine hK.out _ _ (by rw [← hY]; exact HKS.out _ L.out.1) (fun hHeld => ?_); clear hK z0 z1 zl zf; (try simp only [Act.put, tA, tB, tC])
             rw [← hY]
             obtain ⟨z0, z1, zl, zf⟩ := blk_two' L.out.2.2.2.1
             clear hY
             refine wpAnyH_ready (rs := [23]) (by kernel_rfl) (by simp) (.cons rfl (fun K hK => ?_) .nil)
             rw [if_pos (by rfl)]; go_simp
             refine hK.out _ _ (HKS.out _ L.out.2.1) (fun hHeld => ?_); clear hK z0 z1 zl zf; (try simp only [Act.put, tA, tB, tC])
             refine wpAnyH_done (by kernel_rfl) ?_ _; clear hHeld; go_wp2_with fail; go_meet
             exact ⟨ba, bb, p1, r1, p2, r2, s1, u1, s2, u2, _, rfl, rfl, rfl, L.out.2.2.2.2.1, L.out.2.2.2.2.2, V.out.1, V.out.2, L.out.2.1⟩
         · as_aux_lemma =>
           rw [if_pos (by rfl)]; go_simp
           obtain ⟨x4, ba, hY, hb, S4, Zba⟩ := al_let x3
           have X4 : Hid (Only oF w4 x4) := X3.out.trans S4.out
           rw [← hY, ← hb]; clear hY hb
           refine hK.out _ _ (HKS.out _ X4.out) (fun hHeld => ?_); clear hK; (try simp only [Act.put, tA, tB, tC])
           refine wpAnyH_ready (rs := [8]) (by kernel_rfl) (by simp) (.cons rfl (fun K hK => ?_) .nil)
           rw [if_pos (by rfl)]; go_simp
           refine Calls.mono (HI1.out _ X4.out m0 n0 m1 n1 (F0.out.keep (S2.out.trans (S3.out.trans (S4.out)))) (F1.out.keep (S4.out))) ?_; rintro e x5 ⟨p1, r1, s1, u1, rfl, hw, ho⟩
           have G1 : Hid _ := hw
           have S5 : Hid (Only oF x4 x5) := ho
           have X5 : Hid (Only oF w4 x5) := X4.out.trans ho
           clear hw ho
           refine hK.out _ _ (HKS.out _ X5.out) (fun hHeld => ?_); clear hK; (try simp only [Act.put, tA, tB, tC])
           refine wpAnyH_ready (rs := [12]) (by kernel_rfl) (by simp) (.cons rfl (fun K hK => ?_) .nil)
           rw [if_pos (by rfl)]; go_simp
           refine Calls.mono (HM.out _ (HOW.out.trans X5.out)) ?_; rintro e x6 ⟨m3, n3, rfl, hw, ho⟩
           have F3 : Hid (Vw x6 m3 (u8s LM)) := own_vw hw
           have S6 : Hid (Only oF x5 x6) := ho
           have X6 : Hid (Only oF w4 x6) := X5.out.trans ho
           clear hw ho
           refine hK.out _ _ (HKS.out _ X6.out) (fun hHeld => ?_); clear hK; (try simp only [Act.put, tA, tB, tC])
           refine wpAnyH_ready (rs := [15]) (by kernel_rfl) (by simp) (.cons rfl (fun K hK => ?_) .nil)
           rw [if_pos (by rfl)]; go_simp
           refine Calls.mono (HB.out _ (HOW.out.trans X6.out)) ?_; rintro e x7 ⟨m4, n4, rfl, hw, ho⟩
           have F4 : Hid (Vw x7 m4 (u8s LB)) := own_vw hw
           have S7 : Hid (Only oF x6 x7) := ho
           have X7 : Hid (Only oF w4 x7) := X6.out.trans ho
           clear hw ho
           refine hK.out _ _ (HKS.out _ X7.out) (fun hHeld => ?_); clear hK; (try simp only [Act.put, tA, tB, tC])
           refine wpAnyH_ready (rs := [19]) (by kernel_rfl) (by simp) (.cons rfl (fun K hK => ?_) .nil)
           rw [if_pos (by rfl)]; go_simp
           refine Calls.mono (HI2.out _ X7.out m3 n3 m4 n4 (F3.out.keep (S7.out)) (F4.out.keep (Only.refl oF _))) ?_; rintro e x8 ⟨p2, r2, s2, u2, rfl, hw, ho⟩
           have G2 : Hid _ := hw
           have S8 : Hid (Only oF x7 x8) := ho
           have X8 : Hid (Only oF w4 x8) := X7.out.trans ho
           clear hw ho
           refine hK.out _ _ (HKS.out _ X8.out) (fun hHeld => ?_); clear hK; (try simp only [Act.put, tA, tB, tC])
           have hlt : bb < ba := by rw [Zba.out.2]; exact ltz Zbb.out.1 (S3.out)
           have ne1 : ¬ ba = bb := by omega
           have ne2 : ¬ bb = ba := by omega
           have A : Hid _ := blk_keep (S5.out.trans (S6.out.trans (S7.out.trans (S8.out)))) Zba.out.1
           have B : Hid _ := blk_keep (S3.out.trans (S4.out.trans (S5.out.trans (S6.out.trans (S7.out.trans (S8.out)))))) Zbb.out.1
           obtain ⟨Y1, hY, L⟩ := hy_leaf (.slice p1 q s1) (.slice r1 (q + 1) u1) (.slice p2 q s2) (.slice r2 (q + 1) u2) X8.out A.out B.out (wz Zba.out.2 X3.out) (wz Zbb.out.2 X1.out) ne1
           have V : Hid _ := hy_rows (S6.out.trans (S7.out.trans (S8.out))) (Only.refl oF _) (nz1 G1.out Zba.out.1 (Only.refl oF _)) (nz1 G1.out Zbb.out.1 (S3.out.trans (S4.out))) (nz1 G2.out Zba.out.1 (S5.out.trans (S6.out.trans (S7.out)))) (nz1 G2.out Zbb.out.1 (S3.out.trans (S4.out.trans (S5.out.trans (S6.out.trans (S7.out)))))) L.out.2.2.1 G1.out G2.out
           obtain ⟨z0, z1, zl, zf⟩ := blk_two' A.out
           refine wpAnyH_ready (rs := [22]) (by kernel_rfl) (by simp) (.cons rfl (fun K hK => ?_) .nil)
           rw [if_pos (by rfl)]; go_simp
           refine hK.out _ _ (by rw [← hY]; exact HKS.out _ L.out.1) (fun hHeld => ?_); clear hK z0 z1 zl zf; (try simp only [Act.put, tA, tB, tC])
           rw [← hY]
           obtain ⟨z0, z1, zl, zf⟩ := blk_two' L.out.2.2.2.1
           clear hY
           refine wpAnyH_ready (rs := [23]) (by kernel_rfl) (by simp) (.cons rfl (fun K hK => ?_) .nil)
           rw [if_pos (by rfl)]; go_simp
           refine hK.out _ _ (HKS.out _ L.out.2.1) (fun hHeld => ?_); clear hK z0 z1 zl zf; (try simp only [Act.put, tA, tB, tC])
           refine wpAnyH_done (by kernel_rfl) ?_ _; clear hHeld; go_wp2_with fail; go_meet
           exact ⟨ba, bb, p1, r1, p2, r2, s1, u1, s2, u2, _, rfl, rfl, rfl, L.out.2.2.2.2.1, L.out.2.2.2.2.2, V.out.1, V.out.2, L.out.2.1⟩
       · as_aux_lemma =>
         rw [if_pos (by rfl)]; go_simp
         obtain ⟨x3, ba, hY, hb, S3, Zba⟩ := al_let x2
         have X3 : Hid (Only oF w4 x3) := X2.out.trans S3.out
         rw [← hY, ← hb]; clear hY hb
         refine hK.out _ _ (HKS.out _ X3.out) (fun hHeld => ?_); clear hK; (try simp only [Act.put, tA, tB, tC])
         refine wpAnyH_ready (rs := [6]) (by kernel_rfl) (by simp) (.cons rfl (fun K hK => ?_) .nil)
         rw [if_pos (by rfl)]; go_simp
         refine Calls.mono (HB.out _ (HOW.out.trans X3.out)) ?_; rintro e x4 ⟨m1, n1, rfl, hw, ho⟩
         have F1 : Hid (Vw x4 m1 (u8s LB)) := own_vw hw
         have S4 : Hid (Only oF x3 x4) := ho
         have X4 : Hid (Only oF w4 x4) := X3.out.trans ho
         clear hw ho
         refine hK.out _ _ (HKS.out _ X4.out) (fun hHeld => ?_); clear hK; (try simp only [Act.put, tA, tB, tC])
         refine wpAnyH_ready (rs := [8]) (by kernel_rfl) (by simp) (.cons rfl (fun K hK => ?_) .nil)
         rw [if_pos (by rfl)]; go_simp
         refine Calls.mono (HI1.out _ X4.out m0 n0 m1 n1 (F0.out.keep (S2.out.trans (S3.out.trans (S4.out)))) (F1.out.keep (Only.refl oF _))) ?_; rintro e x5 ⟨p1, r1, s1, u1, rfl, hw, ho⟩
         have G1 : Hid _ := hw
         have S5 : Hid (Only oF x4 x5) := ho
         have X5 : Hid (Only oF w4 x5) := X4.out.trans ho
         clear hw ho
         refine hK.out _ _ (HKS.out _ X5.out) (fun hHeld => ?_); clear hK; (try simp only [Act.put, tA, tB, tC])
         refine wpAnyH_ready (rs := [12]) (by kernel_rfl) (by simp) (.cons rfl (fun K hK => ?_) .nil)
         rw [if_pos (by rfl)]; go_simp
         refine Calls.mono (HM.out _ (HOW.out.trans X5.out)) ?_; rintro e x6 ⟨m3, n3, rfl, hw, ho⟩
         have F3 : Hid (Vw x6 m3 (u8s LM)) := own_vw hw
         have S6 : Hid (Only oF x5 x6) := ho
         have X6 : Hid (Only oF w4 x6) := X5.out.trans ho
         clear hw ho
         refine hK.out _ _ (HKS.out _ X6.out) (fun hHeld => ?_); clear hK; (try simp only [Act.put, tA, tB, tC])
         refine wpAnyH_ready (rs := [15]) (by kernel_rfl) (by simp) (.cons rfl (fun K hK => ?_) .nil)
         rw [if_pos (by rfl)]; go_simp
         refine Calls.mono (HB.out _ (HOW.out.trans X6.out)) ?_; rintro e x7 ⟨m4, n4, rfl, hw, ho⟩
         have F4 : Hid (Vw x7 m4 (u8s LB)) := own_vw hw
         have S7 : Hid (Only oF x6 x7) := ho
         have X7 : Hid (Only oF w4 x7) := X6.out.trans ho
         clear hw ho
         refine hK.out _ _ (HKS.out _ X7.out) (fun hHeld => ?_); clear hK; (try simp only [Act.put, tA, tB, tC])
         refine wpAnyH_ready (rs := [19]) (by kernel_rfl) (by simp) (.cons rfl (fun K hK => ?_) .nil)
         rw [if_pos (by rfl)]; go_simp
         refine Calls.mono (HI2.out _ X7.out m3 n3 m4 n4 (F3.out.keep (S7.out)) (F4.out.keep (Only.refl oF _))) ?_; rintro e x8 ⟨p2, r2, s2, u2, rfl, hw, ho⟩
         have G2 : Hid _ := hw
         have S8 : Hid (Only oF x7 x8) := ho
         have X8 : Hid (Only oF w4 x8) := X7.out.trans ho
         clear hw ho
         refine hK.out _ _ (HKS.out _ X8.out) (fun hHeld => ?_); clear hK; (try simp only [Act.put, tA, tB, tC])
         have hlt : bb < ba := by rw [Zba.out.2]; exact ltz Zbb.out.1 (Only.refl oF _)
         have ne1 : ¬ ba = bb := by omega
         have ne2 : ¬ bb = ba := by omega
         have A : Hid _ := blk_keep (S4.out.trans (S5.out.trans (S6.out.trans (S7.out.trans (S8.out))))) Zba.out.1
         have B : Hid _ := blk_keep (S3.out.trans (S4.out.trans (S5.out.trans (S6.out.trans (S7.out.trans (S8.out)))))) Zbb.out.1
         obtain ⟨Y1, hY, L⟩ := hy_leaf (.slice p1 q s1) (.slice r1 (q + 1) u1) (.slice p2 q s2) (.slice r2 (q + 1) u2) X8.out A.out B.out (wz Zba.out.2 X2.out) (wz Zbb.out.2 X1.out) ne1
         have V : Hid _ := hy_rows (S6.out.trans (S7.out.trans (S8.out))) (Only.refl oF _) (nz1 G1.out Zba.out.1 (S4.out)) (nz1 G1.out Zbb.out.1 (S3.out.trans (S4.out))) (nz1 G2.out Zba.out.1 (S4.out.trans (S5.out.trans (S6.out.trans (S7.out))))) (nz1 G2.out Zbb.out.1 (S3.out.trans (S4.out.trans (S5.out.trans (S6.out.trans (S7.out)))))) L.out.2.2.1 G1.out G2.out
         obtain ⟨z0, z1, zl, zf⟩ := blk_two' A.out
         refine wpAnyH_ready (rs := [22]) (by kernel_rfl) (by simp) (.cons rfl (fun K hK => ?_) .nil)
         rw [if_pos (by rfl)]; go_simp
         refine hK.out _ _ (by rw [← hY]; exact HKS.out _ L.out.1) (fun hHeld => ?_); clear hK z0 z1 zl zf; (try simp only [Act.put, tA, tB, tC])
         rw [← hY]
         obtain ⟨z0, z1, zl, zf⟩ := blk_two' L.out.2.2.2.1
         clear hY
         refine wpAnyH_ready (rs := [23]) (by kernel_rfl) (by simp) (.cons rfl (fun K hK => ?_) .nil)
         rw [if_pos (by rfl)]; go_simp
         refine hK.out _ _ (HKS.out _ L.out.2.1) (fun hHeld => ?_); clear hK z0 z1 zl zf; (try simp only [Act.put, tA, tB, tC])
         refine wpAnyH_done (by kernel_rfl) ?_ _; clear hHeld; go_wp2_with fail; go_meet
         exact ⟨ba, bb, p1, r1, p2, r2, s1, u1, s2, u2, _, rfl, rfl, rfl, L.out.2.2.2.2.1, L.out.2.2.2.2.2, V.out.1, V.out.2, L.out.2.1⟩
   · as_aux_lemma =>
     rw [if_pos (by rfl)]; go_simp
     obtain ⟨x1, ba, hY, hb, S1, Zba⟩ := al_let0 w4
     have X1 : Hid (Only oF w4 x1) := S1
     rw [← hY, ← hb]; clear hY hb
     refine hK.out _ _ (HKS.out _ X1.out) (fun hHeld => ?_); clear hK; (try simp only [Act.put, tA, tB, tC])
     refine wpAnyH_ready (rs := [3, 21]) (by kernel_rfl) (by simp) (.cons rfl (fun K hK => ?_) (.cons rfl (fun K hK => ?_) .nil))
     · as_aux_lemma =>
       rw [if_pos (by rfl)]; go_simp
       refine Calls.mono (HM.out _ (HOW.out.trans X1.out)) ?_; rintro e x2 ⟨m0, n0, rfl, hw, ho⟩
       have F0 : Hid (Vw x2 m0 (u8s LM)) := own_vw hw
       have S2 : Hid (Only oF x1 x2) := ho
       have X2 : Hid (Only oF w4 x2) := X1.out.trans ho
       clear hw ho
       refine hK.out _ _ (HKS.out _ X2.out) (fun hHeld => ?_); clear hK; (try simp only [Act.put, tA, tB, tC])
       refine wpAnyH_ready (rs := [6, 21]) (by kernel_rfl) (by simp) (.cons rfl (fun K hK => ?_) (.cons rfl (fun K hK => ?_) .nil))
       · as_aux_lemma =>
         rw [if_pos (by rfl)]; go_simp
         refine Calls.mono (HB.out _ (HOW.out.trans X2.out)) ?_; rintro e x3 ⟨m1, n1, rfl, hw, ho⟩
         have F1 : Hid (Vw x3 m1 (u8s LB)) := own_vw hw
         have S3 : Hid (Only oF x2 x3) := ho
         have X3 : Hid (Only oF w4 x3) := X2.out.trans ho
         clear hw ho
         refine hK.out _ _ (HKS.out _ X3.out) (fun hHeld => ?_); clear hK; (try simp only [Act.put, tA, tB, tC])
         refine wpAnyH_ready (rs := [8, 21]) (by kernel_rfl) (by simp) (.cons rfl (fun K hK => ?_) (.cons rfl (fun K hK => ?_) .nil))
         · as_aux_lemma =>
           rw [if_pos (by rfl)]; go_simp
           refine Calls.mono (HI1.out _ X3.out m0 n0 m1 n1 (F0.out.keep (S3.out)) (F1.out.keep (Only.refl oF _))) ?_; rintro e x4 ⟨p1, r1, s1, u1, rfl, hw, ho⟩
           have G1 : Hid _ := hw
           have S4 : Hid (Only oF x3 x4) := ho
           have X4 : Hid (Only oF w4 x4) := X3.out.trans ho
           clear hw ho
           refine hK.out _ _ (HKS.out _ X4.out) (fun hHeld => ?_); clear hK; (try simp only [Act.put, tA, tB, tC])
           refine wpAnyH_ready (rs := [12, 21]) (by kernel_rfl) (by simp) (.cons rfl (fun K hK => ?_) (.cons rfl (fun K hK => ?_) .nil))
           · as_aux_lemma =>
             rw [if_pos (by rfl)]; go_simp
             refine Calls.mono (HM.out _ (HOW.out.trans X4.out)) ?_; rintro e x5 ⟨m3, n3, rfl, hw, ho⟩
             have F3 : Hid (Vw x5 m3 (u8s LM)) := own_vw hw
             have S5 : Hid (Only oF x4 x5) := ho
             have X5 : Hid (Only oF w4 x5) := X4.out.trans ho
             clear hw ho
             refine hK.out _ _ (HKS.out _ X5.out) (fun hHeld => ?_); clear hK; (try simp only [Act.put, tA, tB, tC])
             refine wpAnyH_ready (rs := [15, 21]) (by kernel_rfl) (by simp) (.cons rfl (fun K hK => ?_) (.cons rfl (fun K hK => ?_) .nil))
             · as_aux_lemma =>
               rw [if_pos (by rfl)]; go_simp
               refine Calls.mono (HB.out _ (HOW.out.trans X5.out)) ?_; rintro e x6 ⟨m4, n4, rfl, hw, ho⟩
               have F4 : Hid (Vw x6 m4 (u8s LB)) := own_vw hw
               have S6 : Hid (Only oF x5 x6) := ho
               have X6 : Hid (Only oF w4 x6) := X5.out.trans ho
               clear hw ho
               refine hK.out _ _ (HKS.out _ X6.out) (fun hHeld => ?_); clear hK; (try simp only [Act.put, tA, tB, tC])
               refine wpAnyH_ready (rs := [19, 21]) (by kernel_rfl) (by simp) (.cons rfl (fun K hK => ?_) (.cons rfl (fun K hK => ?_) .nil))
               · as_aux_lemma =>
                 rw [if_pos (by rfl)]; go_simp
                 refine Calls.mono (HI2.out _ X6.out m3 n3 m4 n4 (F3.out.keep (S6.out)) (F4.out.keep (Only.refl oF _))) ?_; rintro e x7 ⟨p2, r2, s2, u2, rfl, hw, ho⟩
                 have G2 : Hid _ := hw
                 have S7 : Hid (Only oF x6 x7) := ho
                 have X7 : Hid (Only oF w4 x7) := X6.out.trans ho
                 clear hw ho
                 refine hK.out _ _ (HKS.out _ X7.out) (fun hHeld => ?_); clear hK; (try simp only [Act.put, tA, tB, tC])
                 refine wpAnyH_ready (rs := [21]) (by kernel_rfl) (by simp) (.cons rfl (fun K hK => ?_) .nil)
                 rw [if_pos (by rfl)]; go_simp
                 obtain ⟨x8, bb, hY, hb, S8, Zbb⟩ := al_let x7
                 have X8 : Hid (Only oF w4 x8) := X7.out.trans S8.out
                 rw [← hY, ← hb]; clear hY hb
                 refine hK.out _ _ (HKS.out _ X8.out) (fun hHeld => ?_); clear hK; (try simp only [Act.put, tA, tB, tC])
                 have hlt : ba < bb := by rw [Zbb.out.2]; exact ltz Zba.out.1 (S2.out.trans (S3.out.trans (S4.out.trans (S5.out.trans (S6.out.trans (S7.out))))))
                 have ne1 : ¬ ba = bb := by omega
                 have ne2 : ¬ bb = ba := by omega
                 have A : Hid _ := blk_keep (S2.out.trans (S3.out.trans (S4.out.trans (S5.out.trans (S6.out.trans (S7.out.trans (S8.out))))))) Zba.out.1
                 have B : Hid _ := blk_keep (Only.refl oF _) Zbb.out.1
                 obtain ⟨Y1, hY, L⟩ := hy_leaf (.slice p1 q s1) (.slice r1 (q + 1) u1) (.slice p2 q s2) (.slice r2 (q + 1) u2) X8.out A.out B.out (wz Zba.out.2 (Only.refl oF w4)) (wz Zbb.out.2 X7.out) ne1
                 have V : Hid _ := hy_rows (S5.out.trans (S6.out.trans (S7.out.trans (S8.out)))) (S8.out) (nz1 G1.out Zba.out.1 (S2.out.trans (S3.out))) (nz2 G1.out Zbb.out.2 (S5.out.trans (S6.out.trans (S7.out)))) (nz1 G2.out Zba.out.1 (S2.out.trans (S3.out.trans (S4.out.trans (S5.out.trans (S6.out)))))) (nz2 G2.out Zbb.out.2 (Only.refl oF _)) L.out.2.2.1 G1.out G2.out
                 obtain ⟨z0, z1, zl, zf⟩ := blk_two' A.out
                 refine wpAnyH_ready (rs := [22]) (by kernel_rfl) (by simp) (.cons rfl (fun K hK => ?_) .nil)
                 rw [if_pos (by rfl)]; go_simp
                 refine hK.out _ _ (by rw [← hY]; exact HKS.out _ L.out.1) (fun hHeld => ?_); clear hK z0 z1 zl zf; (try simp only [Act.put, tA, tB, tC])
                 rw [← hY]
                 obtain ⟨z0, z1, zl, zf⟩ := blk_two' L.out.2.2.2.1
                 clear hY
                 refine wpAnyH_ready (rs := [23]) (by kernel_rfl) (by simp) (.cons rfl (fun K hK => ?_) .nil)
                 rw [if_pos (by rfl)]; go_simp
                 refine hK.out _ _ (HKS.out _ L.out.2.1) (fun hHeld => ?_); clear hK z0 z1 zl zf; (try simp only [Act.put, tA, tB, tC])
                 refine wpAnyH_done (by kernel_rfl) ?_ _; clear hHeld; go_wp2_with fail; go_meet
                 exact ⟨ba, bb, p1, r1, p2, r2, s1, u1, s2, u2, _, rfl, rfl, rfl, L.out.2.2.2.2.1, L.out.2.2.2.2.2, V.out.1, V.out.2, L.out.2.1⟩
               · as_aux_lemma =>
                 rw [if_pos (by rfl)]; go_simp
                 obtain ⟨x7, bb, hY, hb, S7, Zbb⟩ := al_let x6
                 have X7 : Hid (Only oF w4 x7) := X6.out.trans S7.out
                 rw [← hY, ← hb]; clear hY hb
                 refine hK.out _ _ (HKS.out _ X7.out) (fun hHeld => ?_); clear hK; (try simp only [Act.put, tA, tB, tC])
                 refine wpAnyH_ready (rs := [19]) (by kernel_rfl) (by simp) (.cons rfl (fun K hK => ?_) .nil)
                 rw [if_pos (by rfl)]; go_simp
                 refine Calls.mono (HI2.out _ X7.out m3 n3 m4 n4 (F3.out.keep (S6.out.trans (S7.out))) (F4.out.keep (S7.out))) ?_; rintro e x8 ⟨p2, r2, s2, u2, rfl, hw, ho⟩
                 have G2 : Hid _ := hw
                 have S8 : Hid (Only oF x7 x8) := ho
                 have X8 : Hid (Only oF w4 x8) := X7.out.trans ho
                 clear hw ho
                 refine hK.out _ _ (HKS.out _ X8.out) (fun hHeld => ?_); clear hK; (try simp only [Act.put, tA, tB, tC])
                 have hlt : ba < bb := by rw [Zbb.out.2]; exact ltz Zba.out.1 (S2.out.trans (S3.out.trans (S4.out.trans (S5.out.trans (S6.out)))))
                 have ne1 : ¬ ba = bb := by omega
                 have ne2 : ¬ bb = ba := by omega
                 have A : Hid _ := blk_keep (S2.out.trans (S3.out.trans (S4.out.trans (S5.out.trans (S6.out.trans (S7.out.trans (S8.out))))))) Zba.out.1
                 have B : Hid _ := blk_keep (S8.out) Zbb.out.1
                 obtain ⟨Y1, hY, L⟩ := hy_leaf (.slice p1 q s1) (.slice r1 (q + 1) u1) (.slice p2 q s2) (.slice r2 (q + 1) u2) X8.out A.out B.out (wz Zba.out.2 (Only.refl oF w4)) (wz Zbb.out.2 X6.out) ne1
                 have V : Hid _ := hy_rows (S5.out.trans (S6.out.trans (S7.out.trans (S8.out)))) (Only.refl oF _) (nz1 G1.out Zba.out.1 (S2.out.trans (S3.out))) (nz2 G1.out Zbb.out.2 (S5.out.trans (S6.out))) (nz1 G2.out Zba.out.1 (S2.out.trans (S3.out.trans (S4.out.trans (S5.out.trans (S6.out.trans (S7.out))))))) (nz1 G2.out Zbb.out.1 (Only.refl oF _)) L.out.2.2.1 G1.out G2.out
                 obtain ⟨z0, z1, zl, zf⟩ := blk_two' A.out
                 refine wpAnyH_ready (rs := [22]) (by kernel_rfl) (by simp) (.cons rfl (fun K hK => ?_) .nil)
                 rw [if_pos (by rfl)]; go_simp
                 refine hK.out _ _ (by rw [← hY]; exact HKS.out _ L.out.1) (fun hHeld => ?_); clear hK z0 z1 zl zf; (try simp only [Act.put, tA, tB, tC])
                 rw [← hY]
                 obtain ⟨z0, z1, zl, zf⟩ := blk_two' L.out.2.2.2.1
                 clear hY
                 refine wpAnyH_ready (rs := [23]) (by kernel_rfl) (by simp) (.cons rfl (fun K hK => ?_) .nil)
                 rw [if_pos (by rfl)]; go_simp
                 refine hK.out _ _ (HKS.out _ L.out.2.1) (fun hHeld => ?_); clear hK z0 z1 zl zf; (try simp only [Act.put, tA, tB, tC])
                 refine wpAnyH_done (by kernel_rfl) ?_ _; clear hHeld; go_wp2_with fail; go_meet
                 exact ⟨ba, bb, p1, r1, p2, r2, s1, u1, s2, u2, _, rfl, rfl, rfl, L.out.2.2.2.2.1, L.out.2.2.2.2.2, V.out.1, V.out.2, L.out.2.1⟩
             · as_aux_lemma =>
               rw [if_pos (by rfl)]; go_simp
               obtain ⟨x6, bb, hY, hb, S6, Zbb⟩ := al_let x5
               have X6 : Hid (Only oF w4 x6) := X5.out.trans S6.out
               rw [← hY, ← hb]; clear hY hb
               refine hK.out _ _ (HKS.out _ X6.out) (fun hHeld => ?_); clear hK; (try simp only [Act.put, tA, tB, tC])
               refine wpAnyH_ready (rs := [15]) (by kernel_rfl) (by simp) (.cons rfl (fun K hK => ?_) .nil)
               rw [if_pos (by rfl)]; go_simp
               refine Calls.mono (HB.out _ (HOW.out.trans X6.out)) ?_; rintro e x7 ⟨m4, n4, rfl, hw, ho⟩
               have F4 : Hid (Vw x7 m4 (u8s LB)) := own_vw hw
               have S7 : Hid (Only oF x6 x7) := ho
               have X7 : Hid (Only oF w4 x7) := X6.out.trans ho
               clear hw ho
               refine hK.out _ _ (HKS.out _ X7.out) (fun hHeld => ?_); clear hK; (try simp only [Act.put, tA, tB, tC])
               refine wpAnyH_ready (rs := [19]) (by kernel_rfl) (by simp) (.cons rfl (fun K hK => ?_) .nil)
               rw [if_pos (by rfl)]; go_simp
               refine Calls.mono (HI2.out _ X7.out m3 n3 m4 n4 (F3.out.keep (S6.out.trans (S7.out))) (F4.out.keep (Only.refl oF _))) ?_; rintro e x8 ⟨p2, r2, s2, u2, rfl, hw, ho⟩
               have G2 : Hid _ := hw
               have S8 : Hid (Only oF x7 x8) := ho
               have X8 : Hid (Only oF w4 x8) := X7.out.trans ho
               clear hw ho
               refine hK.out _ _ (HKS.out _ X8.out) (fun hHeld => ?_); clear hK; (try simp only [Act.put, tA, tB, tC])
               have hlt : ba < bb := by rw [Zbb.out.2]; exact ltz Zba.out.1 (S2.out.trans (S3.out.trans (S4.out.trans (S5.out))))
               have ne1 : ¬ ba = bb := by omega
               have ne2 : ¬ bb = ba := by omega
               have A : Hid _ := blk_keep (S2.out.trans (S3.out.trans (S4.out.trans (S5.out.trans (S6.out.trans (S7.out.trans (S8.out))))))) Zba.out.1
               have B : Hid _ := blk_keep (S7.out.trans (S8.out)) Zbb.out.1
               obtain ⟨Y1, hY, L⟩ := hy_leaf (.slice p1 q s1) (.slice r1 (q + 1) u1) (.slice p2 q s2) (.slice r2 (q + 1) u2) X8.out A.out B.out (wz Zba.out.2 (Only.refl oF w4)) (wz Zbb.out.2 X5.out) ne1
               have V : Hid _ := hy_rows (S5.out.trans (S6.out.trans (S7.out.trans (S8.out)))) (Only.refl oF _) (nz1 G1.out Zba.out.1 (S2.out.trans (S3.out))) (nz2 G1.out Zbb.out.2 (S5.out)) (nz1 G2.out Zba.out.1 (S2.out.trans (S3.out.trans (S4.out.trans (S5.out.trans (S6.out.trans (S7.out))))))) (nz1 G2.out Zbb.out.1 (S7.out)) L.out.2.2.1 G1.out G2.out
               obtain ⟨z0, z1, zl, zf⟩ := blk_two' A.out
               refine wpAnyH_ready (rs := [22]) (by kernel_rfl) (by simp) (.cons rfl (fun K hK => ?_) .nil)
               rw [if_pos (by rfl)]; go_simp
               refine hK.out _ _ (by rw [← hY]; exact HKS.out _ L.out.1) (fun hHeld => ?_); clear hK z0 z1 zl zf; (try simp only [Act.put, tA, tB, tC])
               rw [← hY]
               obtain ⟨z0, z1, zl, zf⟩ := blk_two' L.out.2.2.2.1
               clear hY
               refine wpAnyH_ready (rs := [23]) (by kernel_rfl) (by simp) (.cons rfl (fun K hK => ?_) .nil)
               rw [if_pos (by rfl)]; go_simp
               refine hK.out _ _ (HKS.out _ L.out.2.1) (fun hHeld => ?_); clear hK z0 z1 zl zf; (try simp only [Act.put, tA, tB, tC])
               refine wpAnyH_done (by kernel_rfl) ?_ _; clear hHeld; go_wp2_with fail; go_meet
               exact ⟨ba, bb, p1, r1, p2, r2, s1, u1, s2, u2, _, rfl, rfl, rfl, L.out.2.2.2.2.1, L.out.2.2.2.2.2, V.out.1, V.out.2, L.out.2.1⟩
           · as_aux_lemma =>
             rw [if_pos (by rfl)]; go_simp
             obtain ⟨x5, bb, hY, hb, S5, Zbb⟩ := al_let x4
             have X5 : Hid (Only oF w4 x5) := X4.out.trans S5.out
             rw [← hY, ← hb]; clear hY hb
             refine hK.out _ _ (HKS.out _ X5.out) (fun hHeld => ?_); clear hK; (try simp only [Act.put, tA, tB, tC])
             refine wpAnyH_ready (rs := [12]) (by kernel_rfl) (by simp) (.cons rfl (fun K hK => ?_) .nil)
             rw [if_pos (by rfl)]; go_simp
             refine Calls.mono (HM.out _ (HOW.out.trans X5.out)) ?_; rintro e x6 ⟨m3, n3, rfl, hw, ho⟩
             have F3 : Hid (Vw x6 m3 (u8s LM)) := own_vw hw
             have S6 : Hid (Only oF x5 x6) := ho
             have X6 : Hid (Only oF w4 x6) := X5.out.trans ho
             clear hw ho
             refine hK.out _ _ (HKS.out _ X6.out) (fun hHeld => ?_); clear hK; (try simp only [Act.put, tA, tB, tC])
             refine wpAnyH_ready (rs := [15]) (by kernel_rfl) (by simp) (.cons rfl (fun K hK => ?_) .nil)
             rw [if_pos (by rfl)]; go_simp
             refine Calls.mono (HB.out _ (HOW.out.trans X6.out)) ?_; rintro e x7 ⟨m4, n4, rfl, hw, ho⟩
             have F4 : Hid (Vw x7 m4 (u8s LB)) := own_vw hw
             have S7 : Hid (Only oF x6 x7) := ho
             have X7 : Hid (Only oF w4 x7) := X6.out.trans ho
             clear hw ho
             refine hK.out _ _ (HKS.out _ X7.out) (fun hHeld => ?_); clear hK; (try simp only [Act.put, tA, tB, tC])
             refine wpAnyH_ready (rs := [19]) (by kernel_rfl) (by simp) (.cons rfl (fun K hK => ?_) .nil)
             rw [if_pos (by rfl)]; go_simp
             refine Calls.mono (HI2.out _ X7.out m3 n3 m4 n4 (F3.out.keep (S7.out)) (F4.out.keep (Only.refl oF _))) ?_; rintro e x8 ⟨p2, r2, s2, u2, rfl, hw, ho⟩
             have G2 : Hid _ := hw
             have S8 : Hid (Only oF x7 x8) := ho
             have X8 : Hid (Only oF w4 x8) := X7.out.trans ho
             clear hw ho
             refine hK.out _ _ (HKS.out _ X8.out) (fun hHeld => ?_); clear hK; (try simp only [Act.put, tA, tB, tC])
             have hlt : ba < bb := by rw [Zbb.out.2]; exact ltz Zba.out.1 (S2.out.trans (S3.out.trans (S4.out)))
             have ne1 : ¬ ba = bb := by omega
             have ne2 : ¬ bb = ba := by omega
             have A : Hid _ := blk_keep (S2.out.trans (S3.out.trans (S4.out.trans (S5.out.trans (S6.out.trans (S7.out.trans (S8.out))))))) Zba.out.1
             have B : Hid _ := blk_keep (S6.out.trans (S7.out.trans (S8.out))) Zbb.out.1
             obtain ⟨Y1, hY, L⟩ := hy_leaf (.slice p1 q s1) (.slice r1 (q + 1) u1) (.slice p2 q s2) (.slice r2 (q + 1) u2) X8.out A.out B.out (wz Zba.out.2 (Only.refl oF w4)) (wz Zbb.out.2 X4.out) ne1
             have V : Hid _ := hy_rows (S5.out.trans (S6.out.trans (S7.out.trans (S8.out)))) (Only.refl oF _) (nz1 G1.out Zba.out.1 (S2.out.trans (S3.out))) (nz2 G1.out Zbb.out.2 (Only.refl oF _)) (nz1 G2.out Zba.out.1 (S2.out.trans (S3.out.trans (S4.out.trans (S5.out.trans (S6.out.trans (S7.out))))))) (nz1 G2.out Zbb.out.1 (S6.out.trans (S7.out))) L.out.2.2.1 G1.out G2.out
             obtain ⟨z0, z1, zl, zf⟩ := blk_two' A.out
             refine wpAnyH_ready (rs := [22]) (by kernel_rfl) (by simp) (.cons rfl (fun K hK => ?_) .nil)
             rw [if_pos (by rfl)]; go_simp
             refine hK.out _ _ (by rw [← hY]; exact HKS.out _ L.out.1) (fun hHeld => ?_); clear hK z0 z1 zl zf; (try simp only [Act.put, tA, tB, tC])
             rw [← hY]
             obtain ⟨z0, z1, zl, zf⟩ := blk_two' L.out.2.2.2.1
             clear hY
             refine wpAnyH_ready (rs := [23]) (by kernel_rfl) (by simp) (.cons rfl (fun K hK => ?_) .nil)
             rw [if_pos (by rfl)]; go_simp
             refine hK.out _ _ (HKS.out _ L.out.2.1) (fun hHeld => ?_); clear hK z0 z1 zl zf; (try simp only [Act.put, tA, tB, tC])
             refine wpAnyH_done (by kernel_rfl) ?_ _; clear hHeld; go_wp2_with fail; go_meet
             exact ⟨ba, bb, p1, r1, p2, r2, s1, u1, s2, u2, _, rfl, rfl, rfl, L.out.2.2.2.2.1, L.out.2.2.2.2.2, V.out.1, V.out.2, L.out.2.1⟩
         · as_aux_lemma =>
           rw [if_pos (by rfl)]; go_simp
           obtain ⟨x4, bb, hY, hb, S4, Zbb⟩ := al_let x3
           have X4 : Hid (Only oF w4 x4) := X3.out.trans S4.out
           rw [← hY, ← hb]; clear hY hb
           refine hK.out _ _ (HKS.out _ X4.out) (fun hHeld => ?_); clear hK; (try simp only [Act.put, tA, tB, tC])
           refine wpAnyH_ready (rs := [8]) (by kernel_rfl) (by simp) (.cons rfl (fun K hK => ?_) .nil)
           rw [if_pos (by rfl)]; go_simp
           refine Calls.mono (HI1.out _ X4.out m0 n0 m1 n1 (F0.out.keep (S3.out.trans (S4.out))) (F1.out.keep (S4.out))) ?_; rintro e x5 ⟨p1, r1, s1, u1, rfl, hw, ho⟩
           have G1 : Hid _ := hw
           have S5 : Hid (Only oF x4 x5) := ho
           have X5 : Hid (Only oF w4 x5) := X4.out.trans ho
           clear hw ho
           refine hK.out _ _ (HKS.out _ X5.out) (fun hHeld => ?_); clear hK; (try simp only [Act.put, tA, tB, tC])
           refine wpAnyH_ready (rs := [12]) (by kernel_rfl) (by simp) (.cons rfl (fun K hK => ?_) .nil)
           rw [if_pos (by rfl)]; go_simp
           refine Calls.mono (HM.out _ (HOW.out.trans X5.out)) ?_; rintro e x6 ⟨m3, n3, rfl, hw, ho⟩
           have F3 : Hid (Vw x6 m3 (u8s LM)) := own_vw hw
           have S6 : Hid (Only oF x5 x6) := ho
           have X6 : Hid (Only oF w4 x6) := X5.out.trans ho
           clear hw ho
           refine hK.out _ _ (HKS.out _ X6.out) (fun hHeld => ?_); clear hK; (try simp only [Act.put, tA, tB, tC])
           refine wpAnyH_ready (rs := [15]) (by kernel_rfl) (by simp) (.cons rfl (fun K hK => ?_) .nil)
           rw [if_pos (by rfl)]; go_simp
           refine Calls.mono (HB.out _ (HOW.out.trans X6.out)) ?_; rintro e x7 ⟨m4, n4, rfl, hw, ho⟩
           have F4 : Hid (Vw x7 m4 (u8s LB)) := own_vw hw
           have S7 : Hid (Only oF x6 x7) := ho
           have X7 : Hid (Only oF w4 x7) := X6.out.trans ho
           clear hw ho
           refine hK.out _ _ (HKS.out _ X7.out) (fun hHeld => ?_); clear hK; (try simp only [Act.put, tA, tB, tC])
           refine wpAnyH_ready (rs := [19]) (by kernel_rfl) (by simp) (.cons rfl (fun K hK => ?_) .nil)
           rw [if_pos (by rfl)]; go_simp
           refine Calls.mono (HI2.out _ X7.out m3 n3 m4 n4 (F3.out.keep (S7.out)) (F4.out.keep (Only.refl oF _))) ?_; rintro e x8 ⟨p2, r2, s2, u2, rfl, hw, ho⟩
           have G2 : Hid _ := hw
           have S8 : Hid (Only oF x7 x8) := ho
           have X8 : Hid (Only oF w4 x8) := X7.out.trans ho
           clear hw ho
           refine hK.out _ _ (HKS.out _ X8.out) (fun hHeld => ?_); clear hK; (try simp only [Act.put, tA, tB, tC])
           have hlt : ba < bb := by rw [Zbb.out.2]; exact ltz Zba.out.1 (S2.out.trans (S3.out))
           have ne1 : ¬ ba = bb := by omega
           have ne2 : ¬ bb = ba := by omega
           have A : Hid _ := blk_keep (S2.out.trans (S3.out.trans (S4.out.trans (S5.out.trans (S6.out.trans (S7.out.trans (S8.out))))))) Zba.out.1
           have B : Hid _ := blk_keep (S5.out.trans (S6.out.trans (S7.out.trans (S8.out)))) Zbb.out.1
           obtain ⟨Y1, hY, L⟩ := hy_leaf (.slice p1 q s1) (.slice r1 (q + 1) u1) (.slice p2 q s2) (.slice r2 (q + 1) u2) X8.out A.out B.out (wz Zba.out.2 (Only.refl oF w4)) (wz Zbb.out.2 X3.out) ne1
           have V : Hid _ := hy_rows (S6.out.trans (S7.out.trans (S8.out))) (Only.refl oF _) (nz1 G1.out Zba.out.1 (S2.out.trans (S3.out.trans (S4.out)))) (nz1 G1.out Zbb.out.1 (Only.refl oF _)) (nz1 G2.out Zba.out.1 (S2.out.trans (S3.out.trans (S4.out.trans (S5.out.trans (S6.out.trans (S7.out))))))) (nz1 G2.out Zbb.out.1 (S5.out.trans (S6.out.trans (S7.out)))) L.out.2.2.1 G1.out G2.out
           obtain ⟨z0, z1, zl, zf⟩ := blk_two' A.out
           refine wpAnyH_ready (rs := [22]) (by kernel_rfl) (by simp) (.cons rfl (fun K hK => ?_) .nil)
           rw [if_pos (by rfl)]; go_simp
           refine hK.out _ _ (by rw [← hY]; exact HKS.out _ L.out.1) (fun hHeld => ?_); clear hK z0 z1 zl zf; (try simp only [Act.put, tA, tB, tC])
           rw [← hY]
           obtain ⟨z0, z1, zl, zf⟩ := blk_two' L.out.2.2.2.1
           clear hY
           refine wpAnyH_ready (rs := [23]) (by kernel_rfl) (by simp) (.cons rfl (fun K hK => ?_) .nil)
           rw [if_pos (by rfl)]; go_simp
           refine hK.out _ _ (HKS.out _ L.out.2.1) (fun hHeld => ?_); clear hK z0 z1 zl zf; (try simp only [Act.put, tA, tB, tC])
           refine wpAnyH_done (by kernel_rfl) ?_ _; clear hHeld; go_wp2_with fail; go_meet
           exact ⟨ba, bb, p1, r1, p2, r2, s1, u1, s2, u2, _, rfl, rfl, rfl, L.out.2.2.2.2.1, L.out.2.2.2.2.2, V.out.1, V.out.2, L.out.2.1⟩
       · as_aux_lemma =>
         rw [if_pos (by rfl)]; go_simp
         obtain ⟨x3, bb, hY, hb, S3, Zbb⟩ := al_let x2
         have X3 : Hid (Only oF w4 x3) := X2.out.trans S3.out
         rw [← hY, ← hb]; clear hY hb
         refine hK.out _ _ (HKS.out _ X3.out) (fun hHeld => ?_); clear hK; (try simp only [Act.put, tA, tB, tC])
         refine wpAnyH_ready (rs := [6]) (by kernel_rfl) (by simp) (.cons rfl (fun K hK => ?_) .nil)
         rw [if_pos (by rfl)]; go_simp
         refine Calls.mono (HB.out _ (HOW.out.trans X3.out)) ?_; rintro e x4 ⟨m1, n1, rfl, hw, ho⟩
         have F1 : Hid (Vw x4 m1 (u8s LB)) := own_vw hw
         have S4 : Hid (Only oF x3 x4) := ho
         have X4 : Hid (Only oF w4 x4) := X3.out.trans ho
         clear hw ho
         refine hK.out _ _ (HKS.out _ X4.out) (fun hHeld => ?_); clear hK; (try simp only [Act.put, tA, tB, tC])
         refine wpAnyH_ready (rs := [8]) (by kernel_rfl) (by simp) (.cons rfl (fun K hK => ?_) .nil)
         rw [if_pos (by rfl)]; go_simp
         refine Calls.mono (HI1.out _ X4.out m0 n0 m1 n1 (F0.out.keep (S3.out.trans (S4.out))) (F1.out.keep (Only.refl oF _))) ?_; rintro e x5 ⟨p1, r1, s1, u1, rfl, hw, ho⟩
         have G1 : Hid _ := hw
         have S5 : Hid (Only oF x4 x5) := ho
         have X5 : Hid (Only oF w4 x5) := X4.out.trans ho
         clear hw ho
         refine hK.out _ _ (HKS.out _ X5.out) (fun hHeld => ?_); clear hK; (try simp only [Act.put, tA, tB, tC])
         refine wpAnyH_ready (rs := [12]) (by kernel_rfl) (by simp) (.cons rfl (fun K hK => ?_) .nil)
         rw [if_pos (by rfl)]; go_simp
         refine Calls.mono (HM.out _ (HOW.out.trans X5.out)) ?_; rintro e x6 ⟨m3, n3, rfl, hw, ho⟩
         have F3 : Hid (Vw x6 m3 (u8s LM)) := own_vw hw
         have S6 : Hid (Only oF x5 x6) := ho
         have X6 : Hid (Only oF w4 x6) := X5.out.trans ho
         clear hw ho
         refine hK.out _ _ (HKS.out _ X6.out) (fun hHeld => ?_); clear hK; (try simp only [Act.put, tA, tB, tC])
         refine wpAnyH_ready (rs := [15]) (by kernel_rfl) (by simp) (.cons rfl (fun K hK => ?_) .nil)
         rw [if_pos (by rfl)]; go_simp
         refine Calls.mono (HB.out _ (HOW.out.trans X6.out)) ?_; rintro e x7 ⟨m4, n4, rfl, hw, ho⟩
         have F4 : Hid (Vw x7 m4 (u8s LB)) := own_vw hw
         have S7 : Hid (Only oF x6 x7) := ho
         have X7 : Hid (Only oF w4 x7) := X6.out.trans ho
         clear hw ho
         refine hK.out _ _ (HKS.out _ X7.out) (fun hHeld => ?_); clear hK; (try simp only [Act.put, tA, tB, tC])
         refine wpAnyH_ready (rs := [19]) (by kernel_rfl) (by simp) (.cons rfl (fun K hK => ?_) .nil)
         rw [if_pos (by rfl)]; go_simp
         refine Calls.mono (HI2.out _ X7.out m3 n3 m4 n4 (F3.out.keep (S7.out)) (F4.out.keep (Only.refl oF _))) ?_; rintro e x8 ⟨p2, r2, s2, u2, rfl, hw, ho⟩
         have G2 : Hid _ := hw
         have S8 : Hid (Only oF x7 x8) := ho
         have X8 : Hid (Only oF w4 x8) := X7.out.trans ho
         clear hw ho
         refine hK.out _ _ (HKS.out _ X8.out) (fun hHeld => ?_); clear hK; (try simp only [Act.put, tA, tB, tC])
         have hlt : ba < bb := by rw [Zbb.out.2]; exact ltz Zba.out.1 (S2.out)
         have ne1 : ¬ ba = bb := by omega
         have ne2 : ¬ bb = ba := by omega
         have A : Hid _ := blk_keep (S2.out.trans (S3.out.trans (S4.out.trans (S5.out.trans (S6.out.trans (S7.out.trans (S8.out))))))) Zba.out.1
         have B : Hid _ := blk_keep (S4.out.trans (S5.out.trans (S6.out.trans (S7.out.trans (S8.out))))) Zbb.out.1
         obtain ⟨Y1, hY, L⟩ := hy_leaf (.slice p1 q s1) (.slice r1 (q + 1) u1) (.slice p2 q s2) (.slice r2 (q + 1) u2) X8.out A.out B.out (wz Zba.out.2 (Only.refl oF w4)) (wz Zbb.out.2 X2.out) ne1
         have V : Hid _ := hy_rows (S6.out.trans (S7.out.trans (S8.out))) (Only.refl oF _) (nz1 G1.out Zba.out.1 (S2.out.trans (S3.out.trans (S4.out)))) (nz1 G1.out Zbb.out.1 (S4.out)) (nz1 G2.out Zba.out.1 (S2.out.trans (S3.out.trans (S4.out.trans (S5.out.trans (S6.out.trans (S7.out))))))) (nz1 G2.out Zbb.out.1 (S4.out.trans (S5.out.trans (S6.out.trans (S7.out))))) L.out.2.2.1 G1.out G2.out
         obtain ⟨z0, z1, zl, zf⟩ := blk_two' A.out
         refine wpAnyH_ready (rs := [22]) (by kernel_rfl) (by simp) (.cons rfl (fun K hK => ?_) .nil)
         rw [if_pos (by rfl)]; go_simp
         refine hK.out _ _ (by rw [← hY]; exact HKS.out _ L.out.1) (fun hHeld => ?_); clear hK z0 z1 zl zf; (try simp only [Act.put, tA, tB, tC])
         rw [← hY]
         obtain ⟨z0, z1, zl, zf⟩ := blk_two' L.out.2.2.2.1
         clear hY
         refine wpAnyH_ready (rs := [23]) (by kernel_rfl) (by simp) (.cons rfl (fun K hK => ?_) .nil)
         rw [if_pos (by rfl)]; go_simp
         refine hK.out _ _ (HKS.out _ L.out.2.1) (fun hHeld => ?_); clear hK z0 z1 zl zf; (try simp only [Act.put, tA, tB, tC])
         refine wpAnyH_done (by kernel_rfl) ?_ _; clear hHeld; go_wp2_with fail; go_meet
         exact ⟨ba, bb, p1, r1, p2, r2, s1, u1, s2, u2, _, rfl, rfl, rfl, L.out.2.2.2.2.1, L.out.2.2.2.2.2, V.out.1, V.out.2, L.out.2.1⟩
     · as_aux_lemma =>
       rw [if_pos (by rfl)]; go_simp
       obtain ⟨x2, bb, hY, hb, S2, Zbb⟩ := al_let x1
       have X2 : Hid (Only oF w4 x2) := X1.out.trans S2.out
       rw [← hY, ← hb]; clear hY hb
       refine hK.out _ _ (HKS.out _ X2.out) (fun hHeld => ?_); clear hK; (try simp only [Act.put, tA, tB, tC])
       refine wpAnyH_ready (rs := [3]) (by kernel_rfl) (by simp) (.cons rfl (fun K hK => ?_) .nil)
       rw [if_pos (by rfl)]; go_simp
       refine Calls.mono (HM.out _ (HOW.out.trans X2.out)) ?_; rintro e x3 ⟨m0, n0, rfl, hw, ho⟩
       have F0 : Hid (Vw x3 m0 (u8s LM)) := own_vw hw
       have S3 : Hid (Only oF x2 x3) := ho
       have X3 : Hid (Only oF w4 x3) := X2.out.trans ho
       clear hw ho
       refine hK.out _ _ (HKS.out _ X3.out) (fun hHeld => ?_); clear hK; (try simp only [Act.put, tA, tB, tC])
       refine wpAnyH_ready (rs := [6]) (by kernel_rfl) (by simp) (.cons rfl (fun K hK => ?_) .nil)
       rw [if_pos (by rfl)]; go_simp
       refine Calls.mono (HB.out _ (HOW.out.trans X3.out)) ?_; rintro e x4 ⟨m1, n1, rfl, hw, ho⟩
       have F1 : Hid (Vw x4 m1 (u8s LB)) := own_vw hw
       have S4 : Hid (Only oF x3 x4) := ho
       have X4 : Hid (Only oF w4 x4) := X3.out.trans ho
       clear hw ho
       refine hK.out _ _ (HKS.out _ X4.out) (fun hHeld => ?_); clear hK; (try simp only [Act.put, tA, tB, tC])
       refine wpAnyH_ready (rs := [8]) (by kernel_rfl) (by simp) (.cons rfl (fun K hK => ?_) .nil)
       rw [if_pos (by rfl)]; go_simp
       refine Calls.mono (HI1.out _ X4.out m0 n0 m1 n1 (F0.out.keep (S4.out)) (F1.out.keep (Only.refl oF _))) ?_; rintro e x5 ⟨p1, r1, s1, u1, rfl, hw, ho⟩
       have G1 : Hid _ := hw
       have S5 : Hid (Only oF x4 x5) := ho
       have X5 : Hid (Only oF w4 x5) := X4.out.trans ho
       clear hw ho
       refine hK.out _ _ (HKS.out _ X5.out) (fun hHeld => ?_); clear hK; (try simp only [Act.put, tA, tB, tC])
       refine wpAnyH_ready (rs := [12]) (by kernel_rfl) (by simp) (.cons rfl (fun K hK => ?_) .nil)
       rw [if_pos (by rfl)]; go_simp
       refine Calls.mono (HM.out _ (HOW.out.trans X5.out)) ?_; rintro e x6 ⟨m3, n3, rfl, hw, ho⟩
       have F3 : Hid (Vw x6 m3 (u8s LM)) := own_vw hw
       have S6 : Hid (Only oF x5 x6) := ho
       have X6 : Hid (Only oF w4 x6) := X5.out.trans ho
       clear hw ho
       refine hK.out _ _ (HKS.out _ X6.out) (fun hHeld => ?_); clear hK; (try simp only [Act.put, tA, tB, tC])
       refine wpAnyH_ready (rs := [15]) (by kernel_rfl) (by simp) (.cons rfl (fun K hK => ?_) .nil)
       rw [if_pos (by rfl)]; go_simp
       refine Calls.mono (HB.out _ (HOW.out.trans X6.out)) ?_; rintro e x7 ⟨m4, n4, rfl, hw, ho⟩
       have F4 : Hid (Vw x7 m4 (u8s LB)) := own_vw hw
       have S7 : Hid (Only oF x6 x7) := ho
       have X7 : Hid (Only oF w4 x7) := X6.out.trans ho
       clear hw ho
       refine hK.out _ _ (HKS.out _ X7.out) (fun hHeld => ?_); clear hK; (try simp only [Act.put, tA, tB, tC])
       refine wpAnyH_ready (rs := [19]) (by kernel_rfl) (by simp) (.cons rfl (fun K hK => ?_) .nil)
       rw [if_pos (by rfl)]; go_simp
       refine Calls.mono (HI2.out _ X7.out m3 n3 m4 n4 (F3.out.keep (S7.out)) (F4.out.keep (Only.refl oF _))) ?_; rintro e x8 ⟨p2, r2, s2, u2, rfl, hw, ho⟩
       have G2 : Hid _ := hw
       have S8 : Hid (Only oF x7 x8) := ho
       have X8 : Hid (Only oF w4 x8) := X7.out.trans ho
       clear hw ho
       refine hK.out _ _ (HKS.out _ X8.out) (fun hHeld => ?_); clear hK; (try simp only [Act.put, tA, tB, tC])
       have hlt : ba < bb := by rw [Zbb.out.2]; exact ltz Zba.out.1 (Only.refl oF _)
       have ne1 : ¬ ba = bb := by omega
       have ne2 : ¬ bb = ba := by omega
       have A : Hid _ := blk_keep (S2.out.trans (S3.out.trans (S4.out.trans (S5.out.trans (S6.out.trans (S7.out.trans (S8.out))))))) Zba.out.1
       have B : Hid _ := blk_keep (S3.out.trans (S4.out.trans (S5.out.trans (S6.out.trans (S7.out.trans (S8.out)))))) Zbb.out.1
       obtain ⟨Y1, hY, L⟩ := hy_leaf (.slice p1 q s1) (.slice r1 (q + 1) u1) (.slice p2 q s2) (.slice r2 (q + 1) u2) X8.out A.out B.out (wz Zba.out.2 (Only.refl oF w4)) (wz Zbb.out.2 X1.out) ne1
       have V : Hid _ := hy_rows (S6.out.trans (S7.out.trans (S8.out))) (Only.refl oF _) (nz1 G1.out Zba.out.1 (S2.out.trans (S3.out.trans (S4.out)))) (nz1 G1.out Zbb.out.1 (S3.out.trans (S4.out))) (nz1 G2.out Zba.out.1 (S2.out.trans (S3.out.trans (S4.out.trans (S5.out.trans (S6.out.trans (S7.out))))))) (nz1 G2.out Zbb.out.1 (S3.out.trans (S4.out.trans (S5.out.trans (S6.out.trans (S7.out)))))) L.out.2.2.1 G1.out G2.out
       obtain ⟨z0, z1, zl, zf⟩ := blk_two' A.out
       refine wpAnyH_ready (rs := [22]) (by kernel_rfl) (by simp) (.cons rfl (fun K hK => ?_) .nil)
       rw [if_pos (by rfl)]; go_simp
       refine hK.out _ _ (by rw [← hY]; exact HKS.out _ L.out.1) (fun hHeld => ?_); clear hK z0 z1 zl zf; (try simp only [Act.put, tA, tB, tC])
       rw [← hY]
       obtain ⟨z0, z1, zl, zf⟩ := blk_two' L.out.2.2.2.1
       clear hY
       refine wpAnyH_ready (rs := [23]) (by kernel_rfl) (by simp) (.cons rfl (fun K hK => ?_) .nil)
       rw [if_pos (by rfl)]; go_simp
       refine hK.out _ _ (HKS.out _ L.out.2.1) (fun hHeld => ?_); clear hK z0 z1 zl zf; (try simp only [Act.put, tA, tB, tC])
       refine wpAnyH_done (by kernel_rfl) ?_ _; clear hHeld; go_wp2_with fail; go_meet
       exact ⟨ba, bb, p1, r1, p2, r2, s1, u1, s2, u2, _, rfl, rfl, rfl, L.out.2.2.2.2.1, L.out.2.2.2.2.2, V.out.1, V.out.2, L.out.2.1⟩
   · as_aux_lemma =>
     rw [if_pos (by rfl)]; go_simp
     obtain ⟨x1, bb, hY, hb, S1, Zbb⟩ := al_let0 w4
     have X1 : Hid (Only oF w4 x1) := S1
     rw [← hY, ← hb]; clear hY hb
     refine hK.out _ _ (HKS.out _ X1.out) (fun hHeld => ?_); clear hK; (try simp only [Act.put, tA, tB, tC])
     refine wpAnyH_ready (rs := [3, 20]) (by kernel_rfl) (by simp) (.cons rfl (fun K hK => ?_) (.cons rfl (fun K hK => ?_) .nil))
     · as_aux_lemma =>
       rw [if_pos (by rfl)]; go_simp
       refine Calls.mono (HM.out _ (HOW.out.trans X1.out)) ?_; rintro e x2 ⟨m0, n0, rfl, hw, ho⟩
       have F0 : Hid (Vw x2 m0 (u8s LM)) := own_vw hw
       have S2 : Hid (Only oF x1 x2) := ho
       have X2 : Hid (Only oF w4 x2) := X1.out.trans ho
       clear hw ho
       refine hK.out _ _ (HKS.out _ X2.out) (fun hHeld => ?_); clear hK; (try simp only [Act.put, tA, tB, tC])
       refine wpAnyH_ready (rs := [6, 20]) (by kernel_rfl) (by simp) (.cons rfl (fun K hK => ?_) (.cons rfl (fun K hK => ?_) .nil))
       · as_aux_lemma =>
         rw [if_pos (by rfl)]; go_simp
         refine Calls.mono (HB.out _ (HOW.out.trans X2.out)) ?_; rintro e x3 ⟨m1, n1, rfl, hw, ho⟩
         have F1 : Hid (Vw x3 m1 (u8s LB)) := own_vw hw
         have S3 : Hid (Only oF x2 x3) := ho
         have X3 : Hid (Only oF w4 x3) := X2.out.trans ho
         clear hw ho
         refine hK.out _ _ (HKS.out _ X3.out) (fun hHeld => ?_); clear hK; (try simp only [Act.put, tA, tB, tC])
         refine wpAnyH_ready (rs := [8, 20]) (by kernel_rfl) (by simp) (.cons rfl (fun K hK => ?_) (.cons rfl (fun K hK => ?_) .nil))
         · as_aux_lemma =>
           rw [if_pos (by rfl)]; go_simp
           refine Calls.mono (HI1.out _ X3.out m0 n0 m1 n1 (F0.out.keep (S3.out)) (F1.out.keep (Only.refl oF _))) ?_; rintro e x4 ⟨p1, r1, s1, u1, rfl, hw, ho⟩
           have G1 : Hid _ := hw
           have S4 : Hid (Only oF x3 x4) := ho
           have X4 : Hid (Only oF w4 x4) := X3.out.trans ho
           clear hw ho
           refine hK.out _ _ (HKS.out _ X4.out) (fun hHeld => ?_); clear hK; (try simp only [Act.put, tA, tB, tC])
           refine wpAnyH_ready (rs := [12, 20]) (by kernel_rfl) (by simp) (.cons rfl (fun K hK => ?_) (.cons rfl (fun K hK => ?_) .nil))
           · as_aux_lemma =>
             rw [if_pos (by rfl)]; go_simp
             refine Calls.mono (HM.out _ (HOW.out.trans X4.out)) ?_; rintro e x5 ⟨m3, n3, rfl, hw, ho⟩
             have F3 : Hid (Vw x5 m3 (u8s LM)) := own_vw hw
             have S5 : Hid (Only oF x4 x5) := ho
             have X5 : Hid (Only oF w4 x5) := X4.out.trans ho
             clear hw ho
             refine hK.out _ _ (HKS.out _ X5.out) (fun hHeld => ?_); clear hK; (try simp only [Act.put, tA, tB, tC])
             refine wpAnyH_ready (rs := [15, 20]) (by kernel_rfl) (by simp) (.cons rfl (fun K hK => ?_) (.cons rfl (fun K hK => ?_) .nil))
             · as_aux_lemma =>
               rw [if_pos (by rfl)]; go_simp
               refine Calls.mono (HB.out _ (HOW.out.trans X5.out)) ?_; rintro e x6 ⟨m4, n4, rfl, hw, ho⟩
               have F4 : Hid (Vw x6 m4 (u8s LB)) := own_vw hw
               have S6 : Hid (Only oF x5 x6) := ho
               have X6 : Hid (Only oF w4 x6) := X5.out.trans ho
               clear hw ho
               refine hK.out _ _ (HKS.out _ X6.out) (fun hHeld => ?_); clear hK; (try simp only [Act.put, tA, tB, tC])
               refine wpAnyH_ready (rs := [19, 20]) (by kernel_rfl) (by simp) (.cons rfl (fun K hK => ?_) (.cons rfl (fun K hK => ?_) .nil))
               · as_aux_lemma =>
                 rw [if_pos (by rfl)]; go_simp
                 refine Calls.mono (HI2.out _ X6.out m3 n3 m4 n4 (F3.out.keep (S6.out)) (F4.out.keep (Only.refl oF _))) ?_; rintro e x7 ⟨p2, r2, s2, u2, rfl, hw, ho⟩
                 have G2 : Hid _ := hw
                 have S7 : Hid (Only oF x6 x7) := ho
                 have X7 : Hid (Only oF w4 x7) := X6.out.trans ho
                 clear hw ho
                 refine hK.out _ _ (HKS.out _ X7.out) (fun hHeld => ?_); clear hK; (try simp only [Act.put, tA, tB, tC])
                 refine wpAnyH_ready (rs := [20]) (by kernel_rfl) (by simp) (.cons rfl (fun K hK => ?_) .nil)
                 rw [if_pos (by rfl)]; go_simp
                 obtain ⟨x8, ba, hY, hb, S8, Zba⟩ := al_let x7
                 have X8 : Hid (Only oF w4 x8) := X7.out.trans S8.out
                 rw [← hY, ← hb]; clear hY hb
                 refine hK.out _ _ (HKS.out _ X8.out) (fun hHeld => ?_); clear hK; (try simp only [Act.put, tA, tB, tC])
                 have hlt : bb < ba := by rw [Zba.out.2]; exact ltz Zbb.out.1 (S2.out.trans (S3.out.trans (S4.out.trans (S5.out.trans (S6.out.trans (S7.out))))))
                 have ne1 : ¬ ba = bb := by omega
                 have ne2 : ¬ bb = ba := by omega
                 have A : Hid _ := blk_keep (Only.refl oF _) Zba.out.1
                 have B : Hid _ := blk_keep (S2.out.trans (S3.out.trans (S4.out.trans (S5.out.trans (S6.out.trans (S7.out.trans (S8.out))))))) Zbb.out.1
                 obtain ⟨Y1, hY, L⟩ := hy_leaf (.slice p1 q s1) (.slice r1 (q + 1) u1) (.slice p2 q s2) (.slice r2 (q + 1) u2) X8.out A.out B.out (wz Zba.out.2 X7.out) (wz Zbb.out.2 (Only.refl oF w4)) ne1
                 have V : Hid _ := hy_rows (S5.out.trans (S6.out.trans (S7.out.trans (S8.out)))) (S8.out) (nz2 G1.out Zba.out.2 (S5.out.trans (S6.out.trans (S7.out)))) (nz1 G1.out Zbb.out.1 (S2.out.trans (S3.out))) (nz2 G2.out Zba.out.2 (Only.refl oF _)) (nz1 G2.out Zbb.out.1 (S2.out.trans (S3.out.trans (S4.out.trans (S5.out.trans (S6.out)))))) L.out.2.2.1 G1.out G2.out
                 obtain ⟨z0, z1, zl, zf⟩ := blk_two' A.out
                 refine wpAnyH_ready (rs := [22]) (by kernel_rfl) (by simp) (.cons rfl (fun K hK => ?_) .nil)
                 rw [if_pos (by rfl)]; go_simp
                 refine hK.out _ _ (by rw [← hY]; exact HKS.out _ L.out.1) (fun hHeld => ?_); clear hK z0 z1 zl zf; (try simp only [Act.put, tA, tB, tC])
                 rw [← hY]
                 obtain ⟨z0, z1, zl, zf⟩ := blk_two' L.out.2.2.2.1
                 clear hY
                 refine wpAnyH_ready (rs := [23]) (by kernel_rfl) (by simp) (.cons rfl (fun K hK => ?_) .nil)
                 rw [if_pos (by rfl)]; go_simp
                 refine hK.out _ _ (HKS.out _ L.out.2.1) (fun hHeld => ?_); clear hK z0 z1 zl zf; (try simp only [Act.put, tA, tB, tC])
                 refine wpAnyH_done (by kernel_rfl) ?_ _; clear hHeld; go_wp2_with fail; go_meet
                 exact ⟨ba, bb, p1, r1, p2, r2, s1, u1, s2, u2, _, rfl, rfl, rfl, L.out.2.2.2.2.1, L.out.2.2.2.2.2, V.out.1, V.out.2, L.out.2.1⟩
               · as_aux_lemma =>
                 rw [if_pos (by rfl)]; go_simp
                 obtain ⟨x7, ba, hY, hb, S7, Zba⟩ := al_let x6
                 have X7 : Hid (Only oF w4 x7) := X6.out.trans S7.out
                 rw [← hY, ← hb]; clear hY hb
                 refine hK.out _ _ (HKS.out _ X7.out) (fun hHeld => ?_); clear hK; (try simp only [Act.put, tA, tB, tC])
                 refine wpAnyH_ready (rs := [19]) (by kernel_rfl) (by simp) (.cons rfl (fun K hK => ?_) .nil)
                 rw [if_pos (by rfl)]; go_simp
                 refine Calls.mono (HI2.out _ X7.out m3 n3 m4 n4 (F3.out.keep (S6.out.trans (S7.out))) (F4.out.keep (S7.out))) ?_; rintro e x8 ⟨p2, r2, s2, u2, rfl, hw, ho⟩
                 have G2 : Hid _ := hw
                 have S8 : Hid (Only oF x7 x8) := ho
                 have X8 : Hid (Only oF w4 x8) := X7.out.trans ho
                 clear hw ho
                 refine hK.out _ _ (HKS.out _ X8.out) (fun hHeld => ?_); clear hK; (try simp only [Act.put, tA, tB, tC])
                 have hlt : bb < ba := by rw [Zba.out.2]; exact ltz Zbb.out.1 (S2.out.trans (S3.out.trans (S4.out.trans (S5.out.trans (S6.out)))))
                 have ne1 : ¬ ba = bb := by omega
                 have ne2 : ¬ bb = ba := by omega
                 have A : Hid _ := blk_keep (S8.out) Zba.out.1
                 have B : Hid _ := blk_keep (S2.out.trans (S3.out.trans (S4.out.trans (S5.out.trans (S6.out.trans (S7.out.trans (S8.out))))))) Zbb.out.1
                 obtain ⟨Y1, hY, L⟩ := hy_leaf (.slice p1 q s1) (.slice r1 (q + 1) u1) (.slice p2 q s2) (.slice r2 (q + 1) u2) X8.out A.out B.out (wz Zba.out.2 X6.out) (wz Zbb.out.2 (Only.refl oF w4)) ne1
                 have V : Hid _ := hy_rows (S5.out.trans (S6.out.trans (S7.out.trans (S8.out)))) (Only.refl oF _) (nz2 G1.out Zba.out.2 (S5.out.trans (S6.out))) (nz1 G1.out Zbb.out.1 (S2.out.trans (S3.out))) (nz1 G2.out Zba.out.1 (Only.refl oF _)) (nz1 G2.out Zbb.out.1 (S2.out.trans (S3.out.trans (S4.out.trans (S5.out.trans (S6.out.trans (S7.out))))))) L.out.2.2.1 G1.out G2.out
                 obtain ⟨z0, z1, zl, zf⟩ := blk_two' A.out
                 refine wpAnyH_ready (rs := [22]) (by kernel_rfl) (by simp) (.cons rfl (fun K hK => ?_) .nil)
                 rw [if_pos (by rfl)]; go_simp
                 refine hK.out _ _ (by rw [← hY]; exact HKS.out _ L.out.1) (fun hHeld => ?_); clear hK z0 z1 zl zf; (try simp only [Act.put, tA, tB, tC])
                 rw [← hY]
                 obtain ⟨z0, z1, zl, zf⟩ := blk_two' L.out.2.2.2.1
                 clear hY
                 refine wpAnyH_ready (rs := [23]) (by kernel_rfl) (by simp) (.cons rfl (fun K hK => ?_) .nil)
                 rw [if_pos (by rfl)]; go_simp
                 refine hK.out _ _ (HKS.out _ L.out.2.1) (fun hHeld => ?_); clear hK z0 z1 zl zf; (try simp only [Act.put, tA, tB, tC])
                 refine wpAnyH_done (by kernel_rfl) ?_ _; clear hHeld; go_wp2_with fail; go_meet
                 exact ⟨ba, bb, p1, r1, p2, r2, s1, u1, s2, u2, _, rfl, rfl, rfl, L.out.2.2.2.2.1, L.out.2.2.2.2.2, V.out.1, V.out.2, L.out.2.1⟩
             · as_aux_lemma =>
               rw [if_pos (by rfl)]; go_simp
               obtain ⟨x6, ba, hY, hb, S6, Zba⟩ := al_let x5
               have X6 : Hid (Only oF w4 x6) := X5.out.trans S6.out
               rw [← hY, ← hb]; clear hY hb
               refine hK.out _ _ (HKS.out _ X6.out) (fun hHeld => ?_); clear hK; (try simp only [Act.put, tA, tB, tC])
               refine wpAnyH_ready (rs := [15]) (by kernel_rfl) (by simp) (.cons rfl (fun K hK => ?_) .nil)
               rw [if_pos (by rfl)]; go_simp
               refine Calls.mono (HB.out _ (HOW.out.trans X6.out)) ?_; rintro e x7 ⟨m4, n4, rfl, hw, ho⟩
               have F4 : Hid (Vw x7 m4 (u8s LB)) := own_vw hw
               have S7 : Hid (Only oF x6 x7) := ho
               have X7 : Hid (Only oF w4 x7) := X6.out.trans ho
               clear hw ho
               refine hK.out _ _ (HKS.out _ X7.out) (fun hHeld => ?_); clear hK; (try simp only [Act.put, tA, tB, tC])
               refine wpAnyH_ready (rs := [19]) (by kernel_rfl) (by simp) (.cons rfl (fun K hK => ?_) .nil)
               rw [if_pos (by rfl)]; go_simp
               refine Calls.mono (HI2.out _ X7.out m3 n3 m4 n4 (F3.out.keep (S6.out.trans (S7.out))) (F4.out.keep (Only.refl oF _))) ?_; rintro e x8 ⟨p2, r2, s2, u2, rfl, hw, ho⟩
               have G2 : Hid _ := hw
               have S8 : Hid (Only oF x7 x8) := ho
               have X8 : Hid (Only oF w4 x8) := X7.out.trans ho
               clear hw ho
               refine hK.out _ _ (HKS.out _ X8.out) (fun hHeld => ?_); clear hK; (try simp only [Act.put, tA, tB, tC])
               have hlt : bb < ba := by rw [Zba.out.2]; exact ltz Zbb.out.1 (S2.out.trans (S3.out.trans (S4.out.trans (S5.out))))
               have ne1 : ¬ ba = bb := by omega
               have ne2 : ¬ bb = ba := by omega
               have A : Hid _ := blk_keep (S7.out.trans (S8.out)) Zba.out.1
               have B : Hid _ := blk_keep (S2.out.trans (S3.out.trans (S4.out.trans (S5.out.trans (S6.out.trans (S7.out.trans (S8.out))))))) Zbb.out.1
               obtain ⟨Y1, hY, L⟩ := hy_leaf (.slice p1 q s1) (.slice r1 (q + 1) u1) (.slice p2 q s2) (.slice r2 (q + 1) u2) X8.out A.out B.out (wz Zba.out.2 X5.out) (wz Zbb.out.2 (Only.refl oF w4)) ne1
               have V : Hid _ := hy_rows (S5.out.trans (S6.out.trans (S7.out.trans (S8.out)))) (Only.refl oF _) (nz2 G1.out Zba.out.2 (S5.out)) (nz1 G1.out Zbb.out.1 (S2.out.trans (S3.out))) (nz1 G2.out Zba.out.1 (S7.out)) (nz1 G2.out Zbb.out.1 (S2.out.trans (S3.out.trans (S4.out.trans (S5.out.trans (S6.out.trans (S7.out))))))) L.out.2.2.1 G1.out G2.out
               obtain ⟨z0, z1, zl, zf⟩ := blk_two' A.out
               refine wpAnyH_ready (rs := [22]) (by kernel_rfl) (by simp) (.cons rfl (fun K hK => ?_) .nil)
               rw [if_pos (by rfl)]; go_simp
               refine hK.out _ _ (by rw [← hY]; exact HKS.out _ L.out.1) (fun hHeld => ?_); clear hK z0 z1 zl zf; (try simp only [Act.put, tA, tB, tC])
               rw [← hY]
               obtain ⟨z0, z1, zl, zf⟩ := blk_two' L.out.2.2.2.1
               clear hY
               refine wpAnyH_ready (rs := [23]) (by kernel_rfl) (by simp) (.cons rfl (fun K hK => ?_) .nil)
               rw [if_pos (by rfl)]; go_simp
               refine hK.out _ _ (HKS.out _ L.out.2.1) (fun hHeld => ?_); clear hK z0 z1 zl zf; (try simp only [Act.put, tA, tB, tC])
               refine wpAnyH_done (by kernel_rfl) ?_ _; clear hHeld; go_wp2_with fail; go_meet
               exact ⟨ba, bb, p1, r1, p2, r2, s1, u1, s2, u2, _, rfl, rfl, rfl, L.out.2.2.2.2.1, L.out.2.2.2.2.2, V.out.1, V.out.2, L.out.2.1⟩
           · as_aux_lemma =>
             rw [if_pos (by rfl)]; go_simp
             obtain ⟨x5, ba, hY, hb, S5, Zba⟩ := al_let x4
             have X5 : Hid (Only oF w4 x5) := X4.out.trans S5.out
             rw [← hY, ← hb]; clear hY hb
             refine hK.out _ _ (HKS.out _ X5.out) (fun hHeld => ?_); clear hK; (try simp only [Act.put, tA, tB, tC])
             refine wpAnyH_ready (rs := [12]) (by kernel_rfl) (by simp) (.cons rfl (fun K hK => ?_) .nil)
             rw [if_pos (by rfl)]; go_simp
             refine Calls.mono (HM.out _ (HOW.out.trans X5.out)) ?_; rintro e x6 ⟨m3, n3, rfl, hw, ho⟩
             have F3 : Hid (Vw x6 m3 (u8s LM)) := own_vw hw
             have S6 : Hid (Only oF x5 x6) := ho
             have X6 : Hid (Only oF w4 x6) := X5.out.trans ho
             clear hw ho
             refine hK.out _ _ (HKS.out _ X6.out) (fun hHeld => ?_); clear hK; (try simp only [Act.put, tA, tB, tC])
             refine wpAnyH_ready (rs := [15]) (by kernel_rfl) (by simp) (.cons rfl (fun K hK => ?_) .nil)
             rw [if_pos (by rfl)]; go_simp
             refine Calls.mono (HB.out _ (HOW.out.trans X6.out)) ?_; rintro e x7 ⟨m4, n4, rfl, hw, ho⟩
             have F4 : Hid (Vw x7 m4 (u8s LB)) := own_vw hw
             have S7 : Hid (Only oF x6 x7) := ho
             have X7 : Hid (Only oF w4 x7) := X6.out.trans ho
             clear hw ho
             refine hK.out _ _ (HKS.out _ X7.out) (fun hHeld => ?_); clear hK; (try simp only [Act.put, tA, tB, tC])
             refine wpAnyH_ready (rs := [19]) (by kernel_rfl) (by simp) (.cons rfl (fun K hK => ?_) .nil)
             rw [if_pos (by rfl)]; go_simp
             refine Calls.mono (HI2.out _ X7.out m3 n3 m4 n4 (F3.out.keep (S7.out)) (F4.out.keep (Only.refl oF _))) ?_; rintro e x8 ⟨p2, r2, s2, u2, rfl, hw, ho⟩
             have G2 : Hid _ := hw
             have S8 : Hid (Only oF x7 x8) := ho
             have X8 : Hid (Only oF w4 x8) := X7.out.trans ho
             clear hw ho
             refine hK.out _ _ (HKS.out _ X8.out) (fun hHeld => ?_); clear hK; (try simp only [Act.put, tA, tB, tC])
             have hlt : bb < ba := by rw [Zba.out.2]; exact ltz Zbb.out.1 (S2.out.trans (S3.out.trans (S4.out)))
             have ne1 : ¬ ba = bb := by omega
             have ne2 : ¬ bb = ba := by omega
             have A : Hid _ := blk_keep (S6.out.trans (S7.out.trans (S8.out))) Zba.out.1
             have B : Hid _ := blk_keep (S2.out.trans (S3.out.trans (S4.out.trans (S5.out.trans (S6.out.trans (S7.out.trans (S8.out))))))) Zbb.out.1
             obtain ⟨Y1, hY, L⟩ := hy_leaf (.slice p1 q s1) (.slice r1 (q + 1) u1) (.slice p2 q s2) (.slice r2 (q + 1) u2) X8.out A.out B.out (wz Zba.out.2 X4.out) (wz Zbb.out.2 (Only.refl oF w4)) ne1
             have V : Hid _ := hy_rows (S5.out.trans (S6.out.trans (S7.out.trans (S8.out)))) (Only.refl oF _) (nz2 G1.out Zba.out.2 (Only.refl oF _)) (nz1 G1.out Zbb.out.1 (S2.out.trans (S3.out))) (nz1 G2.out Zba.out.1 (S6.out.trans (S7.out))) (nz1 G2.out Zbb.out.1 (S2.out.trans (S3.out.trans (S4.out.trans (S5.out.trans (S6.out.trans (S7.out))))))) L.out.2.2.1 G1.out G2.out
             obtain ⟨z0, z1, zl, zf⟩ := blk_two' A.out
             refine wpAnyH_ready (rs := [22]) (by kernel_rfl) (by simp) (.cons rfl (fun K hK => ?_) .nil)
             rw [if_pos (by rfl)]; go_simp
             refine hK.out _ _ (by rw [← hY]; exact HKS.out _ L.out.1) (fun hHeld => ?_); clear hK z0 z1 zl zf; (try simp only [Act.put, tA, tB, tC])
             rw [← hY]
             obtain ⟨z0, z1, zl, zf⟩ := blk_two' L.out.2.2.2.1
             clear hY
             refine wpAnyH_ready (rs := [23]) (by kernel_rfl) (by simp) (.cons rfl (fun K hK => ?_) .nil)
             rw [if_pos (by rfl)]; go_simp
             refine hK.out _ _ (HKS.out _ L.out.2.1) (fun hHeld => ?_); clear hK z0 z1 zl zf; (try simp only [Act.put, tA, tB, tC])
             refine wpAnyH_done (by kernel_rfl) ?_ _; clear hHeld; go_wp2_with fail; go_meet
             exact ⟨ba, bb, p1, r1, p2, r2, s1, u1, s2, u2, _, rfl, rfl, rfl, L.out.2.2.2.2.1, L.out.2.2.2.2.2, V.out.1, V.out.2, L.out.2.1⟩
         · as_aux_lemma =>
           rw [if_pos (by rfl)]; go_simp
           obtain ⟨x4, ba, hY, hb, S4, Zba⟩ := al_let x3
           have X4 : Hid (Only oF w4 x4) := X3.out.trans S4.out
           rw [← hY, ← hb]; clear hY hb
           refine hK.out _ _ (HKS.out _ X4.out) (fun hHeld => ?_); clear hK; (try simp only [Act.put, tA, tB, tC])
           refine wpAnyH_ready (rs := [8]) (by kernel_rfl) (by simp) (.cons rfl (fun K hK => ?_) .nil)
           rw [if_pos (by rfl)]; go_simp
           refine Calls.mono (HI1.out _ X4.out m0 n0 m1 n1 (F0.out.keep (S3.out.trans (S4.out))) (F1.out.keep (S4.out))) ?_; rintro e x5 ⟨p1, r1, s1, u1, rfl, hw, ho⟩
           have G1 : Hid _ := hw
           have S5 : Hid (Only oF x4 x5) := ho
           have X5 : Hid (Only oF w4 x5) := X4.out.trans ho
           clear hw ho
           refine hK.out _ _ (HKS.out _ X5.out) (fun hHeld => ?_); clear hK; (try simp only [Act.put, tA, tB, tC])
           refine wpAnyH_ready (rs := [12]) (by kernel_rfl) (by simp) (.cons rfl (fun K hK => ?_) .nil)
           rw [if_pos (by rfl)]; go_simp
           refine Calls.mono (HM.out _ (HOW.out.trans X5.out)) ?_; rintro e x6 ⟨m3, n3, rfl, hw, ho⟩
           have F3 : Hid (Vw x6 m3 (u8s LM)) := own_vw hw
           have S6 : Hid (Only oF x5 x6) := ho
           have X6 : Hid (Only oF w4 x6) := X5.out.trans ho
           clear hw ho
           refine hK.out _ _ (HKS.out _ X6.out) (fun hHeld => ?_); clear hK; (try simp only [Act.put, tA, tB, tC])
           refine wpAnyH_ready (rs := [15]) (by kernel_rfl) (by simp) (.cons rfl (fun K hK => ?_) .nil)
           rw [if_pos (by rfl)]; go_simp
           refine Calls.mono (HB.out _ (HOW.out.trans X6.out)) ?_; rintro e x7 ⟨m4, n4, rfl, hw, ho⟩
           have F4 : Hid (Vw x7 m4 (u8s LB)) := own_vw hw
           have S7 : Hid (Only oF x6 x7) := ho
           have X7 : Hid (Only oF w4 x7) := X6.out.trans ho
           clear hw ho
           refine hK.out _ _ (HKS.out _ X7.out) (fun hHeld => ?_); clear hK; (try simp only [Act.put, tA, tB, tC])
           refine wpAnyH_ready (rs := [19]) (by kernel_rfl) (by simp) (.cons rfl (fun K hK => ?_) .nil)
           rw [if_pos (by rfl)]; go_simp
           refine Calls.mono (HI2.out _ X7.out m3 n3 m4 n4 (F3.out.keep (S7.out)) (F4.out.keep (Only.refl oF _))) ?_; rintro e x8 ⟨p2, r2, s2, u2, rfl, hw, ho⟩
           have G2 : Hid _ := hw
           have S8 : Hid (Only oF x7 x8) := ho
           have X8 : Hid (Only oF w4 x8) := X7.out.trans ho
           clear hw ho
           refine hK.out _ _ (HKS.out _ X8.out) (fun hHeld => ?_); clear hK; (try simp only [Act.put, tA, tB, tC])
           have hlt : bb < ba := by rw [Zba.out.2]; exact ltz Zbb.out.1 (S2.out.trans (S3.out))
           have ne1 : ¬ ba = bb := by omega
           have ne2 : ¬ bb = ba := by omega
           have A : Hid _ := blk_keep (S5.out.trans (S6.out.trans (S7.out.trans (S8.out)))) Zba.out.1
           have B : Hid _ := blk_keep (S2.out.trans (S3.out.trans (S4.out.trans (S5.out.trans (S6.out.trans (S7.out.trans (S8.out))))))) Zbb.out.1
           obtain ⟨Y1, hY, L⟩ := hy_leaf (.slice p1 q s1) (.slice r1 (q + 1) u1) (.slice p2 q s2) (.slice r2 (q + 1) u2) X8.out A.out B.out (wz Zba.out.2 X3.out) (wz Zbb.out.2 (Only.refl oF w4)) ne1
           have V : Hid _ := hy_rows (S6.out.trans (S7.out.trans (S8.out))) (Only.refl oF _) (nz1 G1.out Zba.out.1 (Only.refl oF _)) (nz1 G1.out Zbb.out.1 (S2.out.trans (S3.out.trans (S4.out)))) (nz1 G2.out Zba.out.1 (S5.out.trans (S6.out.trans (S7.out)))) (nz1 G2.out Zbb.out.1 (S2.out.trans (S3.out.trans (S4.out.trans (S5.out.trans (S6.out.trans (S7.out))))))) L.out.2.2.1 G1.out G2.out
           obtain ⟨z0, z1, zl, zf⟩ := blk_two' A.out
           refine wpAnyH_ready (rs := [22]) (by kernel_rfl) (by simp) (.cons rfl (fun K hK => ?_) .nil)
           rw [if_pos (by rfl)]; go_simp
           refine hK.out _ _ (by rw [← hY]; exact HKS.out _ L.out.1) (fun hHeld => ?_); clear hK z0 z1 zl zf; (try simp only [Act.put, tA, tB, tC])
           rw [← hY]
           obtain ⟨z0, z1, zl, zf⟩ := blk_two' L.out.2.2.2.1
           clear hY
           refine wpAnyH_ready (rs := [23]) (by kernel_rfl) (by simp) (.cons rfl (fun K hK => ?_) .nil)
           rw [if_pos (by rfl)]; go_simp
           refine hK.out _ _ (HKS.out _ L.out.2.1) (fun hHeld => ?_); clear hK z0 z1 zl zf; (try simp only [Act.put, tA, tB, tC])
           refine wpAnyH_done (by kernel_rfl) ?_ _; clear hHeld; go_wp2_with fail; go_meet
           exact ⟨ba, bb, p1, r1, p2, r2, s1, u1, s2, u2, _, rfl, rfl, rfl, L.out.2.2.2.2.1, L.out.2.2.2.2.2, V.out.1, V.out.2, L.out.2.1⟩
       · as_aux_lemma =>
         rw [if_pos (by rfl)]; go_simp
         obtain ⟨x3, ba, hY, hb, S3, Zba⟩ := al_let x2
         have X3 : Hid (Only oF w4 x3) := X2.out.trans S3.out
         rw [← hY, ← hb]; clear hY hb
         refine hK.out _ _ (HKS.out _ X3.out) (fun hHeld => ?_); clear hK; (try simp only [Act.put, tA, tB, tC])
         refine wpAnyH_ready (rs := [6]) (by kernel_rfl) (by simp) (.cons rfl (fun K hK => ?_) .nil)
         rw [if_pos (by rfl)]; go_simp
         refine Calls.mono (HB.out _ (HOW.out.trans X3.out)) ?_; rintro e x4 ⟨m1, n1, rfl, hw, ho⟩
         have F1 : Hid (Vw x4 m1 (u8s LB)) := own_vw hw
         have S4 : Hid (Only oF x3 x4) := ho
         have X4 : Hid (Only oF w4 x4) := X3.out.trans ho
         clear hw ho
         refine hK.out _ _ (HKS.out _ X4.out) (fun hHeld => ?_); clear hK; (try simp only [Act.put, tA, tB, tC])
         refine wpAnyH_ready (rs := [8]) (by kernel_rfl) (by simp) (.cons rfl (fun K hK => ?_) .nil)
         rw [if_pos (by rfl)]; go_simp
         refine Calls.mono (HI1.out _ X4.out m0 n0 m1 n1 (F0.out.keep (S3.out.trans (S4.out))) (F1.out.keep (Only.refl oF _))) ?_; rintro e x5 ⟨p1, r1, s1, u1, rfl, hw, ho⟩
         have G1 : Hid _ := hw
         have S5 : Hid (Only oF x4 x5) := ho
         have X5 : Hid (Only oF w4 x5) := X4.out.trans ho
         clear hw ho
         refine hK.out _ _ (HKS.out _ X5.out) (fun hHeld => ?_); clear hK; (try simp only [Act.put, tA, tB, tC])
         refine wpAnyH_ready (rs := [12]) (by kernel_rfl) (by simp) (.cons rfl (fun K hK => ?_) .nil)
         rw [if_pos (by rfl)]; go_simp
         refine Calls.mono (HM.out _ (HOW.out.trans X5.out)) ?_; rintro e x6 ⟨m3, n3, rfl, hw, ho⟩
         have F3 : Hid (Vw x6 m3 (u8s LM)) := own_vw hw
         have S6 : Hid (Only oF x5 x6) := ho
         have X6 : Hid (Only oF w4 x6) := X5.out.trans ho
         clear hw ho
         refine hK.out _ _ (HKS.out _ X6.out) (fun hHeld => ?_); clear hK; (try simp only [Act.put, tA, tB, tC])
         refine wpAnyH_ready (rs := [15]) (by kernel_rfl) (by simp) (.cons rfl (fun K hK => ?_) .nil)
         rw [if_pos (by rfl)]; go_simp
         refine Calls.mono (HB.out _ (HOW.out.trans X6.out)) ?_; rintro e x7 ⟨m4, n4, rfl, hw, ho⟩
         have F4 : Hid (Vw x7 m4 (u8s LB)) := own_vw hw
         have S7 : Hid (Only oF x6 x7) := ho
         have X7 : Hid (Only oF w4 x7) := X6.out.trans ho
         clear hw ho
         refine hK.out _ _ (HKS.out _ X7.out) (fun hHeld => ?_); clear hK; (try simp only [Act.put, tA, tB, tC])
         refine wpAnyH_ready (rs := [19]) (by kernel_rfl) (by simp) (.cons rfl (fun K hK => ?_) .nil)
         rw [if_pos (by rfl)]; go_simp
         refine Calls.mono (HI2.out _ X7.out m3 n3 m4 n4 (F3.out.keep (S7.out)) (F4.out.keep (Only.refl oF _))) ?_; rintro e x8 ⟨p2, r2, s2, u2, rfl, hw, ho⟩
         have G2 : Hid _ := hw
         have S8 : Hid (Only oF x7 x8) := ho
         have X8 : Hid (Only oF w4 x8) := X7.out.trans ho
         clear hw ho
         refine hK.out _ _ (HKS.out _ X8.out) (fun hHeld => ?_); clear hK; (try simp only [Act.put, tA, tB, tC])
         have hlt : bb < ba := by rw [Zba.out.2]; exact ltz Zbb.out.1 (S2.out)
         have ne1 : ¬ ba = bb := by omega
         have ne2 : ¬ bb = ba := by omega
         have A : Hid _ := blk_keep (S4.out.trans (S5.out.trans (S6.out.trans (S7.out.trans (S8.out))))) Zba.out.1
         have B : Hid _ := blk_keep (S2.out.trans (S3.out.trans (S4.out.trans (S5.out.trans (S6.out.trans (S7.out.trans (S8.out))))))) Zbb.out.1
         obtain ⟨Y1, hY, L⟩ := hy_leaf (.slice p1 q s1) (.slice r1 (q + 1) u1) (.slice p2 q s2) (.slice r2 (q + 1) u2) X8.out A.out B.out (wz Zba.out.2 X2.out) (wz Zbb.out.2 (Only.refl oF w4)) ne1
         have V : Hid _ := hy_rows (S6.out.trans (S7.out.trans (S8.out))) (Only.refl oF _) (nz1 G1.out Zba.out.1 (S4.out)) (nz1 G1.out Zbb.out.1 (S2.out.trans (S3.out.trans (S4.out)))) (nz1 G2.out Zba.out.1 (S4.out.trans (S5.out.trans (S6.out.trans (S7.out))))) (nz1 G2.out Zbb.out.1 (S2.out.trans (S3.out.trans (S4.out.trans (S5.out.trans (S6.out.trans (S7.out))))))) L.out.2.2.1 G1.out G2.out
         obtain ⟨z0, z1, zl, zf⟩ := blk_two' A.out
         refine wpAnyH_ready (rs := [22]) (by kernel_rfl) (by simp) (.cons rfl (fun K hK => ?_) .nil)
         rw [if_pos (by rfl)]; go_simp
         refine hK.out _ _ (by rw [← hY]; exact HKS.out _ L.out.1) (fun hHeld => ?_); clear hK z0 z1 zl zf; (try simp only [Act.put, tA, tB, tC])
         rw [← hY]
         obtain ⟨z0, z1, zl, zf⟩ := blk_two' L.out.2.2.2.1
         clear hY
         refine wpAnyH_ready (rs := [23]) (by kernel_rfl) (by simp) (.cons rfl (fun K hK => ?_) .nil)
         rw [if_pos (by rfl)]; go_simp
         refine hK.out _ _ (HKS.out _ L.out.2.1) (fun hHeld => ?_); clear hK z0 z1 zl zf; (try simp only [Act.put, tA, tB, tC])
         refine wpAnyH_done (by kernel_rfl) ?_ _; clear hHeld; go_wp2_with fail; go_meet
         exact ⟨ba, bb, p1, r1, p2, r2, s1, u1, s2, u2, _, rfl, rfl, rfl, L.out.2.2.2.2.1, L.out.2.2.2.2.2, V.out.1, V.out.2, L.out.2.1⟩
     · as_aux_lemma =>
       rw [if_pos (by rfl)]; go_simp
       obtain ⟨x2, ba, hY, hb, S2, Zba⟩ := al_let x1
       have X2 : Hid (Only oF w4 x2) := X1.out.trans S2.out
       rw [← hY, ← hb]; clear hY hb
       refine hK.out _ _ (HKS.out _ X2.out) (fun hHeld => ?_); clear hK; (try simp only [Act.put, tA, tB, tC])
       refine wpAnyH_ready (rs := [3]) (by kernel_rfl) (by simp) (.cons rfl (fun K hK => ?_) .nil)
       rw [if_pos (by rfl)]; go_simp
       refine Calls.mono (HM.out _ (HOW.out.trans X2.out)) ?_; rintro e x3 ⟨m0, n0, rfl, hw, ho⟩
       have F0 : Hid (Vw x3 m0 (u8s LM)) := own_vw hw
       have S3 : Hid (Only oF x2 x3) := ho
       have X3 : Hid (Only oF w4 x3) := X2.out.trans ho
       clear hw ho
       refine hK.out _ _ (HKS.out _ X3.out) (fun hHeld => ?_); clear hK; (try simp only [Act.put, tA, tB, tC])
       refine wpAnyH_ready (rs := [6]) (by kernel_rfl) (by simp) (.cons rfl (fun K hK => ?_) .nil)
       rw [if_pos (by rfl)]; go_simp
       refine Calls.mono (HB.out _ (HOW.out.trans X3.out)) ?_; rintro e x4 ⟨m1, n1, rfl, hw, ho⟩
       have F1 : Hid (Vw x4 m1 (u8s LB)) := own_vw hw
       have S4 : Hid (Only oF x3 x4) := ho
       have X4 : Hid (Only oF w4 x4) := X3.out.trans ho
       clear hw ho
       refine hK.out _ _ (HKS.out _ X4.out) (fun hHeld => ?_); clear hK; (try simp only [Act.put, tA, tB, tC])
       refine wpAnyH_ready (rs := [8]) (by kernel_rfl) (by simp) (.cons rfl (fun K hK => ?_) .nil)
       rw [if_pos (by rfl)]; go_simp
       refine Calls.mono (HI1.out _ X4.out m0 n0 m1 n1 (F0.out.keep (S4.out)) (F1.out.keep (Only.refl oF _))) ?_; rintro e x5 ⟨p1, r1, s1, u1, rfl, hw, ho⟩
       have G1 : Hid _ := hw
       have S5 : Hid (Only oF x4 x5) := ho
       have X5 : Hid (Only oF w4 x5) := X4.out.trans ho
       clear hw ho
       refine hK.out _ _ (HKS.out _ X5.out) (fun hHeld => ?_); clear hK; (try simp only [Act.put, tA, tB, tC])
       refine wpAnyH_ready (rs := [12]) (by kernel_rfl) (by simp) (.cons rfl (fun K hK => ?_) .nil)
       rw [if_pos (by rfl)]; go_simp
       refine Calls.mono (HM.out _ (HOW.out.trans X5.out)) ?_; rintro e x6 ⟨m3, n3, rfl, hw, ho⟩
       have F3 : Hid (Vw x6 m3 (u8s LM)) := own_vw hw
       have S6 : Hid (Only oF x5 x6) := ho
       have X6 : Hid (Only oF w4 x6) := X5.out.trans ho
       clear hw ho
       refine hK.out _ _ (HKS.out _ X6.out) (fun hHeld => ?_); clear hK; (try simp only [Act.put, tA, tB, tC])
       refine wpAnyH_ready (rs := [15]) (by kernel_rfl) (by simp) (.cons rfl (fun K hK => ?_) .nil)
       rw [if_pos (by rfl)]; go_simp
       refine Calls.mono (HB.out _ (HOW.out.trans X6.out)) ?_; rintro e x7 ⟨m4, n4, rfl, hw, ho⟩
       have F4 : Hid (Vw x7 m4 (u8s LB)) := own_vw hw
       have S7 : Hid (Only oF x6 x7) := ho
       have X7 : Hid (Only oF w4 x7) := X6.out.trans ho
       clear hw ho
       refine hK.out _ _ (HKS.out _ X7.out) (fun hHeld => ?_); clear hK; (try simp only [Act.put, tA, tB, tC])
       refine wpAnyH_ready (rs := [19]) (by kernel_rfl) (by simp) (.cons rfl (fun K hK => ?_) .nil)
       rw [if_pos (by rfl)]; go_simp
       refine Calls.mono (HI2.out _ X7.out m3 n3 m4 n4 (F3.out.keep (S7.out)) (F4.out.keep (Only.refl oF _))) ?_; rintro e x8 ⟨p2, r2, s2, u2, rfl, hw, ho⟩
       have G2 : Hid _ := hw
       have S8 : Hid (Only oF x7 x8) := ho
       have X8 : Hid (Only oF w4 x8) := X7.out.trans ho
       clear hw ho
       refine hK.out _ _ (HKS.out _ X8.out) (fun hHeld => ?_); clear hK; (try simp only [Act.put, tA, tB, tC])
       have hlt : bb < ba := by rw [Zba.out.2]; exact ltz Zbb.out.1 (Only.refl oF _)
       have ne1 : ¬ ba = bb := by omega
       have ne2 : ¬ bb = ba := by omega
       have A : Hid _ := blk_keep (S3.out.trans (S4.out.trans (S5.out.trans (S6.out.trans (S7.out.trans (S8.out)))))) Zba.out.1
       have B : Hid _ := blk_keep (S2.out.trans (S3.out.trans (S4.out.trans (S5.out.trans (S6.out.trans (S7.out.trans (S8.out))))))) Zbb.out.1
       obtain ⟨Y1, hY, L⟩ := hy_leaf (.slice p1 q s1) (.slice r1 (q + 1) u1) (.slice p2 q s2) (.slice r2 (q + 1) u2) X8.out A.out B.out (wz Zba.out.2 X1.out) (wz Zbb.out.2 (Only.refl oF w4)) ne1
       have V : Hid _ := hy_rows (S6.out.trans (S7.out.trans (S8.out))) (Only.refl oF _) (nz1 G1.out Zba.out.1 (S3.out.trans (S4.out))) (nz1 G1.out Zbb.out.1 (S2.out.trans (S3.out.trans (S4.out)))) (nz1 G2.out Zba.out.1 (S3.out.trans (S4.out.trans (S5.out.trans (S6.out.trans (S7.out)))))) (nz1 G2.out Zbb.out.1 (S2.out.trans (S3.out.trans (S4.out.trans (S5.out.trans (S6.out.trans (S7.out))))))) L.out.2.2.1 G1.out G2.out
       obtain ⟨z0, z1, zl, zf⟩ := blk_two' A.out
       refine wpAnyH_ready (rs := [22]) (by kernel_rfl) (by simp) (.cons rfl (fun K hK => ?_) .nil)
       rw [if_pos (by rfl)]; go_simp
       refine hK.out _ _ (by rw [← hY]; exact HKS.out _ L.out.1) (fun hHeld => ?_); clear hK z0 z1 zl zf; (try simp only [Act.put, tA, tB, tC])
       rw [← hY]
       obtain ⟨z0, z1, zl, zf⟩ := blk_two' L.out.2.2.2.1
       clear hY
       refine wpAnyH_ready (rs := [23]) (by kernel_rfl) (by simp) (.cons rfl (fun K hK => ?_) .nil)
       rw [if_pos (by rfl)]; go_simp
       refine hK.out _ _ (HKS.out _ L.out.2.1) (fun hHeld => ?_); clear hK z0 z1 zl zf; (try simp only [Act.put, tA, tB, tC])
       refine wpAnyH_done (by kernel_rfl) ?_ _; clear hHeld; go_wp2_with fail; go_meet
       exact ⟨ba, bb, p1, r1, p2, r2, s1, u1, s2, u2, _, rfl, rfl, rfl, L.out.2.2.2.2.1, L.out.2.2.2.2.2, V.out.1, V.out.2, L.out.2.1⟩
  case rest =>
    obtain ⟨B6, B7, aC, aO, aD, aQ, cC, cO, cD, cQ, W, hW, rfl, rfl, hb6, hb7, hv1, hv2, hoW⟩ := hcut
    subst hW
    have HR : Hid (Vw W aO (u8s O1) ∧ Vw W aQ (u8s O2) ∧ Only (fun _ => False) w4 W ∧ W.heap[B6]? = some (.cells #[.slice aC q cC, .slice aO (q + 1) cO] 62 (0, 0)) ∧ W.heap[B7]? = some (.cells #[.slice aD q cD, .slice aQ (q + 1) cQ] 62 (0, 0))) := ⟨hv1, hv2, hoW, hb6, hb7⟩
    obtain ⟨z0, z1, zl⟩ := blk_two hb6
    obtain ⟨y0, y1, yl⟩ := blk_two hb7
    obtain ⟨g1, o1, e1, hg1, hc1⟩ := hv1.cells (by rw [u8s_len, HQL.out.1]; omega)
    obtain ⟨g2, o2, e2, hg2, hc2⟩ := hv2.cells (by rw [u8s_len, HQL.out.2]; omega)
    subst e1 e2
    have HCC : Hid (∀ (k x y : Nat), O1[k]? = some x → O2[k]? = some y → W.cell? ⟨g1, o1 + k, none⟩ = some (.int .u8 (x : Int)) ∧ W.cell? ⟨g2, o2 + k, none⟩ = some (.int .u8 (y : Int))) := fun k x y hx hy => ⟨hc1 k _ (u8s_at hx), hc2 k _ (u8s_at hy)⟩
    clear hv1 hv2 hoW hb6 hb7 hc1 hc2 k0 k1 k2 k3 k4
    go_wp2_with fail
    go_loopg [55] (q + 1) (fun gh v wr => ∃ (k m : Nat), gh = q + 1 - k ∧ k ≤ q + 1 ∧ v = .int .i64 (k : Int) ∧ wr = W.drewN m)
    case atStart => exact ⟨0, 0, rfl, Nat.zero_le _, rfl, rfl⟩
    case round =>
      obtain ⟨k, m, rfl, hk, rfl, rfl⟩ := hrel
      by_cases hlt : k < q + 1
      · have t1 : (k : Int) < (q : Int) + 1 := by omega
        obtain ⟨x, y, hx, hy, hx8, hy8, hor⟩ := HOP.out k (by omega)
        obtain ⟨c1, c2⟩ := HCC.out k x y hx hy
        clear hx hy
        rcases hor with hor | ⟨hx0, hy3, hk0, hkq⟩
        · subst hor
          go_wp2_with fail
          go_quiet (fail)
          go_wp2_with fail
          go_roundg (q + 1 - (k + 1))
          case measure => omega
          case rel => exact ⟨k + 1, _, rfl, by omega, by go_num, rfl⟩
        · subst hx0 hy3
          have e0 : ((k : Int) == 0) = false := by rw [beq_eq_false_iff_ne]; omega
          have en : ((k : Int) == (q : Int)) = false := by rw [beq_eq_false_iff_ne]; omega
          have e0n : (k == 0) = false := by rw [beq_eq_false_iff_ne]; omega
          have enn : (k == q) = false := by rw [beq_eq_false_iff_ne]; omega
          clear hk0 hkq
          go_wp2_with fail
          go_quiet (fail)
          go_wp2_with fail
          go_roundg (q + 1 - (k + 1))
          case measure => omega
          case rel => exact ⟨k + 1, _, rfl, by omega, by go_num, rfl⟩
      · have t1 : decide ((k : Int) < (q : Int) + 1) = false := decide_eq_false (by omega)
        go_wp2_with fail
        go_ret
        exact ⟨rfl, HOW.out.trans (HR.out.2.2.1.drewN m)⟩
end Go.Proofs.Ytlcpfheocenjfaa.itemsHyphens
namespace Go.Proofs.Ytlcpfheocenjfaa.itemsHyphens
open Go.RowKit Go.Maps
set_option linter.unusedVariables false
set_option maxRecDepth 100000 in
set_option maxHeartbeats 4000000 in
theorem walk (K : Kase) (w : World) (hK : K.Ok w) : Calls Try.prog 12 #[K.val] w fun e w' => e = .returned (.bool true) ∧ Only (fun _ => False) w w' := by
  by_cases h5 : K.S.length ≤ 300
  · exact walk1 K w hK h5
  · obtain ⟨LS, LM, LB, LP, LR, aS0, aM0, aB0, aP0, aR0, cS0, cM0, cB0, cP0, cR0, bR0, oR0⟩ := K
    obtain ⟨vS, bS, sS, vM, bM, sM, vB, bB, sB, vP, sP, vR, fR⟩ := hK
    simp only [Kase.val] at *
    obtain ⟨n0, hn0⟩ : ∃ n, n = LS.length := ⟨_, rfl⟩
    obtain ⟨nM, hnM⟩ : ∃ n, n = LM.length := ⟨_, rfl⟩
    obtain ⟨nB, hnB⟩ : ∃ n, n = LB.length := ⟨_, rfl⟩
    obtain ⟨nP, hnP⟩ : ∃ n, n = LP.length := ⟨_, rfl⟩
    obtain ⟨nR, hnR⟩ : ∃ n, n = LR.length := ⟨_, rfl⟩
    rw [← hn0] at h5 sS ⊢
    rw [← hnM, ← hnB, ← hnP, ← hnR]
    clear vS bS vM bM sM vB bB sB vP sP vR fR hn0 hnM hnB hnP hnR
    have s0 : (300 : Int) < (n0 : Int) := by omega
    go_enter Try.func12, Try.ntmps12
    go_wp2_with fail
    obtain ⟨R, hR⟩ : ∃ b, b = w.heap.size := ⟨_, rfl⟩
    obtain ⟨w0, hw0⟩ : ∃ Z, Z = w.alloc (.cells #[.slice aS0 n0 cS0, .slice aM0 nM cM0, .slice aB0 nB cB0, .slice aP0 nP cP0, .slice aR0 nR cR0] 60) := ⟨_, rfl⟩
    rw [← hw0, ← hR]
    have H0 : Hid (w0.heap[R]? = some (.cells #[.slice aS0 n0 cS0, .slice aM0 nM cM0, .slice aB0 nB cB0, .slice aP0 nP cP0, .slice aR0 nR cR0] 60 (0, 0)) ∧ Only (fun _ => False) w w0) := by
      rw [hw0, hR]
      exact ⟨heap_alloc_new w _, (Only.refl _ _).alloc _⟩
    clear hw0 hR
    refine (awake11_any _).mono ?_
    rintro e w1 ⟨rfl, ho1⟩
    have H1 : Hid (Only (fun _ => False) w w1) := H0.out.2.trans ho1
    obtain ⟨k0, k1, k2, k3, k4, l1⟩ := blk_five (blk_keep ho1 H0.out.1)
    clear ho1
    go_wp2_with fail
    go_ret
    exact ⟨rfl, H1.out⟩
end Go.Proofs.Ytlcpfheocenjfaa.itemsHyphens
