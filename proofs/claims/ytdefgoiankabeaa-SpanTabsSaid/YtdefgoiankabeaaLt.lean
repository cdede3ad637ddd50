/-
  stanzalaw13.SpanTabs: its walk.
-/
import Derived.Test.YtdefgoiankabeaaSw
import Derived.Test.YtdefgoiankabeaaCu
namespace Go.Proofs.Ytdefgoiankabeaa.spanTabs
open Go.RowKit Go.Maps
set_option linter.unusedVariables false
set_option linter.unusedSimpArgs false
theorem infoBit : (Try.prog.info? 56).map (fun i => (i.zero, i.size, i.bytes)) = some (some (.agg #[.int .u8 0, .int .u8 0, .int .u8 0, .int .u8 0]), 4, 4) := by kernel_rfl
/-- the bit of a place. -/
def kd (at_ i : Nat) : Nat := if (i + at_) % 3 = 0 then 2 else 0
def tl (X : List Nat) (at_ i : Nat) : List Bt := (List.range i).map fun j => ⟨X.getD j 0, kd at_ j, 0, 0⟩
theorem tl_len (X : List Nat) (at_ i : Nat) : (tl X at_ i).length = i := by simp [tl]
theorem tl_snoc {X : List Nat} {at_ i x : Nat} (h : X[i]? = some x) : tl X at_ (i + 1) = tl X at_ i ++ [⟨x, kd at_ i, 0, 0⟩] := by
  unfold tl
  rw [List.range_succ, List.map_append, List.map_singleton, List.getD_eq_getElem?_getD, h]
  rfl
theorem tl_ok {X : List Nat} (h : ∀ x ∈ X, x < 256) (at_ i : Nat) : ∀ b ∈ tl X at_ i, b.cells < 256 ∧ b.kind < 256 ∧ b.len < 256 ∧ b.opp < 256 := fun b hb => by
  unfold tl at hb
  obtain ⟨j, _, rfl⟩ := List.mem_map.1 hb
  refine ⟨?_, ?_, by show (0 : Nat) < 256; decide, by show (0 : Nat) < 256; decide⟩
  · show X.getD j 0 < 256
    rw [List.getD_eq_getElem?_getD]
    cases hx : X[j]? with
    | none => decide
    | some x => exact h x (List.mem_of_getElem? hx)
  · show kd at_ j < 256
    unfold kd
    split <;> decide
theorem btC_snoc (L : List Bt) (b : Bt) : btC (L ++ [b]) = btC L ++ [.int .u8 (b.cells : Int), .int .u8 (b.kind : Int), .int .u8 (b.len : Int), .int .u8 (b.opp : Int)] := by
  unfold btC
  rw [List.flatMap_append]
  rfl
theorem new2 (W : World) (o1 o3 : Obj) : ((W.alloc o1).alloc o3).heap[W.heap.size + 1]? = some o3 ∧ ((W.alloc o1).alloc o3).heap.size = W.heap.size + 2 := by
  have a1 : (W.alloc o1).heap.size = W.heap.size + 1 := Array.size_push _
  have a3 : ((W.alloc o1).alloc o3).heap.size = (W.alloc o1).heap.size + 1 := Array.size_push _
  exact ⟨heap_alloc2_new W o1 o3, by omega⟩
set_option maxRecDepth 100000 in
set_option maxHeartbeats 4000000 in
theorem walk0 (X : List Nat) (a0 : Option Addr) (c0 : Nat) (tb at_ : Nat) (w : World) (hs : X.length ≤ 140737488351232) (h5 : ¬ X.length ≤ 300) : Calls Try.prog 8 #[.slice a0 X.length c0, .int .u8 (tb : Int), .int .u8 (at_ : Int)] w fun e w' => e = .returned (.bool true) ∧ Only (fun _ => False) w w' := by
  obtain ⟨n0, hn0⟩ : ∃ n, n = X.length := ⟨_, rfl⟩
  rw [← hn0] at hs h5 ⊢
  have s0 : (300 : Int) < (n0 : Int) := by omega
  clear hn0
  go_enter Try.func8, Try.ntmps8
  go_wp2_with (first | (go_at_call 9; refine (awake_any _).mono ?_; rintro e w1 ⟨rfl, ho1⟩; have HO1 : Hid (Only (fun _ => False) w w1) := ho1; clear ho1) | fail)
  go_ret
  exact ⟨rfl, HO1.out⟩
set_option maxRecDepth 100000 in
set_option maxHeartbeats 8000000 in
theorem walk1 (X : List Nat) (a0 : Option Addr) (c0 : Nat) (tb at_ : Nat) (w : World) (hV : Vw w a0 (u8s X)) (hB : ∀ x ∈ X, x < 256) (hs : X.length ≤ 300) (htb : tb ≤ 255) (hat : at_ ≤ 255) : Calls Try.prog 8 #[.slice a0 X.length c0, .int .u8 (tb : Int), .int .u8 (at_ : Int)] w fun e w' => e = .returned (.bool true) ∧ Only (fun _ => False) w w' := by
  obtain ⟨i3, g3, g30, g31, g32⟩ := info_parts infoBit
  obtain ⟨tq, htq⟩ : ∃ q, q = tb % 64 := ⟨_, rfl⟩
  have p1 : (tb : Int).tmod 64 = (tq : Int) := by rw [Int.tmod_eq_emod_of_nonneg (by omega)]; omega
  have htq2 : tq < 64 := by omega
  obtain ⟨t, ht1⟩ : ∃ t, t = 1 + tq := ⟨_, rfl⟩
  have p2 : IntKind.i64.wrap (1 + (tq : Int)) = (t : Int) := by rw [IntKind.wrap_i64]; omega
  have h0 : 0 < t := by omega
  have ht : t ≤ 1000 := by omega
  clear htq ht1
  have HVB : Hid (Vw w a0 (u8s X) ∧ ∀ x ∈ X, x < 256) := ⟨hV, hB⟩
  obtain ⟨n0, hn0⟩ : ∃ n, n = X.length := ⟨_, rfl⟩
  rw [← hn0] at hs ⊢
  have s0 : decide ((300 : Int) < (n0 : Int)) = false := decide_eq_false (by omega)
  have HN : Hid (n0 = X.length) := hn0
  clear hV hB hn0
  go_enter Try.func8, Try.ntmps8
  go_wp2_with fail
  refine (awake_any _).mono ?_
  rintro e w1 ⟨rfl, ho1⟩
  have HO1 : Hid (Only (fun _ => False) w w1) := ho1
  clear ho1
  go_wp2_with fail
  go_loopg [8, 28] n0 (fun gh v8 v28 wr => ∃ (i : Nat) (a : Option Addr) (c : Nat) (W : World), W = wr ∧ gh = n0 - i ∧ i ≤ n0 ∧ v8 = .slice a i c ∧ v28 = .int .i64 (i : Int) ∧ W.ownsRow w1.heap.size 56 4 (.slice a i c) i (btC (tl X at_ i)) ∧ Only (fun g => w1.heap.size ≤ g) w1 W)
  case atStart => exact ⟨0, none, 0, _, rfl, rfl, Nat.zero_le _, rfl, rfl, ⟨rfl, Or.inl ⟨rfl, rfl⟩⟩, Only.refl _ _⟩
  case round =>
    obtain ⟨i, a, c, W, hW, rfl, hi, rfl, rfl, hown, hoW⟩ := hrel
    subst hW
    have HG : Hid (W.ownsRow w1.heap.size 56 4 (.slice a i c) i (btC (tl X at_ i)) ∧ Only (fun g => w1.heap.size ≤ g) w1 W ∧ Only (fun _ => False) w W) := ⟨hown, hoW, HO1.out.trans (hoW.old (fun g hg => Or.inl hg))⟩
    have hsz := hoW.size
    clear hown hoW
    by_cases hlt : i < n0
    · have t1 : (i : Int) < (n0 : Int) := by omega
      obtain ⟨x, hx⟩ : ∃ x, X[i]? = some x := ⟨_, List.getElem?_eq_getElem (by rw [← HN.out]; exact hlt)⟩
      have hx8 : x < 256 := HVB.out.2 x (List.mem_of_getElem? hx)
      obtain ⟨b0, off, rfl, hb0, hc⟩ := (HVB.out.1.keep HG.out.2.2).cells (by rw [u8s_len, ← HN.out]; omega)
      have c1 := hc i _ (u8s_at hx)
      have HX : Hid (X[i]? = some x) := hx
      have wa : IntKind.i64.wrap (at_ : Int) = (at_ : Int) := wrap_small _ (by omega) (by omega)
      obtain ⟨ia, hia⟩ : ∃ q, q = i + at_ := ⟨_, rfl⟩
      have wb : IntKind.i64.wrap ((i : Int) + (at_ : Int)) = (ia : Int) := by rw [IntKind.wrap_i64]; omega
      obtain ⟨r3, hr3⟩ : ∃ q, q = ia % 3 := ⟨_, rfl⟩
      have p3 : (ia : Int).tmod 3 = (r3 : Int) := by rw [Int.tmod_eq_emod_of_nonneg (by omega)]; omega
      clear hx hc
      by_cases h3 : r3 = 0
      · have t2 : ((r3 : Int) == 0) = true := by rw [beq_iff_eq]; omega
        have HK : Hid (btC (tl X at_ (i + 1)) = btC (tl X at_ i) ++ [.int .u8 (x : Int), .int .u8 2, .int .u8 0, .int .u8 0]) := by
          rw [tl_snoc HX.out, btC_snoc]
          have : kd at_ i = 2 := if_pos (by rw [← hia, ← hr3]; exact h3)
          rw [this]
          exact rfl
        have HVA : Hid _ := new2 W (.cells #[.int .u8 (x : Int), .int .u8 2, .int .u8 0, .int .u8 0] 56) (.cells #[.int .u8 (x : Int), .int .u8 2, .int .u8 0, .int .u8 0] 56)
        clear hia hr3 h3
        go_wp2_with (at_builtin; (refine wpList_append_lies _ rfl _ _ 28 rfl w1.heap.size 56 i3 (.agg #[.int .u8 0, .int .u8 0, .int .u8 0, .int .u8 0]) 4 4 Try.underlying28 g3 g30 g31 g32 rfl (by decide) (.slice a i c) i (btC (tl X at_ i)) rfl (((HG.out.1.alloc _).alloc _)) ⟨W.heap.size + 1, 0, none⟩ 1 1 [.int .u8 (x : Int), .int .u8 2, .int .u8 0, .int .u8 0] rfl rfl (World.news_of_block (cs := #[.int .u8 (x : Int), .int .u8 2, .int .u8 0, .int .u8 0]) HVA.out.1) (fun u hu => by simp at hu; rcases hu with rfl | rfl | rfl | rfl <;> rfl) (by decide) (by unfold maxLen; omega) (by omega) (by rw [HVA.out.2]; omega) (W.heap.size + 2) HVA.out.2 ?_; intro g5 cap5 w5 hown5 hgrow5 hat5 hlt5; have hoo : Only (fun g => w1.heap.size ≤ g) W w5 := ((((Only.refl (fun g => w1.heap.size ≤ g) W).alloc _).alloc _)).grown hgrow5 (fun g hg => (own_own HG.out.1 hg).1); have H5 : Hid (w5.ownsRow w1.heap.size 56 4 (.slice (some ⟨g5, 0, none⟩) (i + 1) cap5) (i + 1) (btC (tl X at_ (i + 1))) ∧ Only (fun g => w1.heap.size ≤ g) w1 w5) := ⟨by rw [HK.out]; exact hown5, HG.out.2.1.trans hoo⟩; clear hown5 hgrow5 hat5 hoo))
        go_roundg (n0 - (i + 1))
        case measure => omega
        case rel => exact ⟨i + 1, _, _, _, rfl, rfl, by omega, rfl, by go_num, H5.out.1, H5.out.2⟩
      · have t2 : ((r3 : Int) == 0) = false := by rw [beq_eq_false_iff_ne]; omega
        have HK : Hid (btC (tl X at_ (i + 1)) = btC (tl X at_ i) ++ [.int .u8 (x : Int), .int .u8 0, .int .u8 0, .int .u8 0]) := by
          rw [tl_snoc HX.out, btC_snoc]
          have : kd at_ i = 0 := if_neg (by rw [← hia, ← hr3]; exact h3)
          rw [this]
          exact rfl
        have HVA : Hid _ := new2 W (.cells #[.int .u8 (x : Int), .int .u8 0, .int .u8 0, .int .u8 0] 56) (.cells #[.int .u8 (x : Int), .int .u8 0, .int .u8 0, .int .u8 0] 56)
        clear hia hr3 h3
        go_wp2_with (at_builtin; (refine wpList_append_lies _ rfl _ _ 28 rfl w1.heap.size 56 i3 (.agg #[.int .u8 0, .int .u8 0, .int .u8 0, .int .u8 0]) 4 4 Try.underlying28 g3 g30 g31 g32 rfl (by decide) (.slice a i c) i (btC (tl X at_ i)) rfl (((HG.out.1.alloc _).alloc _)) ⟨W.heap.size + 1, 0, none⟩ 1 1 [.int .u8 (x : Int), .int .u8 0, .int .u8 0, .int .u8 0] rfl rfl (World.news_of_block (cs := #[.int .u8 (x : Int), .int .u8 0, .int .u8 0, .int .u8 0]) HVA.out.1) (fun u hu => by simp at hu; rcases hu with rfl | rfl | rfl | rfl <;> rfl) (by decide) (by unfold maxLen; omega) (by omega) (by rw [HVA.out.2]; omega) (W.heap.size + 2) HVA.out.2 ?_; intro g5 cap5 w5 hown5 hgrow5 hat5 hlt5; have hoo : Only (fun g => w1.heap.size ≤ g) W w5 := ((((Only.refl (fun g => w1.heap.size ≤ g) W).alloc _).alloc _)).grown hgrow5 (fun g hg => (own_own HG.out.1 hg).1); have H5 : Hid (w5.ownsRow w1.heap.size 56 4 (.slice (some ⟨g5, 0, none⟩) (i + 1) cap5) (i + 1) (btC (tl X at_ (i + 1))) ∧ Only (fun g => w1.heap.size ≤ g) w1 w5) := ⟨by rw [HK.out]; exact hown5, HG.out.2.1.trans hoo⟩; clear hown5 hgrow5 hat5 hoo))
        go_roundg (n0 - (i + 1))
        case measure => omega
        case rel => exact ⟨i + 1, _, _, _, rfl, rfl, by omega, rfl, by go_num, H5.out.1, H5.out.2⟩
    · have t1 : decide ((i : Int) < (n0 : Int)) = false := decide_eq_false (by omega)
      have hin : i = n0 := by omega
      subst hin
      have HPA : Hid (Calls Try.prog 12 #[.slice a i c] W fun e w' => ∃ k aC aO cC cO, e = .returned (.agg #[.slice aC k cC, .slice aO (k + 1) cO]) ∧ k ≤ i ∧ (k = i ∨ 4000 ≤ It.sum (Pa.cts ((tl X at_ i).take k) 0)) ∧ Pv w' (Pa.cts ((tl X at_ i).take k) 0) (Pa.ops (tl X at_ i) k ++ [2]) k (k + 1) aC aO cC cO ∧ Only (fun _ => False) W w') := para_pv (tl X at_ i) i a c W (tl_len _ _ _).symm (own_vw HG.out.1) (tl_ok HVB.out.2 at_ i) (by omega)
      go_wp2_with fail
      refine Calls.mono HPA.out ?_
      rintro e w2 ⟨k, aC, aO, cC, cO, rfl, hk, _, hPv, ho2⟩
      obtain ⟨C, hCe⟩ : ∃ C, C = Pa.cts ((tl X at_ i).take k) 0 := ⟨_, rfl⟩
      obtain ⟨O, hOe⟩ : ∃ O, O = Pa.ops (tl X at_ i) k ++ [2] := ⟨_, rfl⟩
      rw [← hCe, ← hOe] at hPv
      obtain ⟨m, hm⟩ : ∃ m, m = k + 1 := ⟨_, rfl⟩
      rw [← hm] at hPv ⊢
      have HM : Hid (m = k + 1) := hm
      have hk1 : k ≤ 300 := by omega
      have H2 : Hid (Pv w2 C O k m aC aO cC cO ∧ Only (fun _ => False) w w2) := ⟨hPv, HG.out.2.2.trans ho2⟩
      clear hPv ho2 hCe hOe hm hk
      go_wp2_with fail
      obtain ⟨R, w3, hw3, hR, H3, r0, r1, lR⟩ := box2 w2 (.slice aC k cC) (.slice aO m cO) 33
      rw [hw3, hR]
      clear hw3 hR
      have K1 : Hid (Calls Try.prog 17 #[.agg #[.slice aC k cC, .slice aO m cO], .int .i64 0, .int .i64 (k : Int), .int .i64 (t : Int)] w3 fun e w' => ∃ (aX : Option Addr) (cX : Nat), e = .returned (.slice aX m cX) ∧ w'.ownsRow w3.heap.size 3 1 (.slice aX m cX) m (natI (Sp.cols C t 0 k)) ∧ Only (fun _ => False) w3 w') := (columns_any C O k m aC aO cC cO 0 k t w3 (H2.out.1.keep H3.out.2) (Nat.zero_le _) (Nat.le_refl _) h0 ht).mono (fun e w' h => by
        obtain ⟨aX, cX, h1', h2', h3'⟩ := h
        rw [Sp.cols_len, Nat.sub_zero, ← HM.out] at h1' h2'
        exact ⟨aX, cX, h1', h2', h3'⟩)
      refine Calls.mono K1.out ?_
      rintro e w4 ⟨aX, cX, rfl, hX, ho4⟩
      have H4 : Hid (Pv w4 C O k m aC aO cC cO ∧ Vw w4 aX (natI (Sp.cols C t 0 k)) ∧ Only (fun _ => False) w w4) := ⟨H2.out.1.keep (H3.out.2.trans ho4), own_vw hX, H2.out.2.trans (H3.out.2.trans ho4)⟩
      obtain ⟨r0', r1', lR'⟩ := blk_two (blk_keep ho4 H3.out.1)
      have nn1 : IntKind.i64.wrap ((k : Int) + 1) = (m : Int) := by have := HM.out; rw [IntKind.wrap_i64]; omega
      have nn2 : ((m : Int) != (m : Int)) = false := by simp
      have HCO : Hid (∀ j, j ≤ k → Sp.col C t 0 j ≤ 100200000) := fun j hj => col_small H4.out.1.ok h0 ht (by omega)
      clear hX ho4 r0 r1 lR H2 K1
      go_wp2_with fail
      clear nn1 nn2
      go_loopg [65] k (fun gh v wr => ∃ (j : Nat) (W2 : World), W2 = wr ∧ gh = k - j ∧ j ≤ k ∧ v = .int .i64 (j : Int) ∧ Only (fun _ => False) w4 W2)
      case atStart => exact ⟨0, _, rfl, rfl, Nat.zero_le _, rfl, Only.refl _ _⟩
      case round =>
        obtain ⟨j, W2, hW2, rfl, hj, rfl, hoW⟩ := hrel
        subst hW2
        have HG2 : Hid (Only (fun _ => False) w4 W2) := hoW
        clear hoW
        by_cases hlj : j < k
        · have t3 : (j : Int) < (k : Int) := by omega
          obtain ⟨z, hz⟩ : ∃ z, C[j]? = some z := ⟨_, List.getElem?_eq_getElem (by rw [← H4.out.1.hn]; omega)⟩
          obtain ⟨xp, xl, xc, xk, rfl, hxc, hxk⟩ := H4.out.1.ok.nat hz
          obtain ⟨g, off, rfl, hg, c0', c1, c2, c3⟩ := (H4.out.1.vC.keep HG2.out).cluster (k := j) hz
          simp only at c0' c1 c2 c3
          obtain ⟨bx, ox, hax, _, hcx⟩ := (H4.out.2.1.keep HG2.out).cells (by rw [natI_len, Sp.cols_len]; omega)
          subst hax
          obtain ⟨j1, hj1⟩ : ∃ q, q = j + 1 := ⟨_, rfl⟩
          have e0 : IntKind.i64.wrap ((j : Int) + 1) = (j1 : Int) := by rw [IntKind.wrap_i64]; omega
          have e1 : (j1 : Int) < (m : Int) := by have := HM.out; omega
          have e2 : (j : Int) < (m : Int) := by have := HM.out; omega
          obtain ⟨q0, hq0⟩ : ∃ q, q = Sp.col C t 0 j := ⟨_, rfl⟩
          obtain ⟨q1, hq1⟩ : ∃ q, q = Sp.col C t 0 j1 := ⟨_, rfl⟩
          have d0 : W2.cell? ⟨bx, ox + j, none⟩ = some (.int .i64 (q0 : Int)) := by rw [hq0]; exact hcx j _ (natI_get (Sp.cols_at (by omega)))
          have d1 : W2.cell? ⟨bx, ox + j1, none⟩ = some (.int .i64 (q1 : Int)) := by rw [hq1]; exact hcx j1 _ (natI_get (Sp.cols_at (by omega)))
          have hnx : q1 = Sp.nx ⟨xp, xl, (xc : Int), xk⟩ t q0 := by
            rw [hq1, hj1, hq0]
            show Sp.nx (Sp.at' C (0 + j)) t (Sp.col C t 0 j) = _
            rw [Nat.zero_add, at_some hz]
          have hql : q1 ≤ 100200000 := by rw [hq1]; exact HCO.out _ (by omega)
          have hge : q0 ≤ q1 := by rw [hnx]; exact Sp.nx_ge h0
          obtain ⟨dn, hdn⟩ : ∃ q, q = q1 - q0 := ⟨_, rfl⟩
          have e3 : IntKind.i64.wrap ((q1 : Int) - (q0 : Int)) = (dn : Int) := by rw [IntKind.wrap_i64]; omega
          have HJ : Hid (j1 = j + 1) := hj1
          have tne : ¬ (t : Int) = 0 := by omega
          have tne2 : ((t : Int) == 0) = false := by simpa using tne
          by_cases hk2 : xk = 2
          · have u1 : ((xk : Int) == 2) = true := by rw [beq_iff_eq]; omega
            have u2 : ((xk : Int) == 0) = false := by rw [beq_eq_false_iff_ne]; omega
            have htb := Sp.nx_tab (c := ⟨xp, xl, (xc : Int), xk⟩) (x := q0) h0 hk2
            rw [← hnx] at htb
            have u3 : (q1 : Int).tmod (t : Int) = 0 := by
              rw [Int.tmod_eq_emod_of_nonneg (by omega)]
              have := htb.1
              omega
            have u4 : decide ((dn : Int) < 1) = false := decide_eq_false (by omega)
            have u5 : decide ((t : Int) < (dn : Int)) = false := decide_eq_false (by omega)
            have u4n : decide (dn < 1) = false := decide_eq_false (by omega)
            have u5n : decide (t < dn) = false := decide_eq_false (by omega)
            clear hcx hz hq0 hq1 hnx hdn hj1 hk2 htb
            go_wp2_with fail
            obtain ⟨B4, w5, hw5, hB4, H5, l4⟩ := box4 W2 (.int .i64 (xp : Int)) (.int .i64 (xl : Int)) (.int .i64 (xc : Int)) (.int .u8 (xk : Int)) 39
            rw [hw5, hB4]
            obtain ⟨v0, v1, v2, v3⟩ := blk_four H5.out.1
            have d0' := keep0 H5.out.2.1 d0
            have d1' := keep0 H5.out.2.1 d1
            clear hw5 hB4 c0' c1 c2 c3 d0 d1
            go_quiet (fail)
            go_wp2_with fail
            go_roundg (k - (j + 1))
            case measure => omega
            case rel => exact ⟨j1, _, rfl, by rw [HJ.out], by have := HJ.out; omega, by go_num, HG2.out.trans (H5.out.2.1.drewN _)⟩
          · have u1 : ((xk : Int) == 2) = false := by rw [beq_eq_false_iff_ne]; omega
            by_cases hk0 : xk = 0
            · have u2 : ((xk : Int) == 0) = true := by rw [beq_iff_eq]; omega
              have hnx2 : q1 = q0 + xc := by rw [hnx]; exact if_neg hk2
              have u3 : dn = xc := by omega
              subst u3
              have u6 : ((dn : Int) != (dn : Int)) = false := by simp
              clear hcx hz hq0 hq1 hnx hnx2 hdn hj1 hk2 hk0
              go_wp2_with fail
              obtain ⟨B4, w5, hw5, hB4, H5, l4⟩ := box4 W2 (.int .i64 (xp : Int)) (.int .i64 (xl : Int)) (.int .i64 (dn : Int)) (.int .u8 (xk : Int)) 39
              rw [hw5, hB4]
              obtain ⟨v0, v1, v2, v3⟩ := blk_four H5.out.1
              have d0' := keep0 H5.out.2.1 d0
              have d1' := keep0 H5.out.2.1 d1
              clear hw5 hB4 c0' c1 c2 c3 d0 d1
              go_quiet (fail)
              go_wp2_with fail
              go_roundg (k - (j + 1))
              case measure => omega
              case rel => exact ⟨j1, _, rfl, by rw [HJ.out], by have := HJ.out; omega, by go_num, HG2.out.trans (H5.out.2.1.drewN _)⟩
            · have u2 : ((xk : Int) == 0) = false := by rw [beq_eq_false_iff_ne]; omega
              clear hcx hz hq0 hq1 hnx hdn hj1 hk2 hk0
              go_wp2_with fail
              obtain ⟨B4, w5, hw5, hB4, H5, l4⟩ := box4 W2 (.int .i64 (xp : Int)) (.int .i64 (xl : Int)) (.int .i64 (xc : Int)) (.int .u8 (xk : Int)) 39
              rw [hw5, hB4]
              obtain ⟨v0, v1, v2, v3⟩ := blk_four H5.out.1
              have d0' := keep0 H5.out.2.1 d0
              have d1' := keep0 H5.out.2.1 d1
              clear hw5 hB4 c0' c1 c2 c3 d0 d1
              go_quiet (fail)
              go_wp2_with fail
              go_roundg (k - (j + 1))
              case measure => omega
              case rel => exact ⟨j1, _, rfl, by rw [HJ.out], by have := HJ.out; omega, by go_num, HG2.out.trans (H5.out.2.1.drewN _)⟩
        · have t3 : decide ((j : Int) < (k : Int)) = false := decide_eq_false (by omega)
          go_wp2_with fail
          go_ret
          exact ⟨rfl, H4.out.2.2.trans HG2.out⟩
theorem walk (X : List Nat) (a0 : Option Addr) (c0 : Nat) (tbI atI : Int) (w : World) (hV : Vw w a0 (u8s X)) (hB : ∀ x ∈ X, x < 256) (hs : X.length ≤ 140737488351232) (ht : 0 ≤ tbI ∧ tbI ≤ 255) (ha : 0 ≤ atI ∧ atI ≤ 255) : Calls Try.prog 8 #[.slice a0 X.length c0, .int .u8 tbI, .int .u8 atI] w fun e w' => e = .returned (.bool true) ∧ Only (fun _ => False) w w' := by
  obtain ⟨tb, rfl⟩ : ∃ n : Nat, tbI = (n : Int) := ⟨tbI.toNat, by omega⟩
  obtain ⟨at_, rfl⟩ : ∃ n : Nat, atI = (n : Int) := ⟨atI.toNat, by omega⟩
  by_cases h5 : X.length ≤ 300
  · exact walk1 X a0 c0 tb at_ w hV hB h5 (by omega) (by omega)
  · exact walk0 X a0 c0 tb at_ w hs h5
end Go.Proofs.Ytdefgoiankabeaa.spanTabs
