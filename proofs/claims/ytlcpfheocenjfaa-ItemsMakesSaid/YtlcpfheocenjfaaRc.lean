/-
  The reference's Clusters.
-/
import Derived.Test.YtlcpfheocenjfaaMko
namespace Go.Proofs.Ytlcpfheocenjfaa
open Go.RowKit Go.Maps
set_option linter.unusedVariables false
set_option linter.unusedSimpArgs false
theorem own_base {w : World} {base base' e size n : Nat} {v : Value} {xs : List Value} (h : w.ownsRow base e size v n xs) (hb : base' ≤ base) : w.ownsRow base' e size v n xs := by
  obtain ⟨hl, h | ⟨g, cap, cur, hv, hg, h1⟩⟩ := h
  · exact ⟨hl, Or.inl h⟩
  · exact ⟨hl, Or.inr ⟨g, cap, cur, hv, Nat.le_trans hb hg, h1⟩⟩
theorem info35 : (Try.prog.info? 35).map (fun i => (i.zero, i.size, i.bytes)) = some (some (.slice none 0 0), 1, 24) := by kernel_rfl
set_option maxRecDepth 100000 in
set_option maxHeartbeats 8000000 in
theorem refClusters_any (L : List Rg) (S : List Sn) (M : List Nat) (aS aM aL : Option Addr) (cS cM bL oL cL : Nat) (w : World) (hL : Sees w L aL bL oL cL) (hLn : L.length ≤ 256) (hok : Pr.okFrom 256 (-1) L = true) (hV : Vw w aS (snC S)) (hF : Fits S) (hVM : Vw w aM (u8s M)) (hB : ∀ x ∈ M, x < 256) (hn : S.length ≤ 100000) (hm : M.length ≤ maxLen) :
    Calls Try.prog 20 #[.slice aS S.length cS, .slice aM M.length cM, .slice aL L.length cL] w (ceP (Pr.of L) S M w) := by
  obtain ⟨i3, g3, g30, g31, g32⟩ := info_parts info3
  obtain ⟨j3, h3, h30, h31, h32⟩ := info_parts info48
  have HV : Hid (Vw w aM (u8s M)) := hVM
  have HVS : Hid (Vw w aS (snC S) ∧ Fits S) := ⟨hV, hF⟩
  have HB : Hid (∀ x ∈ M, x < 256) := hB
  have HOF : Hid (∀ W, Only (fun _ => False) w W → ∀ r, Calls Try.prog 43 #[.slice aL L.length cL, .int .i32 r] W fun e w' => e = .returned (.int .i64 (Pr.of L r)) ∧ Only (fun _ => False) W w') := fun W ho r => (refOf_any L r aL bL oL cL W (hL.keep ho) (by omega)).mono (fun e w' h => ⟨h.1, only_below h.2⟩)
  have HOK : Hid (∀ r, 0 ≤ Pr.of L r ∧ Pr.of L r ≤ 255) := fun r => Pr.of_range hok
  obtain ⟨n, hn'⟩ : ∃ n, n = S.length := ⟨_, rfl⟩
  obtain ⟨nl, hnl⟩ : ∃ n, n = L.length := ⟨_, rfl⟩
  have HS : Hid (n = S.length ∧ nl = L.length) := ⟨hn', hnl⟩
  rw [← hnl] at HOF ⊢
  rw [← hn'] at hn ⊢
  obtain ⟨m, hm'⟩ : ∃ m, m = M.length := ⟨_, rfl⟩
  have HM : Hid (m = M.length) := hm'
  rw [← hm'] at hm ⊢
  unfold maxLen at hm
  clear hV hB hm' hVM hF hL hok hLn hn' hnl
  go_enter Try.func20, Try.ntmps20
  go_wp2_with fail
  go_loopg [8, 9] n (fun gh v5 v8 wr => ∃ (i k : Nat) (a : Option Addr) (c : Nat) (W : World), W = wr ∧ gh = n - i ∧ i ≤ n ∧ v5 = .slice a k c ∧ v8 = .int .i64 (i : Int) ∧ k ≤ i ∧ k = (Ce.st M i).length ∧ W.ownsRow w.heap.size 3 1 (.slice a k c) k (natI (Ce.st M i)) ∧ Only (fun b => w.heap.size ≤ b) w W)
  case atStart => exact ⟨0, 0, none, 0, _, rfl, rfl, Nat.zero_le _, rfl, rfl, Nat.le_refl _, rfl, ⟨rfl, Or.inl ⟨rfl, rfl⟩⟩, Only.refl _ _⟩
  case round =>
    obtain ⟨i, k, a, c, W, hW, rfl, hi, rfl, rfl, hki, hk, hown, hoW⟩ := hrel
    subst hW
    have HG : Hid (W.ownsRow w.heap.size 3 1 (.slice a k c) k (natI (Ce.st M i)) ∧ Only (fun b => w.heap.size ≤ b) w W ∧ k = (Ce.st M i).length) := ⟨hown, hoW, hk⟩
    have hsz := hoW.size
    clear hown hoW hk
    have HVA : Hid ((W.alloc (.cells #[.int .i64 (i : Int)] 3)).heap[W.heap.size]? = some (.cells #[.int .i64 (i : Int)] 3 (0, 0)) ∧ (W.alloc (.cells #[.int .i64 (i : Int)] 3)).heap.size = W.heap.size + 1) := ⟨heap_alloc_new W _, by simp⟩
    by_cases hlt : i < n
    · have t1 : (i : Int) < (n : Int) := by omega
      by_cases h0 : i = 0
      · have t2 : ((i : Int) == 0) = true := by rw [beq_iff_eq]; omega
        have HC : Hid (Ce.cut M i = true) := (by rw [h0]; rfl : Ce.cut M i = true)
        have HI0 : Hid (i = 0) := h0
        clear h0
        go_wp2_with (at_builtin; (refine wpList_append_lies _ rfl _ _ 35 rfl w.heap.size 3 i3 (.int .i64 0) 1 8 Try.underlying35 g3 g30 g31 g32 rfl (by decide) (.slice a k c) k (natI (Ce.st M i)) rfl (HG.out.1.alloc _) ⟨W.heap.size, 0, none⟩ 1 1 [.int .i64 (i : Int)] rfl rfl (World.news_of_block (cs := #[.int .i64 (i : Int)]) HVA.out.1) (fun u hu => by simp at hu; rcases hu with rfl; rfl) (by decide) (by unfold maxLen; omega) (by omega) (by rw [HVA.out.2]; omega) (W.heap.size + 1) HVA.out.2 ?_; intro g5 cap5 w5 hown5 hgrow5 hat5 hlt5; have hoo : Only (fun b => (Value.slice a k c).ownBlock = some b) W w5 := (((Only.refl (fun b => (Value.slice a k c).ownBlock = some b) W).alloc _)).grown hgrow5 (fun k hk => hk); have H5 : Hid (w5.ownsRow w.heap.size 3 1 (.slice (some ⟨g5, 0, none⟩) (k + 1) cap5) (k + 1) (natI (Ce.st M (i + 1))) ∧ Only (fun b => w.heap.size ≤ b) w w5) := ⟨by rw [Ce.st_yes HC.out]; rw [natI_snoc]; exact hown5, HG.out.2.1.trans (hoo.mono (fun b hb => (own_own HG.out.1 hb).1))⟩; clear hown5 hgrow5 hat5 hoo))
        go_roundg (n - (i + 1))
        case measure => omega
        case rel => exact ⟨i + 1, k + 1, _, _, _, rfl, rfl, by omega, rfl, by go_num, by omega, by rw [Ce.st_yes HC.out, List.length_append, ← HG.out.2.2]; rfl, H5.out.1, H5.out.2⟩
      · have t2 : ((i : Int) == 0) = false := by rw [beq_eq_false_iff_ne]; omega
        have t3 : ¬ (i : Int) = 0 := by omega
        by_cases him : i < m
        · have t4 : (i : Int) < (m : Int) := by omega
          obtain ⟨x, hx⟩ : ∃ x, M[i]? = some x := ⟨_, List.getElem?_eq_getElem (by rw [← HM.out]; omega)⟩
          obtain ⟨b0, off, e0, hb0, hc⟩ := (HV.out.keep (HG.out.2.1.old (fun b hb => Or.inl hb))).cells (by rw [u8s_len, ← HM.out]; omega)
          subst e0
          have c1 := hc i _ (u8s_at hx)
          have hx8 : x < 256 := HB.out x (List.mem_of_getElem? hx)
          have HX : Hid (Ce.cut M i = (x != 0)) := cut_lt hx h0
          clear hx hc
          by_cases hx0 : x = 0
          · have t5 : ((x : Int) != 0) = false := by simp; omega
            have t6 : ((x : Int) == 0) = true := by rw [beq_iff_eq]; omega
            have HC : Hid (Ce.cut M i = false) := (by rw [HX.out, hx0]; rfl : Ce.cut M i = false)
            clear hx0
            go_wp2_with fail
            go_roundg (n - (i + 1))
            case measure => omega
            case rel => exact ⟨i + 1, k, _, _, _, rfl, rfl, by omega, rfl, by go_num, by omega, by rw [Ce.st_no HC.out, ← HG.out.2.2], by rw [Ce.st_no HC.out]; exact HG.out.1, HG.out.2.1⟩
          · have t5 : ((x : Int) != 0) = true := by simp; omega
            have t6 : ((x : Int) == 0) = false := by rw [beq_eq_false_iff_ne]; omega
            have HC : Hid (Ce.cut M i = true) := (by rw [HX.out]; simpa using hx0 : Ce.cut M i = true)
            clear hx0
            go_wp2_with (at_builtin; (refine wpList_append_lies _ rfl _ _ 35 rfl w.heap.size 3 i3 (.int .i64 0) 1 8 Try.underlying35 g3 g30 g31 g32 rfl (by decide) (.slice a k c) k (natI (Ce.st M i)) rfl (HG.out.1.alloc _) ⟨W.heap.size, 0, none⟩ 1 1 [.int .i64 (i : Int)] rfl rfl (World.news_of_block (cs := #[.int .i64 (i : Int)]) HVA.out.1) (fun u hu => by simp at hu; rcases hu with rfl; rfl) (by decide) (by unfold maxLen; omega) (by omega) (by rw [HVA.out.2]; omega) (W.heap.size + 1) HVA.out.2 ?_; intro g5 cap5 w5 hown5 hgrow5 hat5 hlt5; have hoo : Only (fun b => (Value.slice a k c).ownBlock = some b) W w5 := (((Only.refl (fun b => (Value.slice a k c).ownBlock = some b) W).alloc _)).grown hgrow5 (fun k hk => hk); have H5 : Hid (w5.ownsRow w.heap.size 3 1 (.slice (some ⟨g5, 0, none⟩) (k + 1) cap5) (k + 1) (natI (Ce.st M (i + 1))) ∧ Only (fun b => w.heap.size ≤ b) w w5) := ⟨by rw [Ce.st_yes HC.out]; rw [natI_snoc]; exact hown5, HG.out.2.1.trans (hoo.mono (fun b hb => (own_own HG.out.1 hb).1))⟩; clear hown5 hgrow5 hat5 hoo))
            go_roundg (n - (i + 1))
            case measure => omega
            case rel => exact ⟨i + 1, k + 1, _, _, _, rfl, rfl, by omega, rfl, by go_num, by omega, by rw [Ce.st_yes HC.out, List.length_append, ← HG.out.2.2]; rfl, H5.out.1, H5.out.2⟩
        · have t4 : decide ((i : Int) < (m : Int)) = false := decide_eq_false (by omega)
          have HC : Hid (Ce.cut M i = false) := cut_ge (by rw [← HM.out]; omega) h0
          go_wp2_with fail
          go_roundg (n - (i + 1))
          case measure => omega
          case rel => exact ⟨i + 1, k, _, _, _, rfl, rfl, by omega, rfl, by go_num, by omega, by rw [Ce.st_no HC.out, ← HG.out.2.2], by rw [Ce.st_no HC.out]; exact HG.out.1, HG.out.2.1⟩
    · have t1 : decide ((i : Int) < (n : Int)) = false := decide_eq_false (by omega)
      have hin : i = n := by omega
      subst hin
      go_wp2_with (at_builtin; (refine wpList_append_lies _ rfl _ _ 35 rfl w.heap.size 3 i3 (.int .i64 0) 1 8 Try.underlying35 g3 g30 g31 g32 rfl (by decide) (.slice a k c) k (natI (Ce.st M i)) rfl (HG.out.1.alloc _) ⟨W.heap.size, 0, none⟩ 1 1 [.int .i64 (i : Int)] rfl rfl (World.news_of_block (cs := #[.int .i64 (i : Int)]) HVA.out.1) (fun u hu => by simp at hu; rcases hu with rfl; rfl) (by decide) (by unfold maxLen; omega) (by omega) (by rw [HVA.out.2]; omega) (W.heap.size + 1) HVA.out.2 ?_; intro g5 cap5 w5 hown5 hgrow5 hat5 hlt5; have hoo : Only (fun b => (Value.slice a k c).ownBlock = some b) W w5 := (((Only.refl (fun b => (Value.slice a k c).ownBlock = some b) W).alloc _)).grown hgrow5 (fun k hk => hk); have H5 : Hid (w5.ownsRow w.heap.size 3 1 (.slice (some ⟨g5, 0, none⟩) (k + 1) cap5) (k + 1) (natI (Ce.starts M i)) ∧ Only (fun b => w.heap.size ≤ b) w w5) := ⟨by unfold Ce.starts; rw [natI_snoc]; exact hown5, HG.out.2.1.trans (hoo.mono (fun b hb => (own_own HG.out.1 hb).1))⟩; clear hown5 hgrow5 hat5 hoo))
      obtain ⟨q, hq⟩ : ∃ q, q = (Ce.cls (Pr.of L) S M).length := ⟨_, rfl⟩
      have HQ : Hid (k = q ∧ q = (Ce.st M S.length).length ∧ i = S.length ∧ (Ce.cls (Pr.of L) S M).length = q) := ⟨by rw [hq, Ce.cls_len, HG.out.2.2, HS.out.1], by rw [hq, Ce.cls_len], HS.out.1, hq.symm⟩
      have hkq : k = q := HQ.out.1
      subst hkq
      obtain ⟨q1, hq1⟩ : ∃ q1, q1 = k + 1 := ⟨_, rfl⟩
      rw [← hq1] at H5 ⊢
      have HQ1 : Hid (q1 = k + 1 ∧ (Ce.starts M S.length).length = q1) := ⟨hq1, by rw [hq1, Ce.starts_len, ← HQ.out.2.1]⟩
      clear hq hq1
      have HO5 : Hid (Only (fun _ => False) w w5) := H5.out.2.old (fun b hb => Or.inl hb)
      obtain ⟨gP, capP, evP, lgP, _, hcP⟩ := own_cells H5.out.1 (by have := HQ1.out.1; omega)
      have eaP : g5 = gP := by injection evP with e; injection e with e; injection e
      subst eaP
      have HP : Hid (∀ W, Only (fun _ => False) w5 W → ∀ (j x : Nat), (Ce.starts M S.length)[j]? = some x → W.cell? ⟨g5, j, none⟩ = some (.int .i64 (x : Int))) := fun W ho j x hj => keep0 ho (hcP j _ (natI_get (by rw [HS.out.1]; exact hj)))
      clear hcP evP
      go_loopg [10, 11] k (fun gh v10 v11 wr => ∃ (t : Nat) (a6 : Option Addr) (c6 : Nat) (W : World), W = wr ∧ gh = k - t ∧ t ≤ k ∧ v10 = .slice a6 t c6 ∧ v11 = .int .i64 (t : Int) ∧ W.ownsRow w5.heap.size 48 4 (.slice a6 t c6) t (ctC ((Ce.cls (Pr.of L) S M).take t)) ∧ Only (fun b => w5.heap.size ≤ b) w5 W)
      case atStart => exact ⟨0, none, 0, _, rfl, rfl, Nat.zero_le _, rfl, rfl, ⟨rfl, Or.inl ⟨rfl, rfl⟩⟩, Only.refl _ _⟩
      case round =>
        obtain ⟨t, a6, c6, W6, hW6, rfl, ht, rfl, rfl, hown6, ho6⟩ := hrel
        subst hW6
        have H6 : Hid (W6.ownsRow w5.heap.size 48 4 (.slice a6 t c6) t (ctC ((Ce.cls (Pr.of L) S M).take t)) ∧ Only (fun b => w5.heap.size ≤ b) w5 W6 ∧ Only (fun _ => False) w5 W6) := ⟨hown6, ho6, ho6.old (fun b hb => Or.inl hb)⟩
        have hsz6 := ho6.size
        clear hown6 ho6
        obtain ⟨t1', ht1⟩ : ∃ t1, t1 = t + 1 := ⟨_, rfl⟩
        have HT1 : Hid (t1' = t + 1) := ht1
        have s1 : IntKind.i64.wrap ((t : Int) + 1) = (t1' : Int) := by rw [IntKind.wrap_i64]; omega
        by_cases htk : t < k
        · have s2 : (t1' : Int) < (q1 : Int) := by have := HQ1.out.1; omega
          have s3 : (t : Int) < (q1 : Int) := by have := HQ1.out.1; omega
          obtain ⟨x, hx⟩ := Ce.starts_at (M := M) (n := S.length) (i := t) (by rw [← HQ.out.2.1]; omega)
          obtain ⟨y, hy⟩ := Ce.starts_at (M := M) (n := S.length) (i := t + 1) (by rw [← HQ.out.2.1]; omega)
          have hxy : x < y := Ce.starts_lt hx hy (by omega)
          have hyn : y ≤ i := by rw [HS.out.1]; exact Ce.starts_le hy
          have hcl := Ce.cls_at (of := Pr.of L) (by rw [← HQ.out.2.1]; exact htk) hx hy
          obtain ⟨s, hs'⟩ : ∃ s, S[x]? = some s := ⟨_, List.getElem?_eq_getElem (by rw [← HS.out.1]; omega)⟩
          have hsg0 : (Ce.seg S x y)[0]? = some s := by rw [Ce.seg_at (by omega)]; exact hs'
          obtain ⟨bS, oS, e0, hbS, v0, v1, v2⟩ := HVS.out.1.sign hs'
          subst e0
          have x0 := keep0 (HO5.out.trans H6.out.2.2) v0
          have x1 := keep0 (HO5.out.trans H6.out.2.2) v1
          have p1 := HP.out W6 H6.out.2.2 t x hx
          have p2 := HP.out W6 H6.out.2.2 (t + 1) y hy
          rw [← ht1] at p2
          have s4 : (x : Int) < (i : Int) := by omega
          have HXY : Hid ((Ce.cls (Pr.of L) S M)[t]? = some (Ce.tog (Pr.of L) (Ce.seg S x y)) ∧ (Ce.seg S x y)[0]? = some s ∧ (Ce.seg S x y).length = y - x ∧ S[x]? = some s) := ⟨hcl, hsg0, Ce.seg_len (by rw [← HS.out.1]; exact hyn), hs'⟩
          have HVV : Hid (Vw w (some ⟨bS, oS, none⟩) (snC S)) := HVS.out.1
          obtain ⟨sr, sp, sl⟩ := s
          simp only at x0 x1
          have lbS : bS < W6.heap.size := World.block_lt_of_cell? W6 _ x0
          have lgP6 : g5 < W6.heap.size := World.block_lt_of_cell? W6 _ p1
          clear hx hy hcl hs' hsg0 v0 v1 v2 ht1
          go_wp2_with fail
          obtain ⟨W7, hW7⟩ : ∃ Z, Z = W6.alloc (.cells #[.int .i64 (sp : Int), .int .i64 0, .int .i64 0, .int .u8 0] 48) := ⟨_, rfl⟩
          rw [← hW7]
          obtain ⟨Bc, hBc⟩ : ∃ b, b = W6.heap.size := ⟨_, rfl⟩
          rw [← hBc]
          have H7 : Hid (W7.heap[Bc]? = some (.cells #[.int .i64 (sp : Int), .int .i64 0, .int .i64 0, .int .u8 0] 48 (0, 0)) ∧ Only (fun b => Bc ≤ b) W6 W7 ∧ Bc = W6.heap.size) := by
            rw [hW7, hBc]
            exact ⟨heap_alloc_new W6 _, (Only.refl _ _).alloc _, rfl⟩
          have lgB : g5 < Bc := by omega
          have lbB : bS < Bc := by omega
          clear hW7 hBc
          go_loopg [13] (y - x) (fun gh v13 wr => ∃ (z : Nat) (V : World), V = wr ∧ gh = y - z ∧ x ≤ z ∧ z ≤ y ∧ v13 = .int .i64 (z : Int) ∧ V.heap[Bc]? = some (.cells #[.int .i64 (sp : Int), .int .i64 (Ce.lens (Ce.seg S x z) : Int), .int .i64 (Ce.wide (Pr.of L) (Ce.seg S x z)), .int .u8 0] 48 (0, 0)) ∧ Only (fun b => Bc ≤ b) W6 V)
          case atStart => exact ⟨x, _, rfl, rfl, Nat.le_refl _, by omega, rfl, by rw [Ce.seg_self]; exact H7.out.1, H7.out.2.1⟩
          case round =>
            obtain ⟨z, V, hV', rfl, hxz, hzy, rfl, hbV, hoV⟩ := hrel
            subst hV'
            have HV2 : Hid (V.heap[Bc]? = some (.cells #[.int .i64 (sp : Int), .int .i64 (Ce.lens (Ce.seg S x z) : Int), .int .i64 (Ce.wide (Pr.of L) (Ce.seg S x z)), .int .u8 0] 48 (0, 0)) ∧ Only (fun b => Bc ≤ b) W6 V ∧ Only (fun _ => False) W6 V) := ⟨hbV, hoV, hoV.old (fun b hb => Or.inl (by have := H7.out.2.2; omega))⟩
            obtain ⟨le, hle⟩ : ∃ le, le = Ce.lens (Ce.seg S x z) := ⟨_, rfl⟩
            obtain ⟨wi, hwi⟩ : ∃ wi, wi = Ce.wide (Pr.of L) (Ce.seg S x z) := ⟨_, rfl⟩
            have hwi0 : 0 ≤ wi := by rw [hwi]; exact Ce.wide_nn _ _
            have hwi2 : wi ≤ 2 := by rw [hwi]; exact Ce.wide_le _ _
            have hle4 : le ≤ 400000 := by
              have h1 := lens_small (S := Ce.seg S x z) (k := i) (fun s hs => (HVS.out.2.seg x z s hs).2.2.2) (by rw [Ce.seg_len (by rw [← HS.out.1]; omega)]; omega)
              omega
            rw [← hle, ← hwi] at hbV
            have HLW : Hid (le = Ce.lens (Ce.seg S x z) ∧ wi = Ce.wide (Pr.of L) (Ce.seg S x z)) := ⟨hle, hwi⟩
            have d1 : V.cell? ⟨Bc, 1, none⟩ = some (.int .i64 (le : Int)) := cell_blk hbV
            have d2 : V.cell? ⟨Bc, 2, none⟩ = some (.int .i64 wi) := cell_blk hbV
            have fB : ∀ x, V.frozen? ⟨Bc, x, none⟩ = false := fun x => fz_blk hbV x
            have lBV : Bc < V.heap.size := (Array.getElem?_eq_some_iff.1 hbV).1
            have pP1 := keep0 HV2.out.2.2 p1
            have pP2 := keep0 HV2.out.2.2 p2
            clear hle hwi hoV
            by_cases hzl : z < y
            · have r1 : (z : Int) < (y : Int) := by omega
              have r1n : decide (z < y) = true := decide_eq_true hzl
              have r3 : (z : Int) < (i : Int) := by omega
              obtain ⟨sg, hsg⟩ : ∃ s, S[z]? = some s := ⟨_, List.getElem?_eq_getElem (by rw [← HS.out.1]; omega)⟩
              obtain ⟨f1, f2, f3, f4⟩ := HVS.out.2 sg (List.mem_of_getElem? hsg)
              have hO : Only (fun _ => False) w V := HO5.out.trans (H6.out.2.2.trans HV2.out.2.2)
              obtain ⟨b', off', e', hb', v0, v1, v2⟩ := (HVV.out.keep hO).sign hsg
              injection e' with e'
              injection e' with e1 e2
              subst e1 e2
              have HSN : Hid (Ce.seg S x (z + 1) = Ce.seg S x z ++ [sg]) := Ce.seg_snoc hxz hsg
              obtain ⟨qr, qp, ql⟩ := sg
              simp only at v0 v1 v2 f1 f2 f3 f4
              obtain ⟨yy, hyy⟩ : ∃ yy, yy = Pr.of L qr := ⟨_, rfl⟩
              obtain ⟨hy1, hy2⟩ : 0 ≤ yy ∧ yy ≤ 255 := by rw [hyy]; exact HOK.out qr
              have HO : Hid (Only (fun _ => False) w V ∧ yy = Pr.of L qr) := ⟨hO, hyy⟩
              have HCF : Hid (∀ W, Only (fun b => Bc ≤ b) V W → Calls Try.prog 43 #[.slice aL nl cL, .int .i32 qr] W fun e w' => e = .returned (.int .i64 yy) ∧ Only (fun _ => False) W w') := fun W ho => by rw [hyy]; exact HOF.out W (HO5.out.trans (H6.out.2.2.trans ((HV2.out.2.1.trans ho).old (fun b hb => Or.inl (by have := H7.out.2.2; omega))))) qr
              clear hsg hO hyy hbV
              have HBV : Hid (V.heap[Bc]? = some (.cells #[.int .i64 (sp : Int), .int .i64 (le : Int), .int .i64 wi, .int .u8 0] 48 (0, 0))) := by rw [HLW.out.1, HLW.out.2]; exact HV2.out.1
              by_cases h2 : 2 < yy
              · have r5 : decide ((2 : Int) < yy) = true := decide_eq_true h2
                by_cases h3 : wi < 2
                · have r6 : decide (wi < 2) = true := decide_eq_true h3
                  go_wp2_with fail
                  go_region
                  go_wp2_with (go_at_call 43; refine Calls.mono (HCF.out _ (by first | exact ((Only.refl _ _).setCell (p := ⟨Bc, 1, none⟩) (Nat.le_refl Bc) _).drew | exact (Only.refl _ _).setCell (p := ⟨Bc, 1, none⟩) (Nat.le_refl Bc) _)) ?_; rintro e V2 ⟨rfl, ho2⟩; have hb2 : V2.heap[Bc]? = some (.cells #[.int .i64 (sp : Int), .int .i64 ((le : Int) + (ql : Int)), .int .i64 wi, .int .u8 0] 48 (0, 0)) := (ho2.block Bc (by simp [World.setCell, World.drew]; exact lBV) (fun h => h)).trans (heap_setCell_at (k := 1) HBV.out _); have e2 : V2.cell? ⟨Bc, 2, none⟩ = some (.int .i64 wi) := cell_blk hb2; have f2' : ∀ x, V2.frozen? ⟨Bc, x, none⟩ = false := fun x => fz_blk hb2 x; have l2' : Bc < V2.heap.size := (Array.getElem?_eq_some_iff.1 hb2).1; have HB2 : Hid (V2.heap[Bc]? = some (.cells #[.int .i64 (sp : Int), .int .i64 ((le : Int) + (ql : Int)), .int .i64 wi, .int .u8 0] 48 (0, 0)) ∧ Only (fun b => Bc ≤ b) W6 V2) := ⟨hb2, HV2.out.2.1.trans ((by first | exact ((Only.refl _ _).setCell (p := ⟨Bc, 1, none⟩) (Nat.le_refl Bc) _).drew | exact (Only.refl _ _).setCell (p := ⟨Bc, 1, none⟩) (Nat.le_refl Bc) _ : Only (fun b => Bc ≤ b) V _).trans (ho2.mono (fun _ h => h.elim)))⟩; clear ho2 hb2)
                  go_roundg (y - (z + 1))
                  case measure => omega
                  case rel =>
                    refine ⟨z + 1, _, rfl, rfl, by omega, by omega, by go_num, ?_, HB2.out.2.setCell (p := ⟨Bc, 2, none⟩) (Nat.le_refl Bc) _⟩
                    rw [HSN.out, Ce.lens_snoc, Ce.wide_snoc, ← HLW.out.1, ← HLW.out.2, ← HO.out.2, show max wi (min yy 2) = 2 by omega]
                    exact heap_setCell_at (k := 2) HB2.out.1 _
                · have r6 : decide (wi < 2) = false := decide_eq_false h3
                  go_wp2_with fail
                  go_region
                  go_wp2_with (go_at_call 43; refine Calls.mono (HCF.out _ (by first | exact ((Only.refl _ _).setCell (p := ⟨Bc, 1, none⟩) (Nat.le_refl Bc) _).drew | exact (Only.refl _ _).setCell (p := ⟨Bc, 1, none⟩) (Nat.le_refl Bc) _)) ?_; rintro e V2 ⟨rfl, ho2⟩; have hb2 : V2.heap[Bc]? = some (.cells #[.int .i64 (sp : Int), .int .i64 ((le : Int) + (ql : Int)), .int .i64 wi, .int .u8 0] 48 (0, 0)) := (ho2.block Bc (by simp [World.setCell, World.drew]; exact lBV) (fun h => h)).trans (heap_setCell_at (k := 1) HBV.out _); have e2 : V2.cell? ⟨Bc, 2, none⟩ = some (.int .i64 wi) := cell_blk hb2; have f2' : ∀ x, V2.frozen? ⟨Bc, x, none⟩ = false := fun x => fz_blk hb2 x; have l2' : Bc < V2.heap.size := (Array.getElem?_eq_some_iff.1 hb2).1; have HB2 : Hid (V2.heap[Bc]? = some (.cells #[.int .i64 (sp : Int), .int .i64 ((le : Int) + (ql : Int)), .int .i64 wi, .int .u8 0] 48 (0, 0)) ∧ Only (fun b => Bc ≤ b) W6 V2) := ⟨hb2, HV2.out.2.1.trans ((by first | exact ((Only.refl _ _).setCell (p := ⟨Bc, 1, none⟩) (Nat.le_refl Bc) _).drew | exact (Only.refl _ _).setCell (p := ⟨Bc, 1, none⟩) (Nat.le_refl Bc) _ : Only (fun b => Bc ≤ b) V _).trans (ho2.mono (fun _ h => h.elim)))⟩; clear ho2 hb2)
                  go_roundg (y - (z + 1))
                  case measure => omega
                  case rel =>
                    refine ⟨z + 1, _, rfl, rfl, by omega, by omega, by go_num, ?_, HB2.out.2⟩
                    rw [HSN.out, Ce.lens_snoc, Ce.wide_snoc, ← HLW.out.1, ← HLW.out.2, ← HO.out.2, show max wi (min yy 2) = wi by omega]
                    exact HB2.out.1
              · have r5 : decide ((2 : Int) < yy) = false := decide_eq_false h2
                by_cases h3 : wi < yy
                · have r6 : decide (wi < yy) = true := decide_eq_true h3
                  go_wp2_with fail
                  go_region
                  go_wp2_with (go_at_call 43; refine Calls.mono (HCF.out _ (by first | exact ((Only.refl _ _).setCell (p := ⟨Bc, 1, none⟩) (Nat.le_refl Bc) _).drew | exact (Only.refl _ _).setCell (p := ⟨Bc, 1, none⟩) (Nat.le_refl Bc) _)) ?_; rintro e V2 ⟨rfl, ho2⟩; have hb2 : V2.heap[Bc]? = some (.cells #[.int .i64 (sp : Int), .int .i64 ((le : Int) + (ql : Int)), .int .i64 wi, .int .u8 0] 48 (0, 0)) := (ho2.block Bc (by simp [World.setCell, World.drew]; exact lBV) (fun h => h)).trans (heap_setCell_at (k := 1) HBV.out _); have e2 : V2.cell? ⟨Bc, 2, none⟩ = some (.int .i64 wi) := cell_blk hb2; have f2' : ∀ x, V2.frozen? ⟨Bc, x, none⟩ = false := fun x => fz_blk hb2 x; have l2' : Bc < V2.heap.size := (Array.getElem?_eq_some_iff.1 hb2).1; have HB2 : Hid (V2.heap[Bc]? = some (.cells #[.int .i64 (sp : Int), .int .i64 ((le : Int) + (ql : Int)), .int .i64 wi, .int .u8 0] 48 (0, 0)) ∧ Only (fun b => Bc ≤ b) W6 V2) := ⟨hb2, HV2.out.2.1.trans ((by first | exact ((Only.refl _ _).setCell (p := ⟨Bc, 1, none⟩) (Nat.le_refl Bc) _).drew | exact (Only.refl _ _).setCell (p := ⟨Bc, 1, none⟩) (Nat.le_refl Bc) _ : Only (fun b => Bc ≤ b) V _).trans (ho2.mono (fun _ h => h.elim)))⟩; clear ho2 hb2)
                  go_roundg (y - (z + 1))
                  case measure => omega
                  case rel =>
                    refine ⟨z + 1, _, rfl, rfl, by omega, by omega, by go_num, ?_, HB2.out.2.setCell (p := ⟨Bc, 2, none⟩) (Nat.le_refl Bc) _⟩
                    rw [HSN.out, Ce.lens_snoc, Ce.wide_snoc, ← HLW.out.1, ← HLW.out.2, ← HO.out.2, show max wi (min yy 2) = yy by omega]
                    exact heap_setCell_at (k := 2) HB2.out.1 _
                · have r6 : decide (wi < yy) = false := decide_eq_false h3
                  go_wp2_with fail
                  go_region
                  go_wp2_with (go_at_call 43; refine Calls.mono (HCF.out _ (by first | exact ((Only.refl _ _).setCell (p := ⟨Bc, 1, none⟩) (Nat.le_refl Bc) _).drew | exact (Only.refl _ _).setCell (p := ⟨Bc, 1, none⟩) (Nat.le_refl Bc) _)) ?_; rintro e V2 ⟨rfl, ho2⟩; have hb2 : V2.heap[Bc]? = some (.cells #[.int .i64 (sp : Int), .int .i64 ((le : Int) + (ql : Int)), .int .i64 wi, .int .u8 0] 48 (0, 0)) := (ho2.block Bc (by simp [World.setCell, World.drew]; exact lBV) (fun h => h)).trans (heap_setCell_at (k := 1) HBV.out _); have e2 : V2.cell? ⟨Bc, 2, none⟩ = some (.int .i64 wi) := cell_blk hb2; have f2' : ∀ x, V2.frozen? ⟨Bc, x, none⟩ = false := fun x => fz_blk hb2 x; have l2' : Bc < V2.heap.size := (Array.getElem?_eq_some_iff.1 hb2).1; have HB2 : Hid (V2.heap[Bc]? = some (.cells #[.int .i64 (sp : Int), .int .i64 ((le : Int) + (ql : Int)), .int .i64 wi, .int .u8 0] 48 (0, 0)) ∧ Only (fun b => Bc ≤ b) W6 V2) := ⟨hb2, HV2.out.2.1.trans ((by first | exact ((Only.refl _ _).setCell (p := ⟨Bc, 1, none⟩) (Nat.le_refl Bc) _).drew | exact (Only.refl _ _).setCell (p := ⟨Bc, 1, none⟩) (Nat.le_refl Bc) _ : Only (fun b => Bc ≤ b) V _).trans (ho2.mono (fun _ h => h.elim)))⟩; clear ho2 hb2)
                  go_roundg (y - (z + 1))
                  case measure => omega
                  case rel =>
                    refine ⟨z + 1, _, rfl, rfl, by omega, by omega, by go_num, ?_, HB2.out.2⟩
                    rw [HSN.out, Ce.lens_snoc, Ce.wide_snoc, ← HLW.out.1, ← HLW.out.2, ← HO.out.2, show max wi (min yy 2) = wi by omega]
                    exact HB2.out.1
            · have hzy2 : z = y := by omega
              have r1 : decide ((z : Int) < (y : Int)) = false := decide_eq_false (by omega)
              have r1n : decide (z < y) = false := decide_eq_false hzl
              have HLE : Hid (le = Ce.lens (Ce.seg S x y) ∧ wi = Ce.wide (Pr.of L) (Ce.seg S x y)) := by rw [← hzy2]; exact HLW.out
              have xP0 := keep0 HV2.out.2.2 x0
              have HBV : Hid (V.heap[Bc]? = some (.cells #[.int .i64 (sp : Int), .int .i64 (le : Int), .int .i64 wi, .int .u8 0] 48 (0, 0))) := hbV
              have HVO : Hid (∀ m, (V.drewN m).heap[Bc]? = some (.cells #[.int .i64 (sp : Int), .int .i64 (le : Int), .int .i64 wi, .int .u8 0] 48 (0, 0)) ∧ Only (fun b => Bc ≤ b) W6 (V.drewN m)) := fun m => ⟨HBV.out, HV2.out.2.1.drewN m⟩
              have d0 : V.cell? ⟨Bc, 0, none⟩ = some (.int .i64 (sp : Int)) := cell_blk hbV
              have d3 : V.cell? ⟨Bc, 3, none⟩ = some (.int .u8 0) := cell_blk hbV
              clear hbV hzy2
              obtain ⟨x1', hx1'⟩ : ∃ x1, x1 = x + 1 := ⟨_, rfl⟩
              have rx : IntKind.i64.wrap ((x : Int) + 1) = (x1' : Int) := by rw [IntKind.wrap_i64]; omega
              by_cases hone : y = x1'
              · have r7 : ((y : Int) == (x1' : Int)) = true := by rw [beq_iff_eq, hone]
                have hk1 := kind_one (S := Ce.seg S x y) (by rw [HXY.out.2.2.1]; omega) HXY.out.2.1
                simp only at hk1
                have HK1 : Hid (Ce.kind (Ce.seg S x y) = if sr = 32 then 1 else if sr = 9 then 2 else 0) := hk1
                clear hk1 hone hx1'
                go_wp2_with fail
                go_quiet (fail)
                obtain ⟨V3, hV3⟩ : ∃ Z, Z = V.drewN nq := ⟨_, rfl⟩
                rw [← hV3]
                have H3 : Hid (V3.heap[Bc]? = some (.cells #[.int .i64 (sp : Int), .int .i64 (le : Int), .int .i64 wi, .int .u8 0] 48 (0, 0)) ∧ Only (fun b => Bc ≤ b) W6 V3) := by rw [hV3]; exact HVO.out nq
                have b0 : V3.cell? ⟨Bc, 0, none⟩ = some (.int .i64 (sp : Int)) := by rw [hV3]; exact d0
                have b1 : V3.cell? ⟨Bc, 1, none⟩ = some (.int .i64 (le : Int)) := by rw [hV3]; exact d1
                have b2 : V3.cell? ⟨Bc, 2, none⟩ = some (.int .i64 wi) := by rw [hV3]; exact d2
                have b3 : V3.cell? ⟨Bc, 3, none⟩ = some (.int .u8 0) := by rw [hV3]; exact d3
                have fB3 : ∀ x, V3.frozen? ⟨Bc, x, none⟩ = false := fun x => by rw [hV3]; exact fB x
                have lB3 : Bc < V3.heap.size := by rw [hV3]; exact lBV
                have c0' : V3.cell? ⟨bS, oS + x * 3, none⟩ = some (.int .i32 sr) := by rw [hV3]; exact xP0
                have c1' : V3.cell? ⟨g5, t, none⟩ = some (.int .i64 (x : Int)) := by rw [hV3]; exact pP1
                have lg3 : g5 < V3.heap.size := World.block_lt_of_cell? V3 _ c1'
                have lb3 : bS < V3.heap.size := World.block_lt_of_cell? V3 _ c0'
                have ne1 : ¬ g5 = Bc := by omega
                have ne2 : ¬ bS = Bc := by omega
                have ne3 : ¬ Bc = g5 := by omega
                have ne4 : ¬ Bc = bS := by omega
                clear hV3 d0 d1 d2 d3 fB pP1 pP2 xP0 p1 p2 x0 x1
                by_cases e32 : sr = 32
                · have r8 : (sr == 32) = true := by rw [beq_iff_eq]; exact e32
                  have r9 : (sr == 9) = false := by rw [beq_eq_false_iff_ne]; omega
                  have HKD : Hid (Ce.kind (Ce.seg S x y) = 1) := (by rw [HK1.out, if_pos e32] : Ce.kind (Ce.seg S x y) = 1)
                  clear e32
                  have HCT : Hid (ctC ((Ce.cls (Pr.of L) S M).take (t + 1)) = ctC ((Ce.cls (Pr.of L) S M).take t) ++ [.int .i64 (sp : Int), .int .i64 (le : Int), .int .i64 wi, .int .u8 1]) := by
                    rw [take_snoc HXY.out.1, ctC_append]
                    unfold Ce.tog
                    rw [HXY.out.2.1, HKD.out, ← HLE.out.1, ← HLE.out.2]
                    rfl
                  have HW4 : Hid (W6.ownsRow w5.heap.size 48 4 (.slice a6 t c6) t (ctC ((Ce.cls (Pr.of L) S M).take t)) → ((V3.setCell ⟨Bc, 3, none⟩ (.int .u8 1))).ownsRow w5.heap.size 48 4 (.slice a6 t c6) t (ctC ((Ce.cls (Pr.of L) S M).take t))) := fun h => own_stay h (H3.out.2.setCell (p := ⟨Bc, 3, none⟩) (Nat.le_refl Bc) _) (fun g hg hb => by have := own_lt h hg; have := H7.out.2.2; omega)
                  have HVB : Hid ((((V3.setCell ⟨Bc, 3, none⟩ (.int .u8 1))).alloc (.cells #[.int .i64 (sp : Int), .int .i64 (le : Int), .int .i64 wi, .int .u8 1] 48)).heap[V3.heap.size]? = some (.cells #[.int .i64 (sp : Int), .int .i64 (le : Int), .int .i64 wi, .int .u8 1] 48 (0, 0)) ∧ (((V3.setCell ⟨Bc, 3, none⟩ (.int .u8 1))).alloc (.cells #[.int .i64 (sp : Int), .int .i64 (le : Int), .int .i64 wi, .int .u8 1] 48)).heap.size = V3.heap.size + 1) := ⟨by have h := heap_alloc_new (V3.setCell ⟨Bc, 3, none⟩ (.int .u8 1)) (.cells #[.int .i64 (sp : Int), .int .i64 (le : Int), .int .i64 wi, .int .u8 1] 48); rw [show (V3.setCell ⟨Bc, 3, none⟩ (.int .u8 1)).heap.size = V3.heap.size by simp [World.setCell]] at h; exact h, by simp [World.setCell]⟩
                  have hszX : w5.heap.size ≤ V3.heap.size := Nat.le_trans hsz6 H3.out.2.size
                  go_wp2_with (at_builtin; (refine wpList_append_lies _ rfl _ _ 34 rfl w5.heap.size 48 j3 (.agg #[.int .i64 0, .int .i64 0, .int .i64 0, .int .u8 0]) 4 32 Try.underlying34 h3 h30 h31 h32 rfl (by decide) (.slice a6 t c6) t (ctC ((Ce.cls (Pr.of L) S M).take t)) rfl ((HW4.out H6.out.1).alloc _) ⟨V3.heap.size, 0, none⟩ 1 1 [.int .i64 (sp : Int), .int .i64 (le : Int), .int .i64 wi, .int .u8 1] rfl rfl (World.news_of_block (cs := #[.int .i64 (sp : Int), .int .i64 (le : Int), .int .i64 wi, .int .u8 1]) HVB.out.1) (fun u hu => by simp at hu; rcases hu with rfl | rfl | rfl | rfl <;> rfl) (by decide) (by unfold maxLen; omega) (by omega) (by rw [HVB.out.2]; omega) (V3.heap.size + 1) HVB.out.2 ?_; intro g8 cap8 w8 hown8 hgrow8 hat8 hlt8; have hoo : Only (fun b => w5.heap.size ≤ b) ((V3.setCell ⟨Bc, 3, none⟩ (.int .u8 1))) w8 := (((Only.refl (fun b => w5.heap.size ≤ b) ((V3.setCell ⟨Bc, 3, none⟩ (.int .u8 1)))).alloc _)).grown hgrow8 (fun k hk => (own_own H6.out.1 hk).1); have H8 : Hid (w8.ownsRow w5.heap.size 48 4 (.slice (some ⟨g8, 0, none⟩) (t + 1) cap8) (t + 1) (ctC ((Ce.cls (Pr.of L) S M).take (t + 1))) ∧ Only (fun b => w5.heap.size ≤ b) w5 w8) := ⟨by rw [HCT.out]; exact hown8, H6.out.2.1.trans (((H3.out.2.setCell (p := ⟨Bc, 3, none⟩) (Nat.le_refl Bc) _).mono (fun b hb => by have := H7.out.2.2; omega)).trans hoo)⟩; clear hown8 hgrow8 hat8 hoo))
                  go_roundg (k - (t + 1))
                  case measure => omega
                  case rel => exact ⟨t + 1, _, _, _, rfl, rfl, by omega, rfl, by first | go_num | rw [HT1.out], H8.out.1, H8.out.2⟩
                · have r8 : (sr == 32) = false := by rw [beq_eq_false_iff_ne]; exact e32
                  by_cases e9 : sr = 9
                  · have r9 : (sr == 9) = true := by rw [beq_iff_eq]; exact e9
                    have HKD : Hid (Ce.kind (Ce.seg S x y) = 2) := (by rw [HK1.out, if_neg e32, if_pos e9] : Ce.kind (Ce.seg S x y) = 2)
                    clear e9 e32
                    have HCT : Hid (ctC ((Ce.cls (Pr.of L) S M).take (t + 1)) = ctC ((Ce.cls (Pr.of L) S M).take t) ++ [.int .i64 (sp : Int), .int .i64 (le : Int), .int .i64 wi, .int .u8 2]) := by
                      rw [take_snoc HXY.out.1, ctC_append]
                      unfold Ce.tog
                      rw [HXY.out.2.1, HKD.out, ← HLE.out.1, ← HLE.out.2]
                      rfl
                    have HW4 : Hid (W6.ownsRow w5.heap.size 48 4 (.slice a6 t c6) t (ctC ((Ce.cls (Pr.of L) S M).take t)) → ((V3.setCell ⟨Bc, 3, none⟩ (.int .u8 2))).ownsRow w5.heap.size 48 4 (.slice a6 t c6) t (ctC ((Ce.cls (Pr.of L) S M).take t))) := fun h => own_stay h (H3.out.2.setCell (p := ⟨Bc, 3, none⟩) (Nat.le_refl Bc) _) (fun g hg hb => by have := own_lt h hg; have := H7.out.2.2; omega)
                    have HVB : Hid ((((V3.setCell ⟨Bc, 3, none⟩ (.int .u8 2))).alloc (.cells #[.int .i64 (sp : Int), .int .i64 (le : Int), .int .i64 wi, .int .u8 2] 48)).heap[V3.heap.size]? = some (.cells #[.int .i64 (sp : Int), .int .i64 (le : Int), .int .i64 wi, .int .u8 2] 48 (0, 0)) ∧ (((V3.setCell ⟨Bc, 3, none⟩ (.int .u8 2))).alloc (.cells #[.int .i64 (sp : Int), .int .i64 (le : Int), .int .i64 wi, .int .u8 2] 48)).heap.size = V3.heap.size + 1) := ⟨by have h := heap_alloc_new (V3.setCell ⟨Bc, 3, none⟩ (.int .u8 2)) (.cells #[.int .i64 (sp : Int), .int .i64 (le : Int), .int .i64 wi, .int .u8 2] 48); rw [show (V3.setCell ⟨Bc, 3, none⟩ (.int .u8 2)).heap.size = V3.heap.size by simp [World.setCell]] at h; exact h, by simp [World.setCell]⟩
                    have hszX : w5.heap.size ≤ V3.heap.size := Nat.le_trans hsz6 H3.out.2.size
                    go_wp2_with (at_builtin; (refine wpList_append_lies _ rfl _ _ 34 rfl w5.heap.size 48 j3 (.agg #[.int .i64 0, .int .i64 0, .int .i64 0, .int .u8 0]) 4 32 Try.underlying34 h3 h30 h31 h32 rfl (by decide) (.slice a6 t c6) t (ctC ((Ce.cls (Pr.of L) S M).take t)) rfl ((HW4.out H6.out.1).alloc _) ⟨V3.heap.size, 0, none⟩ 1 1 [.int .i64 (sp : Int), .int .i64 (le : Int), .int .i64 wi, .int .u8 2] rfl rfl (World.news_of_block (cs := #[.int .i64 (sp : Int), .int .i64 (le : Int), .int .i64 wi, .int .u8 2]) HVB.out.1) (fun u hu => by simp at hu; rcases hu with rfl | rfl | rfl | rfl <;> rfl) (by decide) (by unfold maxLen; omega) (by omega) (by rw [HVB.out.2]; omega) (V3.heap.size + 1) HVB.out.2 ?_; intro g8 cap8 w8 hown8 hgrow8 hat8 hlt8; have hoo : Only (fun b => w5.heap.size ≤ b) ((V3.setCell ⟨Bc, 3, none⟩ (.int .u8 2))) w8 := (((Only.refl (fun b => w5.heap.size ≤ b) ((V3.setCell ⟨Bc, 3, none⟩ (.int .u8 2)))).alloc _)).grown hgrow8 (fun k hk => (own_own H6.out.1 hk).1); have H8 : Hid (w8.ownsRow w5.heap.size 48 4 (.slice (some ⟨g8, 0, none⟩) (t + 1) cap8) (t + 1) (ctC ((Ce.cls (Pr.of L) S M).take (t + 1))) ∧ Only (fun b => w5.heap.size ≤ b) w5 w8) := ⟨by rw [HCT.out]; exact hown8, H6.out.2.1.trans (((H3.out.2.setCell (p := ⟨Bc, 3, none⟩) (Nat.le_refl Bc) _).mono (fun b hb => by have := H7.out.2.2; omega)).trans hoo)⟩; clear hown8 hgrow8 hat8 hoo))
                    go_roundg (k - (t + 1))
                    case measure => omega
                    case rel => exact ⟨t + 1, _, _, _, rfl, rfl, by omega, rfl, by first | go_num | rw [HT1.out], H8.out.1, H8.out.2⟩
                  · have r9 : (sr == 9) = false := by rw [beq_eq_false_iff_ne]; exact e9
                    have HKD : Hid (Ce.kind (Ce.seg S x y) = 0) := (by rw [HK1.out, if_neg e32, if_neg e9] : Ce.kind (Ce.seg S x y) = 0)
                    have HCT : Hid (ctC ((Ce.cls (Pr.of L) S M).take (t + 1)) = ctC ((Ce.cls (Pr.of L) S M).take t) ++ [.int .i64 (sp : Int), .int .i64 (le : Int), .int .i64 wi, .int .u8 0]) := by
                      rw [take_snoc HXY.out.1, ctC_append]
                      unfold Ce.tog
                      rw [HXY.out.2.1, HKD.out, ← HLE.out.1, ← HLE.out.2]
                      rfl
                    have HW4 : Hid (W6.ownsRow w5.heap.size 48 4 (.slice a6 t c6) t (ctC ((Ce.cls (Pr.of L) S M).take t)) → (V3).ownsRow w5.heap.size 48 4 (.slice a6 t c6) t (ctC ((Ce.cls (Pr.of L) S M).take t))) := fun h => own_stay h H3.out.2 (fun g hg hb => by have := own_lt h hg; have := H7.out.2.2; omega)
                    have HVB : Hid (((V3).alloc (.cells #[.int .i64 (sp : Int), .int .i64 (le : Int), .int .i64 wi, .int .u8 0] 48)).heap[(V3).heap.size]? = some (.cells #[.int .i64 (sp : Int), .int .i64 (le : Int), .int .i64 wi, .int .u8 0] 48 (0, 0)) ∧ ((V3).alloc (.cells #[.int .i64 (sp : Int), .int .i64 (le : Int), .int .i64 wi, .int .u8 0] 48)).heap.size = (V3).heap.size + 1) := ⟨heap_alloc_new _ _, by simp⟩
                    have hszX : w5.heap.size ≤ (V3).heap.size := Nat.le_trans hsz6 H3.out.2.size
                    go_wp2_with (at_builtin; (refine wpList_append_lies _ rfl _ _ 34 rfl w5.heap.size 48 j3 (.agg #[.int .i64 0, .int .i64 0, .int .i64 0, .int .u8 0]) 4 32 Try.underlying34 h3 h30 h31 h32 rfl (by decide) (.slice a6 t c6) t (ctC ((Ce.cls (Pr.of L) S M).take t)) rfl ((HW4.out H6.out.1).alloc _) ⟨(V3).heap.size, 0, none⟩ 1 1 [.int .i64 (sp : Int), .int .i64 (le : Int), .int .i64 wi, .int .u8 0] rfl rfl (World.news_of_block (cs := #[.int .i64 (sp : Int), .int .i64 (le : Int), .int .i64 wi, .int .u8 0]) HVB.out.1) (fun u hu => by simp at hu; rcases hu with rfl | rfl | rfl | rfl <;> rfl) (by decide) (by unfold maxLen; omega) (by omega) (by rw [HVB.out.2]; omega) ((V3).heap.size + 1) HVB.out.2 ?_; intro g8 cap8 w8 hown8 hgrow8 hat8 hlt8; have hoo : Only (fun b => w5.heap.size ≤ b) (V3) w8 := (((Only.refl (fun b => w5.heap.size ≤ b) (V3)).alloc _)).grown hgrow8 (fun k hk => (own_own H6.out.1 hk).1); have H8 : Hid (w8.ownsRow w5.heap.size 48 4 (.slice (some ⟨g8, 0, none⟩) (t + 1) cap8) (t + 1) (ctC ((Ce.cls (Pr.of L) S M).take (t + 1))) ∧ Only (fun b => w5.heap.size ≤ b) w5 w8) := ⟨by rw [HCT.out]; exact hown8, H6.out.2.1.trans ((H3.out.2.mono (fun b hb => by have := H7.out.2.2; omega)).trans hoo)⟩; clear hown8 hgrow8 hat8 hoo))
                    go_roundg (k - (t + 1))
                    case measure => omega
                    case rel => exact ⟨t + 1, _, _, _, rfl, rfl, by omega, rfl, by first | go_num | rw [HT1.out], H8.out.1, H8.out.2⟩
              · have r7 : ((y : Int) == (x1' : Int)) = false := by rw [beq_eq_false_iff_ne]; omega
                have HKD : Hid (Ce.kind (Ce.seg S x y) = 0) := kind_two (by rw [HXY.out.2.2.1]; omega)
                clear hone hx1'
                go_wp2_with fail
                go_quiet (fail)
                obtain ⟨V3, hV3⟩ : ∃ Z, Z = V.drewN nq := ⟨_, rfl⟩
                rw [← hV3]
                have H3 : Hid (V3.heap[Bc]? = some (.cells #[.int .i64 (sp : Int), .int .i64 (le : Int), .int .i64 wi, .int .u8 0] 48 (0, 0)) ∧ Only (fun b => Bc ≤ b) W6 V3) := by rw [hV3]; exact HVO.out nq
                have b0 : V3.cell? ⟨Bc, 0, none⟩ = some (.int .i64 (sp : Int)) := by rw [hV3]; exact d0
                have b1 : V3.cell? ⟨Bc, 1, none⟩ = some (.int .i64 (le : Int)) := by rw [hV3]; exact d1
                have b2 : V3.cell? ⟨Bc, 2, none⟩ = some (.int .i64 wi) := by rw [hV3]; exact d2
                have b3 : V3.cell? ⟨Bc, 3, none⟩ = some (.int .u8 0) := by rw [hV3]; exact d3
                have lB3 : Bc < V3.heap.size := by rw [hV3]; exact lBV
                clear hV3 d0 d1 d2 d3 fB pP1 pP2 xP0 p1 p2 x0 x1
                have HCT : Hid (ctC ((Ce.cls (Pr.of L) S M).take (t + 1)) = ctC ((Ce.cls (Pr.of L) S M).take t) ++ [.int .i64 (sp : Int), .int .i64 (le : Int), .int .i64 wi, .int .u8 0]) := by
                  rw [take_snoc HXY.out.1, ctC_append]
                  unfold Ce.tog
                  rw [HXY.out.2.1, HKD.out, ← HLE.out.1, ← HLE.out.2]
                  rfl
                have HW4 : Hid (W6.ownsRow w5.heap.size 48 4 (.slice a6 t c6) t (ctC ((Ce.cls (Pr.of L) S M).take t)) → (V3).ownsRow w5.heap.size 48 4 (.slice a6 t c6) t (ctC ((Ce.cls (Pr.of L) S M).take t))) := fun h => own_stay h H3.out.2 (fun g hg hb => by have := own_lt h hg; have := H7.out.2.2; omega)
                have HVB : Hid (((V3).alloc (.cells #[.int .i64 (sp : Int), .int .i64 (le : Int), .int .i64 wi, .int .u8 0] 48)).heap[(V3).heap.size]? = some (.cells #[.int .i64 (sp : Int), .int .i64 (le : Int), .int .i64 wi, .int .u8 0] 48 (0, 0)) ∧ ((V3).alloc (.cells #[.int .i64 (sp : Int), .int .i64 (le : Int), .int .i64 wi, .int .u8 0] 48)).heap.size = (V3).heap.size + 1) := ⟨heap_alloc_new _ _, by simp⟩
                have hszX : w5.heap.size ≤ (V3).heap.size := Nat.le_trans hsz6 H3.out.2.size
                go_wp2_with (at_builtin; (refine wpList_append_lies _ rfl _ _ 34 rfl w5.heap.size 48 j3 (.agg #[.int .i64 0, .int .i64 0, .int .i64 0, .int .u8 0]) 4 32 Try.underlying34 h3 h30 h31 h32 rfl (by decide) (.slice a6 t c6) t (ctC ((Ce.cls (Pr.of L) S M).take t)) rfl ((HW4.out H6.out.1).alloc _) ⟨(V3).heap.size, 0, none⟩ 1 1 [.int .i64 (sp : Int), .int .i64 (le : Int), .int .i64 wi, .int .u8 0] rfl rfl (World.news_of_block (cs := #[.int .i64 (sp : Int), .int .i64 (le : Int), .int .i64 wi, .int .u8 0]) HVB.out.1) (fun u hu => by simp at hu; rcases hu with rfl | rfl | rfl | rfl <;> rfl) (by decide) (by unfold maxLen; omega) (by omega) (by rw [HVB.out.2]; omega) ((V3).heap.size + 1) HVB.out.2 ?_; intro g8 cap8 w8 hown8 hgrow8 hat8 hlt8; have hoo : Only (fun b => w5.heap.size ≤ b) (V3) w8 := (((Only.refl (fun b => w5.heap.size ≤ b) (V3)).alloc _)).grown hgrow8 (fun k hk => (own_own H6.out.1 hk).1); have H8 : Hid (w8.ownsRow w5.heap.size 48 4 (.slice (some ⟨g8, 0, none⟩) (t + 1) cap8) (t + 1) (ctC ((Ce.cls (Pr.of L) S M).take (t + 1))) ∧ Only (fun b => w5.heap.size ≤ b) w5 w8) := ⟨by rw [HCT.out]; exact hown8, H6.out.2.1.trans ((H3.out.2.mono (fun b hb => by have := H7.out.2.2; omega)).trans hoo)⟩; clear hown8 hgrow8 hat8 hoo))
                go_roundg (k - (t + 1))
                case measure => omega
                case rel => exact ⟨t + 1, _, _, _, rfl, rfl, by omega, rfl, by first | go_num | rw [HT1.out], H8.out.1, H8.out.2⟩
        · have s2 : decide ((t1' : Int) < (q1 : Int)) = false := decide_eq_false (by have := HQ1.out.1; omega)
          have s2n : decide (t1' < q1) = false := decide_eq_false (by have := HQ1.out.1; omega)
          have s2m : ¬ t1' < q1 := by have := HQ1.out.1; omega
          have htk2 : t = k := by omega
          subst htk2
          clear ht1
          go_wp2_with fail
          go_ret2
          have hw5 := HO5.out.size
          refine ⟨a6, some ⟨g5, 0, none⟩, c6, cap5, ?_, ?_, ?_, HO5.out.trans H6.out.2.2⟩
          · rw [HQ.out.2.2.2, HQ1.out.2]
            rfl
          · have h1 := H6.out.1
            rw [List.take_of_length_le (by rw [HQ.out.2.2.2]; exact Nat.le_refl _)] at h1
            rw [HQ.out.2.2.2]
            exact own_base h1 hw5
          · rw [HQ1.out.2, ← HS.out.1]
            exact own_only H5.out.1 H6.out.2.2 (fun _ _ h => h)
end Go.Proofs.Ytlcpfheocenjfaa
