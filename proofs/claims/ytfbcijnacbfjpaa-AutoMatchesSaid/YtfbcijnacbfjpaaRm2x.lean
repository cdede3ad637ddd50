/-
  The reference's Make.
-/
import Derived.Test.YtfbcijnacbfjpaaRm0x
import Derived.Test.YtfbcijnacbfjpaaAwkx
import Derived.Laws.AppendOwnNone
namespace Go.Proofs.Ytfbcijnacbfjpaa
open Go.RowKit Go.Maps
set_option linter.unusedVariables false
set_option linter.unusedSimpArgs false
open Rl (Ex)
theorem info86 : (Try.prog.info? 86).map (fun i => (i.zero, i.size, i.bytes)) = some (some (.slice none 0 0), 1, 24) := by kernel_rfl
theorem info89 : (Try.prog.info? 89).map (fun i => (i.zero, i.size, i.bytes)) = some (some (.agg #[.bool false, .slice none 0 0, .slice none 0 0]), 3, 56) := by kernel_rfl
theorem info9s : (Try.prog.info? 9).map (fun i => (i.zero, i.size, i.bytes)) = some (some (.string ⟨#[]⟩), 1, 16) := by kernel_rfl
theorem all_ok : ∀ (es : List Ex) (l : List Au.Nd) (p : Au.Pl), Au.OkP p → (∀ x ∈ l, Au.OkN p x) → ∀ l1 p1, Au.all es l p = some (l1, p1) → Au.OkP p1 ∧ ∀ x ∈ l1, Au.OkN p1 x
  | [], l, p, hp, hl, l1, p1, h => by
    simp only [Au.all] at h
    injection h with h
    injection h with h1 h2
    subst h1 h2
    exact ⟨hp, hl⟩
  | e :: es, l, p, hp, hl, l1, p1, h => by
    rw [all_step] at h
    cases hn : Au.node e p with
    | none => rw [hn] at h; cases h
    | some r =>
      obtain ⟨x, p2⟩ := r
      rw [hn] at h
      obtain ⟨k1, k2, k3⟩ := Au.node_ok e p hp x p2 hn
      refine all_ok es (l ++ [x]) p2 k1 (fun y hy => ?_) l1 p1 h
      rcases List.mem_append.1 hy with hy | hy
      · exact (hl y hy).mono k3
      · simp at hy; subst hy; exact k2
theorem natI_snoc (L : List Nat) (k : Nat) : natI (L ++ [k]) = natI L ++ [.int .i64 (k : Int)] := by simp [natI]
theorem own_some {w : World} {base e size n : Nat} {v : Value} {xs : List Value} (h : w.ownsRow base e size v n xs) (hv : v ≠ .slice none 0 0) : ∃ g cap, v = .slice (some ⟨g, 0, none⟩) n cap ∧ base ≤ g ∧ g < w.heap.size := by
  obtain ⟨_, ⟨e, _⟩ | ⟨g, cap, cur, e, hb, hh, _⟩⟩ := h
  · exact (hv e).elim
  · exact ⟨g, cap, e, hb, (Array.getElem?_eq_some_iff.1 hh).1⟩
set_option maxRecDepth 100000 in
set_option maxHeartbeats 16000000 in
theorem rmake_in (F : Nat → Prop) (es : List Ex) (a : Option Addr) (c : Nat) (cl : Nat) (w : World) (hL : Lex w F es a c) (hF : ∀ b, F b → b < w.heap.size) (h1 : 1 ≤ cl) (h2 : cl ≤ 24) (hn : es.length ≤ 24) (hN : Nns es) (hP : Au.cnts es ≤ 200) (l0 : List Au.Nd) (p0 : Au.Pl) (hall : Au.all es [] Au.pl0 = some (l0, p0)) (R : Except Nat (List (List Nat) × List Nat)) (hRR : R = match Au.states p0 l0 (orF l0) cl 301 0 [0] [] [] with | none => .error 3 | some r => .ok r) :
    Calls Try.prog 12 #[.slice a es.length c, .int .i64 (cl : Int)] w (rmakeP w R) := by
  have HRR : Hid (R = match Au.states p0 l0 (orF l0) cl 301 0 [0] [] [] with | none => .error 3 | some r => .ok r) := hRR
  clear hRR
  have HC : Hid (Calls Try.prog 27 #[.slice a es.length c] (w.alloc (.cells #[.slice none 0 0, .slice none 0 0] 33)) fun e' w' => e' = .returned (.int .i64 (Au.cnts es : Int)) ∧ Only (fun _ => False) (w.alloc (.cells #[.slice none 0 0, .slice none 0 0] 33)) w') := by
    have hA : Only (fun _ => False) w (w.alloc (.cells #[.slice none 0 0, .slice none 0 0] 33)) := (Only.refl _ _).alloc _
    exact places_any F es a c _ (fun h => by
      obtain ⟨b, off, k1, k2, k3⟩ := hL.2 h
      exact ⟨b, off, k1, k2, Tes.keep (Kp.only hA (fun _ _ h => h)) (fun _ h => h) es b off k2 k3⟩) (by omega) hN (by omega)
  have HPN : Hid (Au.cnts es = p0.sets.length) := by
    have := all_cnt es [] Au.pl0 (by decide)
    rw [hall] at this
    have h0 : Au.pl0.sets.length = 0 := rfl
    simp only [h0] at this
    show Au.cnts es = _
    omega
  have HALL : Hid (Au.all es [] Au.pl0 = some (l0, p0)) := hall
  have HL : Hid (Lf w F es a es.length) := ⟨Nat.le_refl _, hL.1, hL.2⟩
  have HF : Hid (∀ b, F b → b < w.heap.size) := hF
  obtain ⟨K, hKe⟩ : ∃ K, K = es.length := ⟨_, rfl⟩
  have HKE : Hid (K = es.length) := hKe
  rw [← hKe] at hn HC ⊢
  obtain ⟨n, hnn⟩ : ∃ n, n = Au.cnts es := ⟨_, rfl⟩
  have HNN : Hid (n = Au.cnts es) := hnn
  rw [← hnn] at hP HC
  rw [← hnn] at HPN
  clear hnn hKe hL hN hall hF
  have g1 : decide ((cl : Int) < 1) = false := decide_eq_false (by omega)
  have g2 : decide (24 < (cl : Int)) = false := decide_eq_false (by omega)
  have g3 : decide (24 < (K : Int)) = false := decide_eq_false (by omega)
  have g4 : decide (200 < (n : Int)) = false := decide_eq_false (by omega)
  have hmk := fun (w : World) => run_make_row' (P := Try.prog) 86 4 (.bool false) 1 Try.underlying86 info4 rfl .i64 .i64 n (by omega) (by omega) w
  obtain ⟨i6, h6, h60, h61, h62⟩ := info_parts info86
  obtain ⟨i8, h8, h80, h81, h82⟩ := info_parts info89
  go_enter Try.func12, Try.ntmps12
  go_wp2_with (go_at_call 27; refine HC.out.mono ?_; rintro e w1 ⟨rfl, ho⟩; have HB : Hid (w1.heap[w.heap.size]? = some resC) := (ho.block _ (by simp) (fun h => h)).trans (heap_alloc_new _ _); have HO : Hid (Only (fun _ => False) w w1) := ((Only.refl _ _).alloc _).trans ho; have hl1 : w.heap.size < w1.heap.size := (Array.getElem?_eq_some_iff.1 HB.out).1; clear ho)
  go_loopg [8] n (fun gh v wr => ∃ (i : Nat) (rbl : List Nat) (vN : Value) (W : World), W = wr ∧ gh = n - i ∧ i ≤ n ∧ v = .int .i64 (i : Int) ∧ Nxs w W w1.heap.size n i rbl vN)
  case atStart =>
    refine ⟨0, [], .slice none 0 0, _, rfl, rfl, Nat.zero_le _, rfl, ⟨(Below.heap_alloc _ _ _ hl1).trans HB.out, heap_alloc_new _ _, by omega, World.ownsRow_nil _ _ _ _, rfl, List.nodup_nil, (fun b hb => by cases hb), HO.out.alloc _⟩⟩
  case round =>
    obtain ⟨i, rbl, vN, W, hW, rfl, hi, rfl, hX⟩ := hrel
    subst hW
    have HX : Hid (Nxs w W w1.heap.size n i rbl vN) := hX
    clear HB HO hl1
    by_cases hlt : i < n
    · have t1 : (i : Int) < (n : Int) := by omega
      obtain ⟨aN, cN, rfl⟩ := own_form hX.own
      have e1 : W.cell? ⟨w1.heap.size, 1, none⟩ = some (.slice aN i cN) := cell_blk hX.blk
      have ef := fz_blk hX.blk
      have hl2 : w1.heap.size < W.heap.size := (Array.getElem?_eq_some_iff.1 hX.blk).1
      have hwW := hX.on.size
      have hneq : ¬ w1.heap.size = W.heap.size := by omega
      clear hX
      go_wp2_with fail
      go_region_law (refine step_append_lies _ (by rfl) _ _ _ (by rfl) w.heap.size 86 i6 _ 1 24 Try.underlying83 h6 h60 h61 h62 rfl (by decide) (.slice aN i cN) i (rbl.map (bsl n)) (by rfl) (by first | exact (HX.out.own.alloc _).alloc _ | exact ((HX.out.own.alloc _).alloc _).drew) ⟨W.heap.size + 1, 0, none⟩ 1 1 [bsl n W.heap.size] (by rfl) rfl (World.news_of_block (cs := #[bsl n W.heap.size]) (heap_alloc2_new W _ _)) (fun u hu => by simp at hu; subst hu; rfl) (by decide) (by unfold maxLen; omega) (by omega) (by simp; omega) (W.heap.size + 1 + 1) (by simp) ?_; intro gq cq w5 hown5 hgrow5 hat hlt5; obtain ⟨HN5, x1, x2, x3⟩ := HX.out.more (W2 := ((W.alloc (.cells (madeCells #[.bool false] n) 4)).alloc (.cells #[bsl n W.heap.size] 86)).drew) (by rw [bA_made]; exact two_at _ _ _) ((((Only.refl _ _).alloc _).alloc _).drew) hown5 hgrow5; clear hown5 hgrow5 hat)
      all_goals
        go_wp2_with fail
        go_roundg (n - (i + 1))
        case measure => omega
        case rel => exact ⟨i + 1, _, _, _, rfl, rfl, by omega, by go_num, HN5.out⟩
    · have t2 : decide ((i : Int) < (n : Int)) = false := decide_eq_false (by omega)
      obtain rfl : i = n := by omega
      obtain ⟨q0, hMk, hrl⟩ := hX.mkr
      obtain ⟨rb, hrb⟩ : ∃ rb : Nat → Nat, rb = (fun i => rbl[i]?.getD 0) := ⟨_, rfl⟩
      rw [← hrb] at hMk
      have hrl2 : ∀ j, j < i → rb j < W.heap.size := fun j hj => by rw [hrb]; exact hrl j hj
      have HRL : Hid (∀ j, j < i → rb j < W.heap.size) := hrl2
      have HMK : Hid (Mkr W w1.heap.size w.heap.size i Au.pl0 (.slice none 0 0) vN q0 rb) := hMk
      have HON : Hid (Only (fun _ => False) w W) := hX.on
      have HRS : Hid (W.heap[w.heap.size]? = some resC) := hX.res
      clear hX hMk hrl hrl2 hrb HX
      go_wp2_with fail
      go_loopg [9, 10, 11] K (fun gh v9 v10 v11 wr => ∃ (k : Nat) (l : List Au.Nd) (p1 : Au.Pl) (vS vNd : Value) (tr : List (Bool × Nat × Nat)) (ff : Nat) (W1 : World), W1 = wr ∧ gh = K - k ∧ k ≤ K ∧ vNd = v9 ∧ v10 = .slice (some ⟨ff, 0, none⟩) i i ∧ v11 = .int .i64 (k : Int) ∧ l.length = k ∧ Au.all (es.drop k) l p1 = Au.all es [] Au.pl0 ∧ p1.sets.length + Au.cnts (es.drop k) = i ∧ Nds w W1 W.heap.size w1.heap.size i vN q0 rb l p1 vS vNd tr ff)
      case atStart =>
        refine ⟨0, [], Au.pl0, .slice none 0 0, .slice none 0 0, [], W.heap.size, _, rfl, rfl, Nat.zero_le _, rfl, rfl, rfl, rfl, rfl, ?_, ?_⟩
        · have h0 : Au.pl0.sets.length = 0 := rfl
          rw [h0, Nat.zero_add]
          exact HNN.out.symm
        · have ha : Only (fun _ => False) W (W.alloc (.cells (madeCells #[.bool false] i) 4)) := (Only.refl _ _).alloc _
          exact ⟨(ha.block _ (Array.getElem?_eq_some_iff.1 HRS.out).1 (fun h => h)).trans HRS.out, HMK.out.keep ha, HRL.out, World.ownsRow_nil _ _ _ _, rfl, (fun j x t hj => by cases hj), (by rw [bA_made]; exact heap_alloc_new _ _), Nat.le_refl _, HON.out.trans ha⟩
      case round =>
        obtain ⟨k, l, p1, vS, vNd, tr, ff, W1, hW1, rfl, hk, rfl, rfl, rfl, hlk, hal, hcn, hD⟩ := hrel
        subst hW1
        have HD : Hid (Nds w W1 W.heap.size w1.heap.size i vN q0 rb l p1 vS vNd tr ff) := hD
        have HLK : Hid (l.length = k) := hlk
        have HAL : Hid (Au.all (es.drop k) l p1 = Au.all es [] Au.pl0) := hal
        have HCN : Hid (p1.sets.length + Au.cnts (es.drop k) = i) := hcn
        obtain ⟨aD, cD, rfl⟩ := own_form hD.own
        have hWl := hD.on.size
        have HWW : Hid (W.heap.size ≤ W1.heap.size) := by have := hD.frl; have := hD.fr.lt; show _ ≤ _; omega
        clear hal hcn hD HRS HMK HON
        by_cases hltK : k < K
        · have t3 : (k : Int) < (K : Int) := by omega
          obtain ⟨kd, hkd⟩ : ∃ kd, es[k]? = some kd := ⟨_, List.getElem?_eq_getElem (by rw [← HKE.out]; exact hltK)⟩
          obtain ⟨kb, ko, op', set', a', n', c', rfl, hkl, d0, d1, d2, hTe⟩ := kid_at0 HL.out HD.out.on hkd
          have hdr : es.drop k = kd :: es.drop (k + 1) := by
            have hlt' : k < es.length := by rw [← HKE.out]; exact hltK
            rw [List.drop_eq_getElem_cons hlt']
            congr 1
            exact (List.getElem?_eq_some_iff.1 hkd).2
          have hcn2 := HCN.out
          rw [hdr] at hcn2
          simp only [Au.cnts] at hcn2
          have hnc := Au.node_cnt kd p1 (by omega)
          have hal2 := HAL.out
          rw [hdr, all_step] at hal2
          have HC2 : Hid (Calls Try.prog 28 #[.pointer (some ⟨w1.heap.size, 0, none⟩), .agg #[.int .u8 op', .int .u32 set', .slice a' n' c'], .int .i64 (i : Int)] W1 (ofP W1 w1.heap.size w.heap.size i vN q0 rb (Au.node kd p1))) := of_any kd F w1.heap.size w.heap.size i p1 vS vN q0 rb _ W1 hTe HF.out HD.out.mkr hWl (by omega) hP
          cases hnd : Au.node kd p1 with
          | none => rw [hnd] at hnc; simp only at hnc; omega
          | some r =>
            obtain ⟨x, p2⟩ := r
            rw [hnd] at hnc hal2
            simp only at hnc hal2
            have HND : Hid (Au.node kd p1 = some (x, p2)) := hnd
            have HAL2 : Hid (Au.all (es.drop (k + 1)) (l ++ [x]) p2 = Au.all es [] Au.pl0) := hal2
            have HCN2 : Hid (p2.sets.length + Au.cnts (es.drop (k + 1)) = i) := by show _ = _; omega
            clear hnd hnc hal2 hcn2 hdr hkd hTe
            clear hlk
            go_wp2_with (first
              | (go_at_call 28; have hc := HC2.out; rw [HND.out] at hc; refine hc.mono ?_; clear hc; rintro e w2 ⟨fx, lx, vS2, rfl, hfx, hlx, hBf, hBl, hM2, hZ2⟩; have HQ : Hid (W1.heap.size ≤ fx ∧ W1.heap.size ≤ lx ∧ Bk w2 fx i x.first ∧ Bk w2 lx i x.last ∧ Mkr w2 w1.heap.size w.heap.size i p2 vS2 vN q0 rb ∧ Frz w.heap.size i rb W1 w2) := ⟨hfx, hlx, hBf, hBl, hM2, hZ2⟩; have hw12 := hZ2.1.size; clear hfx hlx hBf hBl hM2 hZ2; unfold nodV)
              | (at_builtin; refine wpList_append_own_at _ rfl _ _ 87 rfl w.heap.size 89 i8 _ 3 56 Try.underlying87 h8 h80 h81 h82 rfl (by decide) _ _ _ rfl (HD.out.ahead HQ.out.2.2.2.2.2 (.cells #[.bool x.none, .slice (some ⟨fx, 0, none⟩) i i, .slice (some ⟨lx, 0, none⟩) i i] 89) (.cells #[.bool x.none, .slice (some ⟨fx, 0, none⟩) i i, .slice (some ⟨lx, 0, none⟩) i i] 89)).out ⟨w2.heap.size + 1, 0, none⟩ 1 1 [.bool x.none, .slice (some ⟨fx, 0, none⟩) i i, .slice (some ⟨lx, 0, none⟩) i i] rfl rfl (World.news_of_block (heap_alloc2_new w2 _ _)) (fun u hu => by simp at hu; rcases hu with rfl | rfl | rfl <;> rfl) (by unfold maxLen; have := HLK.out; omega) (by have := HLK.out; omega) (by simp; omega) ?_; intro v6 w5 hown5 hg5 _ _; obtain ⟨HO5, x1, HF5, HX5, x2⟩ := HD.out.behind HQ.out.2.2.2.2.2 (lx := lx) HQ.out.2.2.1 _ hg5; have HW5 : Hid (w5.ownsRow w.heap.size 89 3 v6 (l.length + 1) (ndC i tr ++ [.bool x.none, .slice (some ⟨fx, 0, none⟩) i i, .slice (some ⟨lx, 0, none⟩) i i])) := hown5; clear hown5 hg5)
              | (go_at_call 29; refine (rboth_any ff fx i i i (orF l) x.first _ HF5.out.bn HX5.out.bn hP).mono ?_; rintro e w6 ⟨rfl, hB6, hO6⟩; have HB6 : Hid (Bk w6 w5.heap.size i (orF l ||| x.first)) := hB6; have HO6 : Hid (Only (fun _ => False) w5 w6) := hO6; clear hB6 hO6))
            go_roundg (K - (k + 1))
            case measure => omega
            case rel =>
              exact ⟨k + 1, l ++ [x], p2, vS2, v6, tr ++ [(x.none, fx, lx)], w5.heap.size, _, rfl, rfl, by omega, rfl, rfl, by go_num, by simp [HLK.out], HAL2.out, HCN2.out, HD.out.more (W3 := (w2.alloc (.cells #[.bool x.none, .slice (some ⟨fx, 0, none⟩) i i, .slice (some ⟨lx, 0, none⟩) i i] 89)).alloc (.cells #[.bool x.none, .slice (some ⟨fx, 0, none⟩) i i, .slice (some ⟨lx, 0, none⟩) i i] 89)) HQ.out.2.2.2.2.1 HQ.out.2.2.2.2.2 (by have := HQ.out.2.1; have := HWW.out; omega) HQ.out.2.2.2.1 (((Only.refl _ _).alloc _).alloc _) HW5.out HO5.out HO6.out HB6.out (by have := HWW.out; omega)⟩
        · have t4 : decide ((k : Int) < (K : Int)) = false := decide_eq_false (by omega)
          obtain rfl : K = k := by omega
          have hal := HAL.out
          have hcn := HCN.out
          rw [List.drop_eq_nil_of_le (by rw [← HKE.out]; exact Nat.le_refl _)] at hal hcn
          rw [HALL.out] at hal
          simp only [Au.all, Au.cnts, Nat.add_zero] at hal hcn
          injection hal with hal
          injection hal with hal1 hal2
          subst hal1 hal2
          obtain ⟨aS, cS, cN, hRd⟩ := HD.out.read hcn
          have HRD : Hid (Rdn W1 w1.heap.size i l p1 aS cS q0 cN rb vN aD cD ff) := hRd
          have HRES : Hid (W1.heap[w.heap.size]? = some resC) := HD.out.res
          have HON1 : Hid (Only (fun _ => False) w W1) := HD.out.on
          have HSL : Hid (p1.sets.length = i) := hcn
          have hlen : l.length ≤ 24 := by omega
          have HOKL : Hid (∀ x ∈ l, x.last < 2 ^ i) := by
            have := all_ok es [] Au.pl0 (fun j => ⟨Nat.two_pow_pos _, fun _ => rfl⟩) (fun x hx => by cases hx) l p1 HALL.out
            intro x hx
            have := (this.2 x hx).2
            rw [hcn] at this
            exact this
          have HSLS : Hid (Sls p1) := all_sls es [] Au.pl0 (Lex.sok (a := a) (c := c) ⟨by have := HL.out.2.1; exact this, HL.out.2.2⟩) (fun x hx => by cases hx) l p1 HALL.out
          have HOKP : Hid (Au.OkP p1 ∧ (∀ x ∈ l, x.first < 2 ^ i)) := by
            have := all_ok es [] Au.pl0 (fun j => ⟨Nat.two_pow_pos _, fun _ => rfl⟩) (fun x hx => by cases hx) l p1 HALL.out
            refine ⟨this.1, fun x hx => ?_⟩
            have := (this.2 x hx).1
            rw [hcn] at this
            exact this
          have hsz1 : w.heap.size < W1.heap.size := (Array.getElem?_eq_some_iff.1 HRES.out).1
          clear hcn hRd HD HAL HCN HRL HLK HALL hlk
          go_wp2_with (go_at_call 30; refine (rtext_any W1.heap.size i i 0 _ (Bk.bn (by rw [bA_made]; exact two_at _ _ _)) hP).mono ?_; rintro e w2 ⟨rfl, ho2⟩; have HO2 : Hid (Only (fun _ => False) ((W1.alloc (.cells (madeCells #[.bool false] i) 4)).alloc (.cells #[.slice (some ⟨W1.heap.size, 0, none⟩) i i] 86)) w2) := ho2; have hs2 : W1.heap.size + 1 + 1 ≤ w2.heap.size := by { have := ho2.size; simp at this; omega }; clear ho2)
          have HR0 : Hid (Rst W1 ((w2.alloc (.cells #[.string (nm i 0)] 9)).alloc (.cells #[.slice none 0 0, .slice none 0 0] 33)) i (w2.heap.size + 1) [0] [0] [W1.heap.size] (.slice (some ⟨W1.heap.size + 1, 0, none⟩) 1 1) (.slice (some ⟨w2.heap.size, 0, none⟩) 1 1) (.slice none 0 0) (.slice none 0 0) [] [] []) := by
            have hoA : Only (fun _ => False) ((W1.alloc (.cells (madeCells #[.bool false] i) 4)).alloc (.cells #[.slice (some ⟨W1.heap.size, 0, none⟩) i i] 86)) ((w2.alloc (.cells #[.string (nm i 0)] 9)).alloc (.cells #[.slice none 0 0, .slice none 0 0] 33)) := (HO2.out.alloc _).alloc _
            have kA : Bk ((W1.alloc (.cells (madeCells #[.bool false] i) 4)).alloc (.cells #[.slice (some ⟨W1.heap.size, 0, none⟩) i i] 86)) W1.heap.size i 0 := by rw [bA_made]; exact two_at _ _ _
            have kB : ((W1.alloc (.cells (madeCells #[.bool false] i) 4)).alloc (.cells #[.slice (some ⟨W1.heap.size, 0, none⟩) i i] 86)).heap[W1.heap.size + 1]? = some (.cells #[.slice (some ⟨W1.heap.size, 0, none⟩) i i] 86 (0, 0)) := heap_alloc2_new _ _ _
            refine ⟨((((Only.refl _ _).alloc _).alloc _).trans (hoA.mono (fun _ h => h.elim))), rfl, ⟨rfl, Or.inr ⟨W1.heap.size + 1, 1, #[.slice (some ⟨W1.heap.size, 0, none⟩) i i], rfl, by omega, (hoA.block _ (Array.getElem?_eq_some_iff.1 kB).1 (fun h => h)).trans kB, Nat.le_refl _, by unfold maxLen; omega, rfl, rfl⟩⟩, ?_, ⟨rfl, Or.inr ⟨w2.heap.size, 1, #[.string (nm i 0)], rfl, by omega, two_at _ _ _, Nat.le_refl _, by unfold maxLen; omega, rfl, rfl⟩⟩, by omega, heap_alloc2_new _ _ _, rfl, World.ownsRow_nil _ _ _ _, (fun j r L hj => by cases hj), World.ownsRow_nil _ _ _ _⟩
            intro j s b hj hb
            have hj0 := (List.getElem?_eq_some_iff.1 hj).1
            obtain rfl : j = 0 := by simpa using hj0
            injection hj with hj
            injection hb with hb
            subst hj hb
            exact ⟨kA.keep hoA, Nat.le_refl _⟩
          obtain ⟨m0, hm0⟩ : ∃ m0, m0 = w2.heap.size + 1 := ⟨_, rfl⟩
          rw [← hm0] at HR0 ⊢
          have hm1 : W1.heap.size ≤ m0 := by omega
          clear HO2 hs2 hm0
          obtain ⟨i4, g4, g40, g41, g42⟩ := info_parts info4
          obtain ⟨i9, g9, g90, g91, g92⟩ := info_parts info9s
          obtain ⟨i3, g3', g30, g31, g32⟩ := info_parts info3b
          obtain ⟨i43, g43, g430, g431, g432⟩ := info_parts info43
          obtain ⟨i47, g47, g470, g471, g472⟩ := info_parts info47
          go_loopg [13, 14, 16] 301 (fun gh v13 v14 v16 wr => ∃ (s : Nat) (found sbs : List Nat) (vSt vNm vX vO : Value) (rows : List Value) (nx : List (List Nat)) (o : List Nat) (V : World), V = wr ∧ gh = 301 - s ∧ s ≤ found.length ∧ found.length ≤ 300 ∧ 0 < found.length ∧ vSt = v13 ∧ vNm = v14 ∧ v16 = .int .i64 (s : Int) ∧ nx.length = s ∧ o.length = s ∧ (∀ x ∈ found, x < 2 ^ i) ∧ Au.states p1 l (orF l) cl (301 - s) s found nx o = Au.states p1 l (orF l) cl 301 0 [0] [] [] ∧ Rst W1 V i m0 found found sbs vSt vNm vX vO rows nx o)
          case atStart => exact ⟨0, [0], [W1.heap.size], _, _, _, _, [], [], [], _, rfl, rfl, Nat.zero_le _, by decide, by decide, rfl, rfl, rfl, rfl, rfl, (fun x hx => by simp at hx; subst hx; exact Nat.two_pow_pos _), rfl, HR0.out⟩
          case round =>
            obtain ⟨s, found, sbs, vSt, vNm, vX, vO, rows, nx, o, V, hV, rfl, hs1, hs2, hs3, rfl, rfl, rfl, hnx, hol, hsm, hst, hR⟩ := hrel
            subst hV
            have HR : Hid (Rst W1 V i m0 found found sbs vSt vNm vX vO rows nx o) := hR
            have HST : Hid (Au.states p1 l (orF l) cl (301 - s) s found nx o = Au.states p1 l (orF l) cl 301 0 [0] [] []) := hst
            have HSM : Hid (∀ x ∈ found, x < 2 ^ i) := hsm
            have HNX : Hid (nx.length = s ∧ o.length = s) := ⟨hnx, hol⟩
            have HRDV : Hid (Rdn V w1.heap.size i l p1 aS cS q0 cN rb vN aD cD ff) := HRD.out.old hR.on
            clear HR0 hst hsm hnx hol
            obtain ⟨sb0, sc0, hvst, hsb0, hsl0, hsc0, hscell⟩ := row_form hR.st hs3
            subst hvst
            obtain ⟨nb0, nc0, hvnm, hnb0, hnl0, hnc0, hncell⟩ := row_form hR.nmr hs3
            subst hvnm
            have hVs := hR.on.size
            clear hR
            obtain ⟨fl, hfle⟩ : ∃ fl, fl = found.length := ⟨_, rfl⟩
            have HFL : Hid (fl = found.length) := hfle
            rw [← hfle] at hs1 hs2 hs3 hsc0 hnc0 ⊢
            clear hfle
            by_cases hltS : s < fl
            · have t5 : (s : Int) < (fl : Int) := by omega
              obtain ⟨st, hstt⟩ : ∃ st, found[s]? = some st := ⟨_, List.getElem?_eq_getElem (by rw [← HFL.out]; exact hltS)⟩
              obtain ⟨bq, hbq⟩ : ∃ bq, sbs[s]? = some bq := ⟨_, List.getElem?_eq_getElem (by rw [HR.out.sl, ← HFL.out]; exact hltS)⟩
              have y0 : V.cell? ⟨sb0, s, none⟩ = some (.slice (some ⟨bq, 0, none⟩) i i) := by
                rw [hscell s (by rw [← HFL.out]; omega), List.getElem?_map, hbq]
                rfl
              obtain ⟨hbk, hbl⟩ := HR.out.sb s st bq hstt hbq
              have HBQ : Hid (Bn V bq i st) := hbk.bn
              have HSTT : Hid (found[s]? = some st) := hstt
              have HY0 : Hid (V.cell? ⟨sb0, s, none⟩ = some (.slice (some ⟨bq, 0, none⟩) i i)) := y0
              clear hscell hncell hbk hbl hbq hstt
              go_wp2_with (at_builtin; refine wpList_append_own_at _ rfl _ _ 86 rfl V.heap.size 4 i4 _ 1 1 Try.underlying86 g4 g40 g41 g42 rfl (by decide) _ _ [] rfl (own_bn0 V) ⟨ff, 0, none⟩ i i (blL i (orF l)) rfl (by rw [blL_len, Nat.mul_one]) ((HRDV.out.fr.keep ((Only.refl _ _).alloc _)).news) (blL_cell _ _) (by unfold maxLen; omega) (by omega) (by simp) ?_; intro v6 w6 hown6 hg6 hnil6 _; obtain ⟨mb, mc, rfl, hmb, hml⟩ := own_some hown6 (fun e => by have := (hnil6.1 e).1; cases this); have HMB : Hid (Bt w6 mb i (orF l)) := ⟨own_bn (by have := hown6; rw [Nat.zero_add, List.nil_append] at this; exact this), own_tagB hown6 rfl⟩; have HO6 : Hid (Only (fun _ => False) V w6) := ((Only.refl (fun b => V.heap.size ≤ b) V).alloc _ |>.trans ((Only.refl _ _).grown hg6 (fun k h => by { have h' : V.heap.size = k := by { injection h }; show V.heap.size ≤ k; omega }))).old (fun _ h => Or.inl h); rw [Nat.zero_add]; clear hown6 hg6 hnil6)
              go_loopg [17, 18] i (fun gh v17 v18 wr => ∃ (k : Nat) (mb1 mc1 : Nat) (V1 : World), V1 = wr ∧ gh = i - k ∧ k ≤ i ∧ v17 = .slice (some ⟨mb1, 0, none⟩) i mc1 ∧ v18 = .int .i64 (k : Int) ∧ Bt V1 mb1 i (mayK p1.next (orF l) st k) ∧ Only (fun _ => False) V V1 ∧ V.heap.size ≤ mb1)
              case atStart => exact ⟨0, mb, mc, _, rfl, rfl, Nat.zero_le _, rfl, rfl, HMB.out, HO6.out, hmb⟩
              case round =>
                obtain ⟨k, mb1, mc1, V1, hV1, rfl, hk, rfl, rfl, hmk1, hOV1, hmb1⟩ := hrel
                subst hV1
                have HMK1 : Hid (Bt V1 mb1 i (mayK p1.next (orF l) st k)) := hmk1
                have HOV1 : Hid (Only (fun _ => False) V V1) := hOV1
                have y1 := keep0 hOV1 HY0.out
                have hsl1 : sb0 < V1.heap.size := Nat.lt_of_lt_of_le hsl0 hOV1.size
                clear hmk1 hOV1 HMB HO6
                by_cases hltk : k < i
                · have t6 : (k : Int) < (i : Int) := by omega
                  have y2 := (HBQ.out.keep HOV1.out).2 k hltk
                  have y3 := (HBQ.out.keep HOV1.out).1
                  cases hbit : st.testBit k with
                  | false =>
                    rw [hbit] at y2
                    have HBT : Hid (mayK p1.next (orF l) st (k + 1) = mayK p1.next (orF l) st k) := by rw [mayK_succ, hbit]; rfl
                    clear hbit
                    go_wp2_with fail
                    go_roundg (i - (k + 1))
                    case measure => omega
                    case rel => exact ⟨k + 1, mb1, mc1, _, rfl, rfl, by omega, rfl, by go_num, by rw [HBT.out]; exact HMK1.out, HOV1.out, hmb1⟩
                  | true =>
                    rw [hbit] at y2
                    have HBT : Hid (mayK p1.next (orF l) st (k + 1) = mayK p1.next (orF l) st k ||| p1.next k) := by rw [mayK_succ, hbit]; rfl
                    have hRV1 := HRDV.out.old ((HOV1.out).mono (fun _ h => h.elim))
                    have z1 := hRV1.g1 (by omega)
                    have z2 := (hRV1.nx k hltk).1
                    have z3 := (hRV1.nx k hltk).2
                    have z4 := hRV1.gl
                    have HZ5 : Hid (Bn V1 (rb k) i (p1.next k)) := hRV1.rw k hltk
                    clear hbit hRV1
                    go_wp2_with (go_at_call 29; refine (rboth_any mb1 (rb k) i mc1 i (mayK p1.next (orF l) st k) (p1.next k) _ HMK1.out.1 HZ5.out hP).mono ?_; rintro e w7 ⟨rfl, hB7, hO7⟩; have HB7 : Hid (Bk w7 V1.heap.size i (mayK p1.next (orF l) st k ||| p1.next k)) := hB7; have HO7 : Hid (Only (fun _ => False) V1 w7) := hO7; clear hB7 hO7)
                    go_roundg (i - (k + 1))
                    case measure => omega
                    case rel => exact ⟨k + 1, V1.heap.size, i, _, rfl, rfl, by omega, rfl, by go_num, by rw [HBT.out]; exact HB7.out.bt, HOV1.out.trans HO7.out, HOV1.out.size⟩
                · have t7 : decide ((k : Int) < (i : Int)) = false := decide_eq_false (by omega)
                  obtain rfl : i = k := by omega
                  have HRV1 : Hid (Rdn V1 w1.heap.size i l p1 aS cS q0 cN rb vN aD cD ff) := HRDV.out.old (HOV1.out.mono (fun _ h => h.elim))
                  have HBV1 : Hid (Bn V1 bq i st) := HBQ.out.keep HOV1.out
                  have HR1 : Hid (Rst W1 V1 i m0 found found sbs (.slice (some ⟨sb0, 0, none⟩) found.length sc0) (.slice (some ⟨nb0, 0, none⟩) found.length nc0) vX vO rows nx o) := HR.out.only0 HOV1.out
                  obtain ⟨m, hm⟩ : ∃ m, m = mayK p1.next (orF l) st i := ⟨_, rfl⟩
                  have HMM : Hid (m = Au.may p1 (orF l) st) := by rw [hm]; unfold Au.may mayK; rw [HSL.out]; exact rfl
                  rw [← hm] at HMK1
                  obtain ⟨ln, hln⟩ : ∃ ln, ln = l.length := ⟨_, rfl⟩
                  have HLN : Hid (ln = l.length) := hln
                  rw [← hln] at hlen
                  rw [← hln]
                  have hbl1 := HBV1.out.1
                  clear hm hln HRDV HBQ HR HY0
                  go_wp2_with fail
                  go_loopg [19, 20] ln (fun gh v19 v20 wr => ∃ (r : Nat), V1 = wr ∧ gh = ln - r ∧ r ≤ ln ∧ v19 = .int .u32 (outP l st r : Int) ∧ v20 = .int .i64 (r : Int))
                  case atStart => exact ⟨0, rfl, rfl, Nat.zero_le _, rfl, rfl⟩
                  case round =>
                    obtain ⟨r, rfl, rfl, hr, rfl, rfl⟩ := hrel
                    by_cases hltr : r < ln
                    · have t8 : (r : Int) < (ln : Int) := by omega
                      obtain ⟨x, hx⟩ : ∃ x, l[r]? = some x := ⟨_, List.getElem?_eq_getElem (by rw [← HLN.out]; exact hltr)⟩
                      obtain ⟨nb, lb, rfl, hnbl, x1, x2, x3⟩ := HRV1.out.nd r x hx
                      have HX3 : Hid (Bn V1 lb i x.last) := x3
                      have hlbl := x3.1
                      have HSU : Hid (outP l st (r + 1) = if x.none = true ∨ st &&& x.last ≠ 0 then outP l st r ||| 2 ^ r else outP l st r) := outP_succ l st r x hx
                      have HXL : Hid (st &&& x.last < 2 ^ i) := Nat.lt_of_le_of_lt Nat.and_le_right (HOKL.out x (List.mem_of_getElem? hx))
                      have hor := or_shl (outP_lt l st r (by omega)) (show r < 24 by omega)
                      have HOR : Hid (bits .or .u32 (outP l st r : Int) (IntKind.u32.wrap (2 ^ r)) = ((outP l st r ||| 2 ^ r : Nat) : Int)) := hor
                      clear hx x3 hor
                      go_wp2_with fail
                      go_loopg [21, 22] i (fun gh v21 v22 wr => ∃ (j : Nat), V1 = wr ∧ gh = i - j ∧ j ≤ i ∧ v21 = .bool (x.none || anyB (st &&& x.last) j) ∧ v22 = .int .i64 (j : Int))
                      case atStart => exact ⟨0, rfl, rfl, Nat.zero_le _, by rw [anyB_zero, Bool.or_false], rfl⟩
                      case round =>
                        obtain ⟨j, rfl, rfl, hj, rfl, rfl⟩ := hrel
                        by_cases hltj : j < i
                        · have t9 : (j : Int) < (i : Int) := by omega
                          have y4 := HBV1.out.2 j hltj
                          have y5 := HX3.out.2 j hltj
                          have HAB : Hid ((x.none || anyB (st &&& x.last) (j + 1)) = ((x.none || anyB (st &&& x.last) j) || (st.testBit j && x.last.testBit j))) := by rw [anyB_succ, Nat.testBit_and, Bool.or_assoc]; rfl
                          obtain ⟨b, hb⟩ : ∃ b, (x.none || anyB (st &&& x.last) j) = b := ⟨_, rfl⟩
                          rw [hb] at HAB ⊢
                          clear hb
                          cases b with
                          | true =>
                            clear y4 y5
                            go_wp2_with fail
                            go_roundg (i - (j + 1))
                            case measure => omega
                            case rel => exact ⟨j + 1, rfl, rfl, by omega, by rw [HAB.out]; rfl, by go_num⟩
                          | false =>
                            obtain ⟨b1, hb1⟩ : ∃ b, st.testBit j = b := ⟨_, rfl⟩
                            obtain ⟨b2, hb2⟩ : ∃ b, x.last.testBit j = b := ⟨_, rfl⟩
                            rw [hb1] at y4 HAB
                            rw [hb2] at y5 HAB
                            clear hb1 hb2
                            cases b1 with
                            | true =>
                              go_wp2_with fail
                              go_roundg (i - (j + 1))
                              case measure => omega
                              case rel => exact ⟨j + 1, rfl, rfl, by omega, by rw [HAB.out]; rfl, by go_num⟩
                            | false =>
                              clear y5
                              go_wp2_with fail
                              go_roundg (i - (j + 1))
                              case measure => omega
                              case rel => exact ⟨j + 1, rfl, rfl, by omega, by rw [HAB.out]; rfl, by go_num⟩
                        · have t10 : decide ((j : Int) < (i : Int)) = false := decide_eq_false (by omega)
                          obtain rfl : i = j := by omega
                          have hfin : (x.none || anyB (st &&& x.last) i) = decide (x.none = true ∨ st &&& x.last ≠ 0) := by
                            rw [anyB_full _ _ HXL.out]
                            cases x.none <;> simp
                          rw [hfin]
                          clear hfin
                          by_cases hc : x.none = true ∨ st &&& x.last ≠ 0
                          · have HC1 : Hid (outP l st (r + 1) = outP l st r ||| 2 ^ r) := by rw [HSU.out, if_pos hc]; rfl
                            rw [decide_eq_true hc]
                            clear hc
                            go_wp2_with fail
                            go_roundg (ln - (r + 1))
                            case measure => omega
                            case rel => exact ⟨r + 1, rfl, rfl, by omega, by rw [HC1.out, ← HOR.out, IntKind.wrap_u32], by go_num⟩
                          · have HC1 : Hid (outP l st (r + 1) = outP l st r) := by rw [HSU.out, if_neg hc]; rfl
                            rw [decide_eq_false hc]
                            clear hc
                            go_wp2_with fail
                            go_roundg (ln - (r + 1))
                            case measure => omega
                            case rel => exact ⟨r + 1, rfl, rfl, by omega, by rw [HC1.out], by go_num⟩
                    · have t8 : decide ((r : Int) < (ln : Int)) = false := decide_eq_false (by omega)
                      obtain rfl : ln = r := by omega
                      obtain ⟨ou, hou⟩ : ∃ ou, ou = outP l st ln := ⟨_, rfl⟩
                      have HOU : Hid (ou = Au.out l st) := by rw [hou, HLN.out, outP_all]; exact rfl
                      rw [← hou]
                      obtain ⟨aO, cO, rfl⟩ := own_form HR1.out.ot
                      have HR1a : Hid (Rst W1 (V1.alloc (.cells #[.int .u32 (ou : Int)] 47)) i m0 found found sbs (.slice (some ⟨sb0, 0, none⟩) found.length sc0) (.slice (some ⟨nb0, 0, none⟩) found.length nc0) vX (.slice aO o.length cO) rows nx o) := HR1.out.only0 ((Only.refl _ _).alloc _)
                      have q0' : V1.cell? ⟨m0, 1, none⟩ = some (.slice aO o.length cO) := cell_blk HR1.out.abk
                      have hm0l : m0 < V1.heap.size := (Array.getElem?_eq_some_iff.1 HR1.out.abk).1
                      have hV1s := HR1.out.on.size
                      clear hou HRV1 HBV1 hbl1
                      go_wp2_with (at_builtin; refine wpList_append_own_at _ rfl _ _ 31 rfl W1.heap.size 47 i47 _ 1 4 Try.underlying31 g47 g470 g471 g472 rfl (by decide) _ _ _ rfl HR1a.out.ot ⟨V1.heap.size, 0, none⟩ 1 1 [u32V ou] rfl rfl (u32_news _ _) (fun u hu => by simp at hu; subst hu; rfl) (by unfold maxLen; have := HNX.out.2; omega) (by have := HNX.out.2; omega) (by simp; omega) ?_; intro v8 w8 hown8 hg8 _ _; obtain ⟨ob8, oc8, rfl, hob8, hol8, hoc8, _⟩ := row_form hown8 (by omega); have hO8 : Only (fun q => (Value.slice aO o.length cO).ownBlock = some q) (V1.alloc (.cells #[.int .u32 (ou : Int)] 47)) w8 := (Only.refl _ _).grown hg8 (fun k h => h); obtain ⟨hR2, hab8⟩ := HR1a.out.tell (x := ou) hown8 hO8; have HR2 : Hid (Rst W1 (w8.setCell ⟨m0, 1, none⟩ (.slice (some ⟨ob8, 0, none⟩) (o.length + 1) oc8)) i m0 found found sbs (.slice (some ⟨sb0, 0, none⟩) found.length sc0) (.slice (some ⟨nb0, 0, none⟩) found.length nc0) vX (.slice (some ⟨ob8, 0, none⟩) (o.length + 1) oc8) rows nx (o ++ [ou])) := hR2; have q1' : w8.cell? ⟨m0, 1, none⟩ = some (.slice aO o.length cO) := cell_blk hab8; have q2' := fz_blk hab8 1; have q3' : m0 < w8.heap.size := (Array.getElem?_eq_some_iff.1 hab8).1; have HMB8 : Hid (Bt (w8.setCell ⟨m0, 1, none⟩ (.slice (some ⟨ob8, 0, none⟩) (o.length + 1) oc8)) mb1 i m) := ((HMK1.out.keep ((Only.refl _ _).alloc _)).own HR1a.out.ot (by decide) hO8).cellOther hab8 (by decide) _; clear hown8 hg8 hR2 hab8 hO8)
                      have HRW : Hid (∀ r ∈ rows, ∀ q, r.ownBlock = some q → q < w8.heap.size) := fun r hr q hq => by
                        obtain ⟨L, hL⟩ := HR2.out.row hr
                        have := (hL.lt q hq).2
                        simpa using this
                      have hSw : W1.heap.size ≤ w8.heap.size := by have := HR2.out.on.size; simpa using this
                      obtain ⟨Sw, hSwe⟩ : ∃ Sw, Sw = w8.heap.size := ⟨_, rfl⟩
                      rw [← hSwe] at HRW hSw
                      have HFS : Hid (∀ x ∈ found, x < 2 ^ i) := HSM.out
                      clear q0' hm0l hV1s HR1 HR1a HMK1
                      go_loopg [13, 14, 23, 24] cl (fun gh v13 v14 v23 v24 wr => ∃ (cc : Nat) (f1 sb1 : List Nat) (vSt1 vNm1 vW : Value) (L : List Nat) (V3 : World), V3 = wr ∧ gh = cl - cc ∧ cc ≤ cl ∧ vSt1 = v13 ∧ vNm1 = v14 ∧ vW = v23 ∧ v24 = .int .i64 (cc : Int) ∧ f1.length ≤ 300 ∧ fl ≤ f1.length ∧ (∀ x ∈ f1, x < 2 ^ i) ∧ L.length = cc ∧ Au.ways p1 m ((List.range cl).drop cc) f1 L = Au.ways p1 m (List.range cl) found [] ∧ Rst W1 V3 i m0 f1 f1 sb1 vSt1 vNm1 vX (.slice (some ⟨ob8, 0, none⟩) (o.length + 1) oc8) rows nx (o ++ [ou]) ∧ V3.ownsRow Sw 3 1 vW L.length (natI L) ∧ Bt V3 mb1 i m ∧ Sw ≤ V3.heap.size)
                      case atStart => exact ⟨0, found, sbs, _, _, _, [], _, rfl, rfl, Nat.zero_le _, by rw [HFL.out], by rw [HFL.out], rfl, rfl, by rw [← HFL.out]; exact hs2, by rw [HFL.out]; exact Nat.le_refl _, HFS.out, rfl, rfl, HR2.out, World.ownsRow_nil _ _ _ _, HMB8.out, by rw [hSwe]; simp⟩
                      case round =>
                        obtain ⟨cc, f1, sb1, vSt1, vNm1, vW, L, V3, hV3, rfl, hcc, rfl, rfl, rfl, rfl, hf1, hff, hfs, hLc, hwy, hR3, hW3, hB3, hS3⟩ := hrel
                        subst hV3
                        have HR3 : Hid (Rst W1 V3 i m0 f1 f1 sb1 vSt1 vNm1 vX (.slice (some ⟨ob8, 0, none⟩) (o.length + 1) oc8) rows nx (o ++ [ou])) := hR3
                        have HW3 : Hid (V3.ownsRow Sw 3 1 vW L.length (natI L)) := hW3
                        have HB3 : Hid (Bt V3 mb1 i m) := hB3
                        have HWY : Hid (Au.ways p1 m ((List.range cl).drop cc) f1 L = Au.ways p1 m (List.range cl) found []) := hwy
                        have HFS1 : Hid (∀ x ∈ f1, x < 2 ^ i) := hfs
                        have HLC : Hid (L.length = cc) := hLc
                        obtain ⟨sb9, sc9, hv9, hsb9, hsl9, hsc9, _⟩ := row_form hR3.st (by omega)
                        subst hv9
                        obtain ⟨nb9, nc9, hv9, hnb9, hnl9, hnc9, hn9c⟩ := row_form hR3.nmr (by omega)
                        subst hv9
                        have HNC : Hid (∀ k x, f1[k]? = some x → V3.cell? ⟨nb9, k, none⟩ = some (.string (nm i x))) := fun k x hk => by
                          have hlk := (List.getElem?_eq_some_iff.1 hk).1
                          rw [hn9c k (by omega), List.getElem?_map, hk]
                          rfl
                        obtain ⟨aW, cW, rfl⟩ := own_form hW3
                        clear hR3 hW3 hB3 hwy hfs hLc hn9c q1' q2' q3' HR2 HMB8 HFS
                        obtain ⟨f1l, hf1l⟩ : ∃ f1l, f1l = f1.length := ⟨_, rfl⟩
                        have HF1L : Hid (f1l = f1.length) := hf1l
                        rw [← hf1l] at hf1 hff hsc9 hnc9 ⊢
                        clear hf1l
                        by_cases hltc : cc < cl
                        · have t11 : (cc : Int) < (cl : Int) := by omega
                          have hRd3 := HRD.out.old HR3.out.on
                          have HRd3 : Hid (Rdn V3 w1.heap.size i l p1 aS cS q0 cN rb vN aD cD ff) := hRd3
                          clear hRd3
                          go_wp2_with fail
                          go_loopg [26] i (fun gh v26 wr => ∃ (j : Nat) (V4 : World), V4 = wr ∧ gh = i - j ∧ j ≤ i ∧ v26 = .int .i64 (j : Int) ∧ Bk V4 V3.heap.size i ((m &&& Au.by' p1 cc) % 2 ^ j) ∧ Only (fun _ => False) V3 V4)
                          case atStart =>
                            refine ⟨0, _, rfl, rfl, Nat.zero_le _, rfl, ?_, (Only.refl _ _).alloc _⟩
                            rw [bA_made, Nat.pow_zero, Nat.mod_one]
                            exact heap_alloc_new _ _
                          case round =>
                            obtain ⟨j, V4, hV4, rfl, hj, rfl, hB4, hO4⟩ := hrel
                            subst hV4
                            have HB4 : Hid (Bk V4 V3.heap.size i ((m &&& Au.by' p1 cc) % 2 ^ j)) := hB4
                            have HO4 : Hid (Only (fun _ => False) V3 V4) := hO4
                            have f4 := hB4.fz j
                            have l4 := hB4.lt
                            clear hB4 hO4
                            by_cases hltj : j < i
                            · have t12 : (j : Int) < (i : Int) := by omega
                              have y4 := (HB3.out.keep HO4.out).1.2 j hltj
                              have y5 := (HB3.out.keep HO4.out).1.1
                              have y6 := HB4.out.cell j hltj
                              have HX : Hid ((m &&& Au.by' p1 cc).testBit j = (m.testBit j && decide ((p1.sets[j]?.getD 0) / 2 ^ cc % 2 = 1))) := by rw [Nat.testBit_and, by_bit p1 cc j (by rw [HSL.out]; exact hltj)]; exact rfl
                              cases hbit : m.testBit j with
                              | false =>
                                rw [hbit] at y4 HX
                                clear hbit
                                go_wp2_with fail
                                go_roundg (i - (j + 1))
                                case measure => omega
                                case rel => exact ⟨j + 1, _, rfl, rfl, by omega, by go_num, HB4.out.setb false (by rw [← bA_low, HX.out]; rfl), HO4.out.setNew (Nat.le_refl _) _⟩
                              | true =>
                                rw [hbit] at y4 HX
                                obtain ⟨x, hx⟩ : ∃ x, p1.sets[j]? = some x := ⟨_, List.getElem?_eq_getElem (by rw [HSL.out]; exact hltj)⟩
                                obtain ⟨sbS, hsbS, hsl, hsx⟩ := (HRd3.out.old (HO4.out.mono (fun _ h => h.elim))).st j x hx
                                have hg0 := (HRd3.out.old (HO4.out.mono (fun _ h => h.elim))).g0
                                have hgl := (HRd3.out.old (HO4.out.mono (fun _ h => h.elim))).gl
                                rw [hsbS] at hg0
                                obtain ⟨hx0, hx1⟩ := HSLS.out x (List.mem_of_getElem? hx)
                                rw [hx, Option.getD_some] at HX
                                obtain ⟨y, hy⟩ : ∃ y : Int, x / 2 ^ cc = y := ⟨_, rfl⟩
                                have hy0 : 0 ≤ y := by rw [← hy]; exact Int.ediv_nonneg hx0 (Int.pow_nonneg (by decide))
                                have hy1 : y < 4294967296 := by rw [← hy]; exact Int.lt_of_le_of_lt (Int.ediv_le_self _ hx0) hx1
                                rw [hy] at HX
                                clear hbit hx hsbS
                                go_wp2_with fail
                                go_roundg (i - (j + 1))
                                case measure => omega
                                case rel => exact ⟨j + 1, _, rfl, rfl, by omega, by go_num, HB4.out.setb (y % 2 == 1) (by rw [← bA_low, HX.out]; rfl), HO4.out.setNew (Nat.le_refl _) _⟩
                            · have t13 : decide ((j : Int) < (i : Int)) = false := decide_eq_false (by omega)
                              obtain rfl : i = j := by omega
                              obtain ⟨T, hT⟩ : ∃ T, T = m &&& Au.by' p1 cc := ⟨_, rfl⟩
                              have HTT : Hid (T = m &&& Au.by' p1 cc) := hT
                              have HB5 : Hid (Bk V4 V3.heap.size i T) := by
                                have h := HB4.out
                                unfold Bk at h
                                rw [bA_full, ← hT] at h
                                exact h
                              have HTL : Hid (T < 2 ^ i) := by
                                rw [hT]
                                refine Nat.lt_pow_two_of_testBit _ (fun q hq => ?_)
                                rw [Nat.testBit_and]
                                have : (Au.by' p1 cc).testBit q = false := by
                                  unfold Au.by'
                                  rw [fold_bit]
                                  simp
                                  have := HSL.out
                                  omega
                                rw [this, Bool.and_false]
                              have hwy := HWY.out
                              rw [List.drop_eq_getElem_cons (by simpa using hltc), List.getElem_range] at hwy
                              have HWY2 : Hid (Au.ways p1 m (cc :: (List.range cl).drop (cc + 1)) f1 L = Au.ways p1 m (List.range cl) found []) := hwy
                              clear hT HB4 hwy
                              go_wp2_with (go_at_call 30; refine (rtext_any V3.heap.size i i T _ HB5.out.bn hP).mono ?_; rintro e w9 ⟨rfl, ho9⟩; have HO9 : Hid (Only (fun _ => False) V3 w9) := HO4.out.trans ho9; have HB9 : Hid (Bk w9 V3.heap.size i T) := HB5.out.keep ho9; clear ho9)
                              have HR9 : Hid (Rst W1 w9 i m0 f1 f1 sb1 (.slice (some ⟨sb9, 0, none⟩) f1.length sc9) (.slice (some ⟨nb9, 0, none⟩) f1.length nc9) vX (.slice (some ⟨ob8, 0, none⟩) (o.length + 1) oc8) rows nx (o ++ [ou])) := HR3.out.only0 HO9.out
                              have HW9 : Hid (w9.ownsRow Sw 3 1 (.slice aW L.length cW) L.length (natI L)) := own_only HW3.out HO9.out (fun _ _ h => h)
                              have HB9m : Hid (Bt w9 mb1 i m) := HB3.out.keep HO9.out
                              have HNC9 : Hid (∀ k x, f1[k]? = some x → w9.cell? ⟨nb9, k, none⟩ = some (.string (nm i x))) := fun k x hk => keep0 HO9.out (HNC.out k x hk)
                              have hnl10 : nb9 < w9.heap.size := Nat.lt_of_lt_of_le hnl9 HO9.out.size
                              have hw9s : Sw ≤ w9.heap.size := Nat.le_trans hS3 HO9.out.size
                              have hw9t : V3.heap.size < w9.heap.size := HB9.out.lt
                              have hw9W := HR9.out.on.size
                              have HTB : Hid (W1.heap.size ≤ V3.heap.size) := HR3.out.on.size
                              clear HR3 HW3 HB3 HNC HO4 HB5 l4 f4
                              go_loopg [28] f1l (fun gh v28 wr => ∃ (k : Nat), w9 = wr ∧ gh = f1l - k ∧ k ≤ f1l ∧ v28 = .int .i64 (k : Int) ∧ ∀ q, q < k → f1[q]? ≠ some T)
                              case atStart => exact ⟨0, rfl, rfl, Nat.zero_le _, rfl, fun q hq => absurd hq (Nat.not_lt_zero _)⟩
                              case round =>
                                obtain ⟨k, rfl, rfl, hk, rfl, hbef⟩ := hrel
                                have HBEF : Hid (∀ q, q < k → f1[q]? ≠ some T) := hbef
                                clear hbef
                                by_cases hltk : k < f1l
                                · have t16 : (k : Int) < (f1l : Int) := by omega
                                  obtain ⟨x, hx⟩ : ∃ x, f1[k]? = some x := ⟨_, List.getElem?_eq_getElem (by rw [← HF1L.out]; exact hltk)⟩
                                  have yn := HNC9.out k x hx
                                  by_cases hxT : x = T
                                  · subst hxT
                                    have HIN : Hid (f1.idxOf x = k ∧ x ∈ f1) := ⟨idx_at f1 k x hx HBEF.out, List.mem_of_getElem? hx⟩
                                    have hkn : ((k : Int) == (f1l : Int)) = false := by simp; omega
                                    clear hx
                                    go_wp2_with (at_builtin; refine wpList_append_own_at _ rfl _ _ 43 rfl Sw 3 i3 _ 1 8 Try.underlying43 g3' g30 g31 g32 rfl (by decide) _ _ _ rfl (HW9.out.alloc (.cells #[.int .i64 (k : Int)] 3)) ⟨w9.heap.size, 0, none⟩ 1 1 [.int .i64 (k : Int)] rfl rfl (news1 _ _ _) (fun u hu => by simp at hu; subst hu; rfl) (by unfold maxLen; have := HLC.out; omega) (by have := HLC.out; omega) (by simp; omega) ?_; intro v8 wC hown8 hg8 _ _; have HOC : Hid (Only (fun q => (Value.slice aW L.length cW).ownBlock = some q) (w9.alloc (.cells #[.int .i64 (k : Int)] 3)) wC) := (Only.refl _ _).grown hg8 (fun k h => h); have HWC : Hid (wC.ownsRow Sw 3 1 v8 (L.length + 1) (natI L ++ [.int .i64 (k : Int)])) := hown8; clear hown8 hg8)
                                    go_roundg (cl - (cc + 1))
                                    case measure => omega
                                    case rel => exact ⟨cc + 1, f1, sb1, .slice (some ⟨sb9, 0, none⟩) f1.length sc9, .slice (some ⟨nb9, 0, none⟩) f1.length nc9, v8, L ++ [k], wC, rfl, rfl, by omega, by rw [HF1L.out], by rw [HF1L.out], rfl, by go_num, by rw [← HF1L.out]; exact hf1, by rw [← HF1L.out]; exact hff, HFS1.out, by simp [HLC.out], (by rw [← HWY2.out, ways_in p1 m cc _ f1 L (by rw [← HTT.out]; exact HIN.out.2), ← HTT.out, HIN.out.1]), (HR9.out.only0 ((Only.refl _ _).alloc _)).ways (HW9.out.alloc _) hSw HRW.out HOC.out, (by rw [List.length_append, natI_snoc]; exact HWC.out), (HB9m.out.keep ((Only.refl _ _).alloc _)).own (HW9.out.alloc _) (by decide) HOC.out, Nat.le_trans hw9s (Nat.le_trans (by simp) HOC.out.size)⟩
                                  · have hne : nm i x ≠ nm i T := fun e => hxT (nm_inj (HFS1.out x (List.mem_of_getElem? hx)) HTL.out e)
                                    have hne2 : (nl i x == nl i T) = false := by { have : nl i x ≠ nl i T := fun e => hne (by unfold nm; rw [e]); simpa using this }
                                    have hne3 : (nm i x).toList = nl i x := bs_toList (nl i x)
                                    have hne4 : (nm i T).toList = nl i T := bs_toList (nl i T)
                                    clear hne
                                    have HXN : Hid (f1[k]? = some x ∧ x ≠ T) := ⟨hx, hxT⟩
                                    clear hx hxT
                                    go_wp2_with fail
                                    go_roundg (f1l - (k + 1))
                                    case measure => omega
                                    case rel =>
                                      refine ⟨k + 1, rfl, rfl, by omega, by go_num, fun q hq e => ?_⟩
                                      by_cases hqk : q = k
                                      · subst hqk
                                        rw [HXN.out.1] at e
                                        injection e with e
                                        exact HXN.out.2 e
                                      · exact HBEF.out q (by omega) e
                                · have t16 : decide ((k : Int) < (f1l : Int)) = false := decide_eq_false (by omega)
                                  obtain rfl : f1l = k := by omega
                                  have HNI : Hid (T ∉ f1) := fun hm => by
                                    obtain ⟨q, hq⟩ := List.mem_iff_getElem?.1 hm
                                    exact HBEF.out q (by rw [HF1L.out]; exact (List.getElem?_eq_some_iff.1 hq).1) hq
                                  by_cases h300 : f1l = 300
                                  · have h3a : (f1l : Int) = 300 := by omega
                                    have hsts := HST.out
                                    rw [show 301 - s = (300 - s) + 1 by omega, states_step _ _ _ _ _ _ _ _ _ st HSTT.out, ← HMM.out, ← HWY2.out, ways_full p1 m cc _ f1 L (by rw [← HTT.out]; exact HNI.out) (by rw [← HF1L.out]; exact h300)] at hsts
                                    have HSTE : Hid (Au.states p1 l (orF l) cl 301 0 [0] [] [] = none) := hsts.symm
                                    have hrs : w9.heap[w.heap.size]? = some resC := (HR9.out.on.block _ hsz1 (by omega)).trans HRES.out
                                    have HRS2 : Hid (w9.heap[w.heap.size]? = some resC) := hrs
                                    have r0 : w9.cell? ⟨w.heap.size, 0, none⟩ = some (.slice none 0 0) := cell_blk hrs
                                    have r1 : w9.cell? ⟨w.heap.size, 1, none⟩ = some (.slice none 0 0) := cell_blk hrs
                                    have r2 := fz_blk hrs
                                    have r3 : w.heap.size < w9.heap.size := by omega
                                    clear hsts hrs
                                    go_wp2_with fail
                                    refine bodyPost_ret (v := .tuple #[noAut, .int .i64 27]) (results_row1 (p := 4) (u := 5) rfl _ _ w.heap.size 33 #[.slice none 0 0, .slice none 0 0] (0, 0) _ rfl (heap_setCell_at (heap_setCell_at HRS2.out _) _) Try.underlying33 rfl sz33 rfl) rfl ?_
                                    rw [HRR.out, HSTE.out]
                                    refine ⟨rfl, ?_⟩
                                    have e0 : Only (fun q => w.heap.size ≤ q) w w9 := (HON1.out.mono (fun _ h => h.elim)).trans (HR9.out.on.mono (fun q hq => by omega))
                                    exact (Only.setCell (S := fun q => w.heap.size ≤ q) (Only.setCell (S := fun q => w.heap.size ≤ q) e0 (p := ⟨w.heap.size, 0, none⟩) (Nat.le_refl _) _) (p := ⟨w.heap.size, 1, none⟩) (Nat.le_refl _) _).old (fun _ h => Or.inl h)
                                  · have HN3 : Hid (f1.length ≠ 300) := by rw [← HF1L.out]; exact h300
                                    have HRa : Hid (Rst W1 (w9.alloc (.cells #[.string (nm i T)] 9)) i m0 f1 f1 sb1 (.slice (some ⟨sb9, 0, none⟩) f1.length sc9) (.slice (some ⟨nb9, 0, none⟩) f1.length nc9) vX (.slice (some ⟨ob8, 0, none⟩) (o.length + 1) oc8) rows nx (o ++ [ou])) := HR9.out.only0 ((Only.refl _ _).alloc _)
                                    rw [HF1L.out] at hf1 hff hsc9 hnc9 ⊢
                                    have h3a : ((f1.length : Int) == 300) = false := by { have := HN3.out; simp; omega }
                                    go_wp2_with (first
                                      | (at_builtin; refine wpList_append_own_at _ rfl _ _ 58 rfl W1.heap.size 9 i9 _ 1 16 Try.underlying58 g9 g90 g91 g92 rfl (by decide) _ _ _ rfl HRa.out.nmr ⟨w9.heap.size, 0, none⟩ 1 1 [.string (nm i T)] rfl rfl (World.news_of_block (heap_alloc_new w9 (.cells #[.string (nm i T)] 9))) (fun u hu => by simp at hu; subst hu; rfl) (by unfold maxLen; omega) (by omega) (by simp; omega) ?_; intro v8 wA hown8 hg8 _ _; have hOA : Only (fun q => (Value.slice (some ⟨nb9, 0, none⟩) f1.length nc9).ownBlock = some q) (w9.alloc (.cells #[.string (nm i T)] 9)) wA := (Only.refl _ _).grown hg8 (fun k h => h); have HRA : Hid (Rst W1 wA i m0 f1 (f1 ++ [T]) sb1 (.slice (some ⟨sb9, 0, none⟩) f1.length sc9) v8 vX (.slice (some ⟨ob8, 0, none⟩) (o.length + 1) oc8) rows nx (o ++ [ou])) := HRa.out.name (s := T) hown8 hOA; have HBA : Hid (Bk wA V3.heap.size i T) := (HB9.out.keep ((Only.refl _ _).alloc _)).only hOA (fun e => own_ne HRa.out.nmr (HB9.out.keep ((Only.refl _ _).alloc _)) (by decide) e); have HWA : Hid (wA.ownsRow Sw 3 1 (.slice aW L.length cW) L.length (natI L)) := own_keep (HW9.out.alloc _) hOA (fun q hq => own_apart (HW9.out.alloc _) HRa.out.nmr (by decide) hq); have HMA : Hid (Bt wA mb1 i m) := (HB9m.out.keep ((Only.refl _ _).alloc _)).own HRa.out.nmr (by decide) hOA; have hwAs : w9.heap.size ≤ wA.heap.size := Nat.le_trans (by simp) hOA.size; have HRb : Hid (Rst W1 (wA.alloc (.cells #[.slice (some ⟨V3.heap.size, 0, none⟩) i i] 86)) i m0 f1 (f1 ++ [T]) sb1 (.slice (some ⟨sb9, 0, none⟩) f1.length sc9) v8 vX (.slice (some ⟨ob8, 0, none⟩) (o.length + 1) oc8) rows nx (o ++ [ou])) := HRA.out.only0 ((Only.refl _ _).alloc _); clear hown8 hg8 hOA)
                                      | (at_builtin; refine wpList_append_own_at _ rfl _ _ 83 rfl W1.heap.size 86 i6 _ 1 24 Try.underlying83 h6 h60 h61 h62 rfl (by decide) _ _ _ rfl HRb.out.st ⟨wA.heap.size, 0, none⟩ 1 1 [bsl i V3.heap.size] rfl rfl (World.news_of_block (cs := #[bsl i V3.heap.size]) (heap_alloc_new wA (.cells #[.slice (some ⟨V3.heap.size, 0, none⟩) i i] 86))) (fun u hu => by simp at hu; subst hu; rfl) (by unfold maxLen; omega) (by omega) (by simp; omega) ?_; intro v9 wB hown9 hg9 _ _; have hOB : Only (fun q => (Value.slice (some ⟨sb9, 0, none⟩) f1.length sc9).ownBlock = some q) (wA.alloc (.cells #[.slice (some ⟨V3.heap.size, 0, none⟩) i i] 86)) wB := (Only.refl _ _).grown hg9 (fun k h => h); have HRB : Hid (Rst W1 wB i m0 (f1 ++ [T]) (f1 ++ [T]) (sb1 ++ [V3.heap.size]) v9 v8 vX (.slice (some ⟨ob8, 0, none⟩) (o.length + 1) oc8) rows nx (o ++ [ou])) := HRb.out.stat (s := T) (b := V3.heap.size) hown9 hOB (HBA.out.keep ((Only.refl _ _).alloc _)) HTB.out; have HWB : Hid (wB.ownsRow Sw 3 1 (.slice aW L.length cW) L.length (natI L)) := own_keep (HWA.out.alloc _) hOB (fun q hq => own_apart (HWA.out.alloc _) HRb.out.st (by decide) hq); have HMB : Hid (Bt wB mb1 i m) := (HMA.out.keep ((Only.refl _ _).alloc _)).own HRb.out.st (by decide) hOB; have hwBs : wA.heap.size ≤ wB.heap.size := Nat.le_trans (by simp) hOB.size; clear hown9 hg9 hOB)
                                      | (at_builtin; refine wpList_append_own_at _ rfl _ _ 43 rfl Sw 3 i3 _ 1 8 Try.underlying43 g3' g30 g31 g32 rfl (by decide) _ _ _ rfl (HWB.out.alloc (.cells #[.int .i64 (f1.length : Int)] 3)) ⟨wB.heap.size, 0, none⟩ 1 1 [.int .i64 (f1.length : Int)] rfl rfl (news1 _ _ _) (fun u hu => by simp at hu; subst hu; rfl) (by unfold maxLen; have := HLC.out; omega) (by have := HLC.out; omega) (by simp; omega) ?_; intro vC wC hown8 hg8 _ _; have HOC : Hid (Only (fun q => (Value.slice aW L.length cW).ownBlock = some q) (wB.alloc (.cells #[.int .i64 (f1.length : Int)] 3)) wC) := (Only.refl _ _).grown hg8 (fun k h => h); have HWC : Hid (wC.ownsRow Sw 3 1 vC (L.length + 1) (natI L ++ [.int .i64 (f1.length : Int)])) := hown8; clear hown8 hg8))
                                    go_roundg (cl - (cc + 1))
                                    case measure => omega
                                    case rel => exact ⟨cc + 1, f1 ++ [T], sb1 ++ [V3.heap.size], v9, v8, vC, L ++ [f1.length], wC, rfl, rfl, by omega, rfl, rfl, rfl, by go_num, (by rw [List.length_append]; have := HN3.out; simp; omega), (by rw [List.length_append]; omega), (fun z hz => by rcases List.mem_append.1 hz with hz | hz; exact HFS1.out z hz; simp at hz; subst hz; exact HTL.out), by simp [HLC.out], (by rw [← HWY2.out, ways_new p1 m cc _ f1 L (by rw [← HTT.out]; exact HNI.out) HN3.out, ← HTT.out]), (HRB.out.only0 ((Only.refl _ _).alloc _)).ways (HWB.out.alloc _) hSw HRW.out HOC.out, (by rw [List.length_append, natI_snoc]; exact HWC.out), (HMB.out.keep ((Only.refl _ _).alloc _)).own (HWB.out.alloc _) (by decide) HOC.out, Nat.le_trans (by omega) (Nat.le_trans (show wB.heap.size ≤ _ by simp) HOC.out.size)⟩
                        · have t14 : decide ((cc : Int) < (cl : Int)) = false := decide_eq_false (by omega)
                          obtain rfl : cl = cc := by omega
                          have hwy := HWY.out
                          rw [List.drop_eq_nil_of_le (by simp)] at hwy
                          simp only [Au.ways] at hwy
                          have hsts := HST.out
                          rw [show 301 - s = (300 - s) + 1 by omega, states_step _ _ _ _ _ _ _ _ _ st HSTT.out, ← HMM.out, ← hwy, ← HOU.out] at hsts
                          have HSTS : Hid (Au.states p1 l (orF l) cl (300 - s) (s + 1) f1 (nx ++ [L]) (o ++ [ou]) = Au.states p1 l (orF l) cl 301 0 [0] [] []) := hsts
                          obtain ⟨aX, cX, rfl⟩ := own_form HR3.out.nxr
                          have HR3a : Hid (Rst W1 (V3.alloc (.cells #[.slice aW L.length cW] 43)) i m0 f1 f1 sb1 (.slice (some ⟨sb9, 0, none⟩) f1.length sc9) (.slice (some ⟨nb9, 0, none⟩) f1.length nc9) (.slice aX rows.length cX) (.slice (some ⟨ob8, 0, none⟩) (o.length + 1) oc8) rows nx (o ++ [ou])) := HR3.out.only0 ((Only.refl _ _).alloc _)
                          have q0' : V3.cell? ⟨m0, 0, none⟩ = some (.slice aX rows.length cX) := cell_blk HR3.out.abk
                          have hm0l : m0 < V3.heap.size := (Array.getElem?_eq_some_iff.1 HR3.out.abk).1
                          have hV3s := HR3.out.on.size
                          have hrl : rows.length = s := by rw [HR3.out.rl]; exact HNX.out.1
                          have HRL2 : Hid (rows.length = s) := hrl
                          clear hwy hsts hrl
                          go_wp2_with (at_builtin; refine wpList_append_own_at _ rfl _ _ 30 rfl W1.heap.size 43 i43 _ 1 24 Try.underlying30 g43 g430 g431 g432 rfl (by decide) _ _ _ rfl HR3a.out.nxr ⟨V3.heap.size, 0, none⟩ 1 1 [.slice aW L.length cW] rfl rfl (World.news_of_block (heap_alloc_new V3 (.cells #[.slice aW L.length cW] 43))) (fun u hu => by simp at hu; subst hu; rfl) (by unfold maxLen; have := HRL2.out; omega) (by have := HRL2.out; omega) (by simp; omega) ?_; intro v8 w9 hown8 hg8 _ _; obtain ⟨xb9, xc9, rfl, hxb9, hxl9, hxc9, _⟩ := row_form hown8 (by omega); have hO8 : Only (fun q => (Value.slice aX rows.length cX).ownBlock = some q) (V3.alloc (.cells #[.slice aW L.length cW] 43)) w9 := (Only.refl _ _).grown hg8 (fun k h => h); obtain ⟨hR2, hab8⟩ := HR3a.out.next (r := .slice aW L.length cW) (L := L) (own_mono (HW3.out.alloc _) hSw) hown8 hO8; have HR4 : Hid (Rst W1 (w9.setCell ⟨m0, 0, none⟩ (.slice (some ⟨xb9, 0, none⟩) (rows.length + 1) xc9)) i m0 f1 f1 sb1 (.slice (some ⟨sb9, 0, none⟩) f1.length sc9) (.slice (some ⟨nb9, 0, none⟩) f1.length nc9) (.slice (some ⟨xb9, 0, none⟩) (rows.length + 1) xc9) (.slice (some ⟨ob8, 0, none⟩) (o.length + 1) oc8) (rows ++ [.slice aW L.length cW]) (nx ++ [L]) (o ++ [ou])) := hR2; have q1' : w9.cell? ⟨m0, 0, none⟩ = some (.slice aX rows.length cX) := cell_blk hab8; have q2' := fz_blk hab8 0; have q3' : m0 < w9.heap.size := (Array.getElem?_eq_some_iff.1 hab8).1; clear hown8 hg8 hR2 hab8 hO8)
                          rw [HLN.out]
                          go_roundg (301 - (s + 1))
                          case measure => omega
                          case rel => exact ⟨s + 1, f1, sb1, .slice (some ⟨sb9, 0, none⟩) f1.length sc9, .slice (some ⟨nb9, 0, none⟩) f1.length nc9, .slice (some ⟨xb9, 0, none⟩) (rows.length + 1) xc9, .slice (some ⟨ob8, 0, none⟩) (o.length + 1) oc8, rows ++ [.slice aW L.length cW], nx ++ [L], o ++ [ou], _, rfl, rfl, by rw [← HF1L.out]; omega, by rw [← HF1L.out]; exact hf1, by rw [← HF1L.out]; omega, by rw [HF1L.out], by rw [HF1L.out], by go_num, by simp [HNX.out.1], by simp [HNX.out.2], HFS1.out, (by rw [show 301 - (s + 1) = 300 - s by omega]; exact HSTS.out), HR4.out⟩
            · have t15 : decide ((s : Int) < (fl : Int)) = false := decide_eq_false (by omega)
              have hsts := HST.out
              rw [show 301 - s = (300 - s) + 1 by omega, states_end _ _ _ _ _ _ _ _ _ (List.getElem?_eq_none (by rw [← HFL.out]; omega))] at hsts
              obtain ⟨aX, cX, rfl⟩ := own_form HR.out.nxr
              obtain ⟨aO, cO, rfl⟩ := own_form HR.out.ot
              have q0' : V.cell? ⟨m0, 0, none⟩ = some (.slice aX rows.length cX) := cell_blk HR.out.abk
              have q1' : V.cell? ⟨m0, 1, none⟩ = some (.slice aO o.length cO) := cell_blk HR.out.abk
              have hm0l : m0 < V.heap.size := (Array.getElem?_eq_some_iff.1 HR.out.abk).1
              have hrs : V.heap[w.heap.size]? = some resC := (HR.out.on.block _ hsz1 (by omega)).trans HRES.out
              have HRS2 : Hid (V.heap[w.heap.size]? = some resC) := hrs
              have r0 : V.cell? ⟨w.heap.size, 0, none⟩ = some (.slice none 0 0) := cell_blk hrs
              have r1 : V.cell? ⟨w.heap.size, 1, none⟩ = some (.slice none 0 0) := cell_blk hrs
              have r2 := fz_blk hrs
              have r3 : w.heap.size < V.heap.size := by omega
              have hne : ¬ m0 = w.heap.size := by omega
              have hne2 : ¬ w.heap.size = m0 := by omega
              have HSTE : Hid (Au.states p1 l (orF l) cl 301 0 [0] [] [] = some (nx, o)) := hsts.symm
              clear hsts hrs hscell hncell
              go_wp2_with fail
              have hS2 : Only (· = w.heap.size) V ((V.setCell ⟨w.heap.size, 0, none⟩ (.slice aX rows.length cX)).setCell ⟨w.heap.size, 1, none⟩ (.slice aO o.length cO)) := Only.setCell (S := (· = w.heap.size)) (Only.setCell (S := (· = w.heap.size)) (Only.refl _ _) (p := ⟨w.heap.size, 0, none⟩) rfl _) (p := ⟨w.heap.size, 1, none⟩) rfl _
              refine bodyPost_ret (v := .tuple #[.agg #[.slice aX rows.length cX, .slice aO o.length cO], .int .i64 0]) (results_row1 (p := 4) (u := 5) rfl _ _ w.heap.size 33 #[.slice aX rows.length cX, .slice aO o.length cO] (0, 0) _ rfl (heap_setCell_at (heap_setCell_at HRS2.out _) _) Try.underlying33 rfl sz33 rfl) rfl ?_
              rw [HRR.out, HSTE.out]
              have hup : ∀ q, W1.heap.size ≤ q → ¬ q = w.heap.size := fun q hq e => by omega
              refine ⟨⟨_, rfl, _, _, rows, rfl, HR.out.rl, own_mono (own_keep HR.out.nxr hS2 (fun q hq => hup q (HR.out.nxr.lt q hq).1)) (by omega), fun j r L hr hL => own_mono (own_keep (HR.out.ro j r L hr hL) hS2 (fun q hq => hup q ((HR.out.ro j r L hr hL).lt q hq).1)) (by omega), own_mono (own_keep HR.out.ot hS2 (fun q hq => hup q (HR.out.ot.lt q hq).1)) (by omega)⟩, ?_⟩
              have e1 : Only (fun q => w.heap.size ≤ q) w ((V.setCell ⟨w.heap.size, 0, none⟩ (.slice aX rows.length cX)).setCell ⟨w.heap.size, 1, none⟩ (.slice aO o.length cO)) := (HON1.out.mono (fun _ h => h.elim)).trans ((HR.out.on.mono (fun q hq => by omega)).trans (hS2.mono (fun q hq => by omega)))
              exact e1.old (fun _ h => Or.inl h)
end Go.Proofs.Ytfbcijnacbfjpaa
