/-
  Made: an automaton of any numbers.
-/
import Derived.Test.YtelifjeppegcmaaRs
namespace Go.Proofs.Ytelifjeppegcmaa
open Go.RowKit Go.Maps
set_option linter.unusedVariables false
set_option linter.unusedSimpArgs false
theorem wrap_u64_nn (x : Int) : 0 ≤ IntKind.u64.wrap x := by rw [IntKind.wrap_u64]; omega
theorem wrap_smallu (x : Int) (h0 : 0 ≤ x) (h1 : x < 18446744073709551616) : IntKind.u64.wrap x = x := by rw [IntKind.wrap_u64]; omega
theorem Iw.cell {w : World} {a : Option Addr} {n : Nat} {L : List Int} (h : Iw w a n L) {j : Nat} (hj : j < n) : ∃ b off x, a = some ⟨b, off, none⟩ ∧ w.cell? ⟨b, off + j, none⟩ = some (.int .i64 x) := by
  obtain ⟨hl, b, off, h1, h2⟩ := h
  exact ⟨b, off, _, (h1 (by omega)).1, h2 j _ (List.getElem?_eq_getElem (by omega))⟩
theorem Uw.cell {w : World} {a : Option Addr} {n : Nat} {L : List Nat} (h : Uw w a n L) {j : Nat} (hj : j < n) : ∃ b off x, a = some ⟨b, off, none⟩ ∧ w.cell? ⟨b, off + j, none⟩ = some (.int .u32 ((x : Nat) : Int)) ∧ x < 4294967296 := by
  obtain ⟨hl, b, off, h1, h2⟩ := h
  exact ⟨b, off, _, (h1 (by omega)).1, h2 j _ (List.getElem?_eq_getElem (by omega))⟩
/-- rows of k ways each, to one of n states. -/
def RowsIn (n k : Nat) (rows : List (List Nat)) : Prop := ∀ (i : Nat) (row : List Nat), rows[i]? = some row → row.length = k ∧ ∀ y ∈ row, y < n
theorem RowsIn.snoc {n k : Nat} {rows : List (List Nat)} {F : List Nat} (h : RowsIn n k rows) (hF : F.length = k) (hlt : ∀ y ∈ F, y < n) : RowsIn n k (rows ++ [F]) := fun i row hr => by
  by_cases hi : i < rows.length
  · rw [List.getElem?_append_left hi] at hr
    exact h i row hr
  · rw [List.getElem?_append_right (by omega)] at hr
    have := (List.getElem?_eq_some_iff.1 hr).1
    simp at this
    have e : i - rows.length = 0 := by omega
    rw [e] at hr
    injection hr with hr
    subst hr
    exact ⟨hF, hlt⟩
/-- how Made ends. -/
def mdP (n k : Nat) (w : World) (e : Ending) (w' : World) : Prop := ∃ v rows outs, e = .returned v ∧ Ra w' w.heap.size v rows outs ∧ rows.length = n ∧ outs.length = n ∧ RowsIn n k rows ∧ Only (fun _ => False) w w'
set_option maxRecDepth 100000 in
set_option maxHeartbeats 8000000 in
theorem made_any (aU : Option Addr) (nU cU : Nat) (U : List Nat) (aC : Option Addr) (nC cC : Nat) (C : List Int) (x : Nat) (w : World) (hU : Uw w aU nU U) (hC : Iw w aC nC C) (hnU : nU ≤ maxLen) (hnC : nC ≤ maxLen) (hx : x < 256) :
    Calls Try.prog 9 #[.slice aU nU cU, .slice aC nC cC, .int .u8 (x : Int)] w (mdP (min nU 30) (x % 4) w) := by
  have HU : Hid (Uw w aU nU U) := hU
  have HC : Hid (Iw w aC nC C) := hC
  clear hU hC
  unfold maxLen at hnU hnC
  obtain ⟨n, hn⟩ : ∃ n, n = min nU 30 := ⟨_, rfl⟩
  obtain ⟨cc, hcc⟩ : ∃ cc, cc = x % 4 := ⟨_, rfl⟩
  have hn30 : n ≤ 30 := by rw [hn]; omega
  have hnn : n ≤ nU := by rw [hn]; omega
  have hc4 : cc < 4 := by omega
  have e1 : ((x : Int)).tmod 4 = (cc : Int) := by rw [Int.tmod_eq_emod_of_nonneg (by omega)]; omega
  have e2 : IntKind.u8.wrap (cc : Int) = (cc : Int) := by rw [IntKind.wrap_u8]; omega
  have e3 : IntKind.i64.wrap (cc : Int) = (cc : Int) := by rw [IntKind.wrap_i64]; omega
  have e4 : min (nU : Int) 30 = (n : Int) := by rw [hn]; omega
  rw [← hn, ← hcc]
  clear hn hcc
  have HT : Hid _ := two_at w (.cells #[.slice none 0 0, .slice none 0 0] 27) (.cells #[.slice none 0 0, .slice none 0 0] 27)
  obtain ⟨i3, g3, g30, g31, g32⟩ := info_parts info3b
  obtain ⟨i23, g23, g230, g231, g232⟩ := info_parts info23b
  obtain ⟨i38, g38, g380, g381, g382⟩ := info_parts info38b
  go_enter Try.func9, Try.ntmps9
  go_wp2_with fail
  obtain ⟨W0, hW0⟩ : ∃ W0, W0 = (w.alloc (.cells #[.slice none 0 0, .slice none 0 0] 27)).alloc (.cells #[.slice none 0 0, .slice none 0 0] 27) := ⟨_, rfl⟩
  rw [← hW0] at HT ⊢
  clear hW0 e1 e2 e3 e4
  go_loopg [22] n (fun gh v wr => ∃ (i : Nat) (rows : List (List Nat)) (outs : List Nat) (vs : List Value) (vN vO : Value) (W : World), W = wr ∧ gh = n - i ∧ i ≤ n ∧ v = .int .i64 (i : Int) ∧ Gm W (w.heap.size + 2) (w.heap.size + 1) vN vO rows outs vs ∧ rows.length = i ∧ outs.length = i ∧ RowsIn n cc rows ∧ Only (fun b => w.heap.size + 1 ≤ b) W0 W)
  case atStart => exact ⟨0, [], [], [], .slice none 0 0, .slice none 0 0, _, rfl, rfl, Nat.zero_le _, rfl, ⟨HT.out.2.1, rfl, ⟨rfl, Or.inl ⟨rfl, rfl⟩⟩, (fun i r L h => by cases h), ⟨rfl, Or.inl ⟨rfl, rfl⟩⟩⟩, rfl, rfl, (fun i row h => by cases h), Only.refl _ _⟩
  case round =>
    obtain ⟨i, rows, outs, vs, vN, vO, W, hW, rfl, hi, rfl, hG, hri, hro, hRI, hoW⟩ := hrel
    subst hW
    have HG : Hid (Gm W (w.heap.size + 2) (w.heap.size + 1) vN vO rows outs vs ∧ rows.length = i ∧ outs.length = i ∧ RowsIn n cc rows ∧ Only (fun b => w.heap.size + 1 ≤ b) W0 W) := ⟨hG, hri, hro, hRI, hoW⟩
    clear hG hri hro hRI hoW
    have lW0 : W0.heap.size = w.heap.size + 2 := HT.out.2.2.2
    have hlo : ∀ V, Only (fun b => w.heap.size + 1 ≤ b) W0 V → Only (fun _ => False) w V := fun V ho => low_only HT.out.2.2.1 ho (by omega)
    have HLO : Hid (∀ V, Only (fun b => w.heap.size + 1 ≤ b) W0 V → Only (fun _ => False) w V) := hlo
    have HLW : Hid (W0.heap.size = w.heap.size + 2) := lW0
    clear hlo lW0
    by_cases hlt : i < n
    · have t1 : (i : Int) < (n : Int) := by omega
      obtain ⟨p, hp⟩ : ∃ p, p = i * cc := ⟨_, rfl⟩
      have hpb : p ≤ 90 := by
        rw [hp]
        have h1 : i * cc ≤ 30 * 3 := Nat.mul_le_mul (by omega) (by omega)
        omega
      have m1 : IntKind.i64.wrap ((i : Int) * (cc : Int)) = (p : Int) := by
        rw [show (i : Int) * (cc : Int) = (p : Int) by rw [hp]; simp, IntKind.wrap_i64]
        omega
      clear hp
      have p0 : (0 : Int) < (n : Int) := by omega
      have p1 : ¬ (n : Int) = 0 := by omega
      have p2 : ((n : Int) == 0) = false := by simpa using p1
      have p3 : IntKind.u64.wrap (n : Int) = (n : Int) := wrap_smallu _ (by omega) (by omega)
      go_wp2_with fail
      go_loopg [11, 26] cc (fun gh v11 v26 wr => ∃ (k : Nat) (aW : Option Addr) (kW : Nat) (F : List Nat) (V : World), V = wr ∧ gh = cc - k ∧ k ≤ cc ∧ v11 = .slice aW k kW ∧ v26 = .int .i64 (k : Int) ∧ Gm V (w.heap.size + 2) (w.heap.size + 1) vN vO rows outs vs ∧ Wg V (w.heap.size + 2) vs (.slice aW k kW) F ∧ F.length = k ∧ (∀ y ∈ F, y < n) ∧ Only (fun b => w.heap.size + 1 ≤ b) W0 V)
      case atStart => exact ⟨0, none, 0, [], _, rfl, rfl, Nat.zero_le _, rfl, rfl, HG.out.1, Wg.start _ _ _, rfl, (fun y h => by cases h), HG.out.2.2.2.2⟩
      case round =>
        obtain ⟨k, aW, kW, F, V, hV, rfl, hk, rfl, rfl, hG, hWg, hFl, hFn, hoV⟩ := hrel
        subst hV
        have HV : Hid (Gm V (w.heap.size + 2) (w.heap.size + 1) vN vO rows outs vs ∧ Wg V (w.heap.size + 2) vs (.slice aW k kW) F ∧ F.length = k ∧ (∀ y ∈ F, y < n) ∧ Only (fun b => w.heap.size + 1 ≤ b) W0 V) := ⟨hG, hWg, hFl, hFn, hoV⟩
        have HVw : Hid (Only (fun _ => False) w V) := HLO.out V hoV
        have lV : w.heap.size + 2 ≤ V.heap.size := by have := hoV.size; have := HLW.out; omega
        clear hG hWg hFl hFn hoV
        by_cases hlk : k < cc
        · have t2 : (k : Int) < (cc : Int) := by omega
          have HAPP : Hid (∀ r : Nat, (V.alloc (.cells #[.int .i64 (r : Int)] 3)).ownsRow (w.heap.size + 2) 3 1 (.slice aW k kW) k (natI F)) := fun r => by
            have := HV.out.2.1.own
            rw [HV.out.2.2.1] at this
            exact this.alloc _
          by_cases hC0 : 0 < nC
          · have c0 : (0 : Int) < (nC : Int) := by omega
            have c1 : ((nC : Int) == 0) = false := by rw [beq_eq_false_iff_ne]; omega
            have c2 : ¬ (nC : Int) = 0 := by omega
            obtain ⟨q, hq⟩ : ∃ q, q = (p + k) % nC := ⟨_, rfl⟩
            have hqn : q < nC := by rw [hq]; exact Nat.mod_lt _ hC0
            have m3 : ((p : Int) + (k : Int)).tmod (nC : Int) = (q : Int) := by
              rw [Int.tmod_eq_emod_of_nonneg (by omega), hq, Int.natCast_emod, Int.natCast_add]
            have m4 : (q : Int) < (nC : Int) := by omega
            obtain ⟨bC, oC, y, eC, hy⟩ := HC.out.cell hqn
            subst eC
            have v1 := keepC HVw.out hy
            have lv1 := World.block_lt_of_cell? V _ v1
            clear hq hy
            obtain ⟨ux, p4, p5⟩ : ∃ ux : Int, IntKind.u64.wrap y = ux ∧ 0 ≤ ux := ⟨_, rfl, wrap_u64_nn y⟩
            obtain ⟨r, p6, p8⟩ : ∃ r : Nat, ux.tmod (n : Int) = (r : Int) ∧ r < n := by
              have h1 := Int.tmod_nonneg (n : Int) p5
              have h2 := Int.tmod_lt_of_pos ux p0
              exact ⟨(ux.tmod (n : Int)).toNat, by omega, by omega⟩
            have p9 : IntKind.u64.wrap (r : Int) = (r : Int) := wrap_smallu _ (by omega) (by omega)
            have p10 : IntKind.i64.wrap (r : Int) = (r : Int) := by rw [IntKind.wrap_i64]; omega
            have HRN : Hid (r < n) := p8
            clear p5
            have HVA : Hid ((V.alloc (.cells #[.int .i64 (r : Int)] 3)).heap[V.heap.size]? = some (.cells #[.int .i64 (r : Int)] 3 (0, 0)) ∧ (V.alloc (.cells #[.int .i64 (r : Int)] 3)).heap.size = V.heap.size + 1) := ⟨heap_alloc_new V _, by simp⟩
            go_wp2_with (at_builtin; (refine wpList_append_lies _ rfl _ _ 23 rfl (w.heap.size + 2) 3 i3 (.int .i64 0) 1 8 Try.underlying23 g3 g30 g31 g32 rfl (by decide) (.slice aW k kW) k (natI F) rfl (HAPP.out r) ⟨V.heap.size, 0, none⟩ 1 1 [.int .i64 (r : Int)] rfl rfl (World.news_of_block (cs := #[.int .i64 (r : Int)]) HVA.out.1) (fun u hu => by simp at hu; rcases hu with rfl; rfl) (by decide) (by unfold maxLen; omega) (by omega) (by rw [HVA.out.2]; omega) (V.heap.size + 1) HVA.out.2 ?_; intro g5 cap5 w5 hown5 hgrow5 hat5 hlt5; have hoo : Only (fun b => (Value.slice aW k kW).ownBlock = some b) V w5 := (((Only.refl (fun b => (Value.slice aW k kW).ownBlock = some b) V).alloc _)).grown hgrow5 (fun k hk => hk); have H5 : Hid ((Gm w5 (w.heap.size + 2) (w.heap.size + 1) vN vO rows outs vs ∧ Wg w5 (w.heap.size + 2) vs (.slice (some ⟨g5, 0, none⟩) (k + 1) cap5) (F ++ [r])) ∧ Only (fun b => w.heap.size + 1 ≤ b) W0 w5) := (by have hF := HV.out.2.2.1; have k1 := HV.out.2.1.add (g := g5) (cap := cap5) (j := r) HV.out.1 hoo (by rw [hF]; exact hown5) hat5 (Nat.le_succ _); rw [hF] at k1; exact ⟨k1, HV.out.2.2.2.2.trans (hoo.mono (fun b hb => by have := (own_own HV.out.2.1.own hb).1; omega))⟩); clear hown5 hgrow5 hat5 hoo))
            go_roundg (cc - (k + 1))
            case measure => omega
            case rel =>
              refine ⟨k + 1, _, _, F ++ [r], _, rfl, rfl, by omega, rfl, by go_num, H5.out.1.1, H5.out.1.2, by simp [HV.out.2.2.1], fun y hy => ?_, H5.out.2⟩
              rcases List.mem_append.1 hy with h1 | h1
              · exact HV.out.2.2.2.1 y h1
              · rw [List.mem_singleton] at h1; rw [h1]; exact HRN.out
          · have hz : nC = 0 := by omega
            subst hz
            have HVA : Hid ((V.alloc (.cells #[.int .i64 0] 3)).heap[V.heap.size]? = some (.cells #[.int .i64 0] 3 (0, 0)) ∧ (V.alloc (.cells #[.int .i64 0] 3)).heap.size = V.heap.size + 1) := ⟨heap_alloc_new V _, by simp⟩
            go_wp2_with (at_builtin; (refine wpList_append_lies _ rfl _ _ 23 rfl (w.heap.size + 2) 3 i3 (.int .i64 0) 1 8 Try.underlying23 g3 g30 g31 g32 rfl (by decide) (.slice aW k kW) k (natI F) rfl (HAPP.out 0) ⟨V.heap.size, 0, none⟩ 1 1 [.int .i64 0] rfl rfl (World.news_of_block (cs := #[.int .i64 0]) HVA.out.1) (fun u hu => by simp at hu; rcases hu with rfl; rfl) (by decide) (by unfold maxLen; omega) (by omega) (by rw [HVA.out.2]; omega) (V.heap.size + 1) HVA.out.2 ?_; intro g5 cap5 w5 hown5 hgrow5 hat5 hlt5; have hoo : Only (fun b => (Value.slice aW k kW).ownBlock = some b) V w5 := (((Only.refl (fun b => (Value.slice aW k kW).ownBlock = some b) V).alloc _)).grown hgrow5 (fun k hk => hk); have H5 : Hid ((Gm w5 (w.heap.size + 2) (w.heap.size + 1) vN vO rows outs vs ∧ Wg w5 (w.heap.size + 2) vs (.slice (some ⟨g5, 0, none⟩) (k + 1) cap5) (F ++ [0])) ∧ Only (fun b => w.heap.size + 1 ≤ b) W0 w5) := (by have hF := HV.out.2.2.1; have k1 := HV.out.2.1.add (g := g5) (cap := cap5) (j := 0) HV.out.1 hoo (by rw [hF]; exact hown5) hat5 (Nat.le_succ _); rw [hF] at k1; exact ⟨k1, HV.out.2.2.2.2.trans (hoo.mono (fun b hb => by have := (own_own HV.out.2.1.own hb).1; omega))⟩); clear hown5 hgrow5 hat5 hoo))
            go_roundg (cc - (k + 1))
            case measure => omega
            case rel =>
              refine ⟨k + 1, _, _, F ++ [0], _, rfl, rfl, by omega, rfl, by go_num, H5.out.1.1, H5.out.1.2, by simp [HV.out.2.2.1], fun y hy => ?_, H5.out.2⟩
              rcases List.mem_append.1 hy with h1 | h1
              · exact HV.out.2.2.2.1 y h1
              · rw [List.mem_singleton] at h1; rw [h1]; omega
        · have t2 : decide ((k : Int) < (cc : Int)) = false := decide_eq_false (by omega)
          have hkc : k = cc := by omega
          obtain ⟨aN, kN, eN⟩ := own_form HV.out.1.nx
          obtain ⟨aO, kO, eO⟩ := own_form HV.out.1.out
          have hri := HG.out.2.1
          have hro := HG.out.2.2.1
          rw [hri] at eN
          rw [hro] at eO
          subst eN
          subst eO
          have HFF : Hid (rows.length = i ∧ outs.length = i ∧ k = cc) := ⟨hri, hro, hkc⟩
          clear hri hro hkc
          obtain ⟨bU, oU, uo, eU, hu, huo⟩ := HU.out.cell (j := i) (by omega)
          subst eU
          have t7 : (i : Int) < (nU : Int) := by omega
          have v1 := keepC HVw.out hu
          have v2 : V.cell? ⟨w.heap.size + 1, 0, none⟩ = some (.slice aN i kN) := cell_blk HV.out.1.lst
          have v3 : V.cell? ⟨w.heap.size + 1, 1, none⟩ = some (.slice aO i kO) := cell_blk HV.out.1.lst
          have fv : ∀ y, V.frozen? ⟨w.heap.size + 1, y, none⟩ = false := fun y => fz_blk HV.out.1.lst y
          have l1 : bU < V.heap.size := World.block_lt_of_cell? V _ v1
          have l2 : w.heap.size + 1 < V.heap.size := World.block_lt_of_cell? V _ v2
          obtain ⟨ro, hro⟩ : ∃ ro, ro = uo % 3 := ⟨_, rfl⟩
          have e1 : ((uo : Nat) : Int).tmod 3 = (ro : Int) := by rw [Int.tmod_eq_emod_of_nonneg (by omega)]; omega
          have e2 : IntKind.u32.wrap (ro : Int) = (ro : Int) := by rw [IntKind.wrap_u32]; omega
          have HUU : Hid (w.cell? ⟨bU, oU + i, none⟩ = some (.int .u32 ((uo : Nat) : Int))) := hu
          clear hro hu
          have HOLD : Hid (Gm V (w.heap.size + 2) (w.heap.size + 1) (.slice aN i kN) (.slice aO i kO) rows outs vs) := HV.out.1
          have HA : Hid (V.ownsRow (w.heap.size + 2) 23 1 (.slice aN i kN) i vs) := by
            have := HV.out.1.nx
            rw [HFF.out.1] at this
            exact this
          have HB : Hid (V.ownsRow (w.heap.size + 2) 38 1 (.slice aO i kO) i (outs.map u32V)) := by
            have := HV.out.1.out
            rw [HFF.out.2.1] at this
            exact this
          have HbA : Hid (∀ q, (Value.slice aN i kN).ownBlock = some q → w.heap.size + 2 ≤ q) := fun q hq => (own_own HV.out.1.nx hq).1
          have HbB : Hid (∀ q, (Value.slice aO i kO).ownBlock = some q → w.heap.size + 2 ≤ q) := fun q hq => (own_own HV.out.1.out hq).1
          have HHS : Hid (∀ (X : World) (c : Nat) (v : Value), X.cell? ⟨bU, oU + i, none⟩ = some (.int .u32 (uo : Int)) → (X.setCell ⟨w.heap.size + 1, c, none⟩ v).cell? ⟨bU, oU + i, none⟩ = some (.int .u32 (uo : Int))) := fun X c v h => by
            have hbU : bU < w.heap.size := World.block_lt_of_cell? w _ HUU.out
            exact (World.cell?_of_block (a := ⟨bU, oU + i, none⟩) (Below.heap_setCell _ _ _ _ (fun e => by have : bU = w.heap.size + 1 := e; omega))).trans h
          have HCL : Hid (∀ X, Only (fun b => (Value.slice aN i kN).ownBlock = some b ∨ (Value.slice aO i kO).ownBlock = some b) V X → X.heap[w.heap.size + 1]? = some (.cells #[.slice aN i kN, .slice aO i kO] 27 (0, 0)) ∧ X.cell? ⟨bU, oU + i, none⟩ = some (.int .u32 (uo : Int)) ∧ w.heap.size + 1 < X.heap.size) := fun X ho => by
            have hbU : bU < w.heap.size := World.block_lt_of_cell? w _ HUU.out
            have e1 := ho.block (w.heap.size + 1) l2 (fun h => h.elim (fun h => by have := HbA.out _ h; omega) (fun h => by have := HbB.out _ h; omega))
            have e2 := ho.block bU l1 (fun h => h.elim (fun h => by have := HbA.out _ h; omega) (fun h => by have := HbB.out _ h; omega))
            exact ⟨e1.trans HV.out.1.lst, (World.cell?_of_block (a := ⟨bU, oU + i, none⟩) e2).trans v1, Nat.lt_of_lt_of_le l2 ho.size⟩
          have HFIN : Hid (∀ (Z : World) (gA cA gB cB : Nat), Rs V Z (w.heap.size + 2) (.slice aN i kN) (.slice aO i kO) (.slice (some ⟨gA, 0, none⟩) (i + 1) cA) (i + 1) (vs ++ [.slice aW k kW]) (.slice (some ⟨gB, 0, none⟩) (i + 1) cB) (i + 1) (outs.map u32V ++ [.int .u32 (ro : Int)]) → ∃ (rows' : List (List Nat)) (outs' : List Nat) (vs' : List Value) (vN' vO' : Value), Gm ((Z.setCell ⟨w.heap.size + 1, 0, none⟩ (.slice (some ⟨gA, 0, none⟩) (i + 1) cA)).setCell ⟨w.heap.size + 1, 1, none⟩ (.slice (some ⟨gB, 0, none⟩) (i + 1) cB)) (w.heap.size + 2) (w.heap.size + 1) vN' vO' rows' outs' vs' ∧ rows'.length = i + 1 ∧ outs'.length = i + 1 ∧ RowsIn n cc rows' ∧ Only (fun b => w.heap.size + 1 ≤ b) W0 ((Z.setCell ⟨w.heap.size + 1, 0, none⟩ (.slice (some ⟨gA, 0, none⟩) (i + 1) cA)).setCell ⟨w.heap.size + 1, 1, none⟩ (.slice (some ⟨gB, 0, none⟩) (i + 1) cB))) := fun Z gA cA gB cB hR => by
            obtain ⟨hri, hro, hkc⟩ := HFF.out
            have hown := HV.out.2.1.own
            have hb := HV.out.1.both (o := ro) hown hR.o (gA := gA) (cA := cA) (gB := gB) (cB := cB) (by rw [hri]; exact hR.a) (by rw [hro]; exact hR.b)
            rw [hri, hro] at hb
            exact ⟨rows ++ [F], outs ++ [ro], vs ++ [.slice aW k kW], _, _, hb, by simp [hri], by simp [hro], HG.out.2.2.2.1.snoc (F := F) (by rw [HV.out.2.2.1]; exact hkc) HV.out.2.2.2.1, ((HV.out.2.2.2.2.trans (hR.o.mono (fun b hb => hb.elim (fun h => by have := HbA.out _ h; omega) (fun h => by have := HbB.out _ h; omega)))).setCell (p := ⟨w.heap.size + 1, 0, none⟩) (Nat.le_refl _) _).setCell (p := ⟨w.heap.size + 1, 1, none⟩) (Nat.le_refl _) _⟩
          clear v1 v2 v3 fv l1 l2
          go_wp2_with fail
          refine wp_region_held_drew (S := (fun X => X.cell? ⟨bU, oU + i, none⟩ = some (.int .u32 (uo : Int)))) (by kernel_rfl) ((HCL.out V (Only.refl _ _)).2.1) (fun hHeld => ?_)
          refine wpAnyH_take (i := 0) (oi := { dst := some 53, op := _, type := _, pos := _, after := _, guard := _ }) (v := .pointer (some ⟨w.heap.size + 1, 0, none⟩)) rfl (by kernel_rfl) (by kernel_rfl) (by kernel_rfl) (fun _ _ _ h => h) (Or.inl ⟨by rfl, fun w hSw => by first | (go_simp; done) | go_simp⟩) (by assumption) ?_
          (try simp only [Act.put, List.setIfInBounds_toArray, List.set_cons_zero, List.set_cons_succ])
          refine wpAnyH_take (i := 2) (oi := { dst := some 55, op := _, type := _, pos := _, after := _, guard := _ }) (v := .slice aW k kW) rfl (by kernel_rfl) (by kernel_rfl) (by kernel_rfl) (fun _ _ _ h => h) (Or.inl ⟨by rfl, fun w hSw => by first | (go_simp; done) | go_simp⟩) (by assumption) ?_
          (try simp only [Act.put, List.setIfInBounds_toArray, List.set_cons_zero, List.set_cons_succ])
          refine wpAnyH_take (i := 5) (oi := { dst := some 58, op := _, type := _, pos := _, after := _, guard := _ }) (v := .pointer (some ⟨w.heap.size + 1, 1, none⟩)) rfl (by kernel_rfl) (by kernel_rfl) (by kernel_rfl) (fun _ _ _ h => h) (Or.inl ⟨by rfl, fun w hSw => by first | (go_simp; done) | go_simp⟩) (by assumption) ?_
          (try simp only [Act.put, List.setIfInBounds_toArray, List.set_cons_zero, List.set_cons_succ])
          refine wpAnyH_take (i := 7) (oi := { dst := some 60, op := _, type := _, pos := _, after := _, guard := _ }) (v := .slice (some ⟨bU, oU, none⟩) nU cU) rfl (by kernel_rfl) (by kernel_rfl) (by kernel_rfl) (fun _ _ _ h => h) (Or.inl ⟨by rfl, fun w hSw => by first | (go_simp; done) | go_simp⟩) (by assumption) ?_
          (try simp only [Act.put, List.setIfInBounds_toArray, List.set_cons_zero, List.set_cons_succ])
          refine wpAnyH_take (i := 8) (oi := { dst := some 61, op := _, type := _, pos := _, after := _, guard := _ }) (v := .int .i64 (i : Int)) rfl (by kernel_rfl) (by kernel_rfl) (by kernel_rfl) (fun _ _ _ h => h) (Or.inl ⟨by rfl, fun w hSw => by first | (go_simp; done) | go_simp⟩) (by assumption) ?_
          (try simp only [Act.put, List.setIfInBounds_toArray, List.set_cons_zero, List.set_cons_succ])
          refine wpAnyH_take (i := 9) (oi := { dst := some 62, op := _, type := _, pos := _, after := _, guard := _ }) (v := .pointer (some ⟨bU, oU + i, none⟩)) rfl (by kernel_rfl) (by kernel_rfl) (by kernel_rfl) (fun _ _ _ h => h) (Or.inl ⟨by rfl, fun w hSw => by first | (go_simp; done) | go_simp⟩) (by assumption) ?_
          (try simp only [Act.put, List.setIfInBounds_toArray, List.set_cons_zero, List.set_cons_succ])
          refine wpAnyH_take (i := 10) (oi := { dst := some 63, op := _, type := _, pos := _, after := _, guard := _ }) (v := .int .u32 (uo : Int)) rfl (by kernel_rfl) (by kernel_rfl) (by kernel_rfl) (fun _ _ _ h => h) (Or.inl ⟨by rfl, fun w hSw => by first | (go_simp; done) | go_simp⟩) (by assumption) ?_
          (try simp only [Act.put, List.setIfInBounds_toArray, List.set_cons_zero, List.set_cons_succ])
          refine wpAnyH_take (i := 11) (oi := { dst := some 64, op := _, type := _, pos := _, after := _, guard := _ }) (v := .int .u32 (ro : Int)) rfl (by kernel_rfl) (by kernel_rfl) (by kernel_rfl) (fun _ _ _ h => h) (Or.inl ⟨by rfl, fun w hSw => by first | (go_simp; done) | go_simp⟩) (by assumption) ?_
          (try simp only [Act.put, List.setIfInBounds_toArray, List.set_cons_zero, List.set_cons_succ])
          obtain ⟨X0, hX0⟩ : ∃ X0, X0 = V.drew := ⟨_, rfl⟩
          have HX0 : Hid (Rs V X0 (w.heap.size + 2) (.slice aN i kN) (.slice aO i kO) (.slice aN i kN) i vs (.slice aO i kO) i (outs.map u32V)) := by rw [hX0]; exact ⟨(Only.refl _ _).drew, HA.out, HB.out⟩
          rw [← hX0]
          clear hX0
          refine wpAnyH_ready (rs := [1, 3, 6, 12]) (by kernel_rfl) (by simp) ?_
          refine AllReadyH.cons rfl (fun K hK => ?_) (AllReadyH.cons rfl (fun K hK => ?_) (AllReadyH.cons rfl (fun K hK => ?_) (AllReadyH.cons rfl (fun K hK => ?_) AllReadyH.nil)))
          · have y := HCL.out X0 HX0.out.o
            have y0 : X0.cell? ⟨w.heap.size + 1, 0, none⟩ = some (.slice aN i kN) := cell_blk y.1
            have yl := y.2.2
            rw [if_pos (by rfl)]
            go_simp
            refine hK.out _ _ y.2.1 (fun hHeld => ?_)
            clear hK y y0 yl
            (try simp only [Act.put, List.setIfInBounds_toArray, List.set_cons_zero, List.set_cons_succ])
            refine wpAnyH_ready (rs := [3, 6, 12]) (by kernel_rfl) (by simp) ?_
            refine AllReadyH.cons rfl (fun K hK => ?_) (AllReadyH.cons rfl (fun K hK => ?_) (AllReadyH.cons rfl (fun K hK => ?_) AllReadyH.nil))
            · rw [if_pos (by rfl)]
              go_simp
              obtain ⟨X1, hX1⟩ : ∃ Y, Y = X0.alloc (.cells #[.slice aW k kW] 23) := ⟨_, rfl⟩
              obtain ⟨nA, hnA⟩ : ∃ n, n = X0.heap.size := ⟨_, rfl⟩
              have HNAX1 : Hid (X1.heap[nA]? = some (.cells #[.slice aW k kW] 23 (0, 0)) ∧ V.heap.size ≤ nA) := by rw [hX1, hnA]; exact ⟨heap_alloc_new _ _, HX0.out.o.size⟩
              have HX1 : Hid _ := HX0.out.alloc (.cells #[.slice aW k kW] 23)
              rw [← hX1] at HX1 ⊢
              rw [← hnA]
              clear hX1 hnA
              refine hK.out _ _ (HCL.out X1 HX1.out.o).2.1 (fun hHeld => ?_)
              clear hK
              (try simp only [Act.put, List.setIfInBounds_toArray, List.set_cons_zero, List.set_cons_succ])
              refine wpAnyH_ready (rs := [4, 6, 12]) (by kernel_rfl) (by simp) ?_
              refine AllReadyH.cons rfl (fun K hK => ?_) (AllReadyH.cons rfl (fun K hK => ?_) (AllReadyH.cons rfl (fun K hK => ?_) AllReadyH.nil))
              · have yl := (HCL.out X1 HX1.out.o).2.2
                refine step_A (by rfl) _ _ (by rfl) (w.heap.size + 2) (.slice aN i kN) i vs (by rfl) HX1.out.a nA (.slice aW k kW) (by rfl) HNAX1.out.1 rfl (by omega) (by omega) ?_
                intro gA cA X2 hown hgrow
                have HX2 : Hid _ := HX1.out.appA hgrow hown
                clear hown hgrow yl
                refine hK.out _ _ (HCL.out X2 HX2.out.o).2.1 (fun hHeld => ?_)
                clear hK
                (try simp only [Act.put, List.setIfInBounds_toArray, List.set_cons_zero, List.set_cons_succ])
                refine wpAnyH_ready (rs := [6, 12]) (by kernel_rfl) (by simp) ?_
                refine AllReadyH.cons rfl (fun K hK => ?_) (AllReadyH.cons rfl (fun K hK => ?_) AllReadyH.nil)
                · have y := HCL.out X2 HX2.out.o
                  have y0 : X2.cell? ⟨w.heap.size + 1, 1, none⟩ = some (.slice aO i kO) := cell_blk y.1
                  have yl := y.2.2
                  rw [if_pos (by rfl)]
                  go_simp
                  refine hK.out _ _ y.2.1 (fun hHeld => ?_)
                  clear hK y y0 yl
                  (try simp only [Act.put, List.setIfInBounds_toArray, List.set_cons_zero, List.set_cons_succ])
                  refine wpAnyH_take (i := 14) (oi := { dst := some 67, op := _, type := _, pos := _, after := _, guard := _ }) (v := .pointer (some ⟨w.heap.size + 1, 0, none⟩)) rfl (by kernel_rfl) (by kernel_rfl) (by kernel_rfl) (fun _ _ _ h => h) (Or.inl ⟨by rfl, fun w hSw => by first | (go_simp; done) | go_simp⟩) (by assumption) ?_
                  (try simp only [Act.put, List.setIfInBounds_toArray, List.set_cons_zero, List.set_cons_succ])
                  refine wpAnyH_ready (rs := [12]) (by kernel_rfl) (by simp) ?_
                  refine AllReadyH.cons rfl (fun K hK => ?_) AllReadyH.nil
                  rw [if_pos (by rfl)]
                  go_simp
                  obtain ⟨X3, hX3⟩ : ∃ Y, Y = X2.alloc (.cells #[.int .u32 (ro : Int)] 38) := ⟨_, rfl⟩
                  obtain ⟨nB, hnB⟩ : ∃ n, n = X2.heap.size := ⟨_, rfl⟩
                  have HNBX3 : Hid (X3.heap[nB]? = some (.cells #[.int .u32 (ro : Int)] 38 (0, 0)) ∧ V.heap.size ≤ nB) := by rw [hX3, hnB]; exact ⟨heap_alloc_new _ _, HX2.out.o.size⟩
                  have HX3 : Hid _ := HX2.out.alloc (.cells #[.int .u32 (ro : Int)] 38)
                  rw [← hX3] at HX3 ⊢
                  rw [← hnB]
                  clear hX3 hnB
                  refine hK.out _ _ (HCL.out X3 HX3.out.o).2.1 (fun hHeld => ?_)
                  clear hK
                  (try simp only [Act.put, List.setIfInBounds_toArray, List.set_cons_zero, List.set_cons_succ])
                  refine wpAnyH_ready (rs := [13]) (by kernel_rfl) (by simp) ?_
                  refine AllReadyH.cons rfl (fun K hK => ?_) AllReadyH.nil
                  have yl := (HCL.out X3 HX3.out.o).2.2
                  refine step_B (by rfl) _ _ (by rfl) (w.heap.size + 2) (.slice aO i kO) i (outs.map u32V) (by rfl) HX3.out.b nB (.int .u32 (ro : Int)) (by rfl) HNBX3.out.1 rfl (by omega) (by omega) ?_
                  intro gB cB X4 hown hgrow
                  have HX4 : Hid _ := HX3.out.appB hgrow hown
                  clear hown hgrow yl
                  refine hK.out _ _ (HCL.out X4 HX4.out.o).2.1 (fun hHeld => ?_)
                  clear hK
                  (try simp only [Act.put, List.setIfInBounds_toArray, List.set_cons_zero, List.set_cons_succ])
                  have y := HCL.out X4 HX4.out.o
                  have y0 : X4.cell? ⟨w.heap.size + 1, 0, none⟩ = some (.slice aN i kN) := cell_blk y.1
                  have yf : ∀ q, X4.frozen? ⟨w.heap.size + 1, q, none⟩ = false := fun q => fz_blk y.1 q
                  have yl := y.2.2
                  have z := heap_setCell_at (k := 0) y.1 (.slice (some ⟨gA, 0, none⟩) (i + 1) cA)
                  have z1 : (X4.setCell ⟨w.heap.size + 1, 0, none⟩ (.slice (some ⟨gA, 0, none⟩) (i + 1) cA)).cell? ⟨w.heap.size + 1, 1, none⟩ = some (.slice aO i kO) := cell_blk z
                  have zf : ∀ q, (X4.setCell ⟨w.heap.size + 1, 0, none⟩ (.slice (some ⟨gA, 0, none⟩) (i + 1) cA)).frozen? ⟨w.heap.size + 1, q, none⟩ = false := fun q => fz_blk z q
                  have HQ1 : Hid _ := HHS.out X4 0 (.slice (some ⟨gA, 0, none⟩) (i + 1) cA) y.2.1
                  have HQ2 : Hid _ := HHS.out _ 1 (.slice (some ⟨gB, 0, none⟩) (i + 1) cB) HQ1.out
                  clear y z
                  refine wpAnyH_ready (rs := [15]) (by kernel_rfl) (by simp) ?_
                  refine AllReadyH.cons rfl (fun K hK => ?_) AllReadyH.nil
                  rw [if_pos (by rfl)]
                  go_simp
                  refine hK.out _ _ HQ1.out (fun hHeld => ?_)
                  clear hK
                  (try simp only [Act.put, List.setIfInBounds_toArray, List.set_cons_zero, List.set_cons_succ])
                  refine wpAnyH_take (i := 16) (oi := { dst := some 68, op := _, type := _, pos := _, after := _, guard := _ }) (v := .pointer (some ⟨w.heap.size + 1, 1, none⟩)) rfl (by kernel_rfl) (by kernel_rfl) (by kernel_rfl) (fun _ _ _ h => h) (Or.inl ⟨by rfl, fun w hSw => by first | (go_simp; done) | go_simp⟩) (by assumption) ?_
                  (try simp only [Act.put, List.setIfInBounds_toArray, List.set_cons_zero, List.set_cons_succ])
                  refine wpAnyH_ready (rs := [17]) (by kernel_rfl) (by simp) ?_
                  refine AllReadyH.cons rfl (fun K hK => ?_) AllReadyH.nil
                  rw [if_pos (by rfl)]
                  go_simp
                  refine hK.out _ _ HQ2.out (fun hHeld => ?_)
                  clear hK
                  (try simp only [Act.put, List.setIfInBounds_toArray, List.set_cons_zero, List.set_cons_succ])
                  refine wpAnyH_done (by kernel_rfl) ?_ _
                  clear hHeld y0 yf yl z1 zf HQ1 HQ2
                  go_wp2_with fail
                  go_roundg (n - (i + 1))
                  case measure => omega
                  case rel =>
                    obtain ⟨r1, r2, r3, r4, r5, r6, r7, r8, r9, r10⟩ := HFIN.out _ _ _ _ _ HX4.out
                    exact ⟨i + 1, r1, r2, r3, r4, r5, _, rfl, rfl, by omega, by go_num, r6, r7, r8, r9, r10⟩
                · rw [if_pos (by rfl)]
                  go_simp
                  obtain ⟨X3, hX3⟩ : ∃ Y, Y = X2.alloc (.cells #[.int .u32 (ro : Int)] 38) := ⟨_, rfl⟩
                  obtain ⟨nB, hnB⟩ : ∃ n, n = X2.heap.size := ⟨_, rfl⟩
                  have HNBX3 : Hid (X3.heap[nB]? = some (.cells #[.int .u32 (ro : Int)] 38 (0, 0)) ∧ V.heap.size ≤ nB) := by rw [hX3, hnB]; exact ⟨heap_alloc_new _ _, HX2.out.o.size⟩
                  have HX3 : Hid _ := HX2.out.alloc (.cells #[.int .u32 (ro : Int)] 38)
                  rw [← hX3] at HX3 ⊢
                  rw [← hnB]
                  clear hX3 hnB
                  refine hK.out _ _ (HCL.out X3 HX3.out.o).2.1 (fun hHeld => ?_)
                  clear hK
                  (try simp only [Act.put, List.setIfInBounds_toArray, List.set_cons_zero, List.set_cons_succ])
                  refine wpAnyH_ready (rs := [6]) (by kernel_rfl) (by simp) ?_
                  refine AllReadyH.cons rfl (fun K hK => ?_) AllReadyH.nil
                  have y := HCL.out X3 HX3.out.o
                  have y0 : X3.cell? ⟨w.heap.size + 1, 1, none⟩ = some (.slice aO i kO) := cell_blk y.1
                  have yl := y.2.2
                  rw [if_pos (by rfl)]
                  go_simp
                  refine hK.out _ _ y.2.1 (fun hHeld => ?_)
                  clear hK y y0 yl
                  (try simp only [Act.put, List.setIfInBounds_toArray, List.set_cons_zero, List.set_cons_succ])
                  refine wpAnyH_take (i := 14) (oi := { dst := some 67, op := _, type := _, pos := _, after := _, guard := _ }) (v := .pointer (some ⟨w.heap.size + 1, 0, none⟩)) rfl (by kernel_rfl) (by kernel_rfl) (by kernel_rfl) (fun _ _ _ h => h) (Or.inl ⟨by rfl, fun w hSw => by first | (go_simp; done) | go_simp⟩) (by assumption) ?_
                  (try simp only [Act.put, List.setIfInBounds_toArray, List.set_cons_zero, List.set_cons_succ])
                  refine wpAnyH_ready (rs := [13]) (by kernel_rfl) (by simp) ?_
                  refine AllReadyH.cons rfl (fun K hK => ?_) AllReadyH.nil
                  have yl := (HCL.out X3 HX3.out.o).2.2
                  refine step_B (by rfl) _ _ (by rfl) (w.heap.size + 2) (.slice aO i kO) i (outs.map u32V) (by rfl) HX3.out.b nB (.int .u32 (ro : Int)) (by rfl) HNBX3.out.1 rfl (by omega) (by omega) ?_
                  intro gB cB X4 hown hgrow
                  have HX4 : Hid _ := HX3.out.appB hgrow hown
                  clear hown hgrow yl
                  refine hK.out _ _ (HCL.out X4 HX4.out.o).2.1 (fun hHeld => ?_)
                  clear hK
                  (try simp only [Act.put, List.setIfInBounds_toArray, List.set_cons_zero, List.set_cons_succ])
                  have y := HCL.out X4 HX4.out.o
                  have y0 : X4.cell? ⟨w.heap.size + 1, 0, none⟩ = some (.slice aN i kN) := cell_blk y.1
                  have yf : ∀ q, X4.frozen? ⟨w.heap.size + 1, q, none⟩ = false := fun q => fz_blk y.1 q
                  have yl := y.2.2
                  have z := heap_setCell_at (k := 0) y.1 (.slice (some ⟨gA, 0, none⟩) (i + 1) cA)
                  have z1 : (X4.setCell ⟨w.heap.size + 1, 0, none⟩ (.slice (some ⟨gA, 0, none⟩) (i + 1) cA)).cell? ⟨w.heap.size + 1, 1, none⟩ = some (.slice aO i kO) := cell_blk z
                  have zf : ∀ q, (X4.setCell ⟨w.heap.size + 1, 0, none⟩ (.slice (some ⟨gA, 0, none⟩) (i + 1) cA)).frozen? ⟨w.heap.size + 1, q, none⟩ = false := fun q => fz_blk z q
                  have HQ1 : Hid _ := HHS.out X4 0 (.slice (some ⟨gA, 0, none⟩) (i + 1) cA) y.2.1
                  have HQ2 : Hid _ := HHS.out _ 1 (.slice (some ⟨gB, 0, none⟩) (i + 1) cB) HQ1.out
                  clear y z
                  refine wpAnyH_ready (rs := [15]) (by kernel_rfl) (by simp) ?_
                  refine AllReadyH.cons rfl (fun K hK => ?_) AllReadyH.nil
                  rw [if_pos (by rfl)]
                  go_simp
                  refine hK.out _ _ HQ1.out (fun hHeld => ?_)
                  clear hK
                  (try simp only [Act.put, List.setIfInBounds_toArray, List.set_cons_zero, List.set_cons_succ])
                  refine wpAnyH_take (i := 16) (oi := { dst := some 68, op := _, type := _, pos := _, after := _, guard := _ }) (v := .pointer (some ⟨w.heap.size + 1, 1, none⟩)) rfl (by kernel_rfl) (by kernel_rfl) (by kernel_rfl) (fun _ _ _ h => h) (Or.inl ⟨by rfl, fun w hSw => by first | (go_simp; done) | go_simp⟩) (by assumption) ?_
                  (try simp only [Act.put, List.setIfInBounds_toArray, List.set_cons_zero, List.set_cons_succ])
                  refine wpAnyH_ready (rs := [17]) (by kernel_rfl) (by simp) ?_
                  refine AllReadyH.cons rfl (fun K hK => ?_) AllReadyH.nil
                  rw [if_pos (by rfl)]
                  go_simp
                  refine hK.out _ _ HQ2.out (fun hHeld => ?_)
                  clear hK
                  (try simp only [Act.put, List.setIfInBounds_toArray, List.set_cons_zero, List.set_cons_succ])
                  refine wpAnyH_done (by kernel_rfl) ?_ _
                  clear hHeld y0 yf yl z1 zf HQ1 HQ2
                  go_wp2_with fail
                  go_roundg (n - (i + 1))
                  case measure => omega
                  case rel =>
                    obtain ⟨r1, r2, r3, r4, r5, r6, r7, r8, r9, r10⟩ := HFIN.out _ _ _ _ _ HX4.out
                    exact ⟨i + 1, r1, r2, r3, r4, r5, _, rfl, rfl, by omega, by go_num, r6, r7, r8, r9, r10⟩
              · have y := HCL.out X1 HX1.out.o
                have y0 : X1.cell? ⟨w.heap.size + 1, 1, none⟩ = some (.slice aO i kO) := cell_blk y.1
                have yl := y.2.2
                rw [if_pos (by rfl)]
                go_simp
                refine hK.out _ _ y.2.1 (fun hHeld => ?_)
                clear hK y y0 yl
                (try simp only [Act.put, List.setIfInBounds_toArray, List.set_cons_zero, List.set_cons_succ])
                refine wpAnyH_ready (rs := [4, 12]) (by kernel_rfl) (by simp) ?_
                refine AllReadyH.cons rfl (fun K hK => ?_) (AllReadyH.cons rfl (fun K hK => ?_) AllReadyH.nil)
                · have yl := (HCL.out X1 HX1.out.o).2.2
                  refine step_A (by rfl) _ _ (by rfl) (w.heap.size + 2) (.slice aN i kN) i vs (by rfl) HX1.out.a nA (.slice aW k kW) (by rfl) HNAX1.out.1 rfl (by omega) (by omega) ?_
                  intro gA cA X2 hown hgrow
                  have HX2 : Hid _ := HX1.out.appA hgrow hown
                  clear hown hgrow yl
                  refine hK.out _ _ (HCL.out X2 HX2.out.o).2.1 (fun hHeld => ?_)
                  clear hK
                  (try simp only [Act.put, List.setIfInBounds_toArray, List.set_cons_zero, List.set_cons_succ])
                  refine wpAnyH_take (i := 14) (oi := { dst := some 67, op := _, type := _, pos := _, after := _, guard := _ }) (v := .pointer (some ⟨w.heap.size + 1, 0, none⟩)) rfl (by kernel_rfl) (by kernel_rfl) (by kernel_rfl) (fun _ _ _ h => h) (Or.inl ⟨by rfl, fun w hSw => by first | (go_simp; done) | go_simp⟩) (by assumption) ?_
                  (try simp only [Act.put, List.setIfInBounds_toArray, List.set_cons_zero, List.set_cons_succ])
                  refine wpAnyH_ready (rs := [12]) (by kernel_rfl) (by simp) ?_
                  refine AllReadyH.cons rfl (fun K hK => ?_) AllReadyH.nil
                  rw [if_pos (by rfl)]
                  go_simp
                  obtain ⟨X3, hX3⟩ : ∃ Y, Y = X2.alloc (.cells #[.int .u32 (ro : Int)] 38) := ⟨_, rfl⟩
                  obtain ⟨nB, hnB⟩ : ∃ n, n = X2.heap.size := ⟨_, rfl⟩
                  have HNBX3 : Hid (X3.heap[nB]? = some (.cells #[.int .u32 (ro : Int)] 38 (0, 0)) ∧ V.heap.size ≤ nB) := by rw [hX3, hnB]; exact ⟨heap_alloc_new _ _, HX2.out.o.size⟩
                  have HX3 : Hid _ := HX2.out.alloc (.cells #[.int .u32 (ro : Int)] 38)
                  rw [← hX3] at HX3 ⊢
                  rw [← hnB]
                  clear hX3 hnB
                  refine hK.out _ _ (HCL.out X3 HX3.out.o).2.1 (fun hHeld => ?_)
                  clear hK
                  (try simp only [Act.put, List.setIfInBounds_toArray, List.set_cons_zero, List.set_cons_succ])
                  refine wpAnyH_ready (rs := [13]) (by kernel_rfl) (by simp) ?_
                  refine AllReadyH.cons rfl (fun K hK => ?_) AllReadyH.nil
                  have yl := (HCL.out X3 HX3.out.o).2.2
                  refine step_B (by rfl) _ _ (by rfl) (w.heap.size + 2) (.slice aO i kO) i (outs.map u32V) (by rfl) HX3.out.b nB (.int .u32 (ro : Int)) (by rfl) HNBX3.out.1 rfl (by omega) (by omega) ?_
                  intro gB cB X4 hown hgrow
                  have HX4 : Hid _ := HX3.out.appB hgrow hown
                  clear hown hgrow yl
                  refine hK.out _ _ (HCL.out X4 HX4.out.o).2.1 (fun hHeld => ?_)
                  clear hK
                  (try simp only [Act.put, List.setIfInBounds_toArray, List.set_cons_zero, List.set_cons_succ])
                  have y := HCL.out X4 HX4.out.o
                  have y0 : X4.cell? ⟨w.heap.size + 1, 0, none⟩ = some (.slice aN i kN) := cell_blk y.1
                  have yf : ∀ q, X4.frozen? ⟨w.heap.size + 1, q, none⟩ = false := fun q => fz_blk y.1 q
                  have yl := y.2.2
                  have z := heap_setCell_at (k := 0) y.1 (.slice (some ⟨gA, 0, none⟩) (i + 1) cA)
                  have z1 : (X4.setCell ⟨w.heap.size + 1, 0, none⟩ (.slice (some ⟨gA, 0, none⟩) (i + 1) cA)).cell? ⟨w.heap.size + 1, 1, none⟩ = some (.slice aO i kO) := cell_blk z
                  have zf : ∀ q, (X4.setCell ⟨w.heap.size + 1, 0, none⟩ (.slice (some ⟨gA, 0, none⟩) (i + 1) cA)).frozen? ⟨w.heap.size + 1, q, none⟩ = false := fun q => fz_blk z q
                  have HQ1 : Hid _ := HHS.out X4 0 (.slice (some ⟨gA, 0, none⟩) (i + 1) cA) y.2.1
                  have HQ2 : Hid _ := HHS.out _ 1 (.slice (some ⟨gB, 0, none⟩) (i + 1) cB) HQ1.out
                  clear y z
                  refine wpAnyH_ready (rs := [15]) (by kernel_rfl) (by simp) ?_
                  refine AllReadyH.cons rfl (fun K hK => ?_) AllReadyH.nil
                  rw [if_pos (by rfl)]
                  go_simp
                  refine hK.out _ _ HQ1.out (fun hHeld => ?_)
                  clear hK
                  (try simp only [Act.put, List.setIfInBounds_toArray, List.set_cons_zero, List.set_cons_succ])
                  refine wpAnyH_take (i := 16) (oi := { dst := some 68, op := _, type := _, pos := _, after := _, guard := _ }) (v := .pointer (some ⟨w.heap.size + 1, 1, none⟩)) rfl (by kernel_rfl) (by kernel_rfl) (by kernel_rfl) (fun _ _ _ h => h) (Or.inl ⟨by rfl, fun w hSw => by first | (go_simp; done) | go_simp⟩) (by assumption) ?_
                  (try simp only [Act.put, List.setIfInBounds_toArray, List.set_cons_zero, List.set_cons_succ])
                  refine wpAnyH_ready (rs := [17]) (by kernel_rfl) (by simp) ?_
                  refine AllReadyH.cons rfl (fun K hK => ?_) AllReadyH.nil
                  rw [if_pos (by rfl)]
                  go_simp
                  refine hK.out _ _ HQ2.out (fun hHeld => ?_)
                  clear hK
                  (try simp only [Act.put, List.setIfInBounds_toArray, List.set_cons_zero, List.set_cons_succ])
                  refine wpAnyH_done (by kernel_rfl) ?_ _
                  clear hHeld y0 yf yl z1 zf HQ1 HQ2
                  go_wp2_with fail
                  go_roundg (n - (i + 1))
                  case measure => omega
                  case rel =>
                    obtain ⟨r1, r2, r3, r4, r5, r6, r7, r8, r9, r10⟩ := HFIN.out _ _ _ _ _ HX4.out
                    exact ⟨i + 1, r1, r2, r3, r4, r5, _, rfl, rfl, by omega, by go_num, r6, r7, r8, r9, r10⟩
                · rw [if_pos (by rfl)]
                  go_simp
                  obtain ⟨X2, hX2⟩ : ∃ Y, Y = X1.alloc (.cells #[.int .u32 (ro : Int)] 38) := ⟨_, rfl⟩
                  obtain ⟨nB, hnB⟩ : ∃ n, n = X1.heap.size := ⟨_, rfl⟩
                  have HNBX2 : Hid (X2.heap[nB]? = some (.cells #[.int .u32 (ro : Int)] 38 (0, 0)) ∧ V.heap.size ≤ nB) := by rw [hX2, hnB]; exact ⟨heap_alloc_new _ _, HX1.out.o.size⟩
                  have HX2 : Hid _ := HX1.out.alloc (.cells #[.int .u32 (ro : Int)] 38)
                  have HNAX2 : Hid (X2.heap[nA]? = some (.cells #[.slice aW k kW] 23 (0, 0)) ∧ V.heap.size ≤ nA) := by rw [hX2]; exact ⟨blk_alloc _ HNAX1.out.1, HNAX1.out.2⟩
                  rw [← hX2] at HX2 ⊢
                  rw [← hnB]
                  clear hX2 hnB
                  refine hK.out _ _ (HCL.out X2 HX2.out.o).2.1 (fun hHeld => ?_)
                  clear hK
                  (try simp only [Act.put, List.setIfInBounds_toArray, List.set_cons_zero, List.set_cons_succ])
                  refine wpAnyH_ready (rs := [4]) (by kernel_rfl) (by simp) ?_
                  refine AllReadyH.cons rfl (fun K hK => ?_) AllReadyH.nil
                  have yl := (HCL.out X2 HX2.out.o).2.2
                  refine step_A (by rfl) _ _ (by rfl) (w.heap.size + 2) (.slice aN i kN) i vs (by rfl) HX2.out.a nA (.slice aW k kW) (by rfl) HNAX2.out.1 rfl (by omega) (by omega) ?_
                  intro gA cA X3 hown hgrow
                  have HNBX3 : Hid (X3.heap[nB]? = some (.cells #[.int .u32 (ro : Int)] 38 (0, 0)) ∧ V.heap.size ≤ nB) := ⟨blk_grow HNBX2.out.1 HX2.out.a hgrow (fun e => by have h1 := own_lt HOLD.out.nx e; have h2 := HNBX2.out.2; omega), HNBX2.out.2⟩
                  have HX3 : Hid _ := HX2.out.appA hgrow hown
                  clear hown hgrow yl
                  refine hK.out _ _ (HCL.out X3 HX3.out.o).2.1 (fun hHeld => ?_)
                  clear hK
                  (try simp only [Act.put, List.setIfInBounds_toArray, List.set_cons_zero, List.set_cons_succ])
                  refine wpAnyH_take (i := 14) (oi := { dst := some 67, op := _, type := _, pos := _, after := _, guard := _ }) (v := .pointer (some ⟨w.heap.size + 1, 0, none⟩)) rfl (by kernel_rfl) (by kernel_rfl) (by kernel_rfl) (fun _ _ _ h => h) (Or.inl ⟨by rfl, fun w hSw => by first | (go_simp; done) | go_simp⟩) (by assumption) ?_
                  (try simp only [Act.put, List.setIfInBounds_toArray, List.set_cons_zero, List.set_cons_succ])
                  refine wpAnyH_ready (rs := [13]) (by kernel_rfl) (by simp) ?_
                  refine AllReadyH.cons rfl (fun K hK => ?_) AllReadyH.nil
                  have yl := (HCL.out X3 HX3.out.o).2.2
                  refine step_B (by rfl) _ _ (by rfl) (w.heap.size + 2) (.slice aO i kO) i (outs.map u32V) (by rfl) HX3.out.b nB (.int .u32 (ro : Int)) (by rfl) HNBX3.out.1 rfl (by omega) (by omega) ?_
                  intro gB cB X4 hown hgrow
                  have HX4 : Hid _ := HX3.out.appB hgrow hown
                  clear hown hgrow yl
                  refine hK.out _ _ (HCL.out X4 HX4.out.o).2.1 (fun hHeld => ?_)
                  clear hK
                  (try simp only [Act.put, List.setIfInBounds_toArray, List.set_cons_zero, List.set_cons_succ])
                  have y := HCL.out X4 HX4.out.o
                  have y0 : X4.cell? ⟨w.heap.size + 1, 0, none⟩ = some (.slice aN i kN) := cell_blk y.1
                  have yf : ∀ q, X4.frozen? ⟨w.heap.size + 1, q, none⟩ = false := fun q => fz_blk y.1 q
                  have yl := y.2.2
                  have z := heap_setCell_at (k := 0) y.1 (.slice (some ⟨gA, 0, none⟩) (i + 1) cA)
                  have z1 : (X4.setCell ⟨w.heap.size + 1, 0, none⟩ (.slice (some ⟨gA, 0, none⟩) (i + 1) cA)).cell? ⟨w.heap.size + 1, 1, none⟩ = some (.slice aO i kO) := cell_blk z
                  have zf : ∀ q, (X4.setCell ⟨w.heap.size + 1, 0, none⟩ (.slice (some ⟨gA, 0, none⟩) (i + 1) cA)).frozen? ⟨w.heap.size + 1, q, none⟩ = false := fun q => fz_blk z q
                  have HQ1 : Hid _ := HHS.out X4 0 (.slice (some ⟨gA, 0, none⟩) (i + 1) cA) y.2.1
                  have HQ2 : Hid _ := HHS.out _ 1 (.slice (some ⟨gB, 0, none⟩) (i + 1) cB) HQ1.out
                  clear y z
                  refine wpAnyH_ready (rs := [15]) (by kernel_rfl) (by simp) ?_
                  refine AllReadyH.cons rfl (fun K hK => ?_) AllReadyH.nil
                  rw [if_pos (by rfl)]
                  go_simp
                  refine hK.out _ _ HQ1.out (fun hHeld => ?_)
                  clear hK
                  (try simp only [Act.put, List.setIfInBounds_toArray, List.set_cons_zero, List.set_cons_succ])
                  refine wpAnyH_take (i := 16) (oi := { dst := some 68, op := _, type := _, pos := _, after := _, guard := _ }) (v := .pointer (some ⟨w.heap.size + 1, 1, none⟩)) rfl (by kernel_rfl) (by kernel_rfl) (by kernel_rfl) (fun _ _ _ h => h) (Or.inl ⟨by rfl, fun w hSw => by first | (go_simp; done) | go_simp⟩) (by assumption) ?_
                  (try simp only [Act.put, List.setIfInBounds_toArray, List.set_cons_zero, List.set_cons_succ])
                  refine wpAnyH_ready (rs := [17]) (by kernel_rfl) (by simp) ?_
                  refine AllReadyH.cons rfl (fun K hK => ?_) AllReadyH.nil
                  rw [if_pos (by rfl)]
                  go_simp
                  refine hK.out _ _ HQ2.out (fun hHeld => ?_)
                  clear hK
                  (try simp only [Act.put, List.setIfInBounds_toArray, List.set_cons_zero, List.set_cons_succ])
                  refine wpAnyH_done (by kernel_rfl) ?_ _
                  clear hHeld y0 yf yl z1 zf HQ1 HQ2
                  go_wp2_with fail
                  go_roundg (n - (i + 1))
                  case measure => omega
                  case rel =>
                    obtain ⟨r1, r2, r3, r4, r5, r6, r7, r8, r9, r10⟩ := HFIN.out _ _ _ _ _ HX4.out
                    exact ⟨i + 1, r1, r2, r3, r4, r5, _, rfl, rfl, by omega, by go_num, r6, r7, r8, r9, r10⟩
              · rw [if_pos (by rfl)]
                go_simp
                obtain ⟨X2, hX2⟩ : ∃ Y, Y = X1.alloc (.cells #[.int .u32 (ro : Int)] 38) := ⟨_, rfl⟩
                obtain ⟨nB, hnB⟩ : ∃ n, n = X1.heap.size := ⟨_, rfl⟩
                have HNBX2 : Hid (X2.heap[nB]? = some (.cells #[.int .u32 (ro : Int)] 38 (0, 0)) ∧ V.heap.size ≤ nB) := by rw [hX2, hnB]; exact ⟨heap_alloc_new _ _, HX1.out.o.size⟩
                have HX2 : Hid _ := HX1.out.alloc (.cells #[.int .u32 (ro : Int)] 38)
                have HNAX2 : Hid (X2.heap[nA]? = some (.cells #[.slice aW k kW] 23 (0, 0)) ∧ V.heap.size ≤ nA) := by rw [hX2]; exact ⟨blk_alloc _ HNAX1.out.1, HNAX1.out.2⟩
                rw [← hX2] at HX2 ⊢
                rw [← hnB]
                clear hX2 hnB
                refine hK.out _ _ (HCL.out X2 HX2.out.o).2.1 (fun hHeld => ?_)
                clear hK
                (try simp only [Act.put, List.setIfInBounds_toArray, List.set_cons_zero, List.set_cons_succ])
                refine wpAnyH_ready (rs := [4, 6]) (by kernel_rfl) (by simp) ?_
                refine AllReadyH.cons rfl (fun K hK => ?_) (AllReadyH.cons rfl (fun K hK => ?_) AllReadyH.nil)
                · have yl := (HCL.out X2 HX2.out.o).2.2
                  refine step_A (by rfl) _ _ (by rfl) (w.heap.size + 2) (.slice aN i kN) i vs (by rfl) HX2.out.a nA (.slice aW k kW) (by rfl) HNAX2.out.1 rfl (by omega) (by omega) ?_
                  intro gA cA X3 hown hgrow
                  have HNBX3 : Hid (X3.heap[nB]? = some (.cells #[.int .u32 (ro : Int)] 38 (0, 0)) ∧ V.heap.size ≤ nB) := ⟨blk_grow HNBX2.out.1 HX2.out.a hgrow (fun e => by have h1 := own_lt HOLD.out.nx e; have h2 := HNBX2.out.2; omega), HNBX2.out.2⟩
                  have HX3 : Hid _ := HX2.out.appA hgrow hown
                  clear hown hgrow yl
                  refine hK.out _ _ (HCL.out X3 HX3.out.o).2.1 (fun hHeld => ?_)
                  clear hK
                  (try simp only [Act.put, List.setIfInBounds_toArray, List.set_cons_zero, List.set_cons_succ])
                  refine wpAnyH_ready (rs := [6]) (by kernel_rfl) (by simp) ?_
                  refine AllReadyH.cons rfl (fun K hK => ?_) AllReadyH.nil
                  have y := HCL.out X3 HX3.out.o
                  have y0 : X3.cell? ⟨w.heap.size + 1, 1, none⟩ = some (.slice aO i kO) := cell_blk y.1
                  have yl := y.2.2
                  rw [if_pos (by rfl)]
                  go_simp
                  refine hK.out _ _ y.2.1 (fun hHeld => ?_)
                  clear hK y y0 yl
                  (try simp only [Act.put, List.setIfInBounds_toArray, List.set_cons_zero, List.set_cons_succ])
                  refine wpAnyH_take (i := 14) (oi := { dst := some 67, op := _, type := _, pos := _, after := _, guard := _ }) (v := .pointer (some ⟨w.heap.size + 1, 0, none⟩)) rfl (by kernel_rfl) (by kernel_rfl) (by kernel_rfl) (fun _ _ _ h => h) (Or.inl ⟨by rfl, fun w hSw => by first | (go_simp; done) | go_simp⟩) (by assumption) ?_
                  (try simp only [Act.put, List.setIfInBounds_toArray, List.set_cons_zero, List.set_cons_succ])
                  refine wpAnyH_ready (rs := [13]) (by kernel_rfl) (by simp) ?_
                  refine AllReadyH.cons rfl (fun K hK => ?_) AllReadyH.nil
                  have yl := (HCL.out X3 HX3.out.o).2.2
                  refine step_B (by rfl) _ _ (by rfl) (w.heap.size + 2) (.slice aO i kO) i (outs.map u32V) (by rfl) HX3.out.b nB (.int .u32 (ro : Int)) (by rfl) HNBX3.out.1 rfl (by omega) (by omega) ?_
                  intro gB cB X4 hown hgrow
                  have HX4 : Hid _ := HX3.out.appB hgrow hown
                  clear hown hgrow yl
                  refine hK.out _ _ (HCL.out X4 HX4.out.o).2.1 (fun hHeld => ?_)
                  clear hK
                  (try simp only [Act.put, List.setIfInBounds_toArray, List.set_cons_zero, List.set_cons_succ])
                  have y := HCL.out X4 HX4.out.o
                  have y0 : X4.cell? ⟨w.heap.size + 1, 0, none⟩ = some (.slice aN i kN) := cell_blk y.1
                  have yf : ∀ q, X4.frozen? ⟨w.heap.size + 1, q, none⟩ = false := fun q => fz_blk y.1 q
                  have yl := y.2.2
                  have z := heap_setCell_at (k := 0) y.1 (.slice (some ⟨gA, 0, none⟩) (i + 1) cA)
                  have z1 : (X4.setCell ⟨w.heap.size + 1, 0, none⟩ (.slice (some ⟨gA, 0, none⟩) (i + 1) cA)).cell? ⟨w.heap.size + 1, 1, none⟩ = some (.slice aO i kO) := cell_blk z
                  have zf : ∀ q, (X4.setCell ⟨w.heap.size + 1, 0, none⟩ (.slice (some ⟨gA, 0, none⟩) (i + 1) cA)).frozen? ⟨w.heap.size + 1, q, none⟩ = false := fun q => fz_blk z q
                  have HQ1 : Hid _ := HHS.out X4 0 (.slice (some ⟨gA, 0, none⟩) (i + 1) cA) y.2.1
                  have HQ2 : Hid _ := HHS.out _ 1 (.slice (some ⟨gB, 0, none⟩) (i + 1) cB) HQ1.out
                  clear y z
                  refine wpAnyH_ready (rs := [15]) (by kernel_rfl) (by simp) ?_
                  refine AllReadyH.cons rfl (fun K hK => ?_) AllReadyH.nil
                  rw [if_pos (by rfl)]
                  go_simp
                  refine hK.out _ _ HQ1.out (fun hHeld => ?_)
                  clear hK
                  (try simp only [Act.put, List.setIfInBounds_toArray, List.set_cons_zero, List.set_cons_succ])
                  refine wpAnyH_take (i := 16) (oi := { dst := some 68, op := _, type := _, pos := _, after := _, guard := _ }) (v := .pointer (some ⟨w.heap.size + 1, 1, none⟩)) rfl (by kernel_rfl) (by kernel_rfl) (by kernel_rfl) (fun _ _ _ h => h) (Or.inl ⟨by rfl, fun w hSw => by first | (go_simp; done) | go_simp⟩) (by assumption) ?_
                  (try simp only [Act.put, List.setIfInBounds_toArray, List.set_cons_zero, List.set_cons_succ])
                  refine wpAnyH_ready (rs := [17]) (by kernel_rfl) (by simp) ?_
                  refine AllReadyH.cons rfl (fun K hK => ?_) AllReadyH.nil
                  rw [if_pos (by rfl)]
                  go_simp
                  refine hK.out _ _ HQ2.out (fun hHeld => ?_)
                  clear hK
                  (try simp only [Act.put, List.setIfInBounds_toArray, List.set_cons_zero, List.set_cons_succ])
                  refine wpAnyH_done (by kernel_rfl) ?_ _
                  clear hHeld y0 yf yl z1 zf HQ1 HQ2
                  go_wp2_with fail
                  go_roundg (n - (i + 1))
                  case measure => omega
                  case rel =>
                    obtain ⟨r1, r2, r3, r4, r5, r6, r7, r8, r9, r10⟩ := HFIN.out _ _ _ _ _ HX4.out
                    exact ⟨i + 1, r1, r2, r3, r4, r5, _, rfl, rfl, by omega, by go_num, r6, r7, r8, r9, r10⟩
                · have y := HCL.out X2 HX2.out.o
                  have y0 : X2.cell? ⟨w.heap.size + 1, 1, none⟩ = some (.slice aO i kO) := cell_blk y.1
                  have yl := y.2.2
                  rw [if_pos (by rfl)]
                  go_simp
                  refine hK.out _ _ y.2.1 (fun hHeld => ?_)
                  clear hK y y0 yl
                  (try simp only [Act.put, List.setIfInBounds_toArray, List.set_cons_zero, List.set_cons_succ])
                  refine wpAnyH_ready (rs := [4]) (by kernel_rfl) (by simp) ?_
                  refine AllReadyH.cons rfl (fun K hK => ?_) AllReadyH.nil
                  have yl := (HCL.out X2 HX2.out.o).2.2
                  refine step_A (by rfl) _ _ (by rfl) (w.heap.size + 2) (.slice aN i kN) i vs (by rfl) HX2.out.a nA (.slice aW k kW) (by rfl) HNAX2.out.1 rfl (by omega) (by omega) ?_
                  intro gA cA X3 hown hgrow
                  have HNBX3 : Hid (X3.heap[nB]? = some (.cells #[.int .u32 (ro : Int)] 38 (0, 0)) ∧ V.heap.size ≤ nB) := ⟨blk_grow HNBX2.out.1 HX2.out.a hgrow (fun e => by have h1 := own_lt HOLD.out.nx e; have h2 := HNBX2.out.2; omega), HNBX2.out.2⟩
                  have HX3 : Hid _ := HX2.out.appA hgrow hown
                  clear hown hgrow yl
                  refine hK.out _ _ (HCL.out X3 HX3.out.o).2.1 (fun hHeld => ?_)
                  clear hK
                  (try simp only [Act.put, List.setIfInBounds_toArray, List.set_cons_zero, List.set_cons_succ])
                  refine wpAnyH_take (i := 14) (oi := { dst := some 67, op := _, type := _, pos := _, after := _, guard := _ }) (v := .pointer (some ⟨w.heap.size + 1, 0, none⟩)) rfl (by kernel_rfl) (by kernel_rfl) (by kernel_rfl) (fun _ _ _ h => h) (Or.inl ⟨by rfl, fun w hSw => by first | (go_simp; done) | go_simp⟩) (by assumption) ?_
                  (try simp only [Act.put, List.setIfInBounds_toArray, List.set_cons_zero, List.set_cons_succ])
                  refine wpAnyH_ready (rs := [13]) (by kernel_rfl) (by simp) ?_
                  refine AllReadyH.cons rfl (fun K hK => ?_) AllReadyH.nil
                  have yl := (HCL.out X3 HX3.out.o).2.2
                  refine step_B (by rfl) _ _ (by rfl) (w.heap.size + 2) (.slice aO i kO) i (outs.map u32V) (by rfl) HX3.out.b nB (.int .u32 (ro : Int)) (by rfl) HNBX3.out.1 rfl (by omega) (by omega) ?_
                  intro gB cB X4 hown hgrow
                  have HX4 : Hid _ := HX3.out.appB hgrow hown
                  clear hown hgrow yl
                  refine hK.out _ _ (HCL.out X4 HX4.out.o).2.1 (fun hHeld => ?_)
                  clear hK
                  (try simp only [Act.put, List.setIfInBounds_toArray, List.set_cons_zero, List.set_cons_succ])
                  have y := HCL.out X4 HX4.out.o
                  have y0 : X4.cell? ⟨w.heap.size + 1, 0, none⟩ = some (.slice aN i kN) := cell_blk y.1
                  have yf : ∀ q, X4.frozen? ⟨w.heap.size + 1, q, none⟩ = false := fun q => fz_blk y.1 q
                  have yl := y.2.2
                  have z := heap_setCell_at (k := 0) y.1 (.slice (some ⟨gA, 0, none⟩) (i + 1) cA)
                  have z1 : (X4.setCell ⟨w.heap.size + 1, 0, none⟩ (.slice (some ⟨gA, 0, none⟩) (i + 1) cA)).cell? ⟨w.heap.size + 1, 1, none⟩ = some (.slice aO i kO) := cell_blk z
                  have zf : ∀ q, (X4.setCell ⟨w.heap.size + 1, 0, none⟩ (.slice (some ⟨gA, 0, none⟩) (i + 1) cA)).frozen? ⟨w.heap.size + 1, q, none⟩ = false := fun q => fz_blk z q
                  have HQ1 : Hid _ := HHS.out X4 0 (.slice (some ⟨gA, 0, none⟩) (i + 1) cA) y.2.1
                  have HQ2 : Hid _ := HHS.out _ 1 (.slice (some ⟨gB, 0, none⟩) (i + 1) cB) HQ1.out
                  clear y z
                  refine wpAnyH_ready (rs := [15]) (by kernel_rfl) (by simp) ?_
                  refine AllReadyH.cons rfl (fun K hK => ?_) AllReadyH.nil
                  rw [if_pos (by rfl)]
                  go_simp
                  refine hK.out _ _ HQ1.out (fun hHeld => ?_)
                  clear hK
                  (try simp only [Act.put, List.setIfInBounds_toArray, List.set_cons_zero, List.set_cons_succ])
                  refine wpAnyH_take (i := 16) (oi := { dst := some 68, op := _, type := _, pos := _, after := _, guard := _ }) (v := .pointer (some ⟨w.heap.size + 1, 1, none⟩)) rfl (by kernel_rfl) (by kernel_rfl) (by kernel_rfl) (fun _ _ _ h => h) (Or.inl ⟨by rfl, fun w hSw => by first | (go_simp; done) | go_simp⟩) (by assumption) ?_
                  (try simp only [Act.put, List.setIfInBounds_toArray, List.set_cons_zero, List.set_cons_succ])
                  refine wpAnyH_ready (rs := [17]) (by kernel_rfl) (by simp) ?_
                  refine AllReadyH.cons rfl (fun K hK => ?_) AllReadyH.nil
                  rw [if_pos (by rfl)]
                  go_simp
                  refine hK.out _ _ HQ2.out (fun hHeld => ?_)
                  clear hK
                  (try simp only [Act.put, List.setIfInBounds_toArray, List.set_cons_zero, List.set_cons_succ])
                  refine wpAnyH_done (by kernel_rfl) ?_ _
                  clear hHeld y0 yf yl z1 zf HQ1 HQ2
                  go_wp2_with fail
                  go_roundg (n - (i + 1))
                  case measure => omega
                  case rel =>
                    obtain ⟨r1, r2, r3, r4, r5, r6, r7, r8, r9, r10⟩ := HFIN.out _ _ _ _ _ HX4.out
                    exact ⟨i + 1, r1, r2, r3, r4, r5, _, rfl, rfl, by omega, by go_num, r6, r7, r8, r9, r10⟩
            · have y := HCL.out X0 HX0.out.o
              have y0 : X0.cell? ⟨w.heap.size + 1, 1, none⟩ = some (.slice aO i kO) := cell_blk y.1
              have yl := y.2.2
              rw [if_pos (by rfl)]
              go_simp
              refine hK.out _ _ y.2.1 (fun hHeld => ?_)
              clear hK y y0 yl
              (try simp only [Act.put, List.setIfInBounds_toArray, List.set_cons_zero, List.set_cons_succ])
              refine wpAnyH_ready (rs := [3, 12]) (by kernel_rfl) (by simp) ?_
              refine AllReadyH.cons rfl (fun K hK => ?_) (AllReadyH.cons rfl (fun K hK => ?_) AllReadyH.nil)
              · rw [if_pos (by rfl)]
                go_simp
                obtain ⟨X1, hX1⟩ : ∃ Y, Y = X0.alloc (.cells #[.slice aW k kW] 23) := ⟨_, rfl⟩
                obtain ⟨nA, hnA⟩ : ∃ n, n = X0.heap.size := ⟨_, rfl⟩
                have HNAX1 : Hid (X1.heap[nA]? = some (.cells #[.slice aW k kW] 23 (0, 0)) ∧ V.heap.size ≤ nA) := by rw [hX1, hnA]; exact ⟨heap_alloc_new _ _, HX0.out.o.size⟩
                have HX1 : Hid _ := HX0.out.alloc (.cells #[.slice aW k kW] 23)
                rw [← hX1] at HX1 ⊢
                rw [← hnA]
                clear hX1 hnA
                refine hK.out _ _ (HCL.out X1 HX1.out.o).2.1 (fun hHeld => ?_)
                clear hK
                (try simp only [Act.put, List.setIfInBounds_toArray, List.set_cons_zero, List.set_cons_succ])
                refine wpAnyH_ready (rs := [4, 12]) (by kernel_rfl) (by simp) ?_
                refine AllReadyH.cons rfl (fun K hK => ?_) (AllReadyH.cons rfl (fun K hK => ?_) AllReadyH.nil)
                · have yl := (HCL.out X1 HX1.out.o).2.2
                  refine step_A (by rfl) _ _ (by rfl) (w.heap.size + 2) (.slice aN i kN) i vs (by rfl) HX1.out.a nA (.slice aW k kW) (by rfl) HNAX1.out.1 rfl (by omega) (by omega) ?_
                  intro gA cA X2 hown hgrow
                  have HX2 : Hid _ := HX1.out.appA hgrow hown
                  clear hown hgrow yl
                  refine hK.out _ _ (HCL.out X2 HX2.out.o).2.1 (fun hHeld => ?_)
                  clear hK
                  (try simp only [Act.put, List.setIfInBounds_toArray, List.set_cons_zero, List.set_cons_succ])
                  refine wpAnyH_take (i := 14) (oi := { dst := some 67, op := _, type := _, pos := _, after := _, guard := _ }) (v := .pointer (some ⟨w.heap.size + 1, 0, none⟩)) rfl (by kernel_rfl) (by kernel_rfl) (by kernel_rfl) (fun _ _ _ h => h) (Or.inl ⟨by rfl, fun w hSw => by first | (go_simp; done) | go_simp⟩) (by assumption) ?_
                  (try simp only [Act.put, List.setIfInBounds_toArray, List.set_cons_zero, List.set_cons_succ])
                  refine wpAnyH_ready (rs := [12]) (by kernel_rfl) (by simp) ?_
                  refine AllReadyH.cons rfl (fun K hK => ?_) AllReadyH.nil
                  rw [if_pos (by rfl)]
                  go_simp
                  obtain ⟨X3, hX3⟩ : ∃ Y, Y = X2.alloc (.cells #[.int .u32 (ro : Int)] 38) := ⟨_, rfl⟩
                  obtain ⟨nB, hnB⟩ : ∃ n, n = X2.heap.size := ⟨_, rfl⟩
                  have HNBX3 : Hid (X3.heap[nB]? = some (.cells #[.int .u32 (ro : Int)] 38 (0, 0)) ∧ V.heap.size ≤ nB) := by rw [hX3, hnB]; exact ⟨heap_alloc_new _ _, HX2.out.o.size⟩
                  have HX3 : Hid _ := HX2.out.alloc (.cells #[.int .u32 (ro : Int)] 38)
                  rw [← hX3] at HX3 ⊢
                  rw [← hnB]
                  clear hX3 hnB
                  refine hK.out _ _ (HCL.out X3 HX3.out.o).2.1 (fun hHeld => ?_)
                  clear hK
                  (try simp only [Act.put, List.setIfInBounds_toArray, List.set_cons_zero, List.set_cons_succ])
                  refine wpAnyH_ready (rs := [13]) (by kernel_rfl) (by simp) ?_
                  refine AllReadyH.cons rfl (fun K hK => ?_) AllReadyH.nil
                  have yl := (HCL.out X3 HX3.out.o).2.2
                  refine step_B (by rfl) _ _ (by rfl) (w.heap.size + 2) (.slice aO i kO) i (outs.map u32V) (by rfl) HX3.out.b nB (.int .u32 (ro : Int)) (by rfl) HNBX3.out.1 rfl (by omega) (by omega) ?_
                  intro gB cB X4 hown hgrow
                  have HX4 : Hid _ := HX3.out.appB hgrow hown
                  clear hown hgrow yl
                  refine hK.out _ _ (HCL.out X4 HX4.out.o).2.1 (fun hHeld => ?_)
                  clear hK
                  (try simp only [Act.put, List.setIfInBounds_toArray, List.set_cons_zero, List.set_cons_succ])
                  have y := HCL.out X4 HX4.out.o
                  have y0 : X4.cell? ⟨w.heap.size + 1, 0, none⟩ = some (.slice aN i kN) := cell_blk y.1
                  have yf : ∀ q, X4.frozen? ⟨w.heap.size + 1, q, none⟩ = false := fun q => fz_blk y.1 q
                  have yl := y.2.2
                  have z := heap_setCell_at (k := 0) y.1 (.slice (some ⟨gA, 0, none⟩) (i + 1) cA)
                  have z1 : (X4.setCell ⟨w.heap.size + 1, 0, none⟩ (.slice (some ⟨gA, 0, none⟩) (i + 1) cA)).cell? ⟨w.heap.size + 1, 1, none⟩ = some (.slice aO i kO) := cell_blk z
                  have zf : ∀ q, (X4.setCell ⟨w.heap.size + 1, 0, none⟩ (.slice (some ⟨gA, 0, none⟩) (i + 1) cA)).frozen? ⟨w.heap.size + 1, q, none⟩ = false := fun q => fz_blk z q
                  have HQ1 : Hid _ := HHS.out X4 0 (.slice (some ⟨gA, 0, none⟩) (i + 1) cA) y.2.1
                  have HQ2 : Hid _ := HHS.out _ 1 (.slice (some ⟨gB, 0, none⟩) (i + 1) cB) HQ1.out
                  clear y z
                  refine wpAnyH_ready (rs := [15]) (by kernel_rfl) (by simp) ?_
                  refine AllReadyH.cons rfl (fun K hK => ?_) AllReadyH.nil
                  rw [if_pos (by rfl)]
                  go_simp
                  refine hK.out _ _ HQ1.out (fun hHeld => ?_)
                  clear hK
                  (try simp only [Act.put, List.setIfInBounds_toArray, List.set_cons_zero, List.set_cons_succ])
                  refine wpAnyH_take (i := 16) (oi := { dst := some 68, op := _, type := _, pos := _, after := _, guard := _ }) (v := .pointer (some ⟨w.heap.size + 1, 1, none⟩)) rfl (by kernel_rfl) (by kernel_rfl) (by kernel_rfl) (fun _ _ _ h => h) (Or.inl ⟨by rfl, fun w hSw => by first | (go_simp; done) | go_simp⟩) (by assumption) ?_
                  (try simp only [Act.put, List.setIfInBounds_toArray, List.set_cons_zero, List.set_cons_succ])
                  refine wpAnyH_ready (rs := [17]) (by kernel_rfl) (by simp) ?_
                  refine AllReadyH.cons rfl (fun K hK => ?_) AllReadyH.nil
                  rw [if_pos (by rfl)]
                  go_simp
                  refine hK.out _ _ HQ2.out (fun hHeld => ?_)
                  clear hK
                  (try simp only [Act.put, List.setIfInBounds_toArray, List.set_cons_zero, List.set_cons_succ])
                  refine wpAnyH_done (by kernel_rfl) ?_ _
                  clear hHeld y0 yf yl z1 zf HQ1 HQ2
                  go_wp2_with fail
                  go_roundg (n - (i + 1))
                  case measure => omega
                  case rel =>
                    obtain ⟨r1, r2, r3, r4, r5, r6, r7, r8, r9, r10⟩ := HFIN.out _ _ _ _ _ HX4.out
                    exact ⟨i + 1, r1, r2, r3, r4, r5, _, rfl, rfl, by omega, by go_num, r6, r7, r8, r9, r10⟩
                · rw [if_pos (by rfl)]
                  go_simp
                  obtain ⟨X2, hX2⟩ : ∃ Y, Y = X1.alloc (.cells #[.int .u32 (ro : Int)] 38) := ⟨_, rfl⟩
                  obtain ⟨nB, hnB⟩ : ∃ n, n = X1.heap.size := ⟨_, rfl⟩
                  have HNBX2 : Hid (X2.heap[nB]? = some (.cells #[.int .u32 (ro : Int)] 38 (0, 0)) ∧ V.heap.size ≤ nB) := by rw [hX2, hnB]; exact ⟨heap_alloc_new _ _, HX1.out.o.size⟩
                  have HX2 : Hid _ := HX1.out.alloc (.cells #[.int .u32 (ro : Int)] 38)
                  have HNAX2 : Hid (X2.heap[nA]? = some (.cells #[.slice aW k kW] 23 (0, 0)) ∧ V.heap.size ≤ nA) := by rw [hX2]; exact ⟨blk_alloc _ HNAX1.out.1, HNAX1.out.2⟩
                  rw [← hX2] at HX2 ⊢
                  rw [← hnB]
                  clear hX2 hnB
                  refine hK.out _ _ (HCL.out X2 HX2.out.o).2.1 (fun hHeld => ?_)
                  clear hK
                  (try simp only [Act.put, List.setIfInBounds_toArray, List.set_cons_zero, List.set_cons_succ])
                  refine wpAnyH_ready (rs := [4]) (by kernel_rfl) (by simp) ?_
                  refine AllReadyH.cons rfl (fun K hK => ?_) AllReadyH.nil
                  have yl := (HCL.out X2 HX2.out.o).2.2
                  refine step_A (by rfl) _ _ (by rfl) (w.heap.size + 2) (.slice aN i kN) i vs (by rfl) HX2.out.a nA (.slice aW k kW) (by rfl) HNAX2.out.1 rfl (by omega) (by omega) ?_
                  intro gA cA X3 hown hgrow
                  have HNBX3 : Hid (X3.heap[nB]? = some (.cells #[.int .u32 (ro : Int)] 38 (0, 0)) ∧ V.heap.size ≤ nB) := ⟨blk_grow HNBX2.out.1 HX2.out.a hgrow (fun e => by have h1 := own_lt HOLD.out.nx e; have h2 := HNBX2.out.2; omega), HNBX2.out.2⟩
                  have HX3 : Hid _ := HX2.out.appA hgrow hown
                  clear hown hgrow yl
                  refine hK.out _ _ (HCL.out X3 HX3.out.o).2.1 (fun hHeld => ?_)
                  clear hK
                  (try simp only [Act.put, List.setIfInBounds_toArray, List.set_cons_zero, List.set_cons_succ])
                  refine wpAnyH_take (i := 14) (oi := { dst := some 67, op := _, type := _, pos := _, after := _, guard := _ }) (v := .pointer (some ⟨w.heap.size + 1, 0, none⟩)) rfl (by kernel_rfl) (by kernel_rfl) (by kernel_rfl) (fun _ _ _ h => h) (Or.inl ⟨by rfl, fun w hSw => by first | (go_simp; done) | go_simp⟩) (by assumption) ?_
                  (try simp only [Act.put, List.setIfInBounds_toArray, List.set_cons_zero, List.set_cons_succ])
                  refine wpAnyH_ready (rs := [13]) (by kernel_rfl) (by simp) ?_
                  refine AllReadyH.cons rfl (fun K hK => ?_) AllReadyH.nil
                  have yl := (HCL.out X3 HX3.out.o).2.2
                  refine step_B (by rfl) _ _ (by rfl) (w.heap.size + 2) (.slice aO i kO) i (outs.map u32V) (by rfl) HX3.out.b nB (.int .u32 (ro : Int)) (by rfl) HNBX3.out.1 rfl (by omega) (by omega) ?_
                  intro gB cB X4 hown hgrow
                  have HX4 : Hid _ := HX3.out.appB hgrow hown
                  clear hown hgrow yl
                  refine hK.out _ _ (HCL.out X4 HX4.out.o).2.1 (fun hHeld => ?_)
                  clear hK
                  (try simp only [Act.put, List.setIfInBounds_toArray, List.set_cons_zero, List.set_cons_succ])
                  have y := HCL.out X4 HX4.out.o
                  have y0 : X4.cell? ⟨w.heap.size + 1, 0, none⟩ = some (.slice aN i kN) := cell_blk y.1
                  have yf : ∀ q, X4.frozen? ⟨w.heap.size + 1, q, none⟩ = false := fun q => fz_blk y.1 q
                  have yl := y.2.2
                  have z := heap_setCell_at (k := 0) y.1 (.slice (some ⟨gA, 0, none⟩) (i + 1) cA)
                  have z1 : (X4.setCell ⟨w.heap.size + 1, 0, none⟩ (.slice (some ⟨gA, 0, none⟩) (i + 1) cA)).cell? ⟨w.heap.size + 1, 1, none⟩ = some (.slice aO i kO) := cell_blk z
                  have zf : ∀ q, (X4.setCell ⟨w.heap.size + 1, 0, none⟩ (.slice (some ⟨gA, 0, none⟩) (i + 1) cA)).frozen? ⟨w.heap.size + 1, q, none⟩ = false := fun q => fz_blk z q
                  have HQ1 : Hid _ := HHS.out X4 0 (.slice (some ⟨gA, 0, none⟩) (i + 1) cA) y.2.1
                  have HQ2 : Hid _ := HHS.out _ 1 (.slice (some ⟨gB, 0, none⟩) (i + 1) cB) HQ1.out
                  clear y z
                  refine wpAnyH_ready (rs := [15]) (by kernel_rfl) (by simp) ?_
                  refine AllReadyH.cons rfl (fun K hK => ?_) AllReadyH.nil
                  rw [if_pos (by rfl)]
                  go_simp
                  refine hK.out _ _ HQ1.out (fun hHeld => ?_)
                  clear hK
                  (try simp only [Act.put, List.setIfInBounds_toArray, List.set_cons_zero, List.set_cons_succ])
                  refine wpAnyH_take (i := 16) (oi := { dst := some 68, op := _, type := _, pos := _, after := _, guard := _ }) (v := .pointer (some ⟨w.heap.size + 1, 1, none⟩)) rfl (by kernel_rfl) (by kernel_rfl) (by kernel_rfl) (fun _ _ _ h => h) (Or.inl ⟨by rfl, fun w hSw => by first | (go_simp; done) | go_simp⟩) (by assumption) ?_
                  (try simp only [Act.put, List.setIfInBounds_toArray, List.set_cons_zero, List.set_cons_succ])
                  refine wpAnyH_ready (rs := [17]) (by kernel_rfl) (by simp) ?_
                  refine AllReadyH.cons rfl (fun K hK => ?_) AllReadyH.nil
                  rw [if_pos (by rfl)]
                  go_simp
                  refine hK.out _ _ HQ2.out (fun hHeld => ?_)
                  clear hK
                  (try simp only [Act.put, List.setIfInBounds_toArray, List.set_cons_zero, List.set_cons_succ])
                  refine wpAnyH_done (by kernel_rfl) ?_ _
                  clear hHeld y0 yf yl z1 zf HQ1 HQ2
                  go_wp2_with fail
                  go_roundg (n - (i + 1))
                  case measure => omega
                  case rel =>
                    obtain ⟨r1, r2, r3, r4, r5, r6, r7, r8, r9, r10⟩ := HFIN.out _ _ _ _ _ HX4.out
                    exact ⟨i + 1, r1, r2, r3, r4, r5, _, rfl, rfl, by omega, by go_num, r6, r7, r8, r9, r10⟩
              · rw [if_pos (by rfl)]
                go_simp
                obtain ⟨X1, hX1⟩ : ∃ Y, Y = X0.alloc (.cells #[.int .u32 (ro : Int)] 38) := ⟨_, rfl⟩
                obtain ⟨nB, hnB⟩ : ∃ n, n = X0.heap.size := ⟨_, rfl⟩
                have HNBX1 : Hid (X1.heap[nB]? = some (.cells #[.int .u32 (ro : Int)] 38 (0, 0)) ∧ V.heap.size ≤ nB) := by rw [hX1, hnB]; exact ⟨heap_alloc_new _ _, HX0.out.o.size⟩
                have HX1 : Hid _ := HX0.out.alloc (.cells #[.int .u32 (ro : Int)] 38)
                rw [← hX1] at HX1 ⊢
                rw [← hnB]
                clear hX1 hnB
                refine hK.out _ _ (HCL.out X1 HX1.out.o).2.1 (fun hHeld => ?_)
                clear hK
                (try simp only [Act.put, List.setIfInBounds_toArray, List.set_cons_zero, List.set_cons_succ])
                refine wpAnyH_ready (rs := [3]) (by kernel_rfl) (by simp) ?_
                refine AllReadyH.cons rfl (fun K hK => ?_) AllReadyH.nil
                rw [if_pos (by rfl)]
                go_simp
                obtain ⟨X2, hX2⟩ : ∃ Y, Y = X1.alloc (.cells #[.slice aW k kW] 23) := ⟨_, rfl⟩
                obtain ⟨nA, hnA⟩ : ∃ n, n = X1.heap.size := ⟨_, rfl⟩
                have HNAX2 : Hid (X2.heap[nA]? = some (.cells #[.slice aW k kW] 23 (0, 0)) ∧ V.heap.size ≤ nA) := by rw [hX2, hnA]; exact ⟨heap_alloc_new _ _, HX1.out.o.size⟩
                have HX2 : Hid _ := HX1.out.alloc (.cells #[.slice aW k kW] 23)
                have HNBX2 : Hid (X2.heap[nB]? = some (.cells #[.int .u32 (ro : Int)] 38 (0, 0)) ∧ V.heap.size ≤ nB) := by rw [hX2]; exact ⟨blk_alloc _ HNBX1.out.1, HNBX1.out.2⟩
                rw [← hX2] at HX2 ⊢
                rw [← hnA]
                clear hX2 hnA
                refine hK.out _ _ (HCL.out X2 HX2.out.o).2.1 (fun hHeld => ?_)
                clear hK
                (try simp only [Act.put, List.setIfInBounds_toArray, List.set_cons_zero, List.set_cons_succ])
                refine wpAnyH_ready (rs := [4]) (by kernel_rfl) (by simp) ?_
                refine AllReadyH.cons rfl (fun K hK => ?_) AllReadyH.nil
                have yl := (HCL.out X2 HX2.out.o).2.2
                refine step_A (by rfl) _ _ (by rfl) (w.heap.size + 2) (.slice aN i kN) i vs (by rfl) HX2.out.a nA (.slice aW k kW) (by rfl) HNAX2.out.1 rfl (by omega) (by omega) ?_
                intro gA cA X3 hown hgrow
                have HNBX3 : Hid (X3.heap[nB]? = some (.cells #[.int .u32 (ro : Int)] 38 (0, 0)) ∧ V.heap.size ≤ nB) := ⟨blk_grow HNBX2.out.1 HX2.out.a hgrow (fun e => by have h1 := own_lt HOLD.out.nx e; have h2 := HNBX2.out.2; omega), HNBX2.out.2⟩
                have HX3 : Hid _ := HX2.out.appA hgrow hown
                clear hown hgrow yl
                refine hK.out _ _ (HCL.out X3 HX3.out.o).2.1 (fun hHeld => ?_)
                clear hK
                (try simp only [Act.put, List.setIfInBounds_toArray, List.set_cons_zero, List.set_cons_succ])
                refine wpAnyH_take (i := 14) (oi := { dst := some 67, op := _, type := _, pos := _, after := _, guard := _ }) (v := .pointer (some ⟨w.heap.size + 1, 0, none⟩)) rfl (by kernel_rfl) (by kernel_rfl) (by kernel_rfl) (fun _ _ _ h => h) (Or.inl ⟨by rfl, fun w hSw => by first | (go_simp; done) | go_simp⟩) (by assumption) ?_
                (try simp only [Act.put, List.setIfInBounds_toArray, List.set_cons_zero, List.set_cons_succ])
                refine wpAnyH_ready (rs := [13]) (by kernel_rfl) (by simp) ?_
                refine AllReadyH.cons rfl (fun K hK => ?_) AllReadyH.nil
                have yl := (HCL.out X3 HX3.out.o).2.2
                refine step_B (by rfl) _ _ (by rfl) (w.heap.size + 2) (.slice aO i kO) i (outs.map u32V) (by rfl) HX3.out.b nB (.int .u32 (ro : Int)) (by rfl) HNBX3.out.1 rfl (by omega) (by omega) ?_
                intro gB cB X4 hown hgrow
                have HX4 : Hid _ := HX3.out.appB hgrow hown
                clear hown hgrow yl
                refine hK.out _ _ (HCL.out X4 HX4.out.o).2.1 (fun hHeld => ?_)
                clear hK
                (try simp only [Act.put, List.setIfInBounds_toArray, List.set_cons_zero, List.set_cons_succ])
                have y := HCL.out X4 HX4.out.o
                have y0 : X4.cell? ⟨w.heap.size + 1, 0, none⟩ = some (.slice aN i kN) := cell_blk y.1
                have yf : ∀ q, X4.frozen? ⟨w.heap.size + 1, q, none⟩ = false := fun q => fz_blk y.1 q
                have yl := y.2.2
                have z := heap_setCell_at (k := 0) y.1 (.slice (some ⟨gA, 0, none⟩) (i + 1) cA)
                have z1 : (X4.setCell ⟨w.heap.size + 1, 0, none⟩ (.slice (some ⟨gA, 0, none⟩) (i + 1) cA)).cell? ⟨w.heap.size + 1, 1, none⟩ = some (.slice aO i kO) := cell_blk z
                have zf : ∀ q, (X4.setCell ⟨w.heap.size + 1, 0, none⟩ (.slice (some ⟨gA, 0, none⟩) (i + 1) cA)).frozen? ⟨w.heap.size + 1, q, none⟩ = false := fun q => fz_blk z q
                have HQ1 : Hid _ := HHS.out X4 0 (.slice (some ⟨gA, 0, none⟩) (i + 1) cA) y.2.1
                have HQ2 : Hid _ := HHS.out _ 1 (.slice (some ⟨gB, 0, none⟩) (i + 1) cB) HQ1.out
                clear y z
                refine wpAnyH_ready (rs := [15]) (by kernel_rfl) (by simp) ?_
                refine AllReadyH.cons rfl (fun K hK => ?_) AllReadyH.nil
                rw [if_pos (by rfl)]
                go_simp
                refine hK.out _ _ HQ1.out (fun hHeld => ?_)
                clear hK
                (try simp only [Act.put, List.setIfInBounds_toArray, List.set_cons_zero, List.set_cons_succ])
                refine wpAnyH_take (i := 16) (oi := { dst := some 68, op := _, type := _, pos := _, after := _, guard := _ }) (v := .pointer (some ⟨w.heap.size + 1, 1, none⟩)) rfl (by kernel_rfl) (by kernel_rfl) (by kernel_rfl) (fun _ _ _ h => h) (Or.inl ⟨by rfl, fun w hSw => by first | (go_simp; done) | go_simp⟩) (by assumption) ?_
                (try simp only [Act.put, List.setIfInBounds_toArray, List.set_cons_zero, List.set_cons_succ])
                refine wpAnyH_ready (rs := [17]) (by kernel_rfl) (by simp) ?_
                refine AllReadyH.cons rfl (fun K hK => ?_) AllReadyH.nil
                rw [if_pos (by rfl)]
                go_simp
                refine hK.out _ _ HQ2.out (fun hHeld => ?_)
                clear hK
                (try simp only [Act.put, List.setIfInBounds_toArray, List.set_cons_zero, List.set_cons_succ])
                refine wpAnyH_done (by kernel_rfl) ?_ _
                clear hHeld y0 yf yl z1 zf HQ1 HQ2
                go_wp2_with fail
                go_roundg (n - (i + 1))
                case measure => omega
                case rel =>
                  obtain ⟨r1, r2, r3, r4, r5, r6, r7, r8, r9, r10⟩ := HFIN.out _ _ _ _ _ HX4.out
                  exact ⟨i + 1, r1, r2, r3, r4, r5, _, rfl, rfl, by omega, by go_num, r6, r7, r8, r9, r10⟩
            · rw [if_pos (by rfl)]
              go_simp
              obtain ⟨X1, hX1⟩ : ∃ Y, Y = X0.alloc (.cells #[.int .u32 (ro : Int)] 38) := ⟨_, rfl⟩
              obtain ⟨nB, hnB⟩ : ∃ n, n = X0.heap.size := ⟨_, rfl⟩
              have HNBX1 : Hid (X1.heap[nB]? = some (.cells #[.int .u32 (ro : Int)] 38 (0, 0)) ∧ V.heap.size ≤ nB) := by rw [hX1, hnB]; exact ⟨heap_alloc_new _ _, HX0.out.o.size⟩
              have HX1 : Hid _ := HX0.out.alloc (.cells #[.int .u32 (ro : Int)] 38)
              rw [← hX1] at HX1 ⊢
              rw [← hnB]
              clear hX1 hnB
              refine hK.out _ _ (HCL.out X1 HX1.out.o).2.1 (fun hHeld => ?_)
              clear hK
              (try simp only [Act.put, List.setIfInBounds_toArray, List.set_cons_zero, List.set_cons_succ])
              refine wpAnyH_ready (rs := [3, 6]) (by kernel_rfl) (by simp) ?_
              refine AllReadyH.cons rfl (fun K hK => ?_) (AllReadyH.cons rfl (fun K hK => ?_) AllReadyH.nil)
              · rw [if_pos (by rfl)]
                go_simp
                obtain ⟨X2, hX2⟩ : ∃ Y, Y = X1.alloc (.cells #[.slice aW k kW] 23) := ⟨_, rfl⟩
                obtain ⟨nA, hnA⟩ : ∃ n, n = X1.heap.size := ⟨_, rfl⟩
                have HNAX2 : Hid (X2.heap[nA]? = some (.cells #[.slice aW k kW] 23 (0, 0)) ∧ V.heap.size ≤ nA) := by rw [hX2, hnA]; exact ⟨heap_alloc_new _ _, HX1.out.o.size⟩
                have HX2 : Hid _ := HX1.out.alloc (.cells #[.slice aW k kW] 23)
                have HNBX2 : Hid (X2.heap[nB]? = some (.cells #[.int .u32 (ro : Int)] 38 (0, 0)) ∧ V.heap.size ≤ nB) := by rw [hX2]; exact ⟨blk_alloc _ HNBX1.out.1, HNBX1.out.2⟩
                rw [← hX2] at HX2 ⊢
                rw [← hnA]
                clear hX2 hnA
                refine hK.out _ _ (HCL.out X2 HX2.out.o).2.1 (fun hHeld => ?_)
                clear hK
                (try simp only [Act.put, List.setIfInBounds_toArray, List.set_cons_zero, List.set_cons_succ])
                refine wpAnyH_ready (rs := [4, 6]) (by kernel_rfl) (by simp) ?_
                refine AllReadyH.cons rfl (fun K hK => ?_) (AllReadyH.cons rfl (fun K hK => ?_) AllReadyH.nil)
                · have yl := (HCL.out X2 HX2.out.o).2.2
                  refine step_A (by rfl) _ _ (by rfl) (w.heap.size + 2) (.slice aN i kN) i vs (by rfl) HX2.out.a nA (.slice aW k kW) (by rfl) HNAX2.out.1 rfl (by omega) (by omega) ?_
                  intro gA cA X3 hown hgrow
                  have HNBX3 : Hid (X3.heap[nB]? = some (.cells #[.int .u32 (ro : Int)] 38 (0, 0)) ∧ V.heap.size ≤ nB) := ⟨blk_grow HNBX2.out.1 HX2.out.a hgrow (fun e => by have h1 := own_lt HOLD.out.nx e; have h2 := HNBX2.out.2; omega), HNBX2.out.2⟩
                  have HX3 : Hid _ := HX2.out.appA hgrow hown
                  clear hown hgrow yl
                  refine hK.out _ _ (HCL.out X3 HX3.out.o).2.1 (fun hHeld => ?_)
                  clear hK
                  (try simp only [Act.put, List.setIfInBounds_toArray, List.set_cons_zero, List.set_cons_succ])
                  refine wpAnyH_ready (rs := [6]) (by kernel_rfl) (by simp) ?_
                  refine AllReadyH.cons rfl (fun K hK => ?_) AllReadyH.nil
                  have y := HCL.out X3 HX3.out.o
                  have y0 : X3.cell? ⟨w.heap.size + 1, 1, none⟩ = some (.slice aO i kO) := cell_blk y.1
                  have yl := y.2.2
                  rw [if_pos (by rfl)]
                  go_simp
                  refine hK.out _ _ y.2.1 (fun hHeld => ?_)
                  clear hK y y0 yl
                  (try simp only [Act.put, List.setIfInBounds_toArray, List.set_cons_zero, List.set_cons_succ])
                  refine wpAnyH_take (i := 14) (oi := { dst := some 67, op := _, type := _, pos := _, after := _, guard := _ }) (v := .pointer (some ⟨w.heap.size + 1, 0, none⟩)) rfl (by kernel_rfl) (by kernel_rfl) (by kernel_rfl) (fun _ _ _ h => h) (Or.inl ⟨by rfl, fun w hSw => by first | (go_simp; done) | go_simp⟩) (by assumption) ?_
                  (try simp only [Act.put, List.setIfInBounds_toArray, List.set_cons_zero, List.set_cons_succ])
                  refine wpAnyH_ready (rs := [13]) (by kernel_rfl) (by simp) ?_
                  refine AllReadyH.cons rfl (fun K hK => ?_) AllReadyH.nil
                  have yl := (HCL.out X3 HX3.out.o).2.2
                  refine step_B (by rfl) _ _ (by rfl) (w.heap.size + 2) (.slice aO i kO) i (outs.map u32V) (by rfl) HX3.out.b nB (.int .u32 (ro : Int)) (by rfl) HNBX3.out.1 rfl (by omega) (by omega) ?_
                  intro gB cB X4 hown hgrow
                  have HX4 : Hid _ := HX3.out.appB hgrow hown
                  clear hown hgrow yl
                  refine hK.out _ _ (HCL.out X4 HX4.out.o).2.1 (fun hHeld => ?_)
                  clear hK
                  (try simp only [Act.put, List.setIfInBounds_toArray, List.set_cons_zero, List.set_cons_succ])
                  have y := HCL.out X4 HX4.out.o
                  have y0 : X4.cell? ⟨w.heap.size + 1, 0, none⟩ = some (.slice aN i kN) := cell_blk y.1
                  have yf : ∀ q, X4.frozen? ⟨w.heap.size + 1, q, none⟩ = false := fun q => fz_blk y.1 q
                  have yl := y.2.2
                  have z := heap_setCell_at (k := 0) y.1 (.slice (some ⟨gA, 0, none⟩) (i + 1) cA)
                  have z1 : (X4.setCell ⟨w.heap.size + 1, 0, none⟩ (.slice (some ⟨gA, 0, none⟩) (i + 1) cA)).cell? ⟨w.heap.size + 1, 1, none⟩ = some (.slice aO i kO) := cell_blk z
                  have zf : ∀ q, (X4.setCell ⟨w.heap.size + 1, 0, none⟩ (.slice (some ⟨gA, 0, none⟩) (i + 1) cA)).frozen? ⟨w.heap.size + 1, q, none⟩ = false := fun q => fz_blk z q
                  have HQ1 : Hid _ := HHS.out X4 0 (.slice (some ⟨gA, 0, none⟩) (i + 1) cA) y.2.1
                  have HQ2 : Hid _ := HHS.out _ 1 (.slice (some ⟨gB, 0, none⟩) (i + 1) cB) HQ1.out
                  clear y z
                  refine wpAnyH_ready (rs := [15]) (by kernel_rfl) (by simp) ?_
                  refine AllReadyH.cons rfl (fun K hK => ?_) AllReadyH.nil
                  rw [if_pos (by rfl)]
                  go_simp
                  refine hK.out _ _ HQ1.out (fun hHeld => ?_)
                  clear hK
                  (try simp only [Act.put, List.setIfInBounds_toArray, List.set_cons_zero, List.set_cons_succ])
                  refine wpAnyH_take (i := 16) (oi := { dst := some 68, op := _, type := _, pos := _, after := _, guard := _ }) (v := .pointer (some ⟨w.heap.size + 1, 1, none⟩)) rfl (by kernel_rfl) (by kernel_rfl) (by kernel_rfl) (fun _ _ _ h => h) (Or.inl ⟨by rfl, fun w hSw => by first | (go_simp; done) | go_simp⟩) (by assumption) ?_
                  (try simp only [Act.put, List.setIfInBounds_toArray, List.set_cons_zero, List.set_cons_succ])
                  refine wpAnyH_ready (rs := [17]) (by kernel_rfl) (by simp) ?_
                  refine AllReadyH.cons rfl (fun K hK => ?_) AllReadyH.nil
                  rw [if_pos (by rfl)]
                  go_simp
                  refine hK.out _ _ HQ2.out (fun hHeld => ?_)
                  clear hK
                  (try simp only [Act.put, List.setIfInBounds_toArray, List.set_cons_zero, List.set_cons_succ])
                  refine wpAnyH_done (by kernel_rfl) ?_ _
                  clear hHeld y0 yf yl z1 zf HQ1 HQ2
                  go_wp2_with fail
                  go_roundg (n - (i + 1))
                  case measure => omega
                  case rel =>
                    obtain ⟨r1, r2, r3, r4, r5, r6, r7, r8, r9, r10⟩ := HFIN.out _ _ _ _ _ HX4.out
                    exact ⟨i + 1, r1, r2, r3, r4, r5, _, rfl, rfl, by omega, by go_num, r6, r7, r8, r9, r10⟩
                · have y := HCL.out X2 HX2.out.o
                  have y0 : X2.cell? ⟨w.heap.size + 1, 1, none⟩ = some (.slice aO i kO) := cell_blk y.1
                  have yl := y.2.2
                  rw [if_pos (by rfl)]
                  go_simp
                  refine hK.out _ _ y.2.1 (fun hHeld => ?_)
                  clear hK y y0 yl
                  (try simp only [Act.put, List.setIfInBounds_toArray, List.set_cons_zero, List.set_cons_succ])
                  refine wpAnyH_ready (rs := [4]) (by kernel_rfl) (by simp) ?_
                  refine AllReadyH.cons rfl (fun K hK => ?_) AllReadyH.nil
                  have yl := (HCL.out X2 HX2.out.o).2.2
                  refine step_A (by rfl) _ _ (by rfl) (w.heap.size + 2) (.slice aN i kN) i vs (by rfl) HX2.out.a nA (.slice aW k kW) (by rfl) HNAX2.out.1 rfl (by omega) (by omega) ?_
                  intro gA cA X3 hown hgrow
                  have HNBX3 : Hid (X3.heap[nB]? = some (.cells #[.int .u32 (ro : Int)] 38 (0, 0)) ∧ V.heap.size ≤ nB) := ⟨blk_grow HNBX2.out.1 HX2.out.a hgrow (fun e => by have h1 := own_lt HOLD.out.nx e; have h2 := HNBX2.out.2; omega), HNBX2.out.2⟩
                  have HX3 : Hid _ := HX2.out.appA hgrow hown
                  clear hown hgrow yl
                  refine hK.out _ _ (HCL.out X3 HX3.out.o).2.1 (fun hHeld => ?_)
                  clear hK
                  (try simp only [Act.put, List.setIfInBounds_toArray, List.set_cons_zero, List.set_cons_succ])
                  refine wpAnyH_take (i := 14) (oi := { dst := some 67, op := _, type := _, pos := _, after := _, guard := _ }) (v := .pointer (some ⟨w.heap.size + 1, 0, none⟩)) rfl (by kernel_rfl) (by kernel_rfl) (by kernel_rfl) (fun _ _ _ h => h) (Or.inl ⟨by rfl, fun w hSw => by first | (go_simp; done) | go_simp⟩) (by assumption) ?_
                  (try simp only [Act.put, List.setIfInBounds_toArray, List.set_cons_zero, List.set_cons_succ])
                  refine wpAnyH_ready (rs := [13]) (by kernel_rfl) (by simp) ?_
                  refine AllReadyH.cons rfl (fun K hK => ?_) AllReadyH.nil
                  have yl := (HCL.out X3 HX3.out.o).2.2
                  refine step_B (by rfl) _ _ (by rfl) (w.heap.size + 2) (.slice aO i kO) i (outs.map u32V) (by rfl) HX3.out.b nB (.int .u32 (ro : Int)) (by rfl) HNBX3.out.1 rfl (by omega) (by omega) ?_
                  intro gB cB X4 hown hgrow
                  have HX4 : Hid _ := HX3.out.appB hgrow hown
                  clear hown hgrow yl
                  refine hK.out _ _ (HCL.out X4 HX4.out.o).2.1 (fun hHeld => ?_)
                  clear hK
                  (try simp only [Act.put, List.setIfInBounds_toArray, List.set_cons_zero, List.set_cons_succ])
                  have y := HCL.out X4 HX4.out.o
                  have y0 : X4.cell? ⟨w.heap.size + 1, 0, none⟩ = some (.slice aN i kN) := cell_blk y.1
                  have yf : ∀ q, X4.frozen? ⟨w.heap.size + 1, q, none⟩ = false := fun q => fz_blk y.1 q
                  have yl := y.2.2
                  have z := heap_setCell_at (k := 0) y.1 (.slice (some ⟨gA, 0, none⟩) (i + 1) cA)
                  have z1 : (X4.setCell ⟨w.heap.size + 1, 0, none⟩ (.slice (some ⟨gA, 0, none⟩) (i + 1) cA)).cell? ⟨w.heap.size + 1, 1, none⟩ = some (.slice aO i kO) := cell_blk z
                  have zf : ∀ q, (X4.setCell ⟨w.heap.size + 1, 0, none⟩ (.slice (some ⟨gA, 0, none⟩) (i + 1) cA)).frozen? ⟨w.heap.size + 1, q, none⟩ = false := fun q => fz_blk z q
                  have HQ1 : Hid _ := HHS.out X4 0 (.slice (some ⟨gA, 0, none⟩) (i + 1) cA) y.2.1
                  have HQ2 : Hid _ := HHS.out _ 1 (.slice (some ⟨gB, 0, none⟩) (i + 1) cB) HQ1.out
                  clear y z
                  refine wpAnyH_ready (rs := [15]) (by kernel_rfl) (by simp) ?_
                  refine AllReadyH.cons rfl (fun K hK => ?_) AllReadyH.nil
                  rw [if_pos (by rfl)]
                  go_simp
                  refine hK.out _ _ HQ1.out (fun hHeld => ?_)
                  clear hK
                  (try simp only [Act.put, List.setIfInBounds_toArray, List.set_cons_zero, List.set_cons_succ])
                  refine wpAnyH_take (i := 16) (oi := { dst := some 68, op := _, type := _, pos := _, after := _, guard := _ }) (v := .pointer (some ⟨w.heap.size + 1, 1, none⟩)) rfl (by kernel_rfl) (by kernel_rfl) (by kernel_rfl) (fun _ _ _ h => h) (Or.inl ⟨by rfl, fun w hSw => by first | (go_simp; done) | go_simp⟩) (by assumption) ?_
                  (try simp only [Act.put, List.setIfInBounds_toArray, List.set_cons_zero, List.set_cons_succ])
                  refine wpAnyH_ready (rs := [17]) (by kernel_rfl) (by simp) ?_
                  refine AllReadyH.cons rfl (fun K hK => ?_) AllReadyH.nil
                  rw [if_pos (by rfl)]
                  go_simp
                  refine hK.out _ _ HQ2.out (fun hHeld => ?_)
                  clear hK
                  (try simp only [Act.put, List.setIfInBounds_toArray, List.set_cons_zero, List.set_cons_succ])
                  refine wpAnyH_done (by kernel_rfl) ?_ _
                  clear hHeld y0 yf yl z1 zf HQ1 HQ2
                  go_wp2_with fail
                  go_roundg (n - (i + 1))
                  case measure => omega
                  case rel =>
                    obtain ⟨r1, r2, r3, r4, r5, r6, r7, r8, r9, r10⟩ := HFIN.out _ _ _ _ _ HX4.out
                    exact ⟨i + 1, r1, r2, r3, r4, r5, _, rfl, rfl, by omega, by go_num, r6, r7, r8, r9, r10⟩
              · have y := HCL.out X1 HX1.out.o
                have y0 : X1.cell? ⟨w.heap.size + 1, 1, none⟩ = some (.slice aO i kO) := cell_blk y.1
                have yl := y.2.2
                rw [if_pos (by rfl)]
                go_simp
                refine hK.out _ _ y.2.1 (fun hHeld => ?_)
                clear hK y y0 yl
                (try simp only [Act.put, List.setIfInBounds_toArray, List.set_cons_zero, List.set_cons_succ])
                refine wpAnyH_ready (rs := [3]) (by kernel_rfl) (by simp) ?_
                refine AllReadyH.cons rfl (fun K hK => ?_) AllReadyH.nil
                rw [if_pos (by rfl)]
                go_simp
                obtain ⟨X2, hX2⟩ : ∃ Y, Y = X1.alloc (.cells #[.slice aW k kW] 23) := ⟨_, rfl⟩
                obtain ⟨nA, hnA⟩ : ∃ n, n = X1.heap.size := ⟨_, rfl⟩
                have HNAX2 : Hid (X2.heap[nA]? = some (.cells #[.slice aW k kW] 23 (0, 0)) ∧ V.heap.size ≤ nA) := by rw [hX2, hnA]; exact ⟨heap_alloc_new _ _, HX1.out.o.size⟩
                have HX2 : Hid _ := HX1.out.alloc (.cells #[.slice aW k kW] 23)
                have HNBX2 : Hid (X2.heap[nB]? = some (.cells #[.int .u32 (ro : Int)] 38 (0, 0)) ∧ V.heap.size ≤ nB) := by rw [hX2]; exact ⟨blk_alloc _ HNBX1.out.1, HNBX1.out.2⟩
                rw [← hX2] at HX2 ⊢
                rw [← hnA]
                clear hX2 hnA
                refine hK.out _ _ (HCL.out X2 HX2.out.o).2.1 (fun hHeld => ?_)
                clear hK
                (try simp only [Act.put, List.setIfInBounds_toArray, List.set_cons_zero, List.set_cons_succ])
                refine wpAnyH_ready (rs := [4]) (by kernel_rfl) (by simp) ?_
                refine AllReadyH.cons rfl (fun K hK => ?_) AllReadyH.nil
                have yl := (HCL.out X2 HX2.out.o).2.2
                refine step_A (by rfl) _ _ (by rfl) (w.heap.size + 2) (.slice aN i kN) i vs (by rfl) HX2.out.a nA (.slice aW k kW) (by rfl) HNAX2.out.1 rfl (by omega) (by omega) ?_
                intro gA cA X3 hown hgrow
                have HNBX3 : Hid (X3.heap[nB]? = some (.cells #[.int .u32 (ro : Int)] 38 (0, 0)) ∧ V.heap.size ≤ nB) := ⟨blk_grow HNBX2.out.1 HX2.out.a hgrow (fun e => by have h1 := own_lt HOLD.out.nx e; have h2 := HNBX2.out.2; omega), HNBX2.out.2⟩
                have HX3 : Hid _ := HX2.out.appA hgrow hown
                clear hown hgrow yl
                refine hK.out _ _ (HCL.out X3 HX3.out.o).2.1 (fun hHeld => ?_)
                clear hK
                (try simp only [Act.put, List.setIfInBounds_toArray, List.set_cons_zero, List.set_cons_succ])
                refine wpAnyH_take (i := 14) (oi := { dst := some 67, op := _, type := _, pos := _, after := _, guard := _ }) (v := .pointer (some ⟨w.heap.size + 1, 0, none⟩)) rfl (by kernel_rfl) (by kernel_rfl) (by kernel_rfl) (fun _ _ _ h => h) (Or.inl ⟨by rfl, fun w hSw => by first | (go_simp; done) | go_simp⟩) (by assumption) ?_
                (try simp only [Act.put, List.setIfInBounds_toArray, List.set_cons_zero, List.set_cons_succ])
                refine wpAnyH_ready (rs := [13]) (by kernel_rfl) (by simp) ?_
                refine AllReadyH.cons rfl (fun K hK => ?_) AllReadyH.nil
                have yl := (HCL.out X3 HX3.out.o).2.2
                refine step_B (by rfl) _ _ (by rfl) (w.heap.size + 2) (.slice aO i kO) i (outs.map u32V) (by rfl) HX3.out.b nB (.int .u32 (ro : Int)) (by rfl) HNBX3.out.1 rfl (by omega) (by omega) ?_
                intro gB cB X4 hown hgrow
                have HX4 : Hid _ := HX3.out.appB hgrow hown
                clear hown hgrow yl
                refine hK.out _ _ (HCL.out X4 HX4.out.o).2.1 (fun hHeld => ?_)
                clear hK
                (try simp only [Act.put, List.setIfInBounds_toArray, List.set_cons_zero, List.set_cons_succ])
                have y := HCL.out X4 HX4.out.o
                have y0 : X4.cell? ⟨w.heap.size + 1, 0, none⟩ = some (.slice aN i kN) := cell_blk y.1
                have yf : ∀ q, X4.frozen? ⟨w.heap.size + 1, q, none⟩ = false := fun q => fz_blk y.1 q
                have yl := y.2.2
                have z := heap_setCell_at (k := 0) y.1 (.slice (some ⟨gA, 0, none⟩) (i + 1) cA)
                have z1 : (X4.setCell ⟨w.heap.size + 1, 0, none⟩ (.slice (some ⟨gA, 0, none⟩) (i + 1) cA)).cell? ⟨w.heap.size + 1, 1, none⟩ = some (.slice aO i kO) := cell_blk z
                have zf : ∀ q, (X4.setCell ⟨w.heap.size + 1, 0, none⟩ (.slice (some ⟨gA, 0, none⟩) (i + 1) cA)).frozen? ⟨w.heap.size + 1, q, none⟩ = false := fun q => fz_blk z q
                have HQ1 : Hid _ := HHS.out X4 0 (.slice (some ⟨gA, 0, none⟩) (i + 1) cA) y.2.1
                have HQ2 : Hid _ := HHS.out _ 1 (.slice (some ⟨gB, 0, none⟩) (i + 1) cB) HQ1.out
                clear y z
                refine wpAnyH_ready (rs := [15]) (by kernel_rfl) (by simp) ?_
                refine AllReadyH.cons rfl (fun K hK => ?_) AllReadyH.nil
                rw [if_pos (by rfl)]
                go_simp
                refine hK.out _ _ HQ1.out (fun hHeld => ?_)
                clear hK
                (try simp only [Act.put, List.setIfInBounds_toArray, List.set_cons_zero, List.set_cons_succ])
                refine wpAnyH_take (i := 16) (oi := { dst := some 68, op := _, type := _, pos := _, after := _, guard := _ }) (v := .pointer (some ⟨w.heap.size + 1, 1, none⟩)) rfl (by kernel_rfl) (by kernel_rfl) (by kernel_rfl) (fun _ _ _ h => h) (Or.inl ⟨by rfl, fun w hSw => by first | (go_simp; done) | go_simp⟩) (by assumption) ?_
                (try simp only [Act.put, List.setIfInBounds_toArray, List.set_cons_zero, List.set_cons_succ])
                refine wpAnyH_ready (rs := [17]) (by kernel_rfl) (by simp) ?_
                refine AllReadyH.cons rfl (fun K hK => ?_) AllReadyH.nil
                rw [if_pos (by rfl)]
                go_simp
                refine hK.out _ _ HQ2.out (fun hHeld => ?_)
                clear hK
                (try simp only [Act.put, List.setIfInBounds_toArray, List.set_cons_zero, List.set_cons_succ])
                refine wpAnyH_done (by kernel_rfl) ?_ _
                clear hHeld y0 yf yl z1 zf HQ1 HQ2
                go_wp2_with fail
                go_roundg (n - (i + 1))
                case measure => omega
                case rel =>
                  obtain ⟨r1, r2, r3, r4, r5, r6, r7, r8, r9, r10⟩ := HFIN.out _ _ _ _ _ HX4.out
                  exact ⟨i + 1, r1, r2, r3, r4, r5, _, rfl, rfl, by omega, by go_num, r6, r7, r8, r9, r10⟩
          · rw [if_pos (by rfl)]
            go_simp
            obtain ⟨X1, hX1⟩ : ∃ Y, Y = X0.alloc (.cells #[.slice aW k kW] 23) := ⟨_, rfl⟩
            obtain ⟨nA, hnA⟩ : ∃ n, n = X0.heap.size := ⟨_, rfl⟩
            have HNAX1 : Hid (X1.heap[nA]? = some (.cells #[.slice aW k kW] 23 (0, 0)) ∧ V.heap.size ≤ nA) := by rw [hX1, hnA]; exact ⟨heap_alloc_new _ _, HX0.out.o.size⟩
            have HX1 : Hid _ := HX0.out.alloc (.cells #[.slice aW k kW] 23)
            rw [← hX1] at HX1 ⊢
            rw [← hnA]
            clear hX1 hnA
            refine hK.out _ _ (HCL.out X1 HX1.out.o).2.1 (fun hHeld => ?_)
            clear hK
            (try simp only [Act.put, List.setIfInBounds_toArray, List.set_cons_zero, List.set_cons_succ])
            refine wpAnyH_ready (rs := [1, 6, 12]) (by kernel_rfl) (by simp) ?_
            refine AllReadyH.cons rfl (fun K hK => ?_) (AllReadyH.cons rfl (fun K hK => ?_) (AllReadyH.cons rfl (fun K hK => ?_) AllReadyH.nil))
            · have y := HCL.out X1 HX1.out.o
              have y0 : X1.cell? ⟨w.heap.size + 1, 0, none⟩ = some (.slice aN i kN) := cell_blk y.1
              have yl := y.2.2
              rw [if_pos (by rfl)]
              go_simp
              refine hK.out _ _ y.2.1 (fun hHeld => ?_)
              clear hK y y0 yl
              (try simp only [Act.put, List.setIfInBounds_toArray, List.set_cons_zero, List.set_cons_succ])
              refine wpAnyH_ready (rs := [4, 6, 12]) (by kernel_rfl) (by simp) ?_
              refine AllReadyH.cons rfl (fun K hK => ?_) (AllReadyH.cons rfl (fun K hK => ?_) (AllReadyH.cons rfl (fun K hK => ?_) AllReadyH.nil))
              · have yl := (HCL.out X1 HX1.out.o).2.2
                refine step_A (by rfl) _ _ (by rfl) (w.heap.size + 2) (.slice aN i kN) i vs (by rfl) HX1.out.a nA (.slice aW k kW) (by rfl) HNAX1.out.1 rfl (by omega) (by omega) ?_
                intro gA cA X2 hown hgrow
                have HX2 : Hid _ := HX1.out.appA hgrow hown
                clear hown hgrow yl
                refine hK.out _ _ (HCL.out X2 HX2.out.o).2.1 (fun hHeld => ?_)
                clear hK
                (try simp only [Act.put, List.setIfInBounds_toArray, List.set_cons_zero, List.set_cons_succ])
                refine wpAnyH_ready (rs := [6, 12]) (by kernel_rfl) (by simp) ?_
                refine AllReadyH.cons rfl (fun K hK => ?_) (AllReadyH.cons rfl (fun K hK => ?_) AllReadyH.nil)
                · have y := HCL.out X2 HX2.out.o
                  have y0 : X2.cell? ⟨w.heap.size + 1, 1, none⟩ = some (.slice aO i kO) := cell_blk y.1
                  have yl := y.2.2
                  rw [if_pos (by rfl)]
                  go_simp
                  refine hK.out _ _ y.2.1 (fun hHeld => ?_)
                  clear hK y y0 yl
                  (try simp only [Act.put, List.setIfInBounds_toArray, List.set_cons_zero, List.set_cons_succ])
                  refine wpAnyH_take (i := 14) (oi := { dst := some 67, op := _, type := _, pos := _, after := _, guard := _ }) (v := .pointer (some ⟨w.heap.size + 1, 0, none⟩)) rfl (by kernel_rfl) (by kernel_rfl) (by kernel_rfl) (fun _ _ _ h => h) (Or.inl ⟨by rfl, fun w hSw => by first | (go_simp; done) | go_simp⟩) (by assumption) ?_
                  (try simp only [Act.put, List.setIfInBounds_toArray, List.set_cons_zero, List.set_cons_succ])
                  refine wpAnyH_ready (rs := [12]) (by kernel_rfl) (by simp) ?_
                  refine AllReadyH.cons rfl (fun K hK => ?_) AllReadyH.nil
                  rw [if_pos (by rfl)]
                  go_simp
                  obtain ⟨X3, hX3⟩ : ∃ Y, Y = X2.alloc (.cells #[.int .u32 (ro : Int)] 38) := ⟨_, rfl⟩
                  obtain ⟨nB, hnB⟩ : ∃ n, n = X2.heap.size := ⟨_, rfl⟩
                  have HNBX3 : Hid (X3.heap[nB]? = some (.cells #[.int .u32 (ro : Int)] 38 (0, 0)) ∧ V.heap.size ≤ nB) := by rw [hX3, hnB]; exact ⟨heap_alloc_new _ _, HX2.out.o.size⟩
                  have HX3 : Hid _ := HX2.out.alloc (.cells #[.int .u32 (ro : Int)] 38)
                  rw [← hX3] at HX3 ⊢
                  rw [← hnB]
                  clear hX3 hnB
                  refine hK.out _ _ (HCL.out X3 HX3.out.o).2.1 (fun hHeld => ?_)
                  clear hK
                  (try simp only [Act.put, List.setIfInBounds_toArray, List.set_cons_zero, List.set_cons_succ])
                  refine wpAnyH_ready (rs := [13]) (by kernel_rfl) (by simp) ?_
                  refine AllReadyH.cons rfl (fun K hK => ?_) AllReadyH.nil
                  have yl := (HCL.out X3 HX3.out.o).2.2
                  refine step_B (by rfl) _ _ (by rfl) (w.heap.size + 2) (.slice aO i kO) i (outs.map u32V) (by rfl) HX3.out.b nB (.int .u32 (ro : Int)) (by rfl) HNBX3.out.1 rfl (by omega) (by omega) ?_
                  intro gB cB X4 hown hgrow
                  have HX4 : Hid _ := HX3.out.appB hgrow hown
                  clear hown hgrow yl
                  refine hK.out _ _ (HCL.out X4 HX4.out.o).2.1 (fun hHeld => ?_)
                  clear hK
                  (try simp only [Act.put, List.setIfInBounds_toArray, List.set_cons_zero, List.set_cons_succ])
                  have y := HCL.out X4 HX4.out.o
                  have y0 : X4.cell? ⟨w.heap.size + 1, 0, none⟩ = some (.slice aN i kN) := cell_blk y.1
                  have yf : ∀ q, X4.frozen? ⟨w.heap.size + 1, q, none⟩ = false := fun q => fz_blk y.1 q
                  have yl := y.2.2
                  have z := heap_setCell_at (k := 0) y.1 (.slice (some ⟨gA, 0, none⟩) (i + 1) cA)
                  have z1 : (X4.setCell ⟨w.heap.size + 1, 0, none⟩ (.slice (some ⟨gA, 0, none⟩) (i + 1) cA)).cell? ⟨w.heap.size + 1, 1, none⟩ = some (.slice aO i kO) := cell_blk z
                  have zf : ∀ q, (X4.setCell ⟨w.heap.size + 1, 0, none⟩ (.slice (some ⟨gA, 0, none⟩) (i + 1) cA)).frozen? ⟨w.heap.size + 1, q, none⟩ = false := fun q => fz_blk z q
                  have HQ1 : Hid _ := HHS.out X4 0 (.slice (some ⟨gA, 0, none⟩) (i + 1) cA) y.2.1
                  have HQ2 : Hid _ := HHS.out _ 1 (.slice (some ⟨gB, 0, none⟩) (i + 1) cB) HQ1.out
                  clear y z
                  refine wpAnyH_ready (rs := [15]) (by kernel_rfl) (by simp) ?_
                  refine AllReadyH.cons rfl (fun K hK => ?_) AllReadyH.nil
                  rw [if_pos (by rfl)]
                  go_simp
                  refine hK.out _ _ HQ1.out (fun hHeld => ?_)
                  clear hK
                  (try simp only [Act.put, List.setIfInBounds_toArray, List.set_cons_zero, List.set_cons_succ])
                  refine wpAnyH_take (i := 16) (oi := { dst := some 68, op := _, type := _, pos := _, after := _, guard := _ }) (v := .pointer (some ⟨w.heap.size + 1, 1, none⟩)) rfl (by kernel_rfl) (by kernel_rfl) (by kernel_rfl) (fun _ _ _ h => h) (Or.inl ⟨by rfl, fun w hSw => by first | (go_simp; done) | go_simp⟩) (by assumption) ?_
                  (try simp only [Act.put, List.setIfInBounds_toArray, List.set_cons_zero, List.set_cons_succ])
                  refine wpAnyH_ready (rs := [17]) (by kernel_rfl) (by simp) ?_
                  refine AllReadyH.cons rfl (fun K hK => ?_) AllReadyH.nil
                  rw [if_pos (by rfl)]
                  go_simp
                  refine hK.out _ _ HQ2.out (fun hHeld => ?_)
                  clear hK
                  (try simp only [Act.put, List.setIfInBounds_toArray, List.set_cons_zero, List.set_cons_succ])
                  refine wpAnyH_done (by kernel_rfl) ?_ _
                  clear hHeld y0 yf yl z1 zf HQ1 HQ2
                  go_wp2_with fail
                  go_roundg (n - (i + 1))
                  case measure => omega
                  case rel =>
                    obtain ⟨r1, r2, r3, r4, r5, r6, r7, r8, r9, r10⟩ := HFIN.out _ _ _ _ _ HX4.out
                    exact ⟨i + 1, r1, r2, r3, r4, r5, _, rfl, rfl, by omega, by go_num, r6, r7, r8, r9, r10⟩
                · rw [if_pos (by rfl)]
                  go_simp
                  obtain ⟨X3, hX3⟩ : ∃ Y, Y = X2.alloc (.cells #[.int .u32 (ro : Int)] 38) := ⟨_, rfl⟩
                  obtain ⟨nB, hnB⟩ : ∃ n, n = X2.heap.size := ⟨_, rfl⟩
                  have HNBX3 : Hid (X3.heap[nB]? = some (.cells #[.int .u32 (ro : Int)] 38 (0, 0)) ∧ V.heap.size ≤ nB) := by rw [hX3, hnB]; exact ⟨heap_alloc_new _ _, HX2.out.o.size⟩
                  have HX3 : Hid _ := HX2.out.alloc (.cells #[.int .u32 (ro : Int)] 38)
                  rw [← hX3] at HX3 ⊢
                  rw [← hnB]
                  clear hX3 hnB
                  refine hK.out _ _ (HCL.out X3 HX3.out.o).2.1 (fun hHeld => ?_)
                  clear hK
                  (try simp only [Act.put, List.setIfInBounds_toArray, List.set_cons_zero, List.set_cons_succ])
                  refine wpAnyH_ready (rs := [6]) (by kernel_rfl) (by simp) ?_
                  refine AllReadyH.cons rfl (fun K hK => ?_) AllReadyH.nil
                  have y := HCL.out X3 HX3.out.o
                  have y0 : X3.cell? ⟨w.heap.size + 1, 1, none⟩ = some (.slice aO i kO) := cell_blk y.1
                  have yl := y.2.2
                  rw [if_pos (by rfl)]
                  go_simp
                  refine hK.out _ _ y.2.1 (fun hHeld => ?_)
                  clear hK y y0 yl
                  (try simp only [Act.put, List.setIfInBounds_toArray, List.set_cons_zero, List.set_cons_succ])
                  refine wpAnyH_take (i := 14) (oi := { dst := some 67, op := _, type := _, pos := _, after := _, guard := _ }) (v := .pointer (some ⟨w.heap.size + 1, 0, none⟩)) rfl (by kernel_rfl) (by kernel_rfl) (by kernel_rfl) (fun _ _ _ h => h) (Or.inl ⟨by rfl, fun w hSw => by first | (go_simp; done) | go_simp⟩) (by assumption) ?_
                  (try simp only [Act.put, List.setIfInBounds_toArray, List.set_cons_zero, List.set_cons_succ])
                  refine wpAnyH_ready (rs := [13]) (by kernel_rfl) (by simp) ?_
                  refine AllReadyH.cons rfl (fun K hK => ?_) AllReadyH.nil
                  have yl := (HCL.out X3 HX3.out.o).2.2
                  refine step_B (by rfl) _ _ (by rfl) (w.heap.size + 2) (.slice aO i kO) i (outs.map u32V) (by rfl) HX3.out.b nB (.int .u32 (ro : Int)) (by rfl) HNBX3.out.1 rfl (by omega) (by omega) ?_
                  intro gB cB X4 hown hgrow
                  have HX4 : Hid _ := HX3.out.appB hgrow hown
                  clear hown hgrow yl
                  refine hK.out _ _ (HCL.out X4 HX4.out.o).2.1 (fun hHeld => ?_)
                  clear hK
                  (try simp only [Act.put, List.setIfInBounds_toArray, List.set_cons_zero, List.set_cons_succ])
                  have y := HCL.out X4 HX4.out.o
                  have y0 : X4.cell? ⟨w.heap.size + 1, 0, none⟩ = some (.slice aN i kN) := cell_blk y.1
                  have yf : ∀ q, X4.frozen? ⟨w.heap.size + 1, q, none⟩ = false := fun q => fz_blk y.1 q
                  have yl := y.2.2
                  have z := heap_setCell_at (k := 0) y.1 (.slice (some ⟨gA, 0, none⟩) (i + 1) cA)
                  have z1 : (X4.setCell ⟨w.heap.size + 1, 0, none⟩ (.slice (some ⟨gA, 0, none⟩) (i + 1) cA)).cell? ⟨w.heap.size + 1, 1, none⟩ = some (.slice aO i kO) := cell_blk z
                  have zf : ∀ q, (X4.setCell ⟨w.heap.size + 1, 0, none⟩ (.slice (some ⟨gA, 0, none⟩) (i + 1) cA)).frozen? ⟨w.heap.size + 1, q, none⟩ = false := fun q => fz_blk z q
                  have HQ1 : Hid _ := HHS.out X4 0 (.slice (some ⟨gA, 0, none⟩) (i + 1) cA) y.2.1
                  have HQ2 : Hid _ := HHS.out _ 1 (.slice (some ⟨gB, 0, none⟩) (i + 1) cB) HQ1.out
                  clear y z
                  refine wpAnyH_ready (rs := [15]) (by kernel_rfl) (by simp) ?_
                  refine AllReadyH.cons rfl (fun K hK => ?_) AllReadyH.nil
                  rw [if_pos (by rfl)]
                  go_simp
                  refine hK.out _ _ HQ1.out (fun hHeld => ?_)
                  clear hK
                  (try simp only [Act.put, List.setIfInBounds_toArray, List.set_cons_zero, List.set_cons_succ])
                  refine wpAnyH_take (i := 16) (oi := { dst := some 68, op := _, type := _, pos := _, after := _, guard := _ }) (v := .pointer (some ⟨w.heap.size + 1, 1, none⟩)) rfl (by kernel_rfl) (by kernel_rfl) (by kernel_rfl) (fun _ _ _ h => h) (Or.inl ⟨by rfl, fun w hSw => by first | (go_simp; done) | go_simp⟩) (by assumption) ?_
                  (try simp only [Act.put, List.setIfInBounds_toArray, List.set_cons_zero, List.set_cons_succ])
                  refine wpAnyH_ready (rs := [17]) (by kernel_rfl) (by simp) ?_
                  refine AllReadyH.cons rfl (fun K hK => ?_) AllReadyH.nil
                  rw [if_pos (by rfl)]
                  go_simp
                  refine hK.out _ _ HQ2.out (fun hHeld => ?_)
                  clear hK
                  (try simp only [Act.put, List.setIfInBounds_toArray, List.set_cons_zero, List.set_cons_succ])
                  refine wpAnyH_done (by kernel_rfl) ?_ _
                  clear hHeld y0 yf yl z1 zf HQ1 HQ2
                  go_wp2_with fail
                  go_roundg (n - (i + 1))
                  case measure => omega
                  case rel =>
                    obtain ⟨r1, r2, r3, r4, r5, r6, r7, r8, r9, r10⟩ := HFIN.out _ _ _ _ _ HX4.out
                    exact ⟨i + 1, r1, r2, r3, r4, r5, _, rfl, rfl, by omega, by go_num, r6, r7, r8, r9, r10⟩
              · have y := HCL.out X1 HX1.out.o
                have y0 : X1.cell? ⟨w.heap.size + 1, 1, none⟩ = some (.slice aO i kO) := cell_blk y.1
                have yl := y.2.2
                rw [if_pos (by rfl)]
                go_simp
                refine hK.out _ _ y.2.1 (fun hHeld => ?_)
                clear hK y y0 yl
                (try simp only [Act.put, List.setIfInBounds_toArray, List.set_cons_zero, List.set_cons_succ])
                refine wpAnyH_ready (rs := [4, 12]) (by kernel_rfl) (by simp) ?_
                refine AllReadyH.cons rfl (fun K hK => ?_) (AllReadyH.cons rfl (fun K hK => ?_) AllReadyH.nil)
                · have yl := (HCL.out X1 HX1.out.o).2.2
                  refine step_A (by rfl) _ _ (by rfl) (w.heap.size + 2) (.slice aN i kN) i vs (by rfl) HX1.out.a nA (.slice aW k kW) (by rfl) HNAX1.out.1 rfl (by omega) (by omega) ?_
                  intro gA cA X2 hown hgrow
                  have HX2 : Hid _ := HX1.out.appA hgrow hown
                  clear hown hgrow yl
                  refine hK.out _ _ (HCL.out X2 HX2.out.o).2.1 (fun hHeld => ?_)
                  clear hK
                  (try simp only [Act.put, List.setIfInBounds_toArray, List.set_cons_zero, List.set_cons_succ])
                  refine wpAnyH_take (i := 14) (oi := { dst := some 67, op := _, type := _, pos := _, after := _, guard := _ }) (v := .pointer (some ⟨w.heap.size + 1, 0, none⟩)) rfl (by kernel_rfl) (by kernel_rfl) (by kernel_rfl) (fun _ _ _ h => h) (Or.inl ⟨by rfl, fun w hSw => by first | (go_simp; done) | go_simp⟩) (by assumption) ?_
                  (try simp only [Act.put, List.setIfInBounds_toArray, List.set_cons_zero, List.set_cons_succ])
                  refine wpAnyH_ready (rs := [12]) (by kernel_rfl) (by simp) ?_
                  refine AllReadyH.cons rfl (fun K hK => ?_) AllReadyH.nil
                  rw [if_pos (by rfl)]
                  go_simp
                  obtain ⟨X3, hX3⟩ : ∃ Y, Y = X2.alloc (.cells #[.int .u32 (ro : Int)] 38) := ⟨_, rfl⟩
                  obtain ⟨nB, hnB⟩ : ∃ n, n = X2.heap.size := ⟨_, rfl⟩
                  have HNBX3 : Hid (X3.heap[nB]? = some (.cells #[.int .u32 (ro : Int)] 38 (0, 0)) ∧ V.heap.size ≤ nB) := by rw [hX3, hnB]; exact ⟨heap_alloc_new _ _, HX2.out.o.size⟩
                  have HX3 : Hid _ := HX2.out.alloc (.cells #[.int .u32 (ro : Int)] 38)
                  rw [← hX3] at HX3 ⊢
                  rw [← hnB]
                  clear hX3 hnB
                  refine hK.out _ _ (HCL.out X3 HX3.out.o).2.1 (fun hHeld => ?_)
                  clear hK
                  (try simp only [Act.put, List.setIfInBounds_toArray, List.set_cons_zero, List.set_cons_succ])
                  refine wpAnyH_ready (rs := [13]) (by kernel_rfl) (by simp) ?_
                  refine AllReadyH.cons rfl (fun K hK => ?_) AllReadyH.nil
                  have yl := (HCL.out X3 HX3.out.o).2.2
                  refine step_B (by rfl) _ _ (by rfl) (w.heap.size + 2) (.slice aO i kO) i (outs.map u32V) (by rfl) HX3.out.b nB (.int .u32 (ro : Int)) (by rfl) HNBX3.out.1 rfl (by omega) (by omega) ?_
                  intro gB cB X4 hown hgrow
                  have HX4 : Hid _ := HX3.out.appB hgrow hown
                  clear hown hgrow yl
                  refine hK.out _ _ (HCL.out X4 HX4.out.o).2.1 (fun hHeld => ?_)
                  clear hK
                  (try simp only [Act.put, List.setIfInBounds_toArray, List.set_cons_zero, List.set_cons_succ])
                  have y := HCL.out X4 HX4.out.o
                  have y0 : X4.cell? ⟨w.heap.size + 1, 0, none⟩ = some (.slice aN i kN) := cell_blk y.1
                  have yf : ∀ q, X4.frozen? ⟨w.heap.size + 1, q, none⟩ = false := fun q => fz_blk y.1 q
                  have yl := y.2.2
                  have z := heap_setCell_at (k := 0) y.1 (.slice (some ⟨gA, 0, none⟩) (i + 1) cA)
                  have z1 : (X4.setCell ⟨w.heap.size + 1, 0, none⟩ (.slice (some ⟨gA, 0, none⟩) (i + 1) cA)).cell? ⟨w.heap.size + 1, 1, none⟩ = some (.slice aO i kO) := cell_blk z
                  have zf : ∀ q, (X4.setCell ⟨w.heap.size + 1, 0, none⟩ (.slice (some ⟨gA, 0, none⟩) (i + 1) cA)).frozen? ⟨w.heap.size + 1, q, none⟩ = false := fun q => fz_blk z q
                  have HQ1 : Hid _ := HHS.out X4 0 (.slice (some ⟨gA, 0, none⟩) (i + 1) cA) y.2.1
                  have HQ2 : Hid _ := HHS.out _ 1 (.slice (some ⟨gB, 0, none⟩) (i + 1) cB) HQ1.out
                  clear y z
                  refine wpAnyH_ready (rs := [15]) (by kernel_rfl) (by simp) ?_
                  refine AllReadyH.cons rfl (fun K hK => ?_) AllReadyH.nil
                  rw [if_pos (by rfl)]
                  go_simp
                  refine hK.out _ _ HQ1.out (fun hHeld => ?_)
                  clear hK
                  (try simp only [Act.put, List.setIfInBounds_toArray, List.set_cons_zero, List.set_cons_succ])
                  refine wpAnyH_take (i := 16) (oi := { dst := some 68, op := _, type := _, pos := _, after := _, guard := _ }) (v := .pointer (some ⟨w.heap.size + 1, 1, none⟩)) rfl (by kernel_rfl) (by kernel_rfl) (by kernel_rfl) (fun _ _ _ h => h) (Or.inl ⟨by rfl, fun w hSw => by first | (go_simp; done) | go_simp⟩) (by assumption) ?_
                  (try simp only [Act.put, List.setIfInBounds_toArray, List.set_cons_zero, List.set_cons_succ])
                  refine wpAnyH_ready (rs := [17]) (by kernel_rfl) (by simp) ?_
                  refine AllReadyH.cons rfl (fun K hK => ?_) AllReadyH.nil
                  rw [if_pos (by rfl)]
                  go_simp
                  refine hK.out _ _ HQ2.out (fun hHeld => ?_)
                  clear hK
                  (try simp only [Act.put, List.setIfInBounds_toArray, List.set_cons_zero, List.set_cons_succ])
                  refine wpAnyH_done (by kernel_rfl) ?_ _
                  clear hHeld y0 yf yl z1 zf HQ1 HQ2
                  go_wp2_with fail
                  go_roundg (n - (i + 1))
                  case measure => omega
                  case rel =>
                    obtain ⟨r1, r2, r3, r4, r5, r6, r7, r8, r9, r10⟩ := HFIN.out _ _ _ _ _ HX4.out
                    exact ⟨i + 1, r1, r2, r3, r4, r5, _, rfl, rfl, by omega, by go_num, r6, r7, r8, r9, r10⟩
                · rw [if_pos (by rfl)]
                  go_simp
                  obtain ⟨X2, hX2⟩ : ∃ Y, Y = X1.alloc (.cells #[.int .u32 (ro : Int)] 38) := ⟨_, rfl⟩
                  obtain ⟨nB, hnB⟩ : ∃ n, n = X1.heap.size := ⟨_, rfl⟩
                  have HNBX2 : Hid (X2.heap[nB]? = some (.cells #[.int .u32 (ro : Int)] 38 (0, 0)) ∧ V.heap.size ≤ nB) := by rw [hX2, hnB]; exact ⟨heap_alloc_new _ _, HX1.out.o.size⟩
                  have HX2 : Hid _ := HX1.out.alloc (.cells #[.int .u32 (ro : Int)] 38)
                  have HNAX2 : Hid (X2.heap[nA]? = some (.cells #[.slice aW k kW] 23 (0, 0)) ∧ V.heap.size ≤ nA) := by rw [hX2]; exact ⟨blk_alloc _ HNAX1.out.1, HNAX1.out.2⟩
                  rw [← hX2] at HX2 ⊢
                  rw [← hnB]
                  clear hX2 hnB
                  refine hK.out _ _ (HCL.out X2 HX2.out.o).2.1 (fun hHeld => ?_)
                  clear hK
                  (try simp only [Act.put, List.setIfInBounds_toArray, List.set_cons_zero, List.set_cons_succ])
                  refine wpAnyH_ready (rs := [4]) (by kernel_rfl) (by simp) ?_
                  refine AllReadyH.cons rfl (fun K hK => ?_) AllReadyH.nil
                  have yl := (HCL.out X2 HX2.out.o).2.2
                  refine step_A (by rfl) _ _ (by rfl) (w.heap.size + 2) (.slice aN i kN) i vs (by rfl) HX2.out.a nA (.slice aW k kW) (by rfl) HNAX2.out.1 rfl (by omega) (by omega) ?_
                  intro gA cA X3 hown hgrow
                  have HNBX3 : Hid (X3.heap[nB]? = some (.cells #[.int .u32 (ro : Int)] 38 (0, 0)) ∧ V.heap.size ≤ nB) := ⟨blk_grow HNBX2.out.1 HX2.out.a hgrow (fun e => by have h1 := own_lt HOLD.out.nx e; have h2 := HNBX2.out.2; omega), HNBX2.out.2⟩
                  have HX3 : Hid _ := HX2.out.appA hgrow hown
                  clear hown hgrow yl
                  refine hK.out _ _ (HCL.out X3 HX3.out.o).2.1 (fun hHeld => ?_)
                  clear hK
                  (try simp only [Act.put, List.setIfInBounds_toArray, List.set_cons_zero, List.set_cons_succ])
                  refine wpAnyH_take (i := 14) (oi := { dst := some 67, op := _, type := _, pos := _, after := _, guard := _ }) (v := .pointer (some ⟨w.heap.size + 1, 0, none⟩)) rfl (by kernel_rfl) (by kernel_rfl) (by kernel_rfl) (fun _ _ _ h => h) (Or.inl ⟨by rfl, fun w hSw => by first | (go_simp; done) | go_simp⟩) (by assumption) ?_
                  (try simp only [Act.put, List.setIfInBounds_toArray, List.set_cons_zero, List.set_cons_succ])
                  refine wpAnyH_ready (rs := [13]) (by kernel_rfl) (by simp) ?_
                  refine AllReadyH.cons rfl (fun K hK => ?_) AllReadyH.nil
                  have yl := (HCL.out X3 HX3.out.o).2.2
                  refine step_B (by rfl) _ _ (by rfl) (w.heap.size + 2) (.slice aO i kO) i (outs.map u32V) (by rfl) HX3.out.b nB (.int .u32 (ro : Int)) (by rfl) HNBX3.out.1 rfl (by omega) (by omega) ?_
                  intro gB cB X4 hown hgrow
                  have HX4 : Hid _ := HX3.out.appB hgrow hown
                  clear hown hgrow yl
                  refine hK.out _ _ (HCL.out X4 HX4.out.o).2.1 (fun hHeld => ?_)
                  clear hK
                  (try simp only [Act.put, List.setIfInBounds_toArray, List.set_cons_zero, List.set_cons_succ])
                  have y := HCL.out X4 HX4.out.o
                  have y0 : X4.cell? ⟨w.heap.size + 1, 0, none⟩ = some (.slice aN i kN) := cell_blk y.1
                  have yf : ∀ q, X4.frozen? ⟨w.heap.size + 1, q, none⟩ = false := fun q => fz_blk y.1 q
                  have yl := y.2.2
                  have z := heap_setCell_at (k := 0) y.1 (.slice (some ⟨gA, 0, none⟩) (i + 1) cA)
                  have z1 : (X4.setCell ⟨w.heap.size + 1, 0, none⟩ (.slice (some ⟨gA, 0, none⟩) (i + 1) cA)).cell? ⟨w.heap.size + 1, 1, none⟩ = some (.slice aO i kO) := cell_blk z
                  have zf : ∀ q, (X4.setCell ⟨w.heap.size + 1, 0, none⟩ (.slice (some ⟨gA, 0, none⟩) (i + 1) cA)).frozen? ⟨w.heap.size + 1, q, none⟩ = false := fun q => fz_blk z q
                  have HQ1 : Hid _ := HHS.out X4 0 (.slice (some ⟨gA, 0, none⟩) (i + 1) cA) y.2.1
                  have HQ2 : Hid _ := HHS.out _ 1 (.slice (some ⟨gB, 0, none⟩) (i + 1) cB) HQ1.out
                  clear y z
                  refine wpAnyH_ready (rs := [15]) (by kernel_rfl) (by simp) ?_
                  refine AllReadyH.cons rfl (fun K hK => ?_) AllReadyH.nil
                  rw [if_pos (by rfl)]
                  go_simp
                  refine hK.out _ _ HQ1.out (fun hHeld => ?_)
                  clear hK
                  (try simp only [Act.put, List.setIfInBounds_toArray, List.set_cons_zero, List.set_cons_succ])
                  refine wpAnyH_take (i := 16) (oi := { dst := some 68, op := _, type := _, pos := _, after := _, guard := _ }) (v := .pointer (some ⟨w.heap.size + 1, 1, none⟩)) rfl (by kernel_rfl) (by kernel_rfl) (by kernel_rfl) (fun _ _ _ h => h) (Or.inl ⟨by rfl, fun w hSw => by first | (go_simp; done) | go_simp⟩) (by assumption) ?_
                  (try simp only [Act.put, List.setIfInBounds_toArray, List.set_cons_zero, List.set_cons_succ])
                  refine wpAnyH_ready (rs := [17]) (by kernel_rfl) (by simp) ?_
                  refine AllReadyH.cons rfl (fun K hK => ?_) AllReadyH.nil
                  rw [if_pos (by rfl)]
                  go_simp
                  refine hK.out _ _ HQ2.out (fun hHeld => ?_)
                  clear hK
                  (try simp only [Act.put, List.setIfInBounds_toArray, List.set_cons_zero, List.set_cons_succ])
                  refine wpAnyH_done (by kernel_rfl) ?_ _
                  clear hHeld y0 yf yl z1 zf HQ1 HQ2
                  go_wp2_with fail
                  go_roundg (n - (i + 1))
                  case measure => omega
                  case rel =>
                    obtain ⟨r1, r2, r3, r4, r5, r6, r7, r8, r9, r10⟩ := HFIN.out _ _ _ _ _ HX4.out
                    exact ⟨i + 1, r1, r2, r3, r4, r5, _, rfl, rfl, by omega, by go_num, r6, r7, r8, r9, r10⟩
              · rw [if_pos (by rfl)]
                go_simp
                obtain ⟨X2, hX2⟩ : ∃ Y, Y = X1.alloc (.cells #[.int .u32 (ro : Int)] 38) := ⟨_, rfl⟩
                obtain ⟨nB, hnB⟩ : ∃ n, n = X1.heap.size := ⟨_, rfl⟩
                have HNBX2 : Hid (X2.heap[nB]? = some (.cells #[.int .u32 (ro : Int)] 38 (0, 0)) ∧ V.heap.size ≤ nB) := by rw [hX2, hnB]; exact ⟨heap_alloc_new _ _, HX1.out.o.size⟩
                have HX2 : Hid _ := HX1.out.alloc (.cells #[.int .u32 (ro : Int)] 38)
                have HNAX2 : Hid (X2.heap[nA]? = some (.cells #[.slice aW k kW] 23 (0, 0)) ∧ V.heap.size ≤ nA) := by rw [hX2]; exact ⟨blk_alloc _ HNAX1.out.1, HNAX1.out.2⟩
                rw [← hX2] at HX2 ⊢
                rw [← hnB]
                clear hX2 hnB
                refine hK.out _ _ (HCL.out X2 HX2.out.o).2.1 (fun hHeld => ?_)
                clear hK
                (try simp only [Act.put, List.setIfInBounds_toArray, List.set_cons_zero, List.set_cons_succ])
                refine wpAnyH_ready (rs := [4, 6]) (by kernel_rfl) (by simp) ?_
                refine AllReadyH.cons rfl (fun K hK => ?_) (AllReadyH.cons rfl (fun K hK => ?_) AllReadyH.nil)
                · have yl := (HCL.out X2 HX2.out.o).2.2
                  refine step_A (by rfl) _ _ (by rfl) (w.heap.size + 2) (.slice aN i kN) i vs (by rfl) HX2.out.a nA (.slice aW k kW) (by rfl) HNAX2.out.1 rfl (by omega) (by omega) ?_
                  intro gA cA X3 hown hgrow
                  have HNBX3 : Hid (X3.heap[nB]? = some (.cells #[.int .u32 (ro : Int)] 38 (0, 0)) ∧ V.heap.size ≤ nB) := ⟨blk_grow HNBX2.out.1 HX2.out.a hgrow (fun e => by have h1 := own_lt HOLD.out.nx e; have h2 := HNBX2.out.2; omega), HNBX2.out.2⟩
                  have HX3 : Hid _ := HX2.out.appA hgrow hown
                  clear hown hgrow yl
                  refine hK.out _ _ (HCL.out X3 HX3.out.o).2.1 (fun hHeld => ?_)
                  clear hK
                  (try simp only [Act.put, List.setIfInBounds_toArray, List.set_cons_zero, List.set_cons_succ])
                  refine wpAnyH_ready (rs := [6]) (by kernel_rfl) (by simp) ?_
                  refine AllReadyH.cons rfl (fun K hK => ?_) AllReadyH.nil
                  have y := HCL.out X3 HX3.out.o
                  have y0 : X3.cell? ⟨w.heap.size + 1, 1, none⟩ = some (.slice aO i kO) := cell_blk y.1
                  have yl := y.2.2
                  rw [if_pos (by rfl)]
                  go_simp
                  refine hK.out _ _ y.2.1 (fun hHeld => ?_)
                  clear hK y y0 yl
                  (try simp only [Act.put, List.setIfInBounds_toArray, List.set_cons_zero, List.set_cons_succ])
                  refine wpAnyH_take (i := 14) (oi := { dst := some 67, op := _, type := _, pos := _, after := _, guard := _ }) (v := .pointer (some ⟨w.heap.size + 1, 0, none⟩)) rfl (by kernel_rfl) (by kernel_rfl) (by kernel_rfl) (fun _ _ _ h => h) (Or.inl ⟨by rfl, fun w hSw => by first | (go_simp; done) | go_simp⟩) (by assumption) ?_
                  (try simp only [Act.put, List.setIfInBounds_toArray, List.set_cons_zero, List.set_cons_succ])
                  refine wpAnyH_ready (rs := [13]) (by kernel_rfl) (by simp) ?_
                  refine AllReadyH.cons rfl (fun K hK => ?_) AllReadyH.nil
                  have yl := (HCL.out X3 HX3.out.o).2.2
                  refine step_B (by rfl) _ _ (by rfl) (w.heap.size + 2) (.slice aO i kO) i (outs.map u32V) (by rfl) HX3.out.b nB (.int .u32 (ro : Int)) (by rfl) HNBX3.out.1 rfl (by omega) (by omega) ?_
                  intro gB cB X4 hown hgrow
                  have HX4 : Hid _ := HX3.out.appB hgrow hown
                  clear hown hgrow yl
                  refine hK.out _ _ (HCL.out X4 HX4.out.o).2.1 (fun hHeld => ?_)
                  clear hK
                  (try simp only [Act.put, List.setIfInBounds_toArray, List.set_cons_zero, List.set_cons_succ])
                  have y := HCL.out X4 HX4.out.o
                  have y0 : X4.cell? ⟨w.heap.size + 1, 0, none⟩ = some (.slice aN i kN) := cell_blk y.1
                  have yf : ∀ q, X4.frozen? ⟨w.heap.size + 1, q, none⟩ = false := fun q => fz_blk y.1 q
                  have yl := y.2.2
                  have z := heap_setCell_at (k := 0) y.1 (.slice (some ⟨gA, 0, none⟩) (i + 1) cA)
                  have z1 : (X4.setCell ⟨w.heap.size + 1, 0, none⟩ (.slice (some ⟨gA, 0, none⟩) (i + 1) cA)).cell? ⟨w.heap.size + 1, 1, none⟩ = some (.slice aO i kO) := cell_blk z
                  have zf : ∀ q, (X4.setCell ⟨w.heap.size + 1, 0, none⟩ (.slice (some ⟨gA, 0, none⟩) (i + 1) cA)).frozen? ⟨w.heap.size + 1, q, none⟩ = false := fun q => fz_blk z q
                  have HQ1 : Hid _ := HHS.out X4 0 (.slice (some ⟨gA, 0, none⟩) (i + 1) cA) y.2.1
                  have HQ2 : Hid _ := HHS.out _ 1 (.slice (some ⟨gB, 0, none⟩) (i + 1) cB) HQ1.out
                  clear y z
                  refine wpAnyH_ready (rs := [15]) (by kernel_rfl) (by simp) ?_
                  refine AllReadyH.cons rfl (fun K hK => ?_) AllReadyH.nil
                  rw [if_pos (by rfl)]
                  go_simp
                  refine hK.out _ _ HQ1.out (fun hHeld => ?_)
                  clear hK
                  (try simp only [Act.put, List.setIfInBounds_toArray, List.set_cons_zero, List.set_cons_succ])
                  refine wpAnyH_take (i := 16) (oi := { dst := some 68, op := _, type := _, pos := _, after := _, guard := _ }) (v := .pointer (some ⟨w.heap.size + 1, 1, none⟩)) rfl (by kernel_rfl) (by kernel_rfl) (by kernel_rfl) (fun _ _ _ h => h) (Or.inl ⟨by rfl, fun w hSw => by first | (go_simp; done) | go_simp⟩) (by assumption) ?_
                  (try simp only [Act.put, List.setIfInBounds_toArray, List.set_cons_zero, List.set_cons_succ])
                  refine wpAnyH_ready (rs := [17]) (by kernel_rfl) (by simp) ?_
                  refine AllReadyH.cons rfl (fun K hK => ?_) AllReadyH.nil
                  rw [if_pos (by rfl)]
                  go_simp
                  refine hK.out _ _ HQ2.out (fun hHeld => ?_)
                  clear hK
                  (try simp only [Act.put, List.setIfInBounds_toArray, List.set_cons_zero, List.set_cons_succ])
                  refine wpAnyH_done (by kernel_rfl) ?_ _
                  clear hHeld y0 yf yl z1 zf HQ1 HQ2
                  go_wp2_with fail
                  go_roundg (n - (i + 1))
                  case measure => omega
                  case rel =>
                    obtain ⟨r1, r2, r3, r4, r5, r6, r7, r8, r9, r10⟩ := HFIN.out _ _ _ _ _ HX4.out
                    exact ⟨i + 1, r1, r2, r3, r4, r5, _, rfl, rfl, by omega, by go_num, r6, r7, r8, r9, r10⟩
                · have y := HCL.out X2 HX2.out.o
                  have y0 : X2.cell? ⟨w.heap.size + 1, 1, none⟩ = some (.slice aO i kO) := cell_blk y.1
                  have yl := y.2.2
                  rw [if_pos (by rfl)]
                  go_simp
                  refine hK.out _ _ y.2.1 (fun hHeld => ?_)
                  clear hK y y0 yl
                  (try simp only [Act.put, List.setIfInBounds_toArray, List.set_cons_zero, List.set_cons_succ])
                  refine wpAnyH_ready (rs := [4]) (by kernel_rfl) (by simp) ?_
                  refine AllReadyH.cons rfl (fun K hK => ?_) AllReadyH.nil
                  have yl := (HCL.out X2 HX2.out.o).2.2
                  refine step_A (by rfl) _ _ (by rfl) (w.heap.size + 2) (.slice aN i kN) i vs (by rfl) HX2.out.a nA (.slice aW k kW) (by rfl) HNAX2.out.1 rfl (by omega) (by omega) ?_
                  intro gA cA X3 hown hgrow
                  have HNBX3 : Hid (X3.heap[nB]? = some (.cells #[.int .u32 (ro : Int)] 38 (0, 0)) ∧ V.heap.size ≤ nB) := ⟨blk_grow HNBX2.out.1 HX2.out.a hgrow (fun e => by have h1 := own_lt HOLD.out.nx e; have h2 := HNBX2.out.2; omega), HNBX2.out.2⟩
                  have HX3 : Hid _ := HX2.out.appA hgrow hown
                  clear hown hgrow yl
                  refine hK.out _ _ (HCL.out X3 HX3.out.o).2.1 (fun hHeld => ?_)
                  clear hK
                  (try simp only [Act.put, List.setIfInBounds_toArray, List.set_cons_zero, List.set_cons_succ])
                  refine wpAnyH_take (i := 14) (oi := { dst := some 67, op := _, type := _, pos := _, after := _, guard := _ }) (v := .pointer (some ⟨w.heap.size + 1, 0, none⟩)) rfl (by kernel_rfl) (by kernel_rfl) (by kernel_rfl) (fun _ _ _ h => h) (Or.inl ⟨by rfl, fun w hSw => by first | (go_simp; done) | go_simp⟩) (by assumption) ?_
                  (try simp only [Act.put, List.setIfInBounds_toArray, List.set_cons_zero, List.set_cons_succ])
                  refine wpAnyH_ready (rs := [13]) (by kernel_rfl) (by simp) ?_
                  refine AllReadyH.cons rfl (fun K hK => ?_) AllReadyH.nil
                  have yl := (HCL.out X3 HX3.out.o).2.2
                  refine step_B (by rfl) _ _ (by rfl) (w.heap.size + 2) (.slice aO i kO) i (outs.map u32V) (by rfl) HX3.out.b nB (.int .u32 (ro : Int)) (by rfl) HNBX3.out.1 rfl (by omega) (by omega) ?_
                  intro gB cB X4 hown hgrow
                  have HX4 : Hid _ := HX3.out.appB hgrow hown
                  clear hown hgrow yl
                  refine hK.out _ _ (HCL.out X4 HX4.out.o).2.1 (fun hHeld => ?_)
                  clear hK
                  (try simp only [Act.put, List.setIfInBounds_toArray, List.set_cons_zero, List.set_cons_succ])
                  have y := HCL.out X4 HX4.out.o
                  have y0 : X4.cell? ⟨w.heap.size + 1, 0, none⟩ = some (.slice aN i kN) := cell_blk y.1
                  have yf : ∀ q, X4.frozen? ⟨w.heap.size + 1, q, none⟩ = false := fun q => fz_blk y.1 q
                  have yl := y.2.2
                  have z := heap_setCell_at (k := 0) y.1 (.slice (some ⟨gA, 0, none⟩) (i + 1) cA)
                  have z1 : (X4.setCell ⟨w.heap.size + 1, 0, none⟩ (.slice (some ⟨gA, 0, none⟩) (i + 1) cA)).cell? ⟨w.heap.size + 1, 1, none⟩ = some (.slice aO i kO) := cell_blk z
                  have zf : ∀ q, (X4.setCell ⟨w.heap.size + 1, 0, none⟩ (.slice (some ⟨gA, 0, none⟩) (i + 1) cA)).frozen? ⟨w.heap.size + 1, q, none⟩ = false := fun q => fz_blk z q
                  have HQ1 : Hid _ := HHS.out X4 0 (.slice (some ⟨gA, 0, none⟩) (i + 1) cA) y.2.1
                  have HQ2 : Hid _ := HHS.out _ 1 (.slice (some ⟨gB, 0, none⟩) (i + 1) cB) HQ1.out
                  clear y z
                  refine wpAnyH_ready (rs := [15]) (by kernel_rfl) (by simp) ?_
                  refine AllReadyH.cons rfl (fun K hK => ?_) AllReadyH.nil
                  rw [if_pos (by rfl)]
                  go_simp
                  refine hK.out _ _ HQ1.out (fun hHeld => ?_)
                  clear hK
                  (try simp only [Act.put, List.setIfInBounds_toArray, List.set_cons_zero, List.set_cons_succ])
                  refine wpAnyH_take (i := 16) (oi := { dst := some 68, op := _, type := _, pos := _, after := _, guard := _ }) (v := .pointer (some ⟨w.heap.size + 1, 1, none⟩)) rfl (by kernel_rfl) (by kernel_rfl) (by kernel_rfl) (fun _ _ _ h => h) (Or.inl ⟨by rfl, fun w hSw => by first | (go_simp; done) | go_simp⟩) (by assumption) ?_
                  (try simp only [Act.put, List.setIfInBounds_toArray, List.set_cons_zero, List.set_cons_succ])
                  refine wpAnyH_ready (rs := [17]) (by kernel_rfl) (by simp) ?_
                  refine AllReadyH.cons rfl (fun K hK => ?_) AllReadyH.nil
                  rw [if_pos (by rfl)]
                  go_simp
                  refine hK.out _ _ HQ2.out (fun hHeld => ?_)
                  clear hK
                  (try simp only [Act.put, List.setIfInBounds_toArray, List.set_cons_zero, List.set_cons_succ])
                  refine wpAnyH_done (by kernel_rfl) ?_ _
                  clear hHeld y0 yf yl z1 zf HQ1 HQ2
                  go_wp2_with fail
                  go_roundg (n - (i + 1))
                  case measure => omega
                  case rel =>
                    obtain ⟨r1, r2, r3, r4, r5, r6, r7, r8, r9, r10⟩ := HFIN.out _ _ _ _ _ HX4.out
                    exact ⟨i + 1, r1, r2, r3, r4, r5, _, rfl, rfl, by omega, by go_num, r6, r7, r8, r9, r10⟩
            · have y := HCL.out X1 HX1.out.o
              have y0 : X1.cell? ⟨w.heap.size + 1, 1, none⟩ = some (.slice aO i kO) := cell_blk y.1
              have yl := y.2.2
              rw [if_pos (by rfl)]
              go_simp
              refine hK.out _ _ y.2.1 (fun hHeld => ?_)
              clear hK y y0 yl
              (try simp only [Act.put, List.setIfInBounds_toArray, List.set_cons_zero, List.set_cons_succ])
              refine wpAnyH_ready (rs := [1, 12]) (by kernel_rfl) (by simp) ?_
              refine AllReadyH.cons rfl (fun K hK => ?_) (AllReadyH.cons rfl (fun K hK => ?_) AllReadyH.nil)
              · have y := HCL.out X1 HX1.out.o
                have y0 : X1.cell? ⟨w.heap.size + 1, 0, none⟩ = some (.slice aN i kN) := cell_blk y.1
                have yl := y.2.2
                rw [if_pos (by rfl)]
                go_simp
                refine hK.out _ _ y.2.1 (fun hHeld => ?_)
                clear hK y y0 yl
                (try simp only [Act.put, List.setIfInBounds_toArray, List.set_cons_zero, List.set_cons_succ])
                refine wpAnyH_ready (rs := [4, 12]) (by kernel_rfl) (by simp) ?_
                refine AllReadyH.cons rfl (fun K hK => ?_) (AllReadyH.cons rfl (fun K hK => ?_) AllReadyH.nil)
                · have yl := (HCL.out X1 HX1.out.o).2.2
                  refine step_A (by rfl) _ _ (by rfl) (w.heap.size + 2) (.slice aN i kN) i vs (by rfl) HX1.out.a nA (.slice aW k kW) (by rfl) HNAX1.out.1 rfl (by omega) (by omega) ?_
                  intro gA cA X2 hown hgrow
                  have HX2 : Hid _ := HX1.out.appA hgrow hown
                  clear hown hgrow yl
                  refine hK.out _ _ (HCL.out X2 HX2.out.o).2.1 (fun hHeld => ?_)
                  clear hK
                  (try simp only [Act.put, List.setIfInBounds_toArray, List.set_cons_zero, List.set_cons_succ])
                  refine wpAnyH_take (i := 14) (oi := { dst := some 67, op := _, type := _, pos := _, after := _, guard := _ }) (v := .pointer (some ⟨w.heap.size + 1, 0, none⟩)) rfl (by kernel_rfl) (by kernel_rfl) (by kernel_rfl) (fun _ _ _ h => h) (Or.inl ⟨by rfl, fun w hSw => by first | (go_simp; done) | go_simp⟩) (by assumption) ?_
                  (try simp only [Act.put, List.setIfInBounds_toArray, List.set_cons_zero, List.set_cons_succ])
                  refine wpAnyH_ready (rs := [12]) (by kernel_rfl) (by simp) ?_
                  refine AllReadyH.cons rfl (fun K hK => ?_) AllReadyH.nil
                  rw [if_pos (by rfl)]
                  go_simp
                  obtain ⟨X3, hX3⟩ : ∃ Y, Y = X2.alloc (.cells #[.int .u32 (ro : Int)] 38) := ⟨_, rfl⟩
                  obtain ⟨nB, hnB⟩ : ∃ n, n = X2.heap.size := ⟨_, rfl⟩
                  have HNBX3 : Hid (X3.heap[nB]? = some (.cells #[.int .u32 (ro : Int)] 38 (0, 0)) ∧ V.heap.size ≤ nB) := by rw [hX3, hnB]; exact ⟨heap_alloc_new _ _, HX2.out.o.size⟩
                  have HX3 : Hid _ := HX2.out.alloc (.cells #[.int .u32 (ro : Int)] 38)
                  rw [← hX3] at HX3 ⊢
                  rw [← hnB]
                  clear hX3 hnB
                  refine hK.out _ _ (HCL.out X3 HX3.out.o).2.1 (fun hHeld => ?_)
                  clear hK
                  (try simp only [Act.put, List.setIfInBounds_toArray, List.set_cons_zero, List.set_cons_succ])
                  refine wpAnyH_ready (rs := [13]) (by kernel_rfl) (by simp) ?_
                  refine AllReadyH.cons rfl (fun K hK => ?_) AllReadyH.nil
                  have yl := (HCL.out X3 HX3.out.o).2.2
                  refine step_B (by rfl) _ _ (by rfl) (w.heap.size + 2) (.slice aO i kO) i (outs.map u32V) (by rfl) HX3.out.b nB (.int .u32 (ro : Int)) (by rfl) HNBX3.out.1 rfl (by omega) (by omega) ?_
                  intro gB cB X4 hown hgrow
                  have HX4 : Hid _ := HX3.out.appB hgrow hown
                  clear hown hgrow yl
                  refine hK.out _ _ (HCL.out X4 HX4.out.o).2.1 (fun hHeld => ?_)
                  clear hK
                  (try simp only [Act.put, List.setIfInBounds_toArray, List.set_cons_zero, List.set_cons_succ])
                  have y := HCL.out X4 HX4.out.o
                  have y0 : X4.cell? ⟨w.heap.size + 1, 0, none⟩ = some (.slice aN i kN) := cell_blk y.1
                  have yf : ∀ q, X4.frozen? ⟨w.heap.size + 1, q, none⟩ = false := fun q => fz_blk y.1 q
                  have yl := y.2.2
                  have z := heap_setCell_at (k := 0) y.1 (.slice (some ⟨gA, 0, none⟩) (i + 1) cA)
                  have z1 : (X4.setCell ⟨w.heap.size + 1, 0, none⟩ (.slice (some ⟨gA, 0, none⟩) (i + 1) cA)).cell? ⟨w.heap.size + 1, 1, none⟩ = some (.slice aO i kO) := cell_blk z
                  have zf : ∀ q, (X4.setCell ⟨w.heap.size + 1, 0, none⟩ (.slice (some ⟨gA, 0, none⟩) (i + 1) cA)).frozen? ⟨w.heap.size + 1, q, none⟩ = false := fun q => fz_blk z q
                  have HQ1 : Hid _ := HHS.out X4 0 (.slice (some ⟨gA, 0, none⟩) (i + 1) cA) y.2.1
                  have HQ2 : Hid _ := HHS.out _ 1 (.slice (some ⟨gB, 0, none⟩) (i + 1) cB) HQ1.out
                  clear y z
                  refine wpAnyH_ready (rs := [15]) (by kernel_rfl) (by simp) ?_
                  refine AllReadyH.cons rfl (fun K hK => ?_) AllReadyH.nil
                  rw [if_pos (by rfl)]
                  go_simp
                  refine hK.out _ _ HQ1.out (fun hHeld => ?_)
                  clear hK
                  (try simp only [Act.put, List.setIfInBounds_toArray, List.set_cons_zero, List.set_cons_succ])
                  refine wpAnyH_take (i := 16) (oi := { dst := some 68, op := _, type := _, pos := _, after := _, guard := _ }) (v := .pointer (some ⟨w.heap.size + 1, 1, none⟩)) rfl (by kernel_rfl) (by kernel_rfl) (by kernel_rfl) (fun _ _ _ h => h) (Or.inl ⟨by rfl, fun w hSw => by first | (go_simp; done) | go_simp⟩) (by assumption) ?_
                  (try simp only [Act.put, List.setIfInBounds_toArray, List.set_cons_zero, List.set_cons_succ])
                  refine wpAnyH_ready (rs := [17]) (by kernel_rfl) (by simp) ?_
                  refine AllReadyH.cons rfl (fun K hK => ?_) AllReadyH.nil
                  rw [if_pos (by rfl)]
                  go_simp
                  refine hK.out _ _ HQ2.out (fun hHeld => ?_)
                  clear hK
                  (try simp only [Act.put, List.setIfInBounds_toArray, List.set_cons_zero, List.set_cons_succ])
                  refine wpAnyH_done (by kernel_rfl) ?_ _
                  clear hHeld y0 yf yl z1 zf HQ1 HQ2
                  go_wp2_with fail
                  go_roundg (n - (i + 1))
                  case measure => omega
                  case rel =>
                    obtain ⟨r1, r2, r3, r4, r5, r6, r7, r8, r9, r10⟩ := HFIN.out _ _ _ _ _ HX4.out
                    exact ⟨i + 1, r1, r2, r3, r4, r5, _, rfl, rfl, by omega, by go_num, r6, r7, r8, r9, r10⟩
                · rw [if_pos (by rfl)]
                  go_simp
                  obtain ⟨X2, hX2⟩ : ∃ Y, Y = X1.alloc (.cells #[.int .u32 (ro : Int)] 38) := ⟨_, rfl⟩
                  obtain ⟨nB, hnB⟩ : ∃ n, n = X1.heap.size := ⟨_, rfl⟩
                  have HNBX2 : Hid (X2.heap[nB]? = some (.cells #[.int .u32 (ro : Int)] 38 (0, 0)) ∧ V.heap.size ≤ nB) := by rw [hX2, hnB]; exact ⟨heap_alloc_new _ _, HX1.out.o.size⟩
                  have HX2 : Hid _ := HX1.out.alloc (.cells #[.int .u32 (ro : Int)] 38)
                  have HNAX2 : Hid (X2.heap[nA]? = some (.cells #[.slice aW k kW] 23 (0, 0)) ∧ V.heap.size ≤ nA) := by rw [hX2]; exact ⟨blk_alloc _ HNAX1.out.1, HNAX1.out.2⟩
                  rw [← hX2] at HX2 ⊢
                  rw [← hnB]
                  clear hX2 hnB
                  refine hK.out _ _ (HCL.out X2 HX2.out.o).2.1 (fun hHeld => ?_)
                  clear hK
                  (try simp only [Act.put, List.setIfInBounds_toArray, List.set_cons_zero, List.set_cons_succ])
                  refine wpAnyH_ready (rs := [4]) (by kernel_rfl) (by simp) ?_
                  refine AllReadyH.cons rfl (fun K hK => ?_) AllReadyH.nil
                  have yl := (HCL.out X2 HX2.out.o).2.2
                  refine step_A (by rfl) _ _ (by rfl) (w.heap.size + 2) (.slice aN i kN) i vs (by rfl) HX2.out.a nA (.slice aW k kW) (by rfl) HNAX2.out.1 rfl (by omega) (by omega) ?_
                  intro gA cA X3 hown hgrow
                  have HNBX3 : Hid (X3.heap[nB]? = some (.cells #[.int .u32 (ro : Int)] 38 (0, 0)) ∧ V.heap.size ≤ nB) := ⟨blk_grow HNBX2.out.1 HX2.out.a hgrow (fun e => by have h1 := own_lt HOLD.out.nx e; have h2 := HNBX2.out.2; omega), HNBX2.out.2⟩
                  have HX3 : Hid _ := HX2.out.appA hgrow hown
                  clear hown hgrow yl
                  refine hK.out _ _ (HCL.out X3 HX3.out.o).2.1 (fun hHeld => ?_)
                  clear hK
                  (try simp only [Act.put, List.setIfInBounds_toArray, List.set_cons_zero, List.set_cons_succ])
                  refine wpAnyH_take (i := 14) (oi := { dst := some 67, op := _, type := _, pos := _, after := _, guard := _ }) (v := .pointer (some ⟨w.heap.size + 1, 0, none⟩)) rfl (by kernel_rfl) (by kernel_rfl) (by kernel_rfl) (fun _ _ _ h => h) (Or.inl ⟨by rfl, fun w hSw => by first | (go_simp; done) | go_simp⟩) (by assumption) ?_
                  (try simp only [Act.put, List.setIfInBounds_toArray, List.set_cons_zero, List.set_cons_succ])
                  refine wpAnyH_ready (rs := [13]) (by kernel_rfl) (by simp) ?_
                  refine AllReadyH.cons rfl (fun K hK => ?_) AllReadyH.nil
                  have yl := (HCL.out X3 HX3.out.o).2.2
                  refine step_B (by rfl) _ _ (by rfl) (w.heap.size + 2) (.slice aO i kO) i (outs.map u32V) (by rfl) HX3.out.b nB (.int .u32 (ro : Int)) (by rfl) HNBX3.out.1 rfl (by omega) (by omega) ?_
                  intro gB cB X4 hown hgrow
                  have HX4 : Hid _ := HX3.out.appB hgrow hown
                  clear hown hgrow yl
                  refine hK.out _ _ (HCL.out X4 HX4.out.o).2.1 (fun hHeld => ?_)
                  clear hK
                  (try simp only [Act.put, List.setIfInBounds_toArray, List.set_cons_zero, List.set_cons_succ])
                  have y := HCL.out X4 HX4.out.o
                  have y0 : X4.cell? ⟨w.heap.size + 1, 0, none⟩ = some (.slice aN i kN) := cell_blk y.1
                  have yf : ∀ q, X4.frozen? ⟨w.heap.size + 1, q, none⟩ = false := fun q => fz_blk y.1 q
                  have yl := y.2.2
                  have z := heap_setCell_at (k := 0) y.1 (.slice (some ⟨gA, 0, none⟩) (i + 1) cA)
                  have z1 : (X4.setCell ⟨w.heap.size + 1, 0, none⟩ (.slice (some ⟨gA, 0, none⟩) (i + 1) cA)).cell? ⟨w.heap.size + 1, 1, none⟩ = some (.slice aO i kO) := cell_blk z
                  have zf : ∀ q, (X4.setCell ⟨w.heap.size + 1, 0, none⟩ (.slice (some ⟨gA, 0, none⟩) (i + 1) cA)).frozen? ⟨w.heap.size + 1, q, none⟩ = false := fun q => fz_blk z q
                  have HQ1 : Hid _ := HHS.out X4 0 (.slice (some ⟨gA, 0, none⟩) (i + 1) cA) y.2.1
                  have HQ2 : Hid _ := HHS.out _ 1 (.slice (some ⟨gB, 0, none⟩) (i + 1) cB) HQ1.out
                  clear y z
                  refine wpAnyH_ready (rs := [15]) (by kernel_rfl) (by simp) ?_
                  refine AllReadyH.cons rfl (fun K hK => ?_) AllReadyH.nil
                  rw [if_pos (by rfl)]
                  go_simp
                  refine hK.out _ _ HQ1.out (fun hHeld => ?_)
                  clear hK
                  (try simp only [Act.put, List.setIfInBounds_toArray, List.set_cons_zero, List.set_cons_succ])
                  refine wpAnyH_take (i := 16) (oi := { dst := some 68, op := _, type := _, pos := _, after := _, guard := _ }) (v := .pointer (some ⟨w.heap.size + 1, 1, none⟩)) rfl (by kernel_rfl) (by kernel_rfl) (by kernel_rfl) (fun _ _ _ h => h) (Or.inl ⟨by rfl, fun w hSw => by first | (go_simp; done) | go_simp⟩) (by assumption) ?_
                  (try simp only [Act.put, List.setIfInBounds_toArray, List.set_cons_zero, List.set_cons_succ])
                  refine wpAnyH_ready (rs := [17]) (by kernel_rfl) (by simp) ?_
                  refine AllReadyH.cons rfl (fun K hK => ?_) AllReadyH.nil
                  rw [if_pos (by rfl)]
                  go_simp
                  refine hK.out _ _ HQ2.out (fun hHeld => ?_)
                  clear hK
                  (try simp only [Act.put, List.setIfInBounds_toArray, List.set_cons_zero, List.set_cons_succ])
                  refine wpAnyH_done (by kernel_rfl) ?_ _
                  clear hHeld y0 yf yl z1 zf HQ1 HQ2
                  go_wp2_with fail
                  go_roundg (n - (i + 1))
                  case measure => omega
                  case rel =>
                    obtain ⟨r1, r2, r3, r4, r5, r6, r7, r8, r9, r10⟩ := HFIN.out _ _ _ _ _ HX4.out
                    exact ⟨i + 1, r1, r2, r3, r4, r5, _, rfl, rfl, by omega, by go_num, r6, r7, r8, r9, r10⟩
              · rw [if_pos (by rfl)]
                go_simp
                obtain ⟨X2, hX2⟩ : ∃ Y, Y = X1.alloc (.cells #[.int .u32 (ro : Int)] 38) := ⟨_, rfl⟩
                obtain ⟨nB, hnB⟩ : ∃ n, n = X1.heap.size := ⟨_, rfl⟩
                have HNBX2 : Hid (X2.heap[nB]? = some (.cells #[.int .u32 (ro : Int)] 38 (0, 0)) ∧ V.heap.size ≤ nB) := by rw [hX2, hnB]; exact ⟨heap_alloc_new _ _, HX1.out.o.size⟩
                have HX2 : Hid _ := HX1.out.alloc (.cells #[.int .u32 (ro : Int)] 38)
                have HNAX2 : Hid (X2.heap[nA]? = some (.cells #[.slice aW k kW] 23 (0, 0)) ∧ V.heap.size ≤ nA) := by rw [hX2]; exact ⟨blk_alloc _ HNAX1.out.1, HNAX1.out.2⟩
                rw [← hX2] at HX2 ⊢
                rw [← hnB]
                clear hX2 hnB
                refine hK.out _ _ (HCL.out X2 HX2.out.o).2.1 (fun hHeld => ?_)
                clear hK
                (try simp only [Act.put, List.setIfInBounds_toArray, List.set_cons_zero, List.set_cons_succ])
                refine wpAnyH_ready (rs := [1]) (by kernel_rfl) (by simp) ?_
                refine AllReadyH.cons rfl (fun K hK => ?_) AllReadyH.nil
                have y := HCL.out X2 HX2.out.o
                have y0 : X2.cell? ⟨w.heap.size + 1, 0, none⟩ = some (.slice aN i kN) := cell_blk y.1
                have yl := y.2.2
                rw [if_pos (by rfl)]
                go_simp
                refine hK.out _ _ y.2.1 (fun hHeld => ?_)
                clear hK y y0 yl
                (try simp only [Act.put, List.setIfInBounds_toArray, List.set_cons_zero, List.set_cons_succ])
                refine wpAnyH_ready (rs := [4]) (by kernel_rfl) (by simp) ?_
                refine AllReadyH.cons rfl (fun K hK => ?_) AllReadyH.nil
                have yl := (HCL.out X2 HX2.out.o).2.2
                refine step_A (by rfl) _ _ (by rfl) (w.heap.size + 2) (.slice aN i kN) i vs (by rfl) HX2.out.a nA (.slice aW k kW) (by rfl) HNAX2.out.1 rfl (by omega) (by omega) ?_
                intro gA cA X3 hown hgrow
                have HNBX3 : Hid (X3.heap[nB]? = some (.cells #[.int .u32 (ro : Int)] 38 (0, 0)) ∧ V.heap.size ≤ nB) := ⟨blk_grow HNBX2.out.1 HX2.out.a hgrow (fun e => by have h1 := own_lt HOLD.out.nx e; have h2 := HNBX2.out.2; omega), HNBX2.out.2⟩
                have HX3 : Hid _ := HX2.out.appA hgrow hown
                clear hown hgrow yl
                refine hK.out _ _ (HCL.out X3 HX3.out.o).2.1 (fun hHeld => ?_)
                clear hK
                (try simp only [Act.put, List.setIfInBounds_toArray, List.set_cons_zero, List.set_cons_succ])
                refine wpAnyH_take (i := 14) (oi := { dst := some 67, op := _, type := _, pos := _, after := _, guard := _ }) (v := .pointer (some ⟨w.heap.size + 1, 0, none⟩)) rfl (by kernel_rfl) (by kernel_rfl) (by kernel_rfl) (fun _ _ _ h => h) (Or.inl ⟨by rfl, fun w hSw => by first | (go_simp; done) | go_simp⟩) (by assumption) ?_
                (try simp only [Act.put, List.setIfInBounds_toArray, List.set_cons_zero, List.set_cons_succ])
                refine wpAnyH_ready (rs := [13]) (by kernel_rfl) (by simp) ?_
                refine AllReadyH.cons rfl (fun K hK => ?_) AllReadyH.nil
                have yl := (HCL.out X3 HX3.out.o).2.2
                refine step_B (by rfl) _ _ (by rfl) (w.heap.size + 2) (.slice aO i kO) i (outs.map u32V) (by rfl) HX3.out.b nB (.int .u32 (ro : Int)) (by rfl) HNBX3.out.1 rfl (by omega) (by omega) ?_
                intro gB cB X4 hown hgrow
                have HX4 : Hid _ := HX3.out.appB hgrow hown
                clear hown hgrow yl
                refine hK.out _ _ (HCL.out X4 HX4.out.o).2.1 (fun hHeld => ?_)
                clear hK
                (try simp only [Act.put, List.setIfInBounds_toArray, List.set_cons_zero, List.set_cons_succ])
                have y := HCL.out X4 HX4.out.o
                have y0 : X4.cell? ⟨w.heap.size + 1, 0, none⟩ = some (.slice aN i kN) := cell_blk y.1
                have yf : ∀ q, X4.frozen? ⟨w.heap.size + 1, q, none⟩ = false := fun q => fz_blk y.1 q
                have yl := y.2.2
                have z := heap_setCell_at (k := 0) y.1 (.slice (some ⟨gA, 0, none⟩) (i + 1) cA)
                have z1 : (X4.setCell ⟨w.heap.size + 1, 0, none⟩ (.slice (some ⟨gA, 0, none⟩) (i + 1) cA)).cell? ⟨w.heap.size + 1, 1, none⟩ = some (.slice aO i kO) := cell_blk z
                have zf : ∀ q, (X4.setCell ⟨w.heap.size + 1, 0, none⟩ (.slice (some ⟨gA, 0, none⟩) (i + 1) cA)).frozen? ⟨w.heap.size + 1, q, none⟩ = false := fun q => fz_blk z q
                have HQ1 : Hid _ := HHS.out X4 0 (.slice (some ⟨gA, 0, none⟩) (i + 1) cA) y.2.1
                have HQ2 : Hid _ := HHS.out _ 1 (.slice (some ⟨gB, 0, none⟩) (i + 1) cB) HQ1.out
                clear y z
                refine wpAnyH_ready (rs := [15]) (by kernel_rfl) (by simp) ?_
                refine AllReadyH.cons rfl (fun K hK => ?_) AllReadyH.nil
                rw [if_pos (by rfl)]
                go_simp
                refine hK.out _ _ HQ1.out (fun hHeld => ?_)
                clear hK
                (try simp only [Act.put, List.setIfInBounds_toArray, List.set_cons_zero, List.set_cons_succ])
                refine wpAnyH_take (i := 16) (oi := { dst := some 68, op := _, type := _, pos := _, after := _, guard := _ }) (v := .pointer (some ⟨w.heap.size + 1, 1, none⟩)) rfl (by kernel_rfl) (by kernel_rfl) (by kernel_rfl) (fun _ _ _ h => h) (Or.inl ⟨by rfl, fun w hSw => by first | (go_simp; done) | go_simp⟩) (by assumption) ?_
                (try simp only [Act.put, List.setIfInBounds_toArray, List.set_cons_zero, List.set_cons_succ])
                refine wpAnyH_ready (rs := [17]) (by kernel_rfl) (by simp) ?_
                refine AllReadyH.cons rfl (fun K hK => ?_) AllReadyH.nil
                rw [if_pos (by rfl)]
                go_simp
                refine hK.out _ _ HQ2.out (fun hHeld => ?_)
                clear hK
                (try simp only [Act.put, List.setIfInBounds_toArray, List.set_cons_zero, List.set_cons_succ])
                refine wpAnyH_done (by kernel_rfl) ?_ _
                clear hHeld y0 yf yl z1 zf HQ1 HQ2
                go_wp2_with fail
                go_roundg (n - (i + 1))
                case measure => omega
                case rel =>
                  obtain ⟨r1, r2, r3, r4, r5, r6, r7, r8, r9, r10⟩ := HFIN.out _ _ _ _ _ HX4.out
                  exact ⟨i + 1, r1, r2, r3, r4, r5, _, rfl, rfl, by omega, by go_num, r6, r7, r8, r9, r10⟩
            · rw [if_pos (by rfl)]
              go_simp
              obtain ⟨X2, hX2⟩ : ∃ Y, Y = X1.alloc (.cells #[.int .u32 (ro : Int)] 38) := ⟨_, rfl⟩
              obtain ⟨nB, hnB⟩ : ∃ n, n = X1.heap.size := ⟨_, rfl⟩
              have HNBX2 : Hid (X2.heap[nB]? = some (.cells #[.int .u32 (ro : Int)] 38 (0, 0)) ∧ V.heap.size ≤ nB) := by rw [hX2, hnB]; exact ⟨heap_alloc_new _ _, HX1.out.o.size⟩
              have HX2 : Hid _ := HX1.out.alloc (.cells #[.int .u32 (ro : Int)] 38)
              have HNAX2 : Hid (X2.heap[nA]? = some (.cells #[.slice aW k kW] 23 (0, 0)) ∧ V.heap.size ≤ nA) := by rw [hX2]; exact ⟨blk_alloc _ HNAX1.out.1, HNAX1.out.2⟩
              rw [← hX2] at HX2 ⊢
              rw [← hnB]
              clear hX2 hnB
              refine hK.out _ _ (HCL.out X2 HX2.out.o).2.1 (fun hHeld => ?_)
              clear hK
              (try simp only [Act.put, List.setIfInBounds_toArray, List.set_cons_zero, List.set_cons_succ])
              refine wpAnyH_ready (rs := [1, 6]) (by kernel_rfl) (by simp) ?_
              refine AllReadyH.cons rfl (fun K hK => ?_) (AllReadyH.cons rfl (fun K hK => ?_) AllReadyH.nil)
              · have y := HCL.out X2 HX2.out.o
                have y0 : X2.cell? ⟨w.heap.size + 1, 0, none⟩ = some (.slice aN i kN) := cell_blk y.1
                have yl := y.2.2
                rw [if_pos (by rfl)]
                go_simp
                refine hK.out _ _ y.2.1 (fun hHeld => ?_)
                clear hK y y0 yl
                (try simp only [Act.put, List.setIfInBounds_toArray, List.set_cons_zero, List.set_cons_succ])
                refine wpAnyH_ready (rs := [4, 6]) (by kernel_rfl) (by simp) ?_
                refine AllReadyH.cons rfl (fun K hK => ?_) (AllReadyH.cons rfl (fun K hK => ?_) AllReadyH.nil)
                · have yl := (HCL.out X2 HX2.out.o).2.2
                  refine step_A (by rfl) _ _ (by rfl) (w.heap.size + 2) (.slice aN i kN) i vs (by rfl) HX2.out.a nA (.slice aW k kW) (by rfl) HNAX2.out.1 rfl (by omega) (by omega) ?_
                  intro gA cA X3 hown hgrow
                  have HNBX3 : Hid (X3.heap[nB]? = some (.cells #[.int .u32 (ro : Int)] 38 (0, 0)) ∧ V.heap.size ≤ nB) := ⟨blk_grow HNBX2.out.1 HX2.out.a hgrow (fun e => by have h1 := own_lt HOLD.out.nx e; have h2 := HNBX2.out.2; omega), HNBX2.out.2⟩
                  have HX3 : Hid _ := HX2.out.appA hgrow hown
                  clear hown hgrow yl
                  refine hK.out _ _ (HCL.out X3 HX3.out.o).2.1 (fun hHeld => ?_)
                  clear hK
                  (try simp only [Act.put, List.setIfInBounds_toArray, List.set_cons_zero, List.set_cons_succ])
                  refine wpAnyH_ready (rs := [6]) (by kernel_rfl) (by simp) ?_
                  refine AllReadyH.cons rfl (fun K hK => ?_) AllReadyH.nil
                  have y := HCL.out X3 HX3.out.o
                  have y0 : X3.cell? ⟨w.heap.size + 1, 1, none⟩ = some (.slice aO i kO) := cell_blk y.1
                  have yl := y.2.2
                  rw [if_pos (by rfl)]
                  go_simp
                  refine hK.out _ _ y.2.1 (fun hHeld => ?_)
                  clear hK y y0 yl
                  (try simp only [Act.put, List.setIfInBounds_toArray, List.set_cons_zero, List.set_cons_succ])
                  refine wpAnyH_take (i := 14) (oi := { dst := some 67, op := _, type := _, pos := _, after := _, guard := _ }) (v := .pointer (some ⟨w.heap.size + 1, 0, none⟩)) rfl (by kernel_rfl) (by kernel_rfl) (by kernel_rfl) (fun _ _ _ h => h) (Or.inl ⟨by rfl, fun w hSw => by first | (go_simp; done) | go_simp⟩) (by assumption) ?_
                  (try simp only [Act.put, List.setIfInBounds_toArray, List.set_cons_zero, List.set_cons_succ])
                  refine wpAnyH_ready (rs := [13]) (by kernel_rfl) (by simp) ?_
                  refine AllReadyH.cons rfl (fun K hK => ?_) AllReadyH.nil
                  have yl := (HCL.out X3 HX3.out.o).2.2
                  refine step_B (by rfl) _ _ (by rfl) (w.heap.size + 2) (.slice aO i kO) i (outs.map u32V) (by rfl) HX3.out.b nB (.int .u32 (ro : Int)) (by rfl) HNBX3.out.1 rfl (by omega) (by omega) ?_
                  intro gB cB X4 hown hgrow
                  have HX4 : Hid _ := HX3.out.appB hgrow hown
                  clear hown hgrow yl
                  refine hK.out _ _ (HCL.out X4 HX4.out.o).2.1 (fun hHeld => ?_)
                  clear hK
                  (try simp only [Act.put, List.setIfInBounds_toArray, List.set_cons_zero, List.set_cons_succ])
                  have y := HCL.out X4 HX4.out.o
                  have y0 : X4.cell? ⟨w.heap.size + 1, 0, none⟩ = some (.slice aN i kN) := cell_blk y.1
                  have yf : ∀ q, X4.frozen? ⟨w.heap.size + 1, q, none⟩ = false := fun q => fz_blk y.1 q
                  have yl := y.2.2
                  have z := heap_setCell_at (k := 0) y.1 (.slice (some ⟨gA, 0, none⟩) (i + 1) cA)
                  have z1 : (X4.setCell ⟨w.heap.size + 1, 0, none⟩ (.slice (some ⟨gA, 0, none⟩) (i + 1) cA)).cell? ⟨w.heap.size + 1, 1, none⟩ = some (.slice aO i kO) := cell_blk z
                  have zf : ∀ q, (X4.setCell ⟨w.heap.size + 1, 0, none⟩ (.slice (some ⟨gA, 0, none⟩) (i + 1) cA)).frozen? ⟨w.heap.size + 1, q, none⟩ = false := fun q => fz_blk z q
                  have HQ1 : Hid _ := HHS.out X4 0 (.slice (some ⟨gA, 0, none⟩) (i + 1) cA) y.2.1
                  have HQ2 : Hid _ := HHS.out _ 1 (.slice (some ⟨gB, 0, none⟩) (i + 1) cB) HQ1.out
                  clear y z
                  refine wpAnyH_ready (rs := [15]) (by kernel_rfl) (by simp) ?_
                  refine AllReadyH.cons rfl (fun K hK => ?_) AllReadyH.nil
                  rw [if_pos (by rfl)]
                  go_simp
                  refine hK.out _ _ HQ1.out (fun hHeld => ?_)
                  clear hK
                  (try simp only [Act.put, List.setIfInBounds_toArray, List.set_cons_zero, List.set_cons_succ])
                  refine wpAnyH_take (i := 16) (oi := { dst := some 68, op := _, type := _, pos := _, after := _, guard := _ }) (v := .pointer (some ⟨w.heap.size + 1, 1, none⟩)) rfl (by kernel_rfl) (by kernel_rfl) (by kernel_rfl) (fun _ _ _ h => h) (Or.inl ⟨by rfl, fun w hSw => by first | (go_simp; done) | go_simp⟩) (by assumption) ?_
                  (try simp only [Act.put, List.setIfInBounds_toArray, List.set_cons_zero, List.set_cons_succ])
                  refine wpAnyH_ready (rs := [17]) (by kernel_rfl) (by simp) ?_
                  refine AllReadyH.cons rfl (fun K hK => ?_) AllReadyH.nil
                  rw [if_pos (by rfl)]
                  go_simp
                  refine hK.out _ _ HQ2.out (fun hHeld => ?_)
                  clear hK
                  (try simp only [Act.put, List.setIfInBounds_toArray, List.set_cons_zero, List.set_cons_succ])
                  refine wpAnyH_done (by kernel_rfl) ?_ _
                  clear hHeld y0 yf yl z1 zf HQ1 HQ2
                  go_wp2_with fail
                  go_roundg (n - (i + 1))
                  case measure => omega
                  case rel =>
                    obtain ⟨r1, r2, r3, r4, r5, r6, r7, r8, r9, r10⟩ := HFIN.out _ _ _ _ _ HX4.out
                    exact ⟨i + 1, r1, r2, r3, r4, r5, _, rfl, rfl, by omega, by go_num, r6, r7, r8, r9, r10⟩
                · have y := HCL.out X2 HX2.out.o
                  have y0 : X2.cell? ⟨w.heap.size + 1, 1, none⟩ = some (.slice aO i kO) := cell_blk y.1
                  have yl := y.2.2
                  rw [if_pos (by rfl)]
                  go_simp
                  refine hK.out _ _ y.2.1 (fun hHeld => ?_)
                  clear hK y y0 yl
                  (try simp only [Act.put, List.setIfInBounds_toArray, List.set_cons_zero, List.set_cons_succ])
                  refine wpAnyH_ready (rs := [4]) (by kernel_rfl) (by simp) ?_
                  refine AllReadyH.cons rfl (fun K hK => ?_) AllReadyH.nil
                  have yl := (HCL.out X2 HX2.out.o).2.2
                  refine step_A (by rfl) _ _ (by rfl) (w.heap.size + 2) (.slice aN i kN) i vs (by rfl) HX2.out.a nA (.slice aW k kW) (by rfl) HNAX2.out.1 rfl (by omega) (by omega) ?_
                  intro gA cA X3 hown hgrow
                  have HNBX3 : Hid (X3.heap[nB]? = some (.cells #[.int .u32 (ro : Int)] 38 (0, 0)) ∧ V.heap.size ≤ nB) := ⟨blk_grow HNBX2.out.1 HX2.out.a hgrow (fun e => by have h1 := own_lt HOLD.out.nx e; have h2 := HNBX2.out.2; omega), HNBX2.out.2⟩
                  have HX3 : Hid _ := HX2.out.appA hgrow hown
                  clear hown hgrow yl
                  refine hK.out _ _ (HCL.out X3 HX3.out.o).2.1 (fun hHeld => ?_)
                  clear hK
                  (try simp only [Act.put, List.setIfInBounds_toArray, List.set_cons_zero, List.set_cons_succ])
                  refine wpAnyH_take (i := 14) (oi := { dst := some 67, op := _, type := _, pos := _, after := _, guard := _ }) (v := .pointer (some ⟨w.heap.size + 1, 0, none⟩)) rfl (by kernel_rfl) (by kernel_rfl) (by kernel_rfl) (fun _ _ _ h => h) (Or.inl ⟨by rfl, fun w hSw => by first | (go_simp; done) | go_simp⟩) (by assumption) ?_
                  (try simp only [Act.put, List.setIfInBounds_toArray, List.set_cons_zero, List.set_cons_succ])
                  refine wpAnyH_ready (rs := [13]) (by kernel_rfl) (by simp) ?_
                  refine AllReadyH.cons rfl (fun K hK => ?_) AllReadyH.nil
                  have yl := (HCL.out X3 HX3.out.o).2.2
                  refine step_B (by rfl) _ _ (by rfl) (w.heap.size + 2) (.slice aO i kO) i (outs.map u32V) (by rfl) HX3.out.b nB (.int .u32 (ro : Int)) (by rfl) HNBX3.out.1 rfl (by omega) (by omega) ?_
                  intro gB cB X4 hown hgrow
                  have HX4 : Hid _ := HX3.out.appB hgrow hown
                  clear hown hgrow yl
                  refine hK.out _ _ (HCL.out X4 HX4.out.o).2.1 (fun hHeld => ?_)
                  clear hK
                  (try simp only [Act.put, List.setIfInBounds_toArray, List.set_cons_zero, List.set_cons_succ])
                  have y := HCL.out X4 HX4.out.o
                  have y0 : X4.cell? ⟨w.heap.size + 1, 0, none⟩ = some (.slice aN i kN) := cell_blk y.1
                  have yf : ∀ q, X4.frozen? ⟨w.heap.size + 1, q, none⟩ = false := fun q => fz_blk y.1 q
                  have yl := y.2.2
                  have z := heap_setCell_at (k := 0) y.1 (.slice (some ⟨gA, 0, none⟩) (i + 1) cA)
                  have z1 : (X4.setCell ⟨w.heap.size + 1, 0, none⟩ (.slice (some ⟨gA, 0, none⟩) (i + 1) cA)).cell? ⟨w.heap.size + 1, 1, none⟩ = some (.slice aO i kO) := cell_blk z
                  have zf : ∀ q, (X4.setCell ⟨w.heap.size + 1, 0, none⟩ (.slice (some ⟨gA, 0, none⟩) (i + 1) cA)).frozen? ⟨w.heap.size + 1, q, none⟩ = false := fun q => fz_blk z q
                  have HQ1 : Hid _ := HHS.out X4 0 (.slice (some ⟨gA, 0, none⟩) (i + 1) cA) y.2.1
                  have HQ2 : Hid _ := HHS.out _ 1 (.slice (some ⟨gB, 0, none⟩) (i + 1) cB) HQ1.out
                  clear y z
                  refine wpAnyH_ready (rs := [15]) (by kernel_rfl) (by simp) ?_
                  refine AllReadyH.cons rfl (fun K hK => ?_) AllReadyH.nil
                  rw [if_pos (by rfl)]
                  go_simp
                  refine hK.out _ _ HQ1.out (fun hHeld => ?_)
                  clear hK
                  (try simp only [Act.put, List.setIfInBounds_toArray, List.set_cons_zero, List.set_cons_succ])
                  refine wpAnyH_take (i := 16) (oi := { dst := some 68, op := _, type := _, pos := _, after := _, guard := _ }) (v := .pointer (some ⟨w.heap.size + 1, 1, none⟩)) rfl (by kernel_rfl) (by kernel_rfl) (by kernel_rfl) (fun _ _ _ h => h) (Or.inl ⟨by rfl, fun w hSw => by first | (go_simp; done) | go_simp⟩) (by assumption) ?_
                  (try simp only [Act.put, List.setIfInBounds_toArray, List.set_cons_zero, List.set_cons_succ])
                  refine wpAnyH_ready (rs := [17]) (by kernel_rfl) (by simp) ?_
                  refine AllReadyH.cons rfl (fun K hK => ?_) AllReadyH.nil
                  rw [if_pos (by rfl)]
                  go_simp
                  refine hK.out _ _ HQ2.out (fun hHeld => ?_)
                  clear hK
                  (try simp only [Act.put, List.setIfInBounds_toArray, List.set_cons_zero, List.set_cons_succ])
                  refine wpAnyH_done (by kernel_rfl) ?_ _
                  clear hHeld y0 yf yl z1 zf HQ1 HQ2
                  go_wp2_with fail
                  go_roundg (n - (i + 1))
                  case measure => omega
                  case rel =>
                    obtain ⟨r1, r2, r3, r4, r5, r6, r7, r8, r9, r10⟩ := HFIN.out _ _ _ _ _ HX4.out
                    exact ⟨i + 1, r1, r2, r3, r4, r5, _, rfl, rfl, by omega, by go_num, r6, r7, r8, r9, r10⟩
              · have y := HCL.out X2 HX2.out.o
                have y0 : X2.cell? ⟨w.heap.size + 1, 1, none⟩ = some (.slice aO i kO) := cell_blk y.1
                have yl := y.2.2
                rw [if_pos (by rfl)]
                go_simp
                refine hK.out _ _ y.2.1 (fun hHeld => ?_)
                clear hK y y0 yl
                (try simp only [Act.put, List.setIfInBounds_toArray, List.set_cons_zero, List.set_cons_succ])
                refine wpAnyH_ready (rs := [1]) (by kernel_rfl) (by simp) ?_
                refine AllReadyH.cons rfl (fun K hK => ?_) AllReadyH.nil
                have y := HCL.out X2 HX2.out.o
                have y0 : X2.cell? ⟨w.heap.size + 1, 0, none⟩ = some (.slice aN i kN) := cell_blk y.1
                have yl := y.2.2
                rw [if_pos (by rfl)]
                go_simp
                refine hK.out _ _ y.2.1 (fun hHeld => ?_)
                clear hK y y0 yl
                (try simp only [Act.put, List.setIfInBounds_toArray, List.set_cons_zero, List.set_cons_succ])
                refine wpAnyH_ready (rs := [4]) (by kernel_rfl) (by simp) ?_
                refine AllReadyH.cons rfl (fun K hK => ?_) AllReadyH.nil
                have yl := (HCL.out X2 HX2.out.o).2.2
                refine step_A (by rfl) _ _ (by rfl) (w.heap.size + 2) (.slice aN i kN) i vs (by rfl) HX2.out.a nA (.slice aW k kW) (by rfl) HNAX2.out.1 rfl (by omega) (by omega) ?_
                intro gA cA X3 hown hgrow
                have HNBX3 : Hid (X3.heap[nB]? = some (.cells #[.int .u32 (ro : Int)] 38 (0, 0)) ∧ V.heap.size ≤ nB) := ⟨blk_grow HNBX2.out.1 HX2.out.a hgrow (fun e => by have h1 := own_lt HOLD.out.nx e; have h2 := HNBX2.out.2; omega), HNBX2.out.2⟩
                have HX3 : Hid _ := HX2.out.appA hgrow hown
                clear hown hgrow yl
                refine hK.out _ _ (HCL.out X3 HX3.out.o).2.1 (fun hHeld => ?_)
                clear hK
                (try simp only [Act.put, List.setIfInBounds_toArray, List.set_cons_zero, List.set_cons_succ])
                refine wpAnyH_take (i := 14) (oi := { dst := some 67, op := _, type := _, pos := _, after := _, guard := _ }) (v := .pointer (some ⟨w.heap.size + 1, 0, none⟩)) rfl (by kernel_rfl) (by kernel_rfl) (by kernel_rfl) (fun _ _ _ h => h) (Or.inl ⟨by rfl, fun w hSw => by first | (go_simp; done) | go_simp⟩) (by assumption) ?_
                (try simp only [Act.put, List.setIfInBounds_toArray, List.set_cons_zero, List.set_cons_succ])
                refine wpAnyH_ready (rs := [13]) (by kernel_rfl) (by simp) ?_
                refine AllReadyH.cons rfl (fun K hK => ?_) AllReadyH.nil
                have yl := (HCL.out X3 HX3.out.o).2.2
                refine step_B (by rfl) _ _ (by rfl) (w.heap.size + 2) (.slice aO i kO) i (outs.map u32V) (by rfl) HX3.out.b nB (.int .u32 (ro : Int)) (by rfl) HNBX3.out.1 rfl (by omega) (by omega) ?_
                intro gB cB X4 hown hgrow
                have HX4 : Hid _ := HX3.out.appB hgrow hown
                clear hown hgrow yl
                refine hK.out _ _ (HCL.out X4 HX4.out.o).2.1 (fun hHeld => ?_)
                clear hK
                (try simp only [Act.put, List.setIfInBounds_toArray, List.set_cons_zero, List.set_cons_succ])
                have y := HCL.out X4 HX4.out.o
                have y0 : X4.cell? ⟨w.heap.size + 1, 0, none⟩ = some (.slice aN i kN) := cell_blk y.1
                have yf : ∀ q, X4.frozen? ⟨w.heap.size + 1, q, none⟩ = false := fun q => fz_blk y.1 q
                have yl := y.2.2
                have z := heap_setCell_at (k := 0) y.1 (.slice (some ⟨gA, 0, none⟩) (i + 1) cA)
                have z1 : (X4.setCell ⟨w.heap.size + 1, 0, none⟩ (.slice (some ⟨gA, 0, none⟩) (i + 1) cA)).cell? ⟨w.heap.size + 1, 1, none⟩ = some (.slice aO i kO) := cell_blk z
                have zf : ∀ q, (X4.setCell ⟨w.heap.size + 1, 0, none⟩ (.slice (some ⟨gA, 0, none⟩) (i + 1) cA)).frozen? ⟨w.heap.size + 1, q, none⟩ = false := fun q => fz_blk z q
                have HQ1 : Hid _ := HHS.out X4 0 (.slice (some ⟨gA, 0, none⟩) (i + 1) cA) y.2.1
                have HQ2 : Hid _ := HHS.out _ 1 (.slice (some ⟨gB, 0, none⟩) (i + 1) cB) HQ1.out
                clear y z
                refine wpAnyH_ready (rs := [15]) (by kernel_rfl) (by simp) ?_
                refine AllReadyH.cons rfl (fun K hK => ?_) AllReadyH.nil
                rw [if_pos (by rfl)]
                go_simp
                refine hK.out _ _ HQ1.out (fun hHeld => ?_)
                clear hK
                (try simp only [Act.put, List.setIfInBounds_toArray, List.set_cons_zero, List.set_cons_succ])
                refine wpAnyH_take (i := 16) (oi := { dst := some 68, op := _, type := _, pos := _, after := _, guard := _ }) (v := .pointer (some ⟨w.heap.size + 1, 1, none⟩)) rfl (by kernel_rfl) (by kernel_rfl) (by kernel_rfl) (fun _ _ _ h => h) (Or.inl ⟨by rfl, fun w hSw => by first | (go_simp; done) | go_simp⟩) (by assumption) ?_
                (try simp only [Act.put, List.setIfInBounds_toArray, List.set_cons_zero, List.set_cons_succ])
                refine wpAnyH_ready (rs := [17]) (by kernel_rfl) (by simp) ?_
                refine AllReadyH.cons rfl (fun K hK => ?_) AllReadyH.nil
                rw [if_pos (by rfl)]
                go_simp
                refine hK.out _ _ HQ2.out (fun hHeld => ?_)
                clear hK
                (try simp only [Act.put, List.setIfInBounds_toArray, List.set_cons_zero, List.set_cons_succ])
                refine wpAnyH_done (by kernel_rfl) ?_ _
                clear hHeld y0 yf yl z1 zf HQ1 HQ2
                go_wp2_with fail
                go_roundg (n - (i + 1))
                case measure => omega
                case rel =>
                  obtain ⟨r1, r2, r3, r4, r5, r6, r7, r8, r9, r10⟩ := HFIN.out _ _ _ _ _ HX4.out
                  exact ⟨i + 1, r1, r2, r3, r4, r5, _, rfl, rfl, by omega, by go_num, r6, r7, r8, r9, r10⟩
          · have y := HCL.out X0 HX0.out.o
            have y0 : X0.cell? ⟨w.heap.size + 1, 1, none⟩ = some (.slice aO i kO) := cell_blk y.1
            have yl := y.2.2
            rw [if_pos (by rfl)]
            go_simp
            refine hK.out _ _ y.2.1 (fun hHeld => ?_)
            clear hK y y0 yl
            (try simp only [Act.put, List.setIfInBounds_toArray, List.set_cons_zero, List.set_cons_succ])
            refine wpAnyH_ready (rs := [1, 3, 12]) (by kernel_rfl) (by simp) ?_
            refine AllReadyH.cons rfl (fun K hK => ?_) (AllReadyH.cons rfl (fun K hK => ?_) (AllReadyH.cons rfl (fun K hK => ?_) AllReadyH.nil))
            · have y := HCL.out X0 HX0.out.o
              have y0 : X0.cell? ⟨w.heap.size + 1, 0, none⟩ = some (.slice aN i kN) := cell_blk y.1
              have yl := y.2.2
              rw [if_pos (by rfl)]
              go_simp
              refine hK.out _ _ y.2.1 (fun hHeld => ?_)
              clear hK y y0 yl
              (try simp only [Act.put, List.setIfInBounds_toArray, List.set_cons_zero, List.set_cons_succ])
              refine wpAnyH_ready (rs := [3, 12]) (by kernel_rfl) (by simp) ?_
              refine AllReadyH.cons rfl (fun K hK => ?_) (AllReadyH.cons rfl (fun K hK => ?_) AllReadyH.nil)
              · rw [if_pos (by rfl)]
                go_simp
                obtain ⟨X1, hX1⟩ : ∃ Y, Y = X0.alloc (.cells #[.slice aW k kW] 23) := ⟨_, rfl⟩
                obtain ⟨nA, hnA⟩ : ∃ n, n = X0.heap.size := ⟨_, rfl⟩
                have HNAX1 : Hid (X1.heap[nA]? = some (.cells #[.slice aW k kW] 23 (0, 0)) ∧ V.heap.size ≤ nA) := by rw [hX1, hnA]; exact ⟨heap_alloc_new _ _, HX0.out.o.size⟩
                have HX1 : Hid _ := HX0.out.alloc (.cells #[.slice aW k kW] 23)
                rw [← hX1] at HX1 ⊢
                rw [← hnA]
                clear hX1 hnA
                refine hK.out _ _ (HCL.out X1 HX1.out.o).2.1 (fun hHeld => ?_)
                clear hK
                (try simp only [Act.put, List.setIfInBounds_toArray, List.set_cons_zero, List.set_cons_succ])
                refine wpAnyH_ready (rs := [4, 12]) (by kernel_rfl) (by simp) ?_
                refine AllReadyH.cons rfl (fun K hK => ?_) (AllReadyH.cons rfl (fun K hK => ?_) AllReadyH.nil)
                · have yl := (HCL.out X1 HX1.out.o).2.2
                  refine step_A (by rfl) _ _ (by rfl) (w.heap.size + 2) (.slice aN i kN) i vs (by rfl) HX1.out.a nA (.slice aW k kW) (by rfl) HNAX1.out.1 rfl (by omega) (by omega) ?_
                  intro gA cA X2 hown hgrow
                  have HX2 : Hid _ := HX1.out.appA hgrow hown
                  clear hown hgrow yl
                  refine hK.out _ _ (HCL.out X2 HX2.out.o).2.1 (fun hHeld => ?_)
                  clear hK
                  (try simp only [Act.put, List.setIfInBounds_toArray, List.set_cons_zero, List.set_cons_succ])
                  refine wpAnyH_take (i := 14) (oi := { dst := some 67, op := _, type := _, pos := _, after := _, guard := _ }) (v := .pointer (some ⟨w.heap.size + 1, 0, none⟩)) rfl (by kernel_rfl) (by kernel_rfl) (by kernel_rfl) (fun _ _ _ h => h) (Or.inl ⟨by rfl, fun w hSw => by first | (go_simp; done) | go_simp⟩) (by assumption) ?_
                  (try simp only [Act.put, List.setIfInBounds_toArray, List.set_cons_zero, List.set_cons_succ])
                  refine wpAnyH_ready (rs := [12]) (by kernel_rfl) (by simp) ?_
                  refine AllReadyH.cons rfl (fun K hK => ?_) AllReadyH.nil
                  rw [if_pos (by rfl)]
                  go_simp
                  obtain ⟨X3, hX3⟩ : ∃ Y, Y = X2.alloc (.cells #[.int .u32 (ro : Int)] 38) := ⟨_, rfl⟩
                  obtain ⟨nB, hnB⟩ : ∃ n, n = X2.heap.size := ⟨_, rfl⟩
                  have HNBX3 : Hid (X3.heap[nB]? = some (.cells #[.int .u32 (ro : Int)] 38 (0, 0)) ∧ V.heap.size ≤ nB) := by rw [hX3, hnB]; exact ⟨heap_alloc_new _ _, HX2.out.o.size⟩
                  have HX3 : Hid _ := HX2.out.alloc (.cells #[.int .u32 (ro : Int)] 38)
                  rw [← hX3] at HX3 ⊢
                  rw [← hnB]
                  clear hX3 hnB
                  refine hK.out _ _ (HCL.out X3 HX3.out.o).2.1 (fun hHeld => ?_)
                  clear hK
                  (try simp only [Act.put, List.setIfInBounds_toArray, List.set_cons_zero, List.set_cons_succ])
                  refine wpAnyH_ready (rs := [13]) (by kernel_rfl) (by simp) ?_
                  refine AllReadyH.cons rfl (fun K hK => ?_) AllReadyH.nil
                  have yl := (HCL.out X3 HX3.out.o).2.2
                  refine step_B (by rfl) _ _ (by rfl) (w.heap.size + 2) (.slice aO i kO) i (outs.map u32V) (by rfl) HX3.out.b nB (.int .u32 (ro : Int)) (by rfl) HNBX3.out.1 rfl (by omega) (by omega) ?_
                  intro gB cB X4 hown hgrow
                  have HX4 : Hid _ := HX3.out.appB hgrow hown
                  clear hown hgrow yl
                  refine hK.out _ _ (HCL.out X4 HX4.out.o).2.1 (fun hHeld => ?_)
                  clear hK
                  (try simp only [Act.put, List.setIfInBounds_toArray, List.set_cons_zero, List.set_cons_succ])
                  have y := HCL.out X4 HX4.out.o
                  have y0 : X4.cell? ⟨w.heap.size + 1, 0, none⟩ = some (.slice aN i kN) := cell_blk y.1
                  have yf : ∀ q, X4.frozen? ⟨w.heap.size + 1, q, none⟩ = false := fun q => fz_blk y.1 q
                  have yl := y.2.2
                  have z := heap_setCell_at (k := 0) y.1 (.slice (some ⟨gA, 0, none⟩) (i + 1) cA)
                  have z1 : (X4.setCell ⟨w.heap.size + 1, 0, none⟩ (.slice (some ⟨gA, 0, none⟩) (i + 1) cA)).cell? ⟨w.heap.size + 1, 1, none⟩ = some (.slice aO i kO) := cell_blk z
                  have zf : ∀ q, (X4.setCell ⟨w.heap.size + 1, 0, none⟩ (.slice (some ⟨gA, 0, none⟩) (i + 1) cA)).frozen? ⟨w.heap.size + 1, q, none⟩ = false := fun q => fz_blk z q
                  have HQ1 : Hid _ := HHS.out X4 0 (.slice (some ⟨gA, 0, none⟩) (i + 1) cA) y.2.1
                  have HQ2 : Hid _ := HHS.out _ 1 (.slice (some ⟨gB, 0, none⟩) (i + 1) cB) HQ1.out
                  clear y z
                  refine wpAnyH_ready (rs := [15]) (by kernel_rfl) (by simp) ?_
                  refine AllReadyH.cons rfl (fun K hK => ?_) AllReadyH.nil
                  rw [if_pos (by rfl)]
                  go_simp
                  refine hK.out _ _ HQ1.out (fun hHeld => ?_)
                  clear hK
                  (try simp only [Act.put, List.setIfInBounds_toArray, List.set_cons_zero, List.set_cons_succ])
                  refine wpAnyH_take (i := 16) (oi := { dst := some 68, op := _, type := _, pos := _, after := _, guard := _ }) (v := .pointer (some ⟨w.heap.size + 1, 1, none⟩)) rfl (by kernel_rfl) (by kernel_rfl) (by kernel_rfl) (fun _ _ _ h => h) (Or.inl ⟨by rfl, fun w hSw => by first | (go_simp; done) | go_simp⟩) (by assumption) ?_
                  (try simp only [Act.put, List.setIfInBounds_toArray, List.set_cons_zero, List.set_cons_succ])
                  refine wpAnyH_ready (rs := [17]) (by kernel_rfl) (by simp) ?_
                  refine AllReadyH.cons rfl (fun K hK => ?_) AllReadyH.nil
                  rw [if_pos (by rfl)]
                  go_simp
                  refine hK.out _ _ HQ2.out (fun hHeld => ?_)
                  clear hK
                  (try simp only [Act.put, List.setIfInBounds_toArray, List.set_cons_zero, List.set_cons_succ])
                  refine wpAnyH_done (by kernel_rfl) ?_ _
                  clear hHeld y0 yf yl z1 zf HQ1 HQ2
                  go_wp2_with fail
                  go_roundg (n - (i + 1))
                  case measure => omega
                  case rel =>
                    obtain ⟨r1, r2, r3, r4, r5, r6, r7, r8, r9, r10⟩ := HFIN.out _ _ _ _ _ HX4.out
                    exact ⟨i + 1, r1, r2, r3, r4, r5, _, rfl, rfl, by omega, by go_num, r6, r7, r8, r9, r10⟩
                · rw [if_pos (by rfl)]
                  go_simp
                  obtain ⟨X2, hX2⟩ : ∃ Y, Y = X1.alloc (.cells #[.int .u32 (ro : Int)] 38) := ⟨_, rfl⟩
                  obtain ⟨nB, hnB⟩ : ∃ n, n = X1.heap.size := ⟨_, rfl⟩
                  have HNBX2 : Hid (X2.heap[nB]? = some (.cells #[.int .u32 (ro : Int)] 38 (0, 0)) ∧ V.heap.size ≤ nB) := by rw [hX2, hnB]; exact ⟨heap_alloc_new _ _, HX1.out.o.size⟩
                  have HX2 : Hid _ := HX1.out.alloc (.cells #[.int .u32 (ro : Int)] 38)
                  have HNAX2 : Hid (X2.heap[nA]? = some (.cells #[.slice aW k kW] 23 (0, 0)) ∧ V.heap.size ≤ nA) := by rw [hX2]; exact ⟨blk_alloc _ HNAX1.out.1, HNAX1.out.2⟩
                  rw [← hX2] at HX2 ⊢
                  rw [← hnB]
                  clear hX2 hnB
                  refine hK.out _ _ (HCL.out X2 HX2.out.o).2.1 (fun hHeld => ?_)
                  clear hK
                  (try simp only [Act.put, List.setIfInBounds_toArray, List.set_cons_zero, List.set_cons_succ])
                  refine wpAnyH_ready (rs := [4]) (by kernel_rfl) (by simp) ?_
                  refine AllReadyH.cons rfl (fun K hK => ?_) AllReadyH.nil
                  have yl := (HCL.out X2 HX2.out.o).2.2
                  refine step_A (by rfl) _ _ (by rfl) (w.heap.size + 2) (.slice aN i kN) i vs (by rfl) HX2.out.a nA (.slice aW k kW) (by rfl) HNAX2.out.1 rfl (by omega) (by omega) ?_
                  intro gA cA X3 hown hgrow
                  have HNBX3 : Hid (X3.heap[nB]? = some (.cells #[.int .u32 (ro : Int)] 38 (0, 0)) ∧ V.heap.size ≤ nB) := ⟨blk_grow HNBX2.out.1 HX2.out.a hgrow (fun e => by have h1 := own_lt HOLD.out.nx e; have h2 := HNBX2.out.2; omega), HNBX2.out.2⟩
                  have HX3 : Hid _ := HX2.out.appA hgrow hown
                  clear hown hgrow yl
                  refine hK.out _ _ (HCL.out X3 HX3.out.o).2.1 (fun hHeld => ?_)
                  clear hK
                  (try simp only [Act.put, List.setIfInBounds_toArray, List.set_cons_zero, List.set_cons_succ])
                  refine wpAnyH_take (i := 14) (oi := { dst := some 67, op := _, type := _, pos := _, after := _, guard := _ }) (v := .pointer (some ⟨w.heap.size + 1, 0, none⟩)) rfl (by kernel_rfl) (by kernel_rfl) (by kernel_rfl) (fun _ _ _ h => h) (Or.inl ⟨by rfl, fun w hSw => by first | (go_simp; done) | go_simp⟩) (by assumption) ?_
                  (try simp only [Act.put, List.setIfInBounds_toArray, List.set_cons_zero, List.set_cons_succ])
                  refine wpAnyH_ready (rs := [13]) (by kernel_rfl) (by simp) ?_
                  refine AllReadyH.cons rfl (fun K hK => ?_) AllReadyH.nil
                  have yl := (HCL.out X3 HX3.out.o).2.2
                  refine step_B (by rfl) _ _ (by rfl) (w.heap.size + 2) (.slice aO i kO) i (outs.map u32V) (by rfl) HX3.out.b nB (.int .u32 (ro : Int)) (by rfl) HNBX3.out.1 rfl (by omega) (by omega) ?_
                  intro gB cB X4 hown hgrow
                  have HX4 : Hid _ := HX3.out.appB hgrow hown
                  clear hown hgrow yl
                  refine hK.out _ _ (HCL.out X4 HX4.out.o).2.1 (fun hHeld => ?_)
                  clear hK
                  (try simp only [Act.put, List.setIfInBounds_toArray, List.set_cons_zero, List.set_cons_succ])
                  have y := HCL.out X4 HX4.out.o
                  have y0 : X4.cell? ⟨w.heap.size + 1, 0, none⟩ = some (.slice aN i kN) := cell_blk y.1
                  have yf : ∀ q, X4.frozen? ⟨w.heap.size + 1, q, none⟩ = false := fun q => fz_blk y.1 q
                  have yl := y.2.2
                  have z := heap_setCell_at (k := 0) y.1 (.slice (some ⟨gA, 0, none⟩) (i + 1) cA)
                  have z1 : (X4.setCell ⟨w.heap.size + 1, 0, none⟩ (.slice (some ⟨gA, 0, none⟩) (i + 1) cA)).cell? ⟨w.heap.size + 1, 1, none⟩ = some (.slice aO i kO) := cell_blk z
                  have zf : ∀ q, (X4.setCell ⟨w.heap.size + 1, 0, none⟩ (.slice (some ⟨gA, 0, none⟩) (i + 1) cA)).frozen? ⟨w.heap.size + 1, q, none⟩ = false := fun q => fz_blk z q
                  have HQ1 : Hid _ := HHS.out X4 0 (.slice (some ⟨gA, 0, none⟩) (i + 1) cA) y.2.1
                  have HQ2 : Hid _ := HHS.out _ 1 (.slice (some ⟨gB, 0, none⟩) (i + 1) cB) HQ1.out
                  clear y z
                  refine wpAnyH_ready (rs := [15]) (by kernel_rfl) (by simp) ?_
                  refine AllReadyH.cons rfl (fun K hK => ?_) AllReadyH.nil
                  rw [if_pos (by rfl)]
                  go_simp
                  refine hK.out _ _ HQ1.out (fun hHeld => ?_)
                  clear hK
                  (try simp only [Act.put, List.setIfInBounds_toArray, List.set_cons_zero, List.set_cons_succ])
                  refine wpAnyH_take (i := 16) (oi := { dst := some 68, op := _, type := _, pos := _, after := _, guard := _ }) (v := .pointer (some ⟨w.heap.size + 1, 1, none⟩)) rfl (by kernel_rfl) (by kernel_rfl) (by kernel_rfl) (fun _ _ _ h => h) (Or.inl ⟨by rfl, fun w hSw => by first | (go_simp; done) | go_simp⟩) (by assumption) ?_
                  (try simp only [Act.put, List.setIfInBounds_toArray, List.set_cons_zero, List.set_cons_succ])
                  refine wpAnyH_ready (rs := [17]) (by kernel_rfl) (by simp) ?_
                  refine AllReadyH.cons rfl (fun K hK => ?_) AllReadyH.nil
                  rw [if_pos (by rfl)]
                  go_simp
                  refine hK.out _ _ HQ2.out (fun hHeld => ?_)
                  clear hK
                  (try simp only [Act.put, List.setIfInBounds_toArray, List.set_cons_zero, List.set_cons_succ])
                  refine wpAnyH_done (by kernel_rfl) ?_ _
                  clear hHeld y0 yf yl z1 zf HQ1 HQ2
                  go_wp2_with fail
                  go_roundg (n - (i + 1))
                  case measure => omega
                  case rel =>
                    obtain ⟨r1, r2, r3, r4, r5, r6, r7, r8, r9, r10⟩ := HFIN.out _ _ _ _ _ HX4.out
                    exact ⟨i + 1, r1, r2, r3, r4, r5, _, rfl, rfl, by omega, by go_num, r6, r7, r8, r9, r10⟩
              · rw [if_pos (by rfl)]
                go_simp
                obtain ⟨X1, hX1⟩ : ∃ Y, Y = X0.alloc (.cells #[.int .u32 (ro : Int)] 38) := ⟨_, rfl⟩
                obtain ⟨nB, hnB⟩ : ∃ n, n = X0.heap.size := ⟨_, rfl⟩
                have HNBX1 : Hid (X1.heap[nB]? = some (.cells #[.int .u32 (ro : Int)] 38 (0, 0)) ∧ V.heap.size ≤ nB) := by rw [hX1, hnB]; exact ⟨heap_alloc_new _ _, HX0.out.o.size⟩
                have HX1 : Hid _ := HX0.out.alloc (.cells #[.int .u32 (ro : Int)] 38)
                rw [← hX1] at HX1 ⊢
                rw [← hnB]
                clear hX1 hnB
                refine hK.out _ _ (HCL.out X1 HX1.out.o).2.1 (fun hHeld => ?_)
                clear hK
                (try simp only [Act.put, List.setIfInBounds_toArray, List.set_cons_zero, List.set_cons_succ])
                refine wpAnyH_ready (rs := [3]) (by kernel_rfl) (by simp) ?_
                refine AllReadyH.cons rfl (fun K hK => ?_) AllReadyH.nil
                rw [if_pos (by rfl)]
                go_simp
                obtain ⟨X2, hX2⟩ : ∃ Y, Y = X1.alloc (.cells #[.slice aW k kW] 23) := ⟨_, rfl⟩
                obtain ⟨nA, hnA⟩ : ∃ n, n = X1.heap.size := ⟨_, rfl⟩
                have HNAX2 : Hid (X2.heap[nA]? = some (.cells #[.slice aW k kW] 23 (0, 0)) ∧ V.heap.size ≤ nA) := by rw [hX2, hnA]; exact ⟨heap_alloc_new _ _, HX1.out.o.size⟩
                have HX2 : Hid _ := HX1.out.alloc (.cells #[.slice aW k kW] 23)
                have HNBX2 : Hid (X2.heap[nB]? = some (.cells #[.int .u32 (ro : Int)] 38 (0, 0)) ∧ V.heap.size ≤ nB) := by rw [hX2]; exact ⟨blk_alloc _ HNBX1.out.1, HNBX1.out.2⟩
                rw [← hX2] at HX2 ⊢
                rw [← hnA]
                clear hX2 hnA
                refine hK.out _ _ (HCL.out X2 HX2.out.o).2.1 (fun hHeld => ?_)
                clear hK
                (try simp only [Act.put, List.setIfInBounds_toArray, List.set_cons_zero, List.set_cons_succ])
                refine wpAnyH_ready (rs := [4]) (by kernel_rfl) (by simp) ?_
                refine AllReadyH.cons rfl (fun K hK => ?_) AllReadyH.nil
                have yl := (HCL.out X2 HX2.out.o).2.2
                refine step_A (by rfl) _ _ (by rfl) (w.heap.size + 2) (.slice aN i kN) i vs (by rfl) HX2.out.a nA (.slice aW k kW) (by rfl) HNAX2.out.1 rfl (by omega) (by omega) ?_
                intro gA cA X3 hown hgrow
                have HNBX3 : Hid (X3.heap[nB]? = some (.cells #[.int .u32 (ro : Int)] 38 (0, 0)) ∧ V.heap.size ≤ nB) := ⟨blk_grow HNBX2.out.1 HX2.out.a hgrow (fun e => by have h1 := own_lt HOLD.out.nx e; have h2 := HNBX2.out.2; omega), HNBX2.out.2⟩
                have HX3 : Hid _ := HX2.out.appA hgrow hown
                clear hown hgrow yl
                refine hK.out _ _ (HCL.out X3 HX3.out.o).2.1 (fun hHeld => ?_)
                clear hK
                (try simp only [Act.put, List.setIfInBounds_toArray, List.set_cons_zero, List.set_cons_succ])
                refine wpAnyH_take (i := 14) (oi := { dst := some 67, op := _, type := _, pos := _, after := _, guard := _ }) (v := .pointer (some ⟨w.heap.size + 1, 0, none⟩)) rfl (by kernel_rfl) (by kernel_rfl) (by kernel_rfl) (fun _ _ _ h => h) (Or.inl ⟨by rfl, fun w hSw => by first | (go_simp; done) | go_simp⟩) (by assumption) ?_
                (try simp only [Act.put, List.setIfInBounds_toArray, List.set_cons_zero, List.set_cons_succ])
                refine wpAnyH_ready (rs := [13]) (by kernel_rfl) (by simp) ?_
                refine AllReadyH.cons rfl (fun K hK => ?_) AllReadyH.nil
                have yl := (HCL.out X3 HX3.out.o).2.2
                refine step_B (by rfl) _ _ (by rfl) (w.heap.size + 2) (.slice aO i kO) i (outs.map u32V) (by rfl) HX3.out.b nB (.int .u32 (ro : Int)) (by rfl) HNBX3.out.1 rfl (by omega) (by omega) ?_
                intro gB cB X4 hown hgrow
                have HX4 : Hid _ := HX3.out.appB hgrow hown
                clear hown hgrow yl
                refine hK.out _ _ (HCL.out X4 HX4.out.o).2.1 (fun hHeld => ?_)
                clear hK
                (try simp only [Act.put, List.setIfInBounds_toArray, List.set_cons_zero, List.set_cons_succ])
                have y := HCL.out X4 HX4.out.o
                have y0 : X4.cell? ⟨w.heap.size + 1, 0, none⟩ = some (.slice aN i kN) := cell_blk y.1
                have yf : ∀ q, X4.frozen? ⟨w.heap.size + 1, q, none⟩ = false := fun q => fz_blk y.1 q
                have yl := y.2.2
                have z := heap_setCell_at (k := 0) y.1 (.slice (some ⟨gA, 0, none⟩) (i + 1) cA)
                have z1 : (X4.setCell ⟨w.heap.size + 1, 0, none⟩ (.slice (some ⟨gA, 0, none⟩) (i + 1) cA)).cell? ⟨w.heap.size + 1, 1, none⟩ = some (.slice aO i kO) := cell_blk z
                have zf : ∀ q, (X4.setCell ⟨w.heap.size + 1, 0, none⟩ (.slice (some ⟨gA, 0, none⟩) (i + 1) cA)).frozen? ⟨w.heap.size + 1, q, none⟩ = false := fun q => fz_blk z q
                have HQ1 : Hid _ := HHS.out X4 0 (.slice (some ⟨gA, 0, none⟩) (i + 1) cA) y.2.1
                have HQ2 : Hid _ := HHS.out _ 1 (.slice (some ⟨gB, 0, none⟩) (i + 1) cB) HQ1.out
                clear y z
                refine wpAnyH_ready (rs := [15]) (by kernel_rfl) (by simp) ?_
                refine AllReadyH.cons rfl (fun K hK => ?_) AllReadyH.nil
                rw [if_pos (by rfl)]
                go_simp
                refine hK.out _ _ HQ1.out (fun hHeld => ?_)
                clear hK
                (try simp only [Act.put, List.setIfInBounds_toArray, List.set_cons_zero, List.set_cons_succ])
                refine wpAnyH_take (i := 16) (oi := { dst := some 68, op := _, type := _, pos := _, after := _, guard := _ }) (v := .pointer (some ⟨w.heap.size + 1, 1, none⟩)) rfl (by kernel_rfl) (by kernel_rfl) (by kernel_rfl) (fun _ _ _ h => h) (Or.inl ⟨by rfl, fun w hSw => by first | (go_simp; done) | go_simp⟩) (by assumption) ?_
                (try simp only [Act.put, List.setIfInBounds_toArray, List.set_cons_zero, List.set_cons_succ])
                refine wpAnyH_ready (rs := [17]) (by kernel_rfl) (by simp) ?_
                refine AllReadyH.cons rfl (fun K hK => ?_) AllReadyH.nil
                rw [if_pos (by rfl)]
                go_simp
                refine hK.out _ _ HQ2.out (fun hHeld => ?_)
                clear hK
                (try simp only [Act.put, List.setIfInBounds_toArray, List.set_cons_zero, List.set_cons_succ])
                refine wpAnyH_done (by kernel_rfl) ?_ _
                clear hHeld y0 yf yl z1 zf HQ1 HQ2
                go_wp2_with fail
                go_roundg (n - (i + 1))
                case measure => omega
                case rel =>
                  obtain ⟨r1, r2, r3, r4, r5, r6, r7, r8, r9, r10⟩ := HFIN.out _ _ _ _ _ HX4.out
                  exact ⟨i + 1, r1, r2, r3, r4, r5, _, rfl, rfl, by omega, by go_num, r6, r7, r8, r9, r10⟩
            · rw [if_pos (by rfl)]
              go_simp
              obtain ⟨X1, hX1⟩ : ∃ Y, Y = X0.alloc (.cells #[.slice aW k kW] 23) := ⟨_, rfl⟩
              obtain ⟨nA, hnA⟩ : ∃ n, n = X0.heap.size := ⟨_, rfl⟩
              have HNAX1 : Hid (X1.heap[nA]? = some (.cells #[.slice aW k kW] 23 (0, 0)) ∧ V.heap.size ≤ nA) := by rw [hX1, hnA]; exact ⟨heap_alloc_new _ _, HX0.out.o.size⟩
              have HX1 : Hid _ := HX0.out.alloc (.cells #[.slice aW k kW] 23)
              rw [← hX1] at HX1 ⊢
              rw [← hnA]
              clear hX1 hnA
              refine hK.out _ _ (HCL.out X1 HX1.out.o).2.1 (fun hHeld => ?_)
              clear hK
              (try simp only [Act.put, List.setIfInBounds_toArray, List.set_cons_zero, List.set_cons_succ])
              refine wpAnyH_ready (rs := [1, 12]) (by kernel_rfl) (by simp) ?_
              refine AllReadyH.cons rfl (fun K hK => ?_) (AllReadyH.cons rfl (fun K hK => ?_) AllReadyH.nil)
              · have y := HCL.out X1 HX1.out.o
                have y0 : X1.cell? ⟨w.heap.size + 1, 0, none⟩ = some (.slice aN i kN) := cell_blk y.1
                have yl := y.2.2
                rw [if_pos (by rfl)]
                go_simp
                refine hK.out _ _ y.2.1 (fun hHeld => ?_)
                clear hK y y0 yl
                (try simp only [Act.put, List.setIfInBounds_toArray, List.set_cons_zero, List.set_cons_succ])
                refine wpAnyH_ready (rs := [4, 12]) (by kernel_rfl) (by simp) ?_
                refine AllReadyH.cons rfl (fun K hK => ?_) (AllReadyH.cons rfl (fun K hK => ?_) AllReadyH.nil)
                · have yl := (HCL.out X1 HX1.out.o).2.2
                  refine step_A (by rfl) _ _ (by rfl) (w.heap.size + 2) (.slice aN i kN) i vs (by rfl) HX1.out.a nA (.slice aW k kW) (by rfl) HNAX1.out.1 rfl (by omega) (by omega) ?_
                  intro gA cA X2 hown hgrow
                  have HX2 : Hid _ := HX1.out.appA hgrow hown
                  clear hown hgrow yl
                  refine hK.out _ _ (HCL.out X2 HX2.out.o).2.1 (fun hHeld => ?_)
                  clear hK
                  (try simp only [Act.put, List.setIfInBounds_toArray, List.set_cons_zero, List.set_cons_succ])
                  refine wpAnyH_take (i := 14) (oi := { dst := some 67, op := _, type := _, pos := _, after := _, guard := _ }) (v := .pointer (some ⟨w.heap.size + 1, 0, none⟩)) rfl (by kernel_rfl) (by kernel_rfl) (by kernel_rfl) (fun _ _ _ h => h) (Or.inl ⟨by rfl, fun w hSw => by first | (go_simp; done) | go_simp⟩) (by assumption) ?_
                  (try simp only [Act.put, List.setIfInBounds_toArray, List.set_cons_zero, List.set_cons_succ])
                  refine wpAnyH_ready (rs := [12]) (by kernel_rfl) (by simp) ?_
                  refine AllReadyH.cons rfl (fun K hK => ?_) AllReadyH.nil
                  rw [if_pos (by rfl)]
                  go_simp
                  obtain ⟨X3, hX3⟩ : ∃ Y, Y = X2.alloc (.cells #[.int .u32 (ro : Int)] 38) := ⟨_, rfl⟩
                  obtain ⟨nB, hnB⟩ : ∃ n, n = X2.heap.size := ⟨_, rfl⟩
                  have HNBX3 : Hid (X3.heap[nB]? = some (.cells #[.int .u32 (ro : Int)] 38 (0, 0)) ∧ V.heap.size ≤ nB) := by rw [hX3, hnB]; exact ⟨heap_alloc_new _ _, HX2.out.o.size⟩
                  have HX3 : Hid _ := HX2.out.alloc (.cells #[.int .u32 (ro : Int)] 38)
                  rw [← hX3] at HX3 ⊢
                  rw [← hnB]
                  clear hX3 hnB
                  refine hK.out _ _ (HCL.out X3 HX3.out.o).2.1 (fun hHeld => ?_)
                  clear hK
                  (try simp only [Act.put, List.setIfInBounds_toArray, List.set_cons_zero, List.set_cons_succ])
                  refine wpAnyH_ready (rs := [13]) (by kernel_rfl) (by simp) ?_
                  refine AllReadyH.cons rfl (fun K hK => ?_) AllReadyH.nil
                  have yl := (HCL.out X3 HX3.out.o).2.2
                  refine step_B (by rfl) _ _ (by rfl) (w.heap.size + 2) (.slice aO i kO) i (outs.map u32V) (by rfl) HX3.out.b nB (.int .u32 (ro : Int)) (by rfl) HNBX3.out.1 rfl (by omega) (by omega) ?_
                  intro gB cB X4 hown hgrow
                  have HX4 : Hid _ := HX3.out.appB hgrow hown
                  clear hown hgrow yl
                  refine hK.out _ _ (HCL.out X4 HX4.out.o).2.1 (fun hHeld => ?_)
                  clear hK
                  (try simp only [Act.put, List.setIfInBounds_toArray, List.set_cons_zero, List.set_cons_succ])
                  have y := HCL.out X4 HX4.out.o
                  have y0 : X4.cell? ⟨w.heap.size + 1, 0, none⟩ = some (.slice aN i kN) := cell_blk y.1
                  have yf : ∀ q, X4.frozen? ⟨w.heap.size + 1, q, none⟩ = false := fun q => fz_blk y.1 q
                  have yl := y.2.2
                  have z := heap_setCell_at (k := 0) y.1 (.slice (some ⟨gA, 0, none⟩) (i + 1) cA)
                  have z1 : (X4.setCell ⟨w.heap.size + 1, 0, none⟩ (.slice (some ⟨gA, 0, none⟩) (i + 1) cA)).cell? ⟨w.heap.size + 1, 1, none⟩ = some (.slice aO i kO) := cell_blk z
                  have zf : ∀ q, (X4.setCell ⟨w.heap.size + 1, 0, none⟩ (.slice (some ⟨gA, 0, none⟩) (i + 1) cA)).frozen? ⟨w.heap.size + 1, q, none⟩ = false := fun q => fz_blk z q
                  have HQ1 : Hid _ := HHS.out X4 0 (.slice (some ⟨gA, 0, none⟩) (i + 1) cA) y.2.1
                  have HQ2 : Hid _ := HHS.out _ 1 (.slice (some ⟨gB, 0, none⟩) (i + 1) cB) HQ1.out
                  clear y z
                  refine wpAnyH_ready (rs := [15]) (by kernel_rfl) (by simp) ?_
                  refine AllReadyH.cons rfl (fun K hK => ?_) AllReadyH.nil
                  rw [if_pos (by rfl)]
                  go_simp
                  refine hK.out _ _ HQ1.out (fun hHeld => ?_)
                  clear hK
                  (try simp only [Act.put, List.setIfInBounds_toArray, List.set_cons_zero, List.set_cons_succ])
                  refine wpAnyH_take (i := 16) (oi := { dst := some 68, op := _, type := _, pos := _, after := _, guard := _ }) (v := .pointer (some ⟨w.heap.size + 1, 1, none⟩)) rfl (by kernel_rfl) (by kernel_rfl) (by kernel_rfl) (fun _ _ _ h => h) (Or.inl ⟨by rfl, fun w hSw => by first | (go_simp; done) | go_simp⟩) (by assumption) ?_
                  (try simp only [Act.put, List.setIfInBounds_toArray, List.set_cons_zero, List.set_cons_succ])
                  refine wpAnyH_ready (rs := [17]) (by kernel_rfl) (by simp) ?_
                  refine AllReadyH.cons rfl (fun K hK => ?_) AllReadyH.nil
                  rw [if_pos (by rfl)]
                  go_simp
                  refine hK.out _ _ HQ2.out (fun hHeld => ?_)
                  clear hK
                  (try simp only [Act.put, List.setIfInBounds_toArray, List.set_cons_zero, List.set_cons_succ])
                  refine wpAnyH_done (by kernel_rfl) ?_ _
                  clear hHeld y0 yf yl z1 zf HQ1 HQ2
                  go_wp2_with fail
                  go_roundg (n - (i + 1))
                  case measure => omega
                  case rel =>
                    obtain ⟨r1, r2, r3, r4, r5, r6, r7, r8, r9, r10⟩ := HFIN.out _ _ _ _ _ HX4.out
                    exact ⟨i + 1, r1, r2, r3, r4, r5, _, rfl, rfl, by omega, by go_num, r6, r7, r8, r9, r10⟩
                · rw [if_pos (by rfl)]
                  go_simp
                  obtain ⟨X2, hX2⟩ : ∃ Y, Y = X1.alloc (.cells #[.int .u32 (ro : Int)] 38) := ⟨_, rfl⟩
                  obtain ⟨nB, hnB⟩ : ∃ n, n = X1.heap.size := ⟨_, rfl⟩
                  have HNBX2 : Hid (X2.heap[nB]? = some (.cells #[.int .u32 (ro : Int)] 38 (0, 0)) ∧ V.heap.size ≤ nB) := by rw [hX2, hnB]; exact ⟨heap_alloc_new _ _, HX1.out.o.size⟩
                  have HX2 : Hid _ := HX1.out.alloc (.cells #[.int .u32 (ro : Int)] 38)
                  have HNAX2 : Hid (X2.heap[nA]? = some (.cells #[.slice aW k kW] 23 (0, 0)) ∧ V.heap.size ≤ nA) := by rw [hX2]; exact ⟨blk_alloc _ HNAX1.out.1, HNAX1.out.2⟩
                  rw [← hX2] at HX2 ⊢
                  rw [← hnB]
                  clear hX2 hnB
                  refine hK.out _ _ (HCL.out X2 HX2.out.o).2.1 (fun hHeld => ?_)
                  clear hK
                  (try simp only [Act.put, List.setIfInBounds_toArray, List.set_cons_zero, List.set_cons_succ])
                  refine wpAnyH_ready (rs := [4]) (by kernel_rfl) (by simp) ?_
                  refine AllReadyH.cons rfl (fun K hK => ?_) AllReadyH.nil
                  have yl := (HCL.out X2 HX2.out.o).2.2
                  refine step_A (by rfl) _ _ (by rfl) (w.heap.size + 2) (.slice aN i kN) i vs (by rfl) HX2.out.a nA (.slice aW k kW) (by rfl) HNAX2.out.1 rfl (by omega) (by omega) ?_
                  intro gA cA X3 hown hgrow
                  have HNBX3 : Hid (X3.heap[nB]? = some (.cells #[.int .u32 (ro : Int)] 38 (0, 0)) ∧ V.heap.size ≤ nB) := ⟨blk_grow HNBX2.out.1 HX2.out.a hgrow (fun e => by have h1 := own_lt HOLD.out.nx e; have h2 := HNBX2.out.2; omega), HNBX2.out.2⟩
                  have HX3 : Hid _ := HX2.out.appA hgrow hown
                  clear hown hgrow yl
                  refine hK.out _ _ (HCL.out X3 HX3.out.o).2.1 (fun hHeld => ?_)
                  clear hK
                  (try simp only [Act.put, List.setIfInBounds_toArray, List.set_cons_zero, List.set_cons_succ])
                  refine wpAnyH_take (i := 14) (oi := { dst := some 67, op := _, type := _, pos := _, after := _, guard := _ }) (v := .pointer (some ⟨w.heap.size + 1, 0, none⟩)) rfl (by kernel_rfl) (by kernel_rfl) (by kernel_rfl) (fun _ _ _ h => h) (Or.inl ⟨by rfl, fun w hSw => by first | (go_simp; done) | go_simp⟩) (by assumption) ?_
                  (try simp only [Act.put, List.setIfInBounds_toArray, List.set_cons_zero, List.set_cons_succ])
                  refine wpAnyH_ready (rs := [13]) (by kernel_rfl) (by simp) ?_
                  refine AllReadyH.cons rfl (fun K hK => ?_) AllReadyH.nil
                  have yl := (HCL.out X3 HX3.out.o).2.2
                  refine step_B (by rfl) _ _ (by rfl) (w.heap.size + 2) (.slice aO i kO) i (outs.map u32V) (by rfl) HX3.out.b nB (.int .u32 (ro : Int)) (by rfl) HNBX3.out.1 rfl (by omega) (by omega) ?_
                  intro gB cB X4 hown hgrow
                  have HX4 : Hid _ := HX3.out.appB hgrow hown
                  clear hown hgrow yl
                  refine hK.out _ _ (HCL.out X4 HX4.out.o).2.1 (fun hHeld => ?_)
                  clear hK
                  (try simp only [Act.put, List.setIfInBounds_toArray, List.set_cons_zero, List.set_cons_succ])
                  have y := HCL.out X4 HX4.out.o
                  have y0 : X4.cell? ⟨w.heap.size + 1, 0, none⟩ = some (.slice aN i kN) := cell_blk y.1
                  have yf : ∀ q, X4.frozen? ⟨w.heap.size + 1, q, none⟩ = false := fun q => fz_blk y.1 q
                  have yl := y.2.2
                  have z := heap_setCell_at (k := 0) y.1 (.slice (some ⟨gA, 0, none⟩) (i + 1) cA)
                  have z1 : (X4.setCell ⟨w.heap.size + 1, 0, none⟩ (.slice (some ⟨gA, 0, none⟩) (i + 1) cA)).cell? ⟨w.heap.size + 1, 1, none⟩ = some (.slice aO i kO) := cell_blk z
                  have zf : ∀ q, (X4.setCell ⟨w.heap.size + 1, 0, none⟩ (.slice (some ⟨gA, 0, none⟩) (i + 1) cA)).frozen? ⟨w.heap.size + 1, q, none⟩ = false := fun q => fz_blk z q
                  have HQ1 : Hid _ := HHS.out X4 0 (.slice (some ⟨gA, 0, none⟩) (i + 1) cA) y.2.1
                  have HQ2 : Hid _ := HHS.out _ 1 (.slice (some ⟨gB, 0, none⟩) (i + 1) cB) HQ1.out
                  clear y z
                  refine wpAnyH_ready (rs := [15]) (by kernel_rfl) (by simp) ?_
                  refine AllReadyH.cons rfl (fun K hK => ?_) AllReadyH.nil
                  rw [if_pos (by rfl)]
                  go_simp
                  refine hK.out _ _ HQ1.out (fun hHeld => ?_)
                  clear hK
                  (try simp only [Act.put, List.setIfInBounds_toArray, List.set_cons_zero, List.set_cons_succ])
                  refine wpAnyH_take (i := 16) (oi := { dst := some 68, op := _, type := _, pos := _, after := _, guard := _ }) (v := .pointer (some ⟨w.heap.size + 1, 1, none⟩)) rfl (by kernel_rfl) (by kernel_rfl) (by kernel_rfl) (fun _ _ _ h => h) (Or.inl ⟨by rfl, fun w hSw => by first | (go_simp; done) | go_simp⟩) (by assumption) ?_
                  (try simp only [Act.put, List.setIfInBounds_toArray, List.set_cons_zero, List.set_cons_succ])
                  refine wpAnyH_ready (rs := [17]) (by kernel_rfl) (by simp) ?_
                  refine AllReadyH.cons rfl (fun K hK => ?_) AllReadyH.nil
                  rw [if_pos (by rfl)]
                  go_simp
                  refine hK.out _ _ HQ2.out (fun hHeld => ?_)
                  clear hK
                  (try simp only [Act.put, List.setIfInBounds_toArray, List.set_cons_zero, List.set_cons_succ])
                  refine wpAnyH_done (by kernel_rfl) ?_ _
                  clear hHeld y0 yf yl z1 zf HQ1 HQ2
                  go_wp2_with fail
                  go_roundg (n - (i + 1))
                  case measure => omega
                  case rel =>
                    obtain ⟨r1, r2, r3, r4, r5, r6, r7, r8, r9, r10⟩ := HFIN.out _ _ _ _ _ HX4.out
                    exact ⟨i + 1, r1, r2, r3, r4, r5, _, rfl, rfl, by omega, by go_num, r6, r7, r8, r9, r10⟩
              · rw [if_pos (by rfl)]
                go_simp
                obtain ⟨X2, hX2⟩ : ∃ Y, Y = X1.alloc (.cells #[.int .u32 (ro : Int)] 38) := ⟨_, rfl⟩
                obtain ⟨nB, hnB⟩ : ∃ n, n = X1.heap.size := ⟨_, rfl⟩
                have HNBX2 : Hid (X2.heap[nB]? = some (.cells #[.int .u32 (ro : Int)] 38 (0, 0)) ∧ V.heap.size ≤ nB) := by rw [hX2, hnB]; exact ⟨heap_alloc_new _ _, HX1.out.o.size⟩
                have HX2 : Hid _ := HX1.out.alloc (.cells #[.int .u32 (ro : Int)] 38)
                have HNAX2 : Hid (X2.heap[nA]? = some (.cells #[.slice aW k kW] 23 (0, 0)) ∧ V.heap.size ≤ nA) := by rw [hX2]; exact ⟨blk_alloc _ HNAX1.out.1, HNAX1.out.2⟩
                rw [← hX2] at HX2 ⊢
                rw [← hnB]
                clear hX2 hnB
                refine hK.out _ _ (HCL.out X2 HX2.out.o).2.1 (fun hHeld => ?_)
                clear hK
                (try simp only [Act.put, List.setIfInBounds_toArray, List.set_cons_zero, List.set_cons_succ])
                refine wpAnyH_ready (rs := [1]) (by kernel_rfl) (by simp) ?_
                refine AllReadyH.cons rfl (fun K hK => ?_) AllReadyH.nil
                have y := HCL.out X2 HX2.out.o
                have y0 : X2.cell? ⟨w.heap.size + 1, 0, none⟩ = some (.slice aN i kN) := cell_blk y.1
                have yl := y.2.2
                rw [if_pos (by rfl)]
                go_simp
                refine hK.out _ _ y.2.1 (fun hHeld => ?_)
                clear hK y y0 yl
                (try simp only [Act.put, List.setIfInBounds_toArray, List.set_cons_zero, List.set_cons_succ])
                refine wpAnyH_ready (rs := [4]) (by kernel_rfl) (by simp) ?_
                refine AllReadyH.cons rfl (fun K hK => ?_) AllReadyH.nil
                have yl := (HCL.out X2 HX2.out.o).2.2
                refine step_A (by rfl) _ _ (by rfl) (w.heap.size + 2) (.slice aN i kN) i vs (by rfl) HX2.out.a nA (.slice aW k kW) (by rfl) HNAX2.out.1 rfl (by omega) (by omega) ?_
                intro gA cA X3 hown hgrow
                have HNBX3 : Hid (X3.heap[nB]? = some (.cells #[.int .u32 (ro : Int)] 38 (0, 0)) ∧ V.heap.size ≤ nB) := ⟨blk_grow HNBX2.out.1 HX2.out.a hgrow (fun e => by have h1 := own_lt HOLD.out.nx e; have h2 := HNBX2.out.2; omega), HNBX2.out.2⟩
                have HX3 : Hid _ := HX2.out.appA hgrow hown
                clear hown hgrow yl
                refine hK.out _ _ (HCL.out X3 HX3.out.o).2.1 (fun hHeld => ?_)
                clear hK
                (try simp only [Act.put, List.setIfInBounds_toArray, List.set_cons_zero, List.set_cons_succ])
                refine wpAnyH_take (i := 14) (oi := { dst := some 67, op := _, type := _, pos := _, after := _, guard := _ }) (v := .pointer (some ⟨w.heap.size + 1, 0, none⟩)) rfl (by kernel_rfl) (by kernel_rfl) (by kernel_rfl) (fun _ _ _ h => h) (Or.inl ⟨by rfl, fun w hSw => by first | (go_simp; done) | go_simp⟩) (by assumption) ?_
                (try simp only [Act.put, List.setIfInBounds_toArray, List.set_cons_zero, List.set_cons_succ])
                refine wpAnyH_ready (rs := [13]) (by kernel_rfl) (by simp) ?_
                refine AllReadyH.cons rfl (fun K hK => ?_) AllReadyH.nil
                have yl := (HCL.out X3 HX3.out.o).2.2
                refine step_B (by rfl) _ _ (by rfl) (w.heap.size + 2) (.slice aO i kO) i (outs.map u32V) (by rfl) HX3.out.b nB (.int .u32 (ro : Int)) (by rfl) HNBX3.out.1 rfl (by omega) (by omega) ?_
                intro gB cB X4 hown hgrow
                have HX4 : Hid _ := HX3.out.appB hgrow hown
                clear hown hgrow yl
                refine hK.out _ _ (HCL.out X4 HX4.out.o).2.1 (fun hHeld => ?_)
                clear hK
                (try simp only [Act.put, List.setIfInBounds_toArray, List.set_cons_zero, List.set_cons_succ])
                have y := HCL.out X4 HX4.out.o
                have y0 : X4.cell? ⟨w.heap.size + 1, 0, none⟩ = some (.slice aN i kN) := cell_blk y.1
                have yf : ∀ q, X4.frozen? ⟨w.heap.size + 1, q, none⟩ = false := fun q => fz_blk y.1 q
                have yl := y.2.2
                have z := heap_setCell_at (k := 0) y.1 (.slice (some ⟨gA, 0, none⟩) (i + 1) cA)
                have z1 : (X4.setCell ⟨w.heap.size + 1, 0, none⟩ (.slice (some ⟨gA, 0, none⟩) (i + 1) cA)).cell? ⟨w.heap.size + 1, 1, none⟩ = some (.slice aO i kO) := cell_blk z
                have zf : ∀ q, (X4.setCell ⟨w.heap.size + 1, 0, none⟩ (.slice (some ⟨gA, 0, none⟩) (i + 1) cA)).frozen? ⟨w.heap.size + 1, q, none⟩ = false := fun q => fz_blk z q
                have HQ1 : Hid _ := HHS.out X4 0 (.slice (some ⟨gA, 0, none⟩) (i + 1) cA) y.2.1
                have HQ2 : Hid _ := HHS.out _ 1 (.slice (some ⟨gB, 0, none⟩) (i + 1) cB) HQ1.out
                clear y z
                refine wpAnyH_ready (rs := [15]) (by kernel_rfl) (by simp) ?_
                refine AllReadyH.cons rfl (fun K hK => ?_) AllReadyH.nil
                rw [if_pos (by rfl)]
                go_simp
                refine hK.out _ _ HQ1.out (fun hHeld => ?_)
                clear hK
                (try simp only [Act.put, List.setIfInBounds_toArray, List.set_cons_zero, List.set_cons_succ])
                refine wpAnyH_take (i := 16) (oi := { dst := some 68, op := _, type := _, pos := _, after := _, guard := _ }) (v := .pointer (some ⟨w.heap.size + 1, 1, none⟩)) rfl (by kernel_rfl) (by kernel_rfl) (by kernel_rfl) (fun _ _ _ h => h) (Or.inl ⟨by rfl, fun w hSw => by first | (go_simp; done) | go_simp⟩) (by assumption) ?_
                (try simp only [Act.put, List.setIfInBounds_toArray, List.set_cons_zero, List.set_cons_succ])
                refine wpAnyH_ready (rs := [17]) (by kernel_rfl) (by simp) ?_
                refine AllReadyH.cons rfl (fun K hK => ?_) AllReadyH.nil
                rw [if_pos (by rfl)]
                go_simp
                refine hK.out _ _ HQ2.out (fun hHeld => ?_)
                clear hK
                (try simp only [Act.put, List.setIfInBounds_toArray, List.set_cons_zero, List.set_cons_succ])
                refine wpAnyH_done (by kernel_rfl) ?_ _
                clear hHeld y0 yf yl z1 zf HQ1 HQ2
                go_wp2_with fail
                go_roundg (n - (i + 1))
                case measure => omega
                case rel =>
                  obtain ⟨r1, r2, r3, r4, r5, r6, r7, r8, r9, r10⟩ := HFIN.out _ _ _ _ _ HX4.out
                  exact ⟨i + 1, r1, r2, r3, r4, r5, _, rfl, rfl, by omega, by go_num, r6, r7, r8, r9, r10⟩
            · rw [if_pos (by rfl)]
              go_simp
              obtain ⟨X1, hX1⟩ : ∃ Y, Y = X0.alloc (.cells #[.int .u32 (ro : Int)] 38) := ⟨_, rfl⟩
              obtain ⟨nB, hnB⟩ : ∃ n, n = X0.heap.size := ⟨_, rfl⟩
              have HNBX1 : Hid (X1.heap[nB]? = some (.cells #[.int .u32 (ro : Int)] 38 (0, 0)) ∧ V.heap.size ≤ nB) := by rw [hX1, hnB]; exact ⟨heap_alloc_new _ _, HX0.out.o.size⟩
              have HX1 : Hid _ := HX0.out.alloc (.cells #[.int .u32 (ro : Int)] 38)
              rw [← hX1] at HX1 ⊢
              rw [← hnB]
              clear hX1 hnB
              refine hK.out _ _ (HCL.out X1 HX1.out.o).2.1 (fun hHeld => ?_)
              clear hK
              (try simp only [Act.put, List.setIfInBounds_toArray, List.set_cons_zero, List.set_cons_succ])
              refine wpAnyH_ready (rs := [1, 3]) (by kernel_rfl) (by simp) ?_
              refine AllReadyH.cons rfl (fun K hK => ?_) (AllReadyH.cons rfl (fun K hK => ?_) AllReadyH.nil)
              · have y := HCL.out X1 HX1.out.o
                have y0 : X1.cell? ⟨w.heap.size + 1, 0, none⟩ = some (.slice aN i kN) := cell_blk y.1
                have yl := y.2.2
                rw [if_pos (by rfl)]
                go_simp
                refine hK.out _ _ y.2.1 (fun hHeld => ?_)
                clear hK y y0 yl
                (try simp only [Act.put, List.setIfInBounds_toArray, List.set_cons_zero, List.set_cons_succ])
                refine wpAnyH_ready (rs := [3]) (by kernel_rfl) (by simp) ?_
                refine AllReadyH.cons rfl (fun K hK => ?_) AllReadyH.nil
                rw [if_pos (by rfl)]
                go_simp
                obtain ⟨X2, hX2⟩ : ∃ Y, Y = X1.alloc (.cells #[.slice aW k kW] 23) := ⟨_, rfl⟩
                obtain ⟨nA, hnA⟩ : ∃ n, n = X1.heap.size := ⟨_, rfl⟩
                have HNAX2 : Hid (X2.heap[nA]? = some (.cells #[.slice aW k kW] 23 (0, 0)) ∧ V.heap.size ≤ nA) := by rw [hX2, hnA]; exact ⟨heap_alloc_new _ _, HX1.out.o.size⟩
                have HX2 : Hid _ := HX1.out.alloc (.cells #[.slice aW k kW] 23)
                have HNBX2 : Hid (X2.heap[nB]? = some (.cells #[.int .u32 (ro : Int)] 38 (0, 0)) ∧ V.heap.size ≤ nB) := by rw [hX2]; exact ⟨blk_alloc _ HNBX1.out.1, HNBX1.out.2⟩
                rw [← hX2] at HX2 ⊢
                rw [← hnA]
                clear hX2 hnA
                refine hK.out _ _ (HCL.out X2 HX2.out.o).2.1 (fun hHeld => ?_)
                clear hK
                (try simp only [Act.put, List.setIfInBounds_toArray, List.set_cons_zero, List.set_cons_succ])
                refine wpAnyH_ready (rs := [4]) (by kernel_rfl) (by simp) ?_
                refine AllReadyH.cons rfl (fun K hK => ?_) AllReadyH.nil
                have yl := (HCL.out X2 HX2.out.o).2.2
                refine step_A (by rfl) _ _ (by rfl) (w.heap.size + 2) (.slice aN i kN) i vs (by rfl) HX2.out.a nA (.slice aW k kW) (by rfl) HNAX2.out.1 rfl (by omega) (by omega) ?_
                intro gA cA X3 hown hgrow
                have HNBX3 : Hid (X3.heap[nB]? = some (.cells #[.int .u32 (ro : Int)] 38 (0, 0)) ∧ V.heap.size ≤ nB) := ⟨blk_grow HNBX2.out.1 HX2.out.a hgrow (fun e => by have h1 := own_lt HOLD.out.nx e; have h2 := HNBX2.out.2; omega), HNBX2.out.2⟩
                have HX3 : Hid _ := HX2.out.appA hgrow hown
                clear hown hgrow yl
                refine hK.out _ _ (HCL.out X3 HX3.out.o).2.1 (fun hHeld => ?_)
                clear hK
                (try simp only [Act.put, List.setIfInBounds_toArray, List.set_cons_zero, List.set_cons_succ])
                refine wpAnyH_take (i := 14) (oi := { dst := some 67, op := _, type := _, pos := _, after := _, guard := _ }) (v := .pointer (some ⟨w.heap.size + 1, 0, none⟩)) rfl (by kernel_rfl) (by kernel_rfl) (by kernel_rfl) (fun _ _ _ h => h) (Or.inl ⟨by rfl, fun w hSw => by first | (go_simp; done) | go_simp⟩) (by assumption) ?_
                (try simp only [Act.put, List.setIfInBounds_toArray, List.set_cons_zero, List.set_cons_succ])
                refine wpAnyH_ready (rs := [13]) (by kernel_rfl) (by simp) ?_
                refine AllReadyH.cons rfl (fun K hK => ?_) AllReadyH.nil
                have yl := (HCL.out X3 HX3.out.o).2.2
                refine step_B (by rfl) _ _ (by rfl) (w.heap.size + 2) (.slice aO i kO) i (outs.map u32V) (by rfl) HX3.out.b nB (.int .u32 (ro : Int)) (by rfl) HNBX3.out.1 rfl (by omega) (by omega) ?_
                intro gB cB X4 hown hgrow
                have HX4 : Hid _ := HX3.out.appB hgrow hown
                clear hown hgrow yl
                refine hK.out _ _ (HCL.out X4 HX4.out.o).2.1 (fun hHeld => ?_)
                clear hK
                (try simp only [Act.put, List.setIfInBounds_toArray, List.set_cons_zero, List.set_cons_succ])
                have y := HCL.out X4 HX4.out.o
                have y0 : X4.cell? ⟨w.heap.size + 1, 0, none⟩ = some (.slice aN i kN) := cell_blk y.1
                have yf : ∀ q, X4.frozen? ⟨w.heap.size + 1, q, none⟩ = false := fun q => fz_blk y.1 q
                have yl := y.2.2
                have z := heap_setCell_at (k := 0) y.1 (.slice (some ⟨gA, 0, none⟩) (i + 1) cA)
                have z1 : (X4.setCell ⟨w.heap.size + 1, 0, none⟩ (.slice (some ⟨gA, 0, none⟩) (i + 1) cA)).cell? ⟨w.heap.size + 1, 1, none⟩ = some (.slice aO i kO) := cell_blk z
                have zf : ∀ q, (X4.setCell ⟨w.heap.size + 1, 0, none⟩ (.slice (some ⟨gA, 0, none⟩) (i + 1) cA)).frozen? ⟨w.heap.size + 1, q, none⟩ = false := fun q => fz_blk z q
                have HQ1 : Hid _ := HHS.out X4 0 (.slice (some ⟨gA, 0, none⟩) (i + 1) cA) y.2.1
                have HQ2 : Hid _ := HHS.out _ 1 (.slice (some ⟨gB, 0, none⟩) (i + 1) cB) HQ1.out
                clear y z
                refine wpAnyH_ready (rs := [15]) (by kernel_rfl) (by simp) ?_
                refine AllReadyH.cons rfl (fun K hK => ?_) AllReadyH.nil
                rw [if_pos (by rfl)]
                go_simp
                refine hK.out _ _ HQ1.out (fun hHeld => ?_)
                clear hK
                (try simp only [Act.put, List.setIfInBounds_toArray, List.set_cons_zero, List.set_cons_succ])
                refine wpAnyH_take (i := 16) (oi := { dst := some 68, op := _, type := _, pos := _, after := _, guard := _ }) (v := .pointer (some ⟨w.heap.size + 1, 1, none⟩)) rfl (by kernel_rfl) (by kernel_rfl) (by kernel_rfl) (fun _ _ _ h => h) (Or.inl ⟨by rfl, fun w hSw => by first | (go_simp; done) | go_simp⟩) (by assumption) ?_
                (try simp only [Act.put, List.setIfInBounds_toArray, List.set_cons_zero, List.set_cons_succ])
                refine wpAnyH_ready (rs := [17]) (by kernel_rfl) (by simp) ?_
                refine AllReadyH.cons rfl (fun K hK => ?_) AllReadyH.nil
                rw [if_pos (by rfl)]
                go_simp
                refine hK.out _ _ HQ2.out (fun hHeld => ?_)
                clear hK
                (try simp only [Act.put, List.setIfInBounds_toArray, List.set_cons_zero, List.set_cons_succ])
                refine wpAnyH_done (by kernel_rfl) ?_ _
                clear hHeld y0 yf yl z1 zf HQ1 HQ2
                go_wp2_with fail
                go_roundg (n - (i + 1))
                case measure => omega
                case rel =>
                  obtain ⟨r1, r2, r3, r4, r5, r6, r7, r8, r9, r10⟩ := HFIN.out _ _ _ _ _ HX4.out
                  exact ⟨i + 1, r1, r2, r3, r4, r5, _, rfl, rfl, by omega, by go_num, r6, r7, r8, r9, r10⟩
              · rw [if_pos (by rfl)]
                go_simp
                obtain ⟨X2, hX2⟩ : ∃ Y, Y = X1.alloc (.cells #[.slice aW k kW] 23) := ⟨_, rfl⟩
                obtain ⟨nA, hnA⟩ : ∃ n, n = X1.heap.size := ⟨_, rfl⟩
                have HNAX2 : Hid (X2.heap[nA]? = some (.cells #[.slice aW k kW] 23 (0, 0)) ∧ V.heap.size ≤ nA) := by rw [hX2, hnA]; exact ⟨heap_alloc_new _ _, HX1.out.o.size⟩
                have HX2 : Hid _ := HX1.out.alloc (.cells #[.slice aW k kW] 23)
                have HNBX2 : Hid (X2.heap[nB]? = some (.cells #[.int .u32 (ro : Int)] 38 (0, 0)) ∧ V.heap.size ≤ nB) := by rw [hX2]; exact ⟨blk_alloc _ HNBX1.out.1, HNBX1.out.2⟩
                rw [← hX2] at HX2 ⊢
                rw [← hnA]
                clear hX2 hnA
                refine hK.out _ _ (HCL.out X2 HX2.out.o).2.1 (fun hHeld => ?_)
                clear hK
                (try simp only [Act.put, List.setIfInBounds_toArray, List.set_cons_zero, List.set_cons_succ])
                refine wpAnyH_ready (rs := [1]) (by kernel_rfl) (by simp) ?_
                refine AllReadyH.cons rfl (fun K hK => ?_) AllReadyH.nil
                have y := HCL.out X2 HX2.out.o
                have y0 : X2.cell? ⟨w.heap.size + 1, 0, none⟩ = some (.slice aN i kN) := cell_blk y.1
                have yl := y.2.2
                rw [if_pos (by rfl)]
                go_simp
                refine hK.out _ _ y.2.1 (fun hHeld => ?_)
                clear hK y y0 yl
                (try simp only [Act.put, List.setIfInBounds_toArray, List.set_cons_zero, List.set_cons_succ])
                refine wpAnyH_ready (rs := [4]) (by kernel_rfl) (by simp) ?_
                refine AllReadyH.cons rfl (fun K hK => ?_) AllReadyH.nil
                have yl := (HCL.out X2 HX2.out.o).2.2
                refine step_A (by rfl) _ _ (by rfl) (w.heap.size + 2) (.slice aN i kN) i vs (by rfl) HX2.out.a nA (.slice aW k kW) (by rfl) HNAX2.out.1 rfl (by omega) (by omega) ?_
                intro gA cA X3 hown hgrow
                have HNBX3 : Hid (X3.heap[nB]? = some (.cells #[.int .u32 (ro : Int)] 38 (0, 0)) ∧ V.heap.size ≤ nB) := ⟨blk_grow HNBX2.out.1 HX2.out.a hgrow (fun e => by have h1 := own_lt HOLD.out.nx e; have h2 := HNBX2.out.2; omega), HNBX2.out.2⟩
                have HX3 : Hid _ := HX2.out.appA hgrow hown
                clear hown hgrow yl
                refine hK.out _ _ (HCL.out X3 HX3.out.o).2.1 (fun hHeld => ?_)
                clear hK
                (try simp only [Act.put, List.setIfInBounds_toArray, List.set_cons_zero, List.set_cons_succ])
                refine wpAnyH_take (i := 14) (oi := { dst := some 67, op := _, type := _, pos := _, after := _, guard := _ }) (v := .pointer (some ⟨w.heap.size + 1, 0, none⟩)) rfl (by kernel_rfl) (by kernel_rfl) (by kernel_rfl) (fun _ _ _ h => h) (Or.inl ⟨by rfl, fun w hSw => by first | (go_simp; done) | go_simp⟩) (by assumption) ?_
                (try simp only [Act.put, List.setIfInBounds_toArray, List.set_cons_zero, List.set_cons_succ])
                refine wpAnyH_ready (rs := [13]) (by kernel_rfl) (by simp) ?_
                refine AllReadyH.cons rfl (fun K hK => ?_) AllReadyH.nil
                have yl := (HCL.out X3 HX3.out.o).2.2
                refine step_B (by rfl) _ _ (by rfl) (w.heap.size + 2) (.slice aO i kO) i (outs.map u32V) (by rfl) HX3.out.b nB (.int .u32 (ro : Int)) (by rfl) HNBX3.out.1 rfl (by omega) (by omega) ?_
                intro gB cB X4 hown hgrow
                have HX4 : Hid _ := HX3.out.appB hgrow hown
                clear hown hgrow yl
                refine hK.out _ _ (HCL.out X4 HX4.out.o).2.1 (fun hHeld => ?_)
                clear hK
                (try simp only [Act.put, List.setIfInBounds_toArray, List.set_cons_zero, List.set_cons_succ])
                have y := HCL.out X4 HX4.out.o
                have y0 : X4.cell? ⟨w.heap.size + 1, 0, none⟩ = some (.slice aN i kN) := cell_blk y.1
                have yf : ∀ q, X4.frozen? ⟨w.heap.size + 1, q, none⟩ = false := fun q => fz_blk y.1 q
                have yl := y.2.2
                have z := heap_setCell_at (k := 0) y.1 (.slice (some ⟨gA, 0, none⟩) (i + 1) cA)
                have z1 : (X4.setCell ⟨w.heap.size + 1, 0, none⟩ (.slice (some ⟨gA, 0, none⟩) (i + 1) cA)).cell? ⟨w.heap.size + 1, 1, none⟩ = some (.slice aO i kO) := cell_blk z
                have zf : ∀ q, (X4.setCell ⟨w.heap.size + 1, 0, none⟩ (.slice (some ⟨gA, 0, none⟩) (i + 1) cA)).frozen? ⟨w.heap.size + 1, q, none⟩ = false := fun q => fz_blk z q
                have HQ1 : Hid _ := HHS.out X4 0 (.slice (some ⟨gA, 0, none⟩) (i + 1) cA) y.2.1
                have HQ2 : Hid _ := HHS.out _ 1 (.slice (some ⟨gB, 0, none⟩) (i + 1) cB) HQ1.out
                clear y z
                refine wpAnyH_ready (rs := [15]) (by kernel_rfl) (by simp) ?_
                refine AllReadyH.cons rfl (fun K hK => ?_) AllReadyH.nil
                rw [if_pos (by rfl)]
                go_simp
                refine hK.out _ _ HQ1.out (fun hHeld => ?_)
                clear hK
                (try simp only [Act.put, List.setIfInBounds_toArray, List.set_cons_zero, List.set_cons_succ])
                refine wpAnyH_take (i := 16) (oi := { dst := some 68, op := _, type := _, pos := _, after := _, guard := _ }) (v := .pointer (some ⟨w.heap.size + 1, 1, none⟩)) rfl (by kernel_rfl) (by kernel_rfl) (by kernel_rfl) (fun _ _ _ h => h) (Or.inl ⟨by rfl, fun w hSw => by first | (go_simp; done) | go_simp⟩) (by assumption) ?_
                (try simp only [Act.put, List.setIfInBounds_toArray, List.set_cons_zero, List.set_cons_succ])
                refine wpAnyH_ready (rs := [17]) (by kernel_rfl) (by simp) ?_
                refine AllReadyH.cons rfl (fun K hK => ?_) AllReadyH.nil
                rw [if_pos (by rfl)]
                go_simp
                refine hK.out _ _ HQ2.out (fun hHeld => ?_)
                clear hK
                (try simp only [Act.put, List.setIfInBounds_toArray, List.set_cons_zero, List.set_cons_succ])
                refine wpAnyH_done (by kernel_rfl) ?_ _
                clear hHeld y0 yf yl z1 zf HQ1 HQ2
                go_wp2_with fail
                go_roundg (n - (i + 1))
                case measure => omega
                case rel =>
                  obtain ⟨r1, r2, r3, r4, r5, r6, r7, r8, r9, r10⟩ := HFIN.out _ _ _ _ _ HX4.out
                  exact ⟨i + 1, r1, r2, r3, r4, r5, _, rfl, rfl, by omega, by go_num, r6, r7, r8, r9, r10⟩
          · rw [if_pos (by rfl)]
            go_simp
            obtain ⟨X1, hX1⟩ : ∃ Y, Y = X0.alloc (.cells #[.int .u32 (ro : Int)] 38) := ⟨_, rfl⟩
            obtain ⟨nB, hnB⟩ : ∃ n, n = X0.heap.size := ⟨_, rfl⟩
            have HNBX1 : Hid (X1.heap[nB]? = some (.cells #[.int .u32 (ro : Int)] 38 (0, 0)) ∧ V.heap.size ≤ nB) := by rw [hX1, hnB]; exact ⟨heap_alloc_new _ _, HX0.out.o.size⟩
            have HX1 : Hid _ := HX0.out.alloc (.cells #[.int .u32 (ro : Int)] 38)
            rw [← hX1] at HX1 ⊢
            rw [← hnB]
            clear hX1 hnB
            refine hK.out _ _ (HCL.out X1 HX1.out.o).2.1 (fun hHeld => ?_)
            clear hK
            (try simp only [Act.put, List.setIfInBounds_toArray, List.set_cons_zero, List.set_cons_succ])
            refine wpAnyH_ready (rs := [1, 3, 6]) (by kernel_rfl) (by simp) ?_
            refine AllReadyH.cons rfl (fun K hK => ?_) (AllReadyH.cons rfl (fun K hK => ?_) (AllReadyH.cons rfl (fun K hK => ?_) AllReadyH.nil))
            · have y := HCL.out X1 HX1.out.o
              have y0 : X1.cell? ⟨w.heap.size + 1, 0, none⟩ = some (.slice aN i kN) := cell_blk y.1
              have yl := y.2.2
              rw [if_pos (by rfl)]
              go_simp
              refine hK.out _ _ y.2.1 (fun hHeld => ?_)
              clear hK y y0 yl
              (try simp only [Act.put, List.setIfInBounds_toArray, List.set_cons_zero, List.set_cons_succ])
              refine wpAnyH_ready (rs := [3, 6]) (by kernel_rfl) (by simp) ?_
              refine AllReadyH.cons rfl (fun K hK => ?_) (AllReadyH.cons rfl (fun K hK => ?_) AllReadyH.nil)
              · rw [if_pos (by rfl)]
                go_simp
                obtain ⟨X2, hX2⟩ : ∃ Y, Y = X1.alloc (.cells #[.slice aW k kW] 23) := ⟨_, rfl⟩
                obtain ⟨nA, hnA⟩ : ∃ n, n = X1.heap.size := ⟨_, rfl⟩
                have HNAX2 : Hid (X2.heap[nA]? = some (.cells #[.slice aW k kW] 23 (0, 0)) ∧ V.heap.size ≤ nA) := by rw [hX2, hnA]; exact ⟨heap_alloc_new _ _, HX1.out.o.size⟩
                have HX2 : Hid _ := HX1.out.alloc (.cells #[.slice aW k kW] 23)
                have HNBX2 : Hid (X2.heap[nB]? = some (.cells #[.int .u32 (ro : Int)] 38 (0, 0)) ∧ V.heap.size ≤ nB) := by rw [hX2]; exact ⟨blk_alloc _ HNBX1.out.1, HNBX1.out.2⟩
                rw [← hX2] at HX2 ⊢
                rw [← hnA]
                clear hX2 hnA
                refine hK.out _ _ (HCL.out X2 HX2.out.o).2.1 (fun hHeld => ?_)
                clear hK
                (try simp only [Act.put, List.setIfInBounds_toArray, List.set_cons_zero, List.set_cons_succ])
                refine wpAnyH_ready (rs := [4, 6]) (by kernel_rfl) (by simp) ?_
                refine AllReadyH.cons rfl (fun K hK => ?_) (AllReadyH.cons rfl (fun K hK => ?_) AllReadyH.nil)
                · have yl := (HCL.out X2 HX2.out.o).2.2
                  refine step_A (by rfl) _ _ (by rfl) (w.heap.size + 2) (.slice aN i kN) i vs (by rfl) HX2.out.a nA (.slice aW k kW) (by rfl) HNAX2.out.1 rfl (by omega) (by omega) ?_
                  intro gA cA X3 hown hgrow
                  have HNBX3 : Hid (X3.heap[nB]? = some (.cells #[.int .u32 (ro : Int)] 38 (0, 0)) ∧ V.heap.size ≤ nB) := ⟨blk_grow HNBX2.out.1 HX2.out.a hgrow (fun e => by have h1 := own_lt HOLD.out.nx e; have h2 := HNBX2.out.2; omega), HNBX2.out.2⟩
                  have HX3 : Hid _ := HX2.out.appA hgrow hown
                  clear hown hgrow yl
                  refine hK.out _ _ (HCL.out X3 HX3.out.o).2.1 (fun hHeld => ?_)
                  clear hK
                  (try simp only [Act.put, List.setIfInBounds_toArray, List.set_cons_zero, List.set_cons_succ])
                  refine wpAnyH_ready (rs := [6]) (by kernel_rfl) (by simp) ?_
                  refine AllReadyH.cons rfl (fun K hK => ?_) AllReadyH.nil
                  have y := HCL.out X3 HX3.out.o
                  have y0 : X3.cell? ⟨w.heap.size + 1, 1, none⟩ = some (.slice aO i kO) := cell_blk y.1
                  have yl := y.2.2
                  rw [if_pos (by rfl)]
                  go_simp
                  refine hK.out _ _ y.2.1 (fun hHeld => ?_)
                  clear hK y y0 yl
                  (try simp only [Act.put, List.setIfInBounds_toArray, List.set_cons_zero, List.set_cons_succ])
                  refine wpAnyH_take (i := 14) (oi := { dst := some 67, op := _, type := _, pos := _, after := _, guard := _ }) (v := .pointer (some ⟨w.heap.size + 1, 0, none⟩)) rfl (by kernel_rfl) (by kernel_rfl) (by kernel_rfl) (fun _ _ _ h => h) (Or.inl ⟨by rfl, fun w hSw => by first | (go_simp; done) | go_simp⟩) (by assumption) ?_
                  (try simp only [Act.put, List.setIfInBounds_toArray, List.set_cons_zero, List.set_cons_succ])
                  refine wpAnyH_ready (rs := [13]) (by kernel_rfl) (by simp) ?_
                  refine AllReadyH.cons rfl (fun K hK => ?_) AllReadyH.nil
                  have yl := (HCL.out X3 HX3.out.o).2.2
                  refine step_B (by rfl) _ _ (by rfl) (w.heap.size + 2) (.slice aO i kO) i (outs.map u32V) (by rfl) HX3.out.b nB (.int .u32 (ro : Int)) (by rfl) HNBX3.out.1 rfl (by omega) (by omega) ?_
                  intro gB cB X4 hown hgrow
                  have HX4 : Hid _ := HX3.out.appB hgrow hown
                  clear hown hgrow yl
                  refine hK.out _ _ (HCL.out X4 HX4.out.o).2.1 (fun hHeld => ?_)
                  clear hK
                  (try simp only [Act.put, List.setIfInBounds_toArray, List.set_cons_zero, List.set_cons_succ])
                  have y := HCL.out X4 HX4.out.o
                  have y0 : X4.cell? ⟨w.heap.size + 1, 0, none⟩ = some (.slice aN i kN) := cell_blk y.1
                  have yf : ∀ q, X4.frozen? ⟨w.heap.size + 1, q, none⟩ = false := fun q => fz_blk y.1 q
                  have yl := y.2.2
                  have z := heap_setCell_at (k := 0) y.1 (.slice (some ⟨gA, 0, none⟩) (i + 1) cA)
                  have z1 : (X4.setCell ⟨w.heap.size + 1, 0, none⟩ (.slice (some ⟨gA, 0, none⟩) (i + 1) cA)).cell? ⟨w.heap.size + 1, 1, none⟩ = some (.slice aO i kO) := cell_blk z
                  have zf : ∀ q, (X4.setCell ⟨w.heap.size + 1, 0, none⟩ (.slice (some ⟨gA, 0, none⟩) (i + 1) cA)).frozen? ⟨w.heap.size + 1, q, none⟩ = false := fun q => fz_blk z q
                  have HQ1 : Hid _ := HHS.out X4 0 (.slice (some ⟨gA, 0, none⟩) (i + 1) cA) y.2.1
                  have HQ2 : Hid _ := HHS.out _ 1 (.slice (some ⟨gB, 0, none⟩) (i + 1) cB) HQ1.out
                  clear y z
                  refine wpAnyH_ready (rs := [15]) (by kernel_rfl) (by simp) ?_
                  refine AllReadyH.cons rfl (fun K hK => ?_) AllReadyH.nil
                  rw [if_pos (by rfl)]
                  go_simp
                  refine hK.out _ _ HQ1.out (fun hHeld => ?_)
                  clear hK
                  (try simp only [Act.put, List.setIfInBounds_toArray, List.set_cons_zero, List.set_cons_succ])
                  refine wpAnyH_take (i := 16) (oi := { dst := some 68, op := _, type := _, pos := _, after := _, guard := _ }) (v := .pointer (some ⟨w.heap.size + 1, 1, none⟩)) rfl (by kernel_rfl) (by kernel_rfl) (by kernel_rfl) (fun _ _ _ h => h) (Or.inl ⟨by rfl, fun w hSw => by first | (go_simp; done) | go_simp⟩) (by assumption) ?_
                  (try simp only [Act.put, List.setIfInBounds_toArray, List.set_cons_zero, List.set_cons_succ])
                  refine wpAnyH_ready (rs := [17]) (by kernel_rfl) (by simp) ?_
                  refine AllReadyH.cons rfl (fun K hK => ?_) AllReadyH.nil
                  rw [if_pos (by rfl)]
                  go_simp
                  refine hK.out _ _ HQ2.out (fun hHeld => ?_)
                  clear hK
                  (try simp only [Act.put, List.setIfInBounds_toArray, List.set_cons_zero, List.set_cons_succ])
                  refine wpAnyH_done (by kernel_rfl) ?_ _
                  clear hHeld y0 yf yl z1 zf HQ1 HQ2
                  go_wp2_with fail
                  go_roundg (n - (i + 1))
                  case measure => omega
                  case rel =>
                    obtain ⟨r1, r2, r3, r4, r5, r6, r7, r8, r9, r10⟩ := HFIN.out _ _ _ _ _ HX4.out
                    exact ⟨i + 1, r1, r2, r3, r4, r5, _, rfl, rfl, by omega, by go_num, r6, r7, r8, r9, r10⟩
                · have y := HCL.out X2 HX2.out.o
                  have y0 : X2.cell? ⟨w.heap.size + 1, 1, none⟩ = some (.slice aO i kO) := cell_blk y.1
                  have yl := y.2.2
                  rw [if_pos (by rfl)]
                  go_simp
                  refine hK.out _ _ y.2.1 (fun hHeld => ?_)
                  clear hK y y0 yl
                  (try simp only [Act.put, List.setIfInBounds_toArray, List.set_cons_zero, List.set_cons_succ])
                  refine wpAnyH_ready (rs := [4]) (by kernel_rfl) (by simp) ?_
                  refine AllReadyH.cons rfl (fun K hK => ?_) AllReadyH.nil
                  have yl := (HCL.out X2 HX2.out.o).2.2
                  refine step_A (by rfl) _ _ (by rfl) (w.heap.size + 2) (.slice aN i kN) i vs (by rfl) HX2.out.a nA (.slice aW k kW) (by rfl) HNAX2.out.1 rfl (by omega) (by omega) ?_
                  intro gA cA X3 hown hgrow
                  have HNBX3 : Hid (X3.heap[nB]? = some (.cells #[.int .u32 (ro : Int)] 38 (0, 0)) ∧ V.heap.size ≤ nB) := ⟨blk_grow HNBX2.out.1 HX2.out.a hgrow (fun e => by have h1 := own_lt HOLD.out.nx e; have h2 := HNBX2.out.2; omega), HNBX2.out.2⟩
                  have HX3 : Hid _ := HX2.out.appA hgrow hown
                  clear hown hgrow yl
                  refine hK.out _ _ (HCL.out X3 HX3.out.o).2.1 (fun hHeld => ?_)
                  clear hK
                  (try simp only [Act.put, List.setIfInBounds_toArray, List.set_cons_zero, List.set_cons_succ])
                  refine wpAnyH_take (i := 14) (oi := { dst := some 67, op := _, type := _, pos := _, after := _, guard := _ }) (v := .pointer (some ⟨w.heap.size + 1, 0, none⟩)) rfl (by kernel_rfl) (by kernel_rfl) (by kernel_rfl) (fun _ _ _ h => h) (Or.inl ⟨by rfl, fun w hSw => by first | (go_simp; done) | go_simp⟩) (by assumption) ?_
                  (try simp only [Act.put, List.setIfInBounds_toArray, List.set_cons_zero, List.set_cons_succ])
                  refine wpAnyH_ready (rs := [13]) (by kernel_rfl) (by simp) ?_
                  refine AllReadyH.cons rfl (fun K hK => ?_) AllReadyH.nil
                  have yl := (HCL.out X3 HX3.out.o).2.2
                  refine step_B (by rfl) _ _ (by rfl) (w.heap.size + 2) (.slice aO i kO) i (outs.map u32V) (by rfl) HX3.out.b nB (.int .u32 (ro : Int)) (by rfl) HNBX3.out.1 rfl (by omega) (by omega) ?_
                  intro gB cB X4 hown hgrow
                  have HX4 : Hid _ := HX3.out.appB hgrow hown
                  clear hown hgrow yl
                  refine hK.out _ _ (HCL.out X4 HX4.out.o).2.1 (fun hHeld => ?_)
                  clear hK
                  (try simp only [Act.put, List.setIfInBounds_toArray, List.set_cons_zero, List.set_cons_succ])
                  have y := HCL.out X4 HX4.out.o
                  have y0 : X4.cell? ⟨w.heap.size + 1, 0, none⟩ = some (.slice aN i kN) := cell_blk y.1
                  have yf : ∀ q, X4.frozen? ⟨w.heap.size + 1, q, none⟩ = false := fun q => fz_blk y.1 q
                  have yl := y.2.2
                  have z := heap_setCell_at (k := 0) y.1 (.slice (some ⟨gA, 0, none⟩) (i + 1) cA)
                  have z1 : (X4.setCell ⟨w.heap.size + 1, 0, none⟩ (.slice (some ⟨gA, 0, none⟩) (i + 1) cA)).cell? ⟨w.heap.size + 1, 1, none⟩ = some (.slice aO i kO) := cell_blk z
                  have zf : ∀ q, (X4.setCell ⟨w.heap.size + 1, 0, none⟩ (.slice (some ⟨gA, 0, none⟩) (i + 1) cA)).frozen? ⟨w.heap.size + 1, q, none⟩ = false := fun q => fz_blk z q
                  have HQ1 : Hid _ := HHS.out X4 0 (.slice (some ⟨gA, 0, none⟩) (i + 1) cA) y.2.1
                  have HQ2 : Hid _ := HHS.out _ 1 (.slice (some ⟨gB, 0, none⟩) (i + 1) cB) HQ1.out
                  clear y z
                  refine wpAnyH_ready (rs := [15]) (by kernel_rfl) (by simp) ?_
                  refine AllReadyH.cons rfl (fun K hK => ?_) AllReadyH.nil
                  rw [if_pos (by rfl)]
                  go_simp
                  refine hK.out _ _ HQ1.out (fun hHeld => ?_)
                  clear hK
                  (try simp only [Act.put, List.setIfInBounds_toArray, List.set_cons_zero, List.set_cons_succ])
                  refine wpAnyH_take (i := 16) (oi := { dst := some 68, op := _, type := _, pos := _, after := _, guard := _ }) (v := .pointer (some ⟨w.heap.size + 1, 1, none⟩)) rfl (by kernel_rfl) (by kernel_rfl) (by kernel_rfl) (fun _ _ _ h => h) (Or.inl ⟨by rfl, fun w hSw => by first | (go_simp; done) | go_simp⟩) (by assumption) ?_
                  (try simp only [Act.put, List.setIfInBounds_toArray, List.set_cons_zero, List.set_cons_succ])
                  refine wpAnyH_ready (rs := [17]) (by kernel_rfl) (by simp) ?_
                  refine AllReadyH.cons rfl (fun K hK => ?_) AllReadyH.nil
                  rw [if_pos (by rfl)]
                  go_simp
                  refine hK.out _ _ HQ2.out (fun hHeld => ?_)
                  clear hK
                  (try simp only [Act.put, List.setIfInBounds_toArray, List.set_cons_zero, List.set_cons_succ])
                  refine wpAnyH_done (by kernel_rfl) ?_ _
                  clear hHeld y0 yf yl z1 zf HQ1 HQ2
                  go_wp2_with fail
                  go_roundg (n - (i + 1))
                  case measure => omega
                  case rel =>
                    obtain ⟨r1, r2, r3, r4, r5, r6, r7, r8, r9, r10⟩ := HFIN.out _ _ _ _ _ HX4.out
                    exact ⟨i + 1, r1, r2, r3, r4, r5, _, rfl, rfl, by omega, by go_num, r6, r7, r8, r9, r10⟩
              · have y := HCL.out X1 HX1.out.o
                have y0 : X1.cell? ⟨w.heap.size + 1, 1, none⟩ = some (.slice aO i kO) := cell_blk y.1
                have yl := y.2.2
                rw [if_pos (by rfl)]
                go_simp
                refine hK.out _ _ y.2.1 (fun hHeld => ?_)
                clear hK y y0 yl
                (try simp only [Act.put, List.setIfInBounds_toArray, List.set_cons_zero, List.set_cons_succ])
                refine wpAnyH_ready (rs := [3]) (by kernel_rfl) (by simp) ?_
                refine AllReadyH.cons rfl (fun K hK => ?_) AllReadyH.nil
                rw [if_pos (by rfl)]
                go_simp
                obtain ⟨X2, hX2⟩ : ∃ Y, Y = X1.alloc (.cells #[.slice aW k kW] 23) := ⟨_, rfl⟩
                obtain ⟨nA, hnA⟩ : ∃ n, n = X1.heap.size := ⟨_, rfl⟩
                have HNAX2 : Hid (X2.heap[nA]? = some (.cells #[.slice aW k kW] 23 (0, 0)) ∧ V.heap.size ≤ nA) := by rw [hX2, hnA]; exact ⟨heap_alloc_new _ _, HX1.out.o.size⟩
                have HX2 : Hid _ := HX1.out.alloc (.cells #[.slice aW k kW] 23)
                have HNBX2 : Hid (X2.heap[nB]? = some (.cells #[.int .u32 (ro : Int)] 38 (0, 0)) ∧ V.heap.size ≤ nB) := by rw [hX2]; exact ⟨blk_alloc _ HNBX1.out.1, HNBX1.out.2⟩
                rw [← hX2] at HX2 ⊢
                rw [← hnA]
                clear hX2 hnA
                refine hK.out _ _ (HCL.out X2 HX2.out.o).2.1 (fun hHeld => ?_)
                clear hK
                (try simp only [Act.put, List.setIfInBounds_toArray, List.set_cons_zero, List.set_cons_succ])
                refine wpAnyH_ready (rs := [4]) (by kernel_rfl) (by simp) ?_
                refine AllReadyH.cons rfl (fun K hK => ?_) AllReadyH.nil
                have yl := (HCL.out X2 HX2.out.o).2.2
                refine step_A (by rfl) _ _ (by rfl) (w.heap.size + 2) (.slice aN i kN) i vs (by rfl) HX2.out.a nA (.slice aW k kW) (by rfl) HNAX2.out.1 rfl (by omega) (by omega) ?_
                intro gA cA X3 hown hgrow
                have HNBX3 : Hid (X3.heap[nB]? = some (.cells #[.int .u32 (ro : Int)] 38 (0, 0)) ∧ V.heap.size ≤ nB) := ⟨blk_grow HNBX2.out.1 HX2.out.a hgrow (fun e => by have h1 := own_lt HOLD.out.nx e; have h2 := HNBX2.out.2; omega), HNBX2.out.2⟩
                have HX3 : Hid _ := HX2.out.appA hgrow hown
                clear hown hgrow yl
                refine hK.out _ _ (HCL.out X3 HX3.out.o).2.1 (fun hHeld => ?_)
                clear hK
                (try simp only [Act.put, List.setIfInBounds_toArray, List.set_cons_zero, List.set_cons_succ])
                refine wpAnyH_take (i := 14) (oi := { dst := some 67, op := _, type := _, pos := _, after := _, guard := _ }) (v := .pointer (some ⟨w.heap.size + 1, 0, none⟩)) rfl (by kernel_rfl) (by kernel_rfl) (by kernel_rfl) (fun _ _ _ h => h) (Or.inl ⟨by rfl, fun w hSw => by first | (go_simp; done) | go_simp⟩) (by assumption) ?_
                (try simp only [Act.put, List.setIfInBounds_toArray, List.set_cons_zero, List.set_cons_succ])
                refine wpAnyH_ready (rs := [13]) (by kernel_rfl) (by simp) ?_
                refine AllReadyH.cons rfl (fun K hK => ?_) AllReadyH.nil
                have yl := (HCL.out X3 HX3.out.o).2.2
                refine step_B (by rfl) _ _ (by rfl) (w.heap.size + 2) (.slice aO i kO) i (outs.map u32V) (by rfl) HX3.out.b nB (.int .u32 (ro : Int)) (by rfl) HNBX3.out.1 rfl (by omega) (by omega) ?_
                intro gB cB X4 hown hgrow
                have HX4 : Hid _ := HX3.out.appB hgrow hown
                clear hown hgrow yl
                refine hK.out _ _ (HCL.out X4 HX4.out.o).2.1 (fun hHeld => ?_)
                clear hK
                (try simp only [Act.put, List.setIfInBounds_toArray, List.set_cons_zero, List.set_cons_succ])
                have y := HCL.out X4 HX4.out.o
                have y0 : X4.cell? ⟨w.heap.size + 1, 0, none⟩ = some (.slice aN i kN) := cell_blk y.1
                have yf : ∀ q, X4.frozen? ⟨w.heap.size + 1, q, none⟩ = false := fun q => fz_blk y.1 q
                have yl := y.2.2
                have z := heap_setCell_at (k := 0) y.1 (.slice (some ⟨gA, 0, none⟩) (i + 1) cA)
                have z1 : (X4.setCell ⟨w.heap.size + 1, 0, none⟩ (.slice (some ⟨gA, 0, none⟩) (i + 1) cA)).cell? ⟨w.heap.size + 1, 1, none⟩ = some (.slice aO i kO) := cell_blk z
                have zf : ∀ q, (X4.setCell ⟨w.heap.size + 1, 0, none⟩ (.slice (some ⟨gA, 0, none⟩) (i + 1) cA)).frozen? ⟨w.heap.size + 1, q, none⟩ = false := fun q => fz_blk z q
                have HQ1 : Hid _ := HHS.out X4 0 (.slice (some ⟨gA, 0, none⟩) (i + 1) cA) y.2.1
                have HQ2 : Hid _ := HHS.out _ 1 (.slice (some ⟨gB, 0, none⟩) (i + 1) cB) HQ1.out
                clear y z
                refine wpAnyH_ready (rs := [15]) (by kernel_rfl) (by simp) ?_
                refine AllReadyH.cons rfl (fun K hK => ?_) AllReadyH.nil
                rw [if_pos (by rfl)]
                go_simp
                refine hK.out _ _ HQ1.out (fun hHeld => ?_)
                clear hK
                (try simp only [Act.put, List.setIfInBounds_toArray, List.set_cons_zero, List.set_cons_succ])
                refine wpAnyH_take (i := 16) (oi := { dst := some 68, op := _, type := _, pos := _, after := _, guard := _ }) (v := .pointer (some ⟨w.heap.size + 1, 1, none⟩)) rfl (by kernel_rfl) (by kernel_rfl) (by kernel_rfl) (fun _ _ _ h => h) (Or.inl ⟨by rfl, fun w hSw => by first | (go_simp; done) | go_simp⟩) (by assumption) ?_
                (try simp only [Act.put, List.setIfInBounds_toArray, List.set_cons_zero, List.set_cons_succ])
                refine wpAnyH_ready (rs := [17]) (by kernel_rfl) (by simp) ?_
                refine AllReadyH.cons rfl (fun K hK => ?_) AllReadyH.nil
                rw [if_pos (by rfl)]
                go_simp
                refine hK.out _ _ HQ2.out (fun hHeld => ?_)
                clear hK
                (try simp only [Act.put, List.setIfInBounds_toArray, List.set_cons_zero, List.set_cons_succ])
                refine wpAnyH_done (by kernel_rfl) ?_ _
                clear hHeld y0 yf yl z1 zf HQ1 HQ2
                go_wp2_with fail
                go_roundg (n - (i + 1))
                case measure => omega
                case rel =>
                  obtain ⟨r1, r2, r3, r4, r5, r6, r7, r8, r9, r10⟩ := HFIN.out _ _ _ _ _ HX4.out
                  exact ⟨i + 1, r1, r2, r3, r4, r5, _, rfl, rfl, by omega, by go_num, r6, r7, r8, r9, r10⟩
            · rw [if_pos (by rfl)]
              go_simp
              obtain ⟨X2, hX2⟩ : ∃ Y, Y = X1.alloc (.cells #[.slice aW k kW] 23) := ⟨_, rfl⟩
              obtain ⟨nA, hnA⟩ : ∃ n, n = X1.heap.size := ⟨_, rfl⟩
              have HNAX2 : Hid (X2.heap[nA]? = some (.cells #[.slice aW k kW] 23 (0, 0)) ∧ V.heap.size ≤ nA) := by rw [hX2, hnA]; exact ⟨heap_alloc_new _ _, HX1.out.o.size⟩
              have HX2 : Hid _ := HX1.out.alloc (.cells #[.slice aW k kW] 23)
              have HNBX2 : Hid (X2.heap[nB]? = some (.cells #[.int .u32 (ro : Int)] 38 (0, 0)) ∧ V.heap.size ≤ nB) := by rw [hX2]; exact ⟨blk_alloc _ HNBX1.out.1, HNBX1.out.2⟩
              rw [← hX2] at HX2 ⊢
              rw [← hnA]
              clear hX2 hnA
              refine hK.out _ _ (HCL.out X2 HX2.out.o).2.1 (fun hHeld => ?_)
              clear hK
              (try simp only [Act.put, List.setIfInBounds_toArray, List.set_cons_zero, List.set_cons_succ])
              refine wpAnyH_ready (rs := [1, 6]) (by kernel_rfl) (by simp) ?_
              refine AllReadyH.cons rfl (fun K hK => ?_) (AllReadyH.cons rfl (fun K hK => ?_) AllReadyH.nil)
              · have y := HCL.out X2 HX2.out.o
                have y0 : X2.cell? ⟨w.heap.size + 1, 0, none⟩ = some (.slice aN i kN) := cell_blk y.1
                have yl := y.2.2
                rw [if_pos (by rfl)]
                go_simp
                refine hK.out _ _ y.2.1 (fun hHeld => ?_)
                clear hK y y0 yl
                (try simp only [Act.put, List.setIfInBounds_toArray, List.set_cons_zero, List.set_cons_succ])
                refine wpAnyH_ready (rs := [4, 6]) (by kernel_rfl) (by simp) ?_
                refine AllReadyH.cons rfl (fun K hK => ?_) (AllReadyH.cons rfl (fun K hK => ?_) AllReadyH.nil)
                · have yl := (HCL.out X2 HX2.out.o).2.2
                  refine step_A (by rfl) _ _ (by rfl) (w.heap.size + 2) (.slice aN i kN) i vs (by rfl) HX2.out.a nA (.slice aW k kW) (by rfl) HNAX2.out.1 rfl (by omega) (by omega) ?_
                  intro gA cA X3 hown hgrow
                  have HNBX3 : Hid (X3.heap[nB]? = some (.cells #[.int .u32 (ro : Int)] 38 (0, 0)) ∧ V.heap.size ≤ nB) := ⟨blk_grow HNBX2.out.1 HX2.out.a hgrow (fun e => by have h1 := own_lt HOLD.out.nx e; have h2 := HNBX2.out.2; omega), HNBX2.out.2⟩
                  have HX3 : Hid _ := HX2.out.appA hgrow hown
                  clear hown hgrow yl
                  refine hK.out _ _ (HCL.out X3 HX3.out.o).2.1 (fun hHeld => ?_)
                  clear hK
                  (try simp only [Act.put, List.setIfInBounds_toArray, List.set_cons_zero, List.set_cons_succ])
                  refine wpAnyH_ready (rs := [6]) (by kernel_rfl) (by simp) ?_
                  refine AllReadyH.cons rfl (fun K hK => ?_) AllReadyH.nil
                  have y := HCL.out X3 HX3.out.o
                  have y0 : X3.cell? ⟨w.heap.size + 1, 1, none⟩ = some (.slice aO i kO) := cell_blk y.1
                  have yl := y.2.2
                  rw [if_pos (by rfl)]
                  go_simp
                  refine hK.out _ _ y.2.1 (fun hHeld => ?_)
                  clear hK y y0 yl
                  (try simp only [Act.put, List.setIfInBounds_toArray, List.set_cons_zero, List.set_cons_succ])
                  refine wpAnyH_take (i := 14) (oi := { dst := some 67, op := _, type := _, pos := _, after := _, guard := _ }) (v := .pointer (some ⟨w.heap.size + 1, 0, none⟩)) rfl (by kernel_rfl) (by kernel_rfl) (by kernel_rfl) (fun _ _ _ h => h) (Or.inl ⟨by rfl, fun w hSw => by first | (go_simp; done) | go_simp⟩) (by assumption) ?_
                  (try simp only [Act.put, List.setIfInBounds_toArray, List.set_cons_zero, List.set_cons_succ])
                  refine wpAnyH_ready (rs := [13]) (by kernel_rfl) (by simp) ?_
                  refine AllReadyH.cons rfl (fun K hK => ?_) AllReadyH.nil
                  have yl := (HCL.out X3 HX3.out.o).2.2
                  refine step_B (by rfl) _ _ (by rfl) (w.heap.size + 2) (.slice aO i kO) i (outs.map u32V) (by rfl) HX3.out.b nB (.int .u32 (ro : Int)) (by rfl) HNBX3.out.1 rfl (by omega) (by omega) ?_
                  intro gB cB X4 hown hgrow
                  have HX4 : Hid _ := HX3.out.appB hgrow hown
                  clear hown hgrow yl
                  refine hK.out _ _ (HCL.out X4 HX4.out.o).2.1 (fun hHeld => ?_)
                  clear hK
                  (try simp only [Act.put, List.setIfInBounds_toArray, List.set_cons_zero, List.set_cons_succ])
                  have y := HCL.out X4 HX4.out.o
                  have y0 : X4.cell? ⟨w.heap.size + 1, 0, none⟩ = some (.slice aN i kN) := cell_blk y.1
                  have yf : ∀ q, X4.frozen? ⟨w.heap.size + 1, q, none⟩ = false := fun q => fz_blk y.1 q
                  have yl := y.2.2
                  have z := heap_setCell_at (k := 0) y.1 (.slice (some ⟨gA, 0, none⟩) (i + 1) cA)
                  have z1 : (X4.setCell ⟨w.heap.size + 1, 0, none⟩ (.slice (some ⟨gA, 0, none⟩) (i + 1) cA)).cell? ⟨w.heap.size + 1, 1, none⟩ = some (.slice aO i kO) := cell_blk z
                  have zf : ∀ q, (X4.setCell ⟨w.heap.size + 1, 0, none⟩ (.slice (some ⟨gA, 0, none⟩) (i + 1) cA)).frozen? ⟨w.heap.size + 1, q, none⟩ = false := fun q => fz_blk z q
                  have HQ1 : Hid _ := HHS.out X4 0 (.slice (some ⟨gA, 0, none⟩) (i + 1) cA) y.2.1
                  have HQ2 : Hid _ := HHS.out _ 1 (.slice (some ⟨gB, 0, none⟩) (i + 1) cB) HQ1.out
                  clear y z
                  refine wpAnyH_ready (rs := [15]) (by kernel_rfl) (by simp) ?_
                  refine AllReadyH.cons rfl (fun K hK => ?_) AllReadyH.nil
                  rw [if_pos (by rfl)]
                  go_simp
                  refine hK.out _ _ HQ1.out (fun hHeld => ?_)
                  clear hK
                  (try simp only [Act.put, List.setIfInBounds_toArray, List.set_cons_zero, List.set_cons_succ])
                  refine wpAnyH_take (i := 16) (oi := { dst := some 68, op := _, type := _, pos := _, after := _, guard := _ }) (v := .pointer (some ⟨w.heap.size + 1, 1, none⟩)) rfl (by kernel_rfl) (by kernel_rfl) (by kernel_rfl) (fun _ _ _ h => h) (Or.inl ⟨by rfl, fun w hSw => by first | (go_simp; done) | go_simp⟩) (by assumption) ?_
                  (try simp only [Act.put, List.setIfInBounds_toArray, List.set_cons_zero, List.set_cons_succ])
                  refine wpAnyH_ready (rs := [17]) (by kernel_rfl) (by simp) ?_
                  refine AllReadyH.cons rfl (fun K hK => ?_) AllReadyH.nil
                  rw [if_pos (by rfl)]
                  go_simp
                  refine hK.out _ _ HQ2.out (fun hHeld => ?_)
                  clear hK
                  (try simp only [Act.put, List.setIfInBounds_toArray, List.set_cons_zero, List.set_cons_succ])
                  refine wpAnyH_done (by kernel_rfl) ?_ _
                  clear hHeld y0 yf yl z1 zf HQ1 HQ2
                  go_wp2_with fail
                  go_roundg (n - (i + 1))
                  case measure => omega
                  case rel =>
                    obtain ⟨r1, r2, r3, r4, r5, r6, r7, r8, r9, r10⟩ := HFIN.out _ _ _ _ _ HX4.out
                    exact ⟨i + 1, r1, r2, r3, r4, r5, _, rfl, rfl, by omega, by go_num, r6, r7, r8, r9, r10⟩
                · have y := HCL.out X2 HX2.out.o
                  have y0 : X2.cell? ⟨w.heap.size + 1, 1, none⟩ = some (.slice aO i kO) := cell_blk y.1
                  have yl := y.2.2
                  rw [if_pos (by rfl)]
                  go_simp
                  refine hK.out _ _ y.2.1 (fun hHeld => ?_)
                  clear hK y y0 yl
                  (try simp only [Act.put, List.setIfInBounds_toArray, List.set_cons_zero, List.set_cons_succ])
                  refine wpAnyH_ready (rs := [4]) (by kernel_rfl) (by simp) ?_
                  refine AllReadyH.cons rfl (fun K hK => ?_) AllReadyH.nil
                  have yl := (HCL.out X2 HX2.out.o).2.2
                  refine step_A (by rfl) _ _ (by rfl) (w.heap.size + 2) (.slice aN i kN) i vs (by rfl) HX2.out.a nA (.slice aW k kW) (by rfl) HNAX2.out.1 rfl (by omega) (by omega) ?_
                  intro gA cA X3 hown hgrow
                  have HNBX3 : Hid (X3.heap[nB]? = some (.cells #[.int .u32 (ro : Int)] 38 (0, 0)) ∧ V.heap.size ≤ nB) := ⟨blk_grow HNBX2.out.1 HX2.out.a hgrow (fun e => by have h1 := own_lt HOLD.out.nx e; have h2 := HNBX2.out.2; omega), HNBX2.out.2⟩
                  have HX3 : Hid _ := HX2.out.appA hgrow hown
                  clear hown hgrow yl
                  refine hK.out _ _ (HCL.out X3 HX3.out.o).2.1 (fun hHeld => ?_)
                  clear hK
                  (try simp only [Act.put, List.setIfInBounds_toArray, List.set_cons_zero, List.set_cons_succ])
                  refine wpAnyH_take (i := 14) (oi := { dst := some 67, op := _, type := _, pos := _, after := _, guard := _ }) (v := .pointer (some ⟨w.heap.size + 1, 0, none⟩)) rfl (by kernel_rfl) (by kernel_rfl) (by kernel_rfl) (fun _ _ _ h => h) (Or.inl ⟨by rfl, fun w hSw => by first | (go_simp; done) | go_simp⟩) (by assumption) ?_
                  (try simp only [Act.put, List.setIfInBounds_toArray, List.set_cons_zero, List.set_cons_succ])
                  refine wpAnyH_ready (rs := [13]) (by kernel_rfl) (by simp) ?_
                  refine AllReadyH.cons rfl (fun K hK => ?_) AllReadyH.nil
                  have yl := (HCL.out X3 HX3.out.o).2.2
                  refine step_B (by rfl) _ _ (by rfl) (w.heap.size + 2) (.slice aO i kO) i (outs.map u32V) (by rfl) HX3.out.b nB (.int .u32 (ro : Int)) (by rfl) HNBX3.out.1 rfl (by omega) (by omega) ?_
                  intro gB cB X4 hown hgrow
                  have HX4 : Hid _ := HX3.out.appB hgrow hown
                  clear hown hgrow yl
                  refine hK.out _ _ (HCL.out X4 HX4.out.o).2.1 (fun hHeld => ?_)
                  clear hK
                  (try simp only [Act.put, List.setIfInBounds_toArray, List.set_cons_zero, List.set_cons_succ])
                  have y := HCL.out X4 HX4.out.o
                  have y0 : X4.cell? ⟨w.heap.size + 1, 0, none⟩ = some (.slice aN i kN) := cell_blk y.1
                  have yf : ∀ q, X4.frozen? ⟨w.heap.size + 1, q, none⟩ = false := fun q => fz_blk y.1 q
                  have yl := y.2.2
                  have z := heap_setCell_at (k := 0) y.1 (.slice (some ⟨gA, 0, none⟩) (i + 1) cA)
                  have z1 : (X4.setCell ⟨w.heap.size + 1, 0, none⟩ (.slice (some ⟨gA, 0, none⟩) (i + 1) cA)).cell? ⟨w.heap.size + 1, 1, none⟩ = some (.slice aO i kO) := cell_blk z
                  have zf : ∀ q, (X4.setCell ⟨w.heap.size + 1, 0, none⟩ (.slice (some ⟨gA, 0, none⟩) (i + 1) cA)).frozen? ⟨w.heap.size + 1, q, none⟩ = false := fun q => fz_blk z q
                  have HQ1 : Hid _ := HHS.out X4 0 (.slice (some ⟨gA, 0, none⟩) (i + 1) cA) y.2.1
                  have HQ2 : Hid _ := HHS.out _ 1 (.slice (some ⟨gB, 0, none⟩) (i + 1) cB) HQ1.out
                  clear y z
                  refine wpAnyH_ready (rs := [15]) (by kernel_rfl) (by simp) ?_
                  refine AllReadyH.cons rfl (fun K hK => ?_) AllReadyH.nil
                  rw [if_pos (by rfl)]
                  go_simp
                  refine hK.out _ _ HQ1.out (fun hHeld => ?_)
                  clear hK
                  (try simp only [Act.put, List.setIfInBounds_toArray, List.set_cons_zero, List.set_cons_succ])
                  refine wpAnyH_take (i := 16) (oi := { dst := some 68, op := _, type := _, pos := _, after := _, guard := _ }) (v := .pointer (some ⟨w.heap.size + 1, 1, none⟩)) rfl (by kernel_rfl) (by kernel_rfl) (by kernel_rfl) (fun _ _ _ h => h) (Or.inl ⟨by rfl, fun w hSw => by first | (go_simp; done) | go_simp⟩) (by assumption) ?_
                  (try simp only [Act.put, List.setIfInBounds_toArray, List.set_cons_zero, List.set_cons_succ])
                  refine wpAnyH_ready (rs := [17]) (by kernel_rfl) (by simp) ?_
                  refine AllReadyH.cons rfl (fun K hK => ?_) AllReadyH.nil
                  rw [if_pos (by rfl)]
                  go_simp
                  refine hK.out _ _ HQ2.out (fun hHeld => ?_)
                  clear hK
                  (try simp only [Act.put, List.setIfInBounds_toArray, List.set_cons_zero, List.set_cons_succ])
                  refine wpAnyH_done (by kernel_rfl) ?_ _
                  clear hHeld y0 yf yl z1 zf HQ1 HQ2
                  go_wp2_with fail
                  go_roundg (n - (i + 1))
                  case measure => omega
                  case rel =>
                    obtain ⟨r1, r2, r3, r4, r5, r6, r7, r8, r9, r10⟩ := HFIN.out _ _ _ _ _ HX4.out
                    exact ⟨i + 1, r1, r2, r3, r4, r5, _, rfl, rfl, by omega, by go_num, r6, r7, r8, r9, r10⟩
              · have y := HCL.out X2 HX2.out.o
                have y0 : X2.cell? ⟨w.heap.size + 1, 1, none⟩ = some (.slice aO i kO) := cell_blk y.1
                have yl := y.2.2
                rw [if_pos (by rfl)]
                go_simp
                refine hK.out _ _ y.2.1 (fun hHeld => ?_)
                clear hK y y0 yl
                (try simp only [Act.put, List.setIfInBounds_toArray, List.set_cons_zero, List.set_cons_succ])
                refine wpAnyH_ready (rs := [1]) (by kernel_rfl) (by simp) ?_
                refine AllReadyH.cons rfl (fun K hK => ?_) AllReadyH.nil
                have y := HCL.out X2 HX2.out.o
                have y0 : X2.cell? ⟨w.heap.size + 1, 0, none⟩ = some (.slice aN i kN) := cell_blk y.1
                have yl := y.2.2
                rw [if_pos (by rfl)]
                go_simp
                refine hK.out _ _ y.2.1 (fun hHeld => ?_)
                clear hK y y0 yl
                (try simp only [Act.put, List.setIfInBounds_toArray, List.set_cons_zero, List.set_cons_succ])
                refine wpAnyH_ready (rs := [4]) (by kernel_rfl) (by simp) ?_
                refine AllReadyH.cons rfl (fun K hK => ?_) AllReadyH.nil
                have yl := (HCL.out X2 HX2.out.o).2.2
                refine step_A (by rfl) _ _ (by rfl) (w.heap.size + 2) (.slice aN i kN) i vs (by rfl) HX2.out.a nA (.slice aW k kW) (by rfl) HNAX2.out.1 rfl (by omega) (by omega) ?_
                intro gA cA X3 hown hgrow
                have HNBX3 : Hid (X3.heap[nB]? = some (.cells #[.int .u32 (ro : Int)] 38 (0, 0)) ∧ V.heap.size ≤ nB) := ⟨blk_grow HNBX2.out.1 HX2.out.a hgrow (fun e => by have h1 := own_lt HOLD.out.nx e; have h2 := HNBX2.out.2; omega), HNBX2.out.2⟩
                have HX3 : Hid _ := HX2.out.appA hgrow hown
                clear hown hgrow yl
                refine hK.out _ _ (HCL.out X3 HX3.out.o).2.1 (fun hHeld => ?_)
                clear hK
                (try simp only [Act.put, List.setIfInBounds_toArray, List.set_cons_zero, List.set_cons_succ])
                refine wpAnyH_take (i := 14) (oi := { dst := some 67, op := _, type := _, pos := _, after := _, guard := _ }) (v := .pointer (some ⟨w.heap.size + 1, 0, none⟩)) rfl (by kernel_rfl) (by kernel_rfl) (by kernel_rfl) (fun _ _ _ h => h) (Or.inl ⟨by rfl, fun w hSw => by first | (go_simp; done) | go_simp⟩) (by assumption) ?_
                (try simp only [Act.put, List.setIfInBounds_toArray, List.set_cons_zero, List.set_cons_succ])
                refine wpAnyH_ready (rs := [13]) (by kernel_rfl) (by simp) ?_
                refine AllReadyH.cons rfl (fun K hK => ?_) AllReadyH.nil
                have yl := (HCL.out X3 HX3.out.o).2.2
                refine step_B (by rfl) _ _ (by rfl) (w.heap.size + 2) (.slice aO i kO) i (outs.map u32V) (by rfl) HX3.out.b nB (.int .u32 (ro : Int)) (by rfl) HNBX3.out.1 rfl (by omega) (by omega) ?_
                intro gB cB X4 hown hgrow
                have HX4 : Hid _ := HX3.out.appB hgrow hown
                clear hown hgrow yl
                refine hK.out _ _ (HCL.out X4 HX4.out.o).2.1 (fun hHeld => ?_)
                clear hK
                (try simp only [Act.put, List.setIfInBounds_toArray, List.set_cons_zero, List.set_cons_succ])
                have y := HCL.out X4 HX4.out.o
                have y0 : X4.cell? ⟨w.heap.size + 1, 0, none⟩ = some (.slice aN i kN) := cell_blk y.1
                have yf : ∀ q, X4.frozen? ⟨w.heap.size + 1, q, none⟩ = false := fun q => fz_blk y.1 q
                have yl := y.2.2
                have z := heap_setCell_at (k := 0) y.1 (.slice (some ⟨gA, 0, none⟩) (i + 1) cA)
                have z1 : (X4.setCell ⟨w.heap.size + 1, 0, none⟩ (.slice (some ⟨gA, 0, none⟩) (i + 1) cA)).cell? ⟨w.heap.size + 1, 1, none⟩ = some (.slice aO i kO) := cell_blk z
                have zf : ∀ q, (X4.setCell ⟨w.heap.size + 1, 0, none⟩ (.slice (some ⟨gA, 0, none⟩) (i + 1) cA)).frozen? ⟨w.heap.size + 1, q, none⟩ = false := fun q => fz_blk z q
                have HQ1 : Hid _ := HHS.out X4 0 (.slice (some ⟨gA, 0, none⟩) (i + 1) cA) y.2.1
                have HQ2 : Hid _ := HHS.out _ 1 (.slice (some ⟨gB, 0, none⟩) (i + 1) cB) HQ1.out
                clear y z
                refine wpAnyH_ready (rs := [15]) (by kernel_rfl) (by simp) ?_
                refine AllReadyH.cons rfl (fun K hK => ?_) AllReadyH.nil
                rw [if_pos (by rfl)]
                go_simp
                refine hK.out _ _ HQ1.out (fun hHeld => ?_)
                clear hK
                (try simp only [Act.put, List.setIfInBounds_toArray, List.set_cons_zero, List.set_cons_succ])
                refine wpAnyH_take (i := 16) (oi := { dst := some 68, op := _, type := _, pos := _, after := _, guard := _ }) (v := .pointer (some ⟨w.heap.size + 1, 1, none⟩)) rfl (by kernel_rfl) (by kernel_rfl) (by kernel_rfl) (fun _ _ _ h => h) (Or.inl ⟨by rfl, fun w hSw => by first | (go_simp; done) | go_simp⟩) (by assumption) ?_
                (try simp only [Act.put, List.setIfInBounds_toArray, List.set_cons_zero, List.set_cons_succ])
                refine wpAnyH_ready (rs := [17]) (by kernel_rfl) (by simp) ?_
                refine AllReadyH.cons rfl (fun K hK => ?_) AllReadyH.nil
                rw [if_pos (by rfl)]
                go_simp
                refine hK.out _ _ HQ2.out (fun hHeld => ?_)
                clear hK
                (try simp only [Act.put, List.setIfInBounds_toArray, List.set_cons_zero, List.set_cons_succ])
                refine wpAnyH_done (by kernel_rfl) ?_ _
                clear hHeld y0 yf yl z1 zf HQ1 HQ2
                go_wp2_with fail
                go_roundg (n - (i + 1))
                case measure => omega
                case rel =>
                  obtain ⟨r1, r2, r3, r4, r5, r6, r7, r8, r9, r10⟩ := HFIN.out _ _ _ _ _ HX4.out
                  exact ⟨i + 1, r1, r2, r3, r4, r5, _, rfl, rfl, by omega, by go_num, r6, r7, r8, r9, r10⟩
            · have y := HCL.out X1 HX1.out.o
              have y0 : X1.cell? ⟨w.heap.size + 1, 1, none⟩ = some (.slice aO i kO) := cell_blk y.1
              have yl := y.2.2
              rw [if_pos (by rfl)]
              go_simp
              refine hK.out _ _ y.2.1 (fun hHeld => ?_)
              clear hK y y0 yl
              (try simp only [Act.put, List.setIfInBounds_toArray, List.set_cons_zero, List.set_cons_succ])
              refine wpAnyH_ready (rs := [1, 3]) (by kernel_rfl) (by simp) ?_
              refine AllReadyH.cons rfl (fun K hK => ?_) (AllReadyH.cons rfl (fun K hK => ?_) AllReadyH.nil)
              · have y := HCL.out X1 HX1.out.o
                have y0 : X1.cell? ⟨w.heap.size + 1, 0, none⟩ = some (.slice aN i kN) := cell_blk y.1
                have yl := y.2.2
                rw [if_pos (by rfl)]
                go_simp
                refine hK.out _ _ y.2.1 (fun hHeld => ?_)
                clear hK y y0 yl
                (try simp only [Act.put, List.setIfInBounds_toArray, List.set_cons_zero, List.set_cons_succ])
                refine wpAnyH_ready (rs := [3]) (by kernel_rfl) (by simp) ?_
                refine AllReadyH.cons rfl (fun K hK => ?_) AllReadyH.nil
                rw [if_pos (by rfl)]
                go_simp
                obtain ⟨X2, hX2⟩ : ∃ Y, Y = X1.alloc (.cells #[.slice aW k kW] 23) := ⟨_, rfl⟩
                obtain ⟨nA, hnA⟩ : ∃ n, n = X1.heap.size := ⟨_, rfl⟩
                have HNAX2 : Hid (X2.heap[nA]? = some (.cells #[.slice aW k kW] 23 (0, 0)) ∧ V.heap.size ≤ nA) := by rw [hX2, hnA]; exact ⟨heap_alloc_new _ _, HX1.out.o.size⟩
                have HX2 : Hid _ := HX1.out.alloc (.cells #[.slice aW k kW] 23)
                have HNBX2 : Hid (X2.heap[nB]? = some (.cells #[.int .u32 (ro : Int)] 38 (0, 0)) ∧ V.heap.size ≤ nB) := by rw [hX2]; exact ⟨blk_alloc _ HNBX1.out.1, HNBX1.out.2⟩
                rw [← hX2] at HX2 ⊢
                rw [← hnA]
                clear hX2 hnA
                refine hK.out _ _ (HCL.out X2 HX2.out.o).2.1 (fun hHeld => ?_)
                clear hK
                (try simp only [Act.put, List.setIfInBounds_toArray, List.set_cons_zero, List.set_cons_succ])
                refine wpAnyH_ready (rs := [4]) (by kernel_rfl) (by simp) ?_
                refine AllReadyH.cons rfl (fun K hK => ?_) AllReadyH.nil
                have yl := (HCL.out X2 HX2.out.o).2.2
                refine step_A (by rfl) _ _ (by rfl) (w.heap.size + 2) (.slice aN i kN) i vs (by rfl) HX2.out.a nA (.slice aW k kW) (by rfl) HNAX2.out.1 rfl (by omega) (by omega) ?_
                intro gA cA X3 hown hgrow
                have HNBX3 : Hid (X3.heap[nB]? = some (.cells #[.int .u32 (ro : Int)] 38 (0, 0)) ∧ V.heap.size ≤ nB) := ⟨blk_grow HNBX2.out.1 HX2.out.a hgrow (fun e => by have h1 := own_lt HOLD.out.nx e; have h2 := HNBX2.out.2; omega), HNBX2.out.2⟩
                have HX3 : Hid _ := HX2.out.appA hgrow hown
                clear hown hgrow yl
                refine hK.out _ _ (HCL.out X3 HX3.out.o).2.1 (fun hHeld => ?_)
                clear hK
                (try simp only [Act.put, List.setIfInBounds_toArray, List.set_cons_zero, List.set_cons_succ])
                refine wpAnyH_take (i := 14) (oi := { dst := some 67, op := _, type := _, pos := _, after := _, guard := _ }) (v := .pointer (some ⟨w.heap.size + 1, 0, none⟩)) rfl (by kernel_rfl) (by kernel_rfl) (by kernel_rfl) (fun _ _ _ h => h) (Or.inl ⟨by rfl, fun w hSw => by first | (go_simp; done) | go_simp⟩) (by assumption) ?_
                (try simp only [Act.put, List.setIfInBounds_toArray, List.set_cons_zero, List.set_cons_succ])
                refine wpAnyH_ready (rs := [13]) (by kernel_rfl) (by simp) ?_
                refine AllReadyH.cons rfl (fun K hK => ?_) AllReadyH.nil
                have yl := (HCL.out X3 HX3.out.o).2.2
                refine step_B (by rfl) _ _ (by rfl) (w.heap.size + 2) (.slice aO i kO) i (outs.map u32V) (by rfl) HX3.out.b nB (.int .u32 (ro : Int)) (by rfl) HNBX3.out.1 rfl (by omega) (by omega) ?_
                intro gB cB X4 hown hgrow
                have HX4 : Hid _ := HX3.out.appB hgrow hown
                clear hown hgrow yl
                refine hK.out _ _ (HCL.out X4 HX4.out.o).2.1 (fun hHeld => ?_)
                clear hK
                (try simp only [Act.put, List.setIfInBounds_toArray, List.set_cons_zero, List.set_cons_succ])
                have y := HCL.out X4 HX4.out.o
                have y0 : X4.cell? ⟨w.heap.size + 1, 0, none⟩ = some (.slice aN i kN) := cell_blk y.1
                have yf : ∀ q, X4.frozen? ⟨w.heap.size + 1, q, none⟩ = false := fun q => fz_blk y.1 q
                have yl := y.2.2
                have z := heap_setCell_at (k := 0) y.1 (.slice (some ⟨gA, 0, none⟩) (i + 1) cA)
                have z1 : (X4.setCell ⟨w.heap.size + 1, 0, none⟩ (.slice (some ⟨gA, 0, none⟩) (i + 1) cA)).cell? ⟨w.heap.size + 1, 1, none⟩ = some (.slice aO i kO) := cell_blk z
                have zf : ∀ q, (X4.setCell ⟨w.heap.size + 1, 0, none⟩ (.slice (some ⟨gA, 0, none⟩) (i + 1) cA)).frozen? ⟨w.heap.size + 1, q, none⟩ = false := fun q => fz_blk z q
                have HQ1 : Hid _ := HHS.out X4 0 (.slice (some ⟨gA, 0, none⟩) (i + 1) cA) y.2.1
                have HQ2 : Hid _ := HHS.out _ 1 (.slice (some ⟨gB, 0, none⟩) (i + 1) cB) HQ1.out
                clear y z
                refine wpAnyH_ready (rs := [15]) (by kernel_rfl) (by simp) ?_
                refine AllReadyH.cons rfl (fun K hK => ?_) AllReadyH.nil
                rw [if_pos (by rfl)]
                go_simp
                refine hK.out _ _ HQ1.out (fun hHeld => ?_)
                clear hK
                (try simp only [Act.put, List.setIfInBounds_toArray, List.set_cons_zero, List.set_cons_succ])
                refine wpAnyH_take (i := 16) (oi := { dst := some 68, op := _, type := _, pos := _, after := _, guard := _ }) (v := .pointer (some ⟨w.heap.size + 1, 1, none⟩)) rfl (by kernel_rfl) (by kernel_rfl) (by kernel_rfl) (fun _ _ _ h => h) (Or.inl ⟨by rfl, fun w hSw => by first | (go_simp; done) | go_simp⟩) (by assumption) ?_
                (try simp only [Act.put, List.setIfInBounds_toArray, List.set_cons_zero, List.set_cons_succ])
                refine wpAnyH_ready (rs := [17]) (by kernel_rfl) (by simp) ?_
                refine AllReadyH.cons rfl (fun K hK => ?_) AllReadyH.nil
                rw [if_pos (by rfl)]
                go_simp
                refine hK.out _ _ HQ2.out (fun hHeld => ?_)
                clear hK
                (try simp only [Act.put, List.setIfInBounds_toArray, List.set_cons_zero, List.set_cons_succ])
                refine wpAnyH_done (by kernel_rfl) ?_ _
                clear hHeld y0 yf yl z1 zf HQ1 HQ2
                go_wp2_with fail
                go_roundg (n - (i + 1))
                case measure => omega
                case rel =>
                  obtain ⟨r1, r2, r3, r4, r5, r6, r7, r8, r9, r10⟩ := HFIN.out _ _ _ _ _ HX4.out
                  exact ⟨i + 1, r1, r2, r3, r4, r5, _, rfl, rfl, by omega, by go_num, r6, r7, r8, r9, r10⟩
              · rw [if_pos (by rfl)]
                go_simp
                obtain ⟨X2, hX2⟩ : ∃ Y, Y = X1.alloc (.cells #[.slice aW k kW] 23) := ⟨_, rfl⟩
                obtain ⟨nA, hnA⟩ : ∃ n, n = X1.heap.size := ⟨_, rfl⟩
                have HNAX2 : Hid (X2.heap[nA]? = some (.cells #[.slice aW k kW] 23 (0, 0)) ∧ V.heap.size ≤ nA) := by rw [hX2, hnA]; exact ⟨heap_alloc_new _ _, HX1.out.o.size⟩
                have HX2 : Hid _ := HX1.out.alloc (.cells #[.slice aW k kW] 23)
                have HNBX2 : Hid (X2.heap[nB]? = some (.cells #[.int .u32 (ro : Int)] 38 (0, 0)) ∧ V.heap.size ≤ nB) := by rw [hX2]; exact ⟨blk_alloc _ HNBX1.out.1, HNBX1.out.2⟩
                rw [← hX2] at HX2 ⊢
                rw [← hnA]
                clear hX2 hnA
                refine hK.out _ _ (HCL.out X2 HX2.out.o).2.1 (fun hHeld => ?_)
                clear hK
                (try simp only [Act.put, List.setIfInBounds_toArray, List.set_cons_zero, List.set_cons_succ])
                refine wpAnyH_ready (rs := [1]) (by kernel_rfl) (by simp) ?_
                refine AllReadyH.cons rfl (fun K hK => ?_) AllReadyH.nil
                have y := HCL.out X2 HX2.out.o
                have y0 : X2.cell? ⟨w.heap.size + 1, 0, none⟩ = some (.slice aN i kN) := cell_blk y.1
                have yl := y.2.2
                rw [if_pos (by rfl)]
                go_simp
                refine hK.out _ _ y.2.1 (fun hHeld => ?_)
                clear hK y y0 yl
                (try simp only [Act.put, List.setIfInBounds_toArray, List.set_cons_zero, List.set_cons_succ])
                refine wpAnyH_ready (rs := [4]) (by kernel_rfl) (by simp) ?_
                refine AllReadyH.cons rfl (fun K hK => ?_) AllReadyH.nil
                have yl := (HCL.out X2 HX2.out.o).2.2
                refine step_A (by rfl) _ _ (by rfl) (w.heap.size + 2) (.slice aN i kN) i vs (by rfl) HX2.out.a nA (.slice aW k kW) (by rfl) HNAX2.out.1 rfl (by omega) (by omega) ?_
                intro gA cA X3 hown hgrow
                have HNBX3 : Hid (X3.heap[nB]? = some (.cells #[.int .u32 (ro : Int)] 38 (0, 0)) ∧ V.heap.size ≤ nB) := ⟨blk_grow HNBX2.out.1 HX2.out.a hgrow (fun e => by have h1 := own_lt HOLD.out.nx e; have h2 := HNBX2.out.2; omega), HNBX2.out.2⟩
                have HX3 : Hid _ := HX2.out.appA hgrow hown
                clear hown hgrow yl
                refine hK.out _ _ (HCL.out X3 HX3.out.o).2.1 (fun hHeld => ?_)
                clear hK
                (try simp only [Act.put, List.setIfInBounds_toArray, List.set_cons_zero, List.set_cons_succ])
                refine wpAnyH_take (i := 14) (oi := { dst := some 67, op := _, type := _, pos := _, after := _, guard := _ }) (v := .pointer (some ⟨w.heap.size + 1, 0, none⟩)) rfl (by kernel_rfl) (by kernel_rfl) (by kernel_rfl) (fun _ _ _ h => h) (Or.inl ⟨by rfl, fun w hSw => by first | (go_simp; done) | go_simp⟩) (by assumption) ?_
                (try simp only [Act.put, List.setIfInBounds_toArray, List.set_cons_zero, List.set_cons_succ])
                refine wpAnyH_ready (rs := [13]) (by kernel_rfl) (by simp) ?_
                refine AllReadyH.cons rfl (fun K hK => ?_) AllReadyH.nil
                have yl := (HCL.out X3 HX3.out.o).2.2
                refine step_B (by rfl) _ _ (by rfl) (w.heap.size + 2) (.slice aO i kO) i (outs.map u32V) (by rfl) HX3.out.b nB (.int .u32 (ro : Int)) (by rfl) HNBX3.out.1 rfl (by omega) (by omega) ?_
                intro gB cB X4 hown hgrow
                have HX4 : Hid _ := HX3.out.appB hgrow hown
                clear hown hgrow yl
                refine hK.out _ _ (HCL.out X4 HX4.out.o).2.1 (fun hHeld => ?_)
                clear hK
                (try simp only [Act.put, List.setIfInBounds_toArray, List.set_cons_zero, List.set_cons_succ])
                have y := HCL.out X4 HX4.out.o
                have y0 : X4.cell? ⟨w.heap.size + 1, 0, none⟩ = some (.slice aN i kN) := cell_blk y.1
                have yf : ∀ q, X4.frozen? ⟨w.heap.size + 1, q, none⟩ = false := fun q => fz_blk y.1 q
                have yl := y.2.2
                have z := heap_setCell_at (k := 0) y.1 (.slice (some ⟨gA, 0, none⟩) (i + 1) cA)
                have z1 : (X4.setCell ⟨w.heap.size + 1, 0, none⟩ (.slice (some ⟨gA, 0, none⟩) (i + 1) cA)).cell? ⟨w.heap.size + 1, 1, none⟩ = some (.slice aO i kO) := cell_blk z
                have zf : ∀ q, (X4.setCell ⟨w.heap.size + 1, 0, none⟩ (.slice (some ⟨gA, 0, none⟩) (i + 1) cA)).frozen? ⟨w.heap.size + 1, q, none⟩ = false := fun q => fz_blk z q
                have HQ1 : Hid _ := HHS.out X4 0 (.slice (some ⟨gA, 0, none⟩) (i + 1) cA) y.2.1
                have HQ2 : Hid _ := HHS.out _ 1 (.slice (some ⟨gB, 0, none⟩) (i + 1) cB) HQ1.out
                clear y z
                refine wpAnyH_ready (rs := [15]) (by kernel_rfl) (by simp) ?_
                refine AllReadyH.cons rfl (fun K hK => ?_) AllReadyH.nil
                rw [if_pos (by rfl)]
                go_simp
                refine hK.out _ _ HQ1.out (fun hHeld => ?_)
                clear hK
                (try simp only [Act.put, List.setIfInBounds_toArray, List.set_cons_zero, List.set_cons_succ])
                refine wpAnyH_take (i := 16) (oi := { dst := some 68, op := _, type := _, pos := _, after := _, guard := _ }) (v := .pointer (some ⟨w.heap.size + 1, 1, none⟩)) rfl (by kernel_rfl) (by kernel_rfl) (by kernel_rfl) (fun _ _ _ h => h) (Or.inl ⟨by rfl, fun w hSw => by first | (go_simp; done) | go_simp⟩) (by assumption) ?_
                (try simp only [Act.put, List.setIfInBounds_toArray, List.set_cons_zero, List.set_cons_succ])
                refine wpAnyH_ready (rs := [17]) (by kernel_rfl) (by simp) ?_
                refine AllReadyH.cons rfl (fun K hK => ?_) AllReadyH.nil
                rw [if_pos (by rfl)]
                go_simp
                refine hK.out _ _ HQ2.out (fun hHeld => ?_)
                clear hK
                (try simp only [Act.put, List.setIfInBounds_toArray, List.set_cons_zero, List.set_cons_succ])
                refine wpAnyH_done (by kernel_rfl) ?_ _
                clear hHeld y0 yf yl z1 zf HQ1 HQ2
                go_wp2_with fail
                go_roundg (n - (i + 1))
                case measure => omega
                case rel =>
                  obtain ⟨r1, r2, r3, r4, r5, r6, r7, r8, r9, r10⟩ := HFIN.out _ _ _ _ _ HX4.out
                  exact ⟨i + 1, r1, r2, r3, r4, r5, _, rfl, rfl, by omega, by go_num, r6, r7, r8, r9, r10⟩
    · have t1 : decide ((i : Int) < (n : Int)) = false := decide_eq_false (by omega)
      have hin : i = n := by omega
      obtain ⟨aN, kN, eN⟩ := own_form HG.out.1.nx
      obtain ⟨aO, kO, eO⟩ := own_form HG.out.1.out
      subst eN
      subst eO
      have HRW : Hid (W.heap[w.heap.size]? = some (.cells #[.slice none 0 0, .slice none 0 0] 27 (0, 0))) := (HG.out.2.2.2.2.block _ (by rw [HLW.out]; omega) (by omega)).trans HT.out.1
      have x1 : W.cell? ⟨w.heap.size + 1, 0, none⟩ = some (.slice aN rows.length kN) := cell_blk HG.out.1.lst
      have x2 : W.cell? ⟨w.heap.size + 1, 1, none⟩ = some (.slice aO outs.length kO) := cell_blk HG.out.1.lst
      have x3 : W.cell? ⟨w.heap.size, 0, none⟩ = some (.slice none 0 0) := cell_blk HRW.out
      have x4 : W.cell? ⟨w.heap.size, 1, none⟩ = some (.slice none 0 0) := cell_blk HRW.out
      have fx : ∀ y, W.frozen? ⟨w.heap.size, y, none⟩ = false := fun y => fz_blk HRW.out y
      have lx1 : w.heap.size + 1 < W.heap.size := World.block_lt_of_cell? W _ x1
      have lx3 : w.heap.size < W.heap.size := World.block_lt_of_cell? W _ x3
      go_wp2_with fail
      refine bodyPost_ret (v := .agg #[.slice aN rows.length kN, .slice aO outs.length kO]) (results_cell_row rfl _ _ w.heap.size 27 #[.slice aN rows.length kN, .slice aO outs.length kO] (0, 0) _ rfl (heap_setCell_at (heap_setCell_at HRW.out _) _) Try.underlying27 rfl sz27c) rfl ?_
      obtain ⟨hG, hri, hro, hRI, hoW⟩ := HG.out
      have o1 := ((Only.refl (fun b => b = w.heap.size) W).setCell (p := ⟨w.heap.size, 0, none⟩) rfl (.slice aN rows.length kN)).setCell (p := ⟨w.heap.size, 1, none⟩) rfl (.slice aO outs.length kO)
      exact ⟨_, rows, outs, rfl, (hG.ra o1 (fun b hb => ⟨_, hb ▸ HRW.out⟩)).low (by omega), by omega, by omega, by rw [← hin]; rw [← hin] at hRI; exact hRI, (((HLO.out W hoW).mono (S' := fun b => b = w.heap.size) (fun _ h => h.elim)).trans o1).old (fun g hg => Or.inl (by omega))⟩
end Go.Proofs.Ytelifjeppegcmaa
