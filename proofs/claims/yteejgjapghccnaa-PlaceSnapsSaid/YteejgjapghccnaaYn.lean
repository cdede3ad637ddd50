/-
  Layer 17's made: a text, its lines, its map, its bytes, its tab's width.
-/
import Derived.Test.YteejgjapghccnaaYm
import Derived.Test.YteejgjapghccnaaYz
import Derived.Test.YteejgjapghccnaaGa
import Derived.Test.YteejgjapghccnaaPc
import Derived.Test.YteejgjapghccnaaAp
namespace Go.Proofs.Yteejgjapghccnaa
open Go.RowKit Go.Maps
set_option linter.unusedVariables false
set_option linter.unusedSimpArgs false
theorem opk_pa (L : List Bt) (k : Nat) : Lv.Opk (Pa.ops L k ++ [2]) k := by
  refine ⟨by rw [List.length_append, Pa.ops_len]; rfl, ops_end L k, fun h => ?_⟩
  have e : (Pa.ops L k ++ [2]).getD 0 0 = 0 := by
    rw [List.getD_eq_getElem?_getD, List.getElem?_append_left (by rw [Pa.ops_len]; omega)]
    unfold Pa.ops
    rw [List.getElem?_map, List.getElem?_range h]
    rfl
  rw [e]
  decide
theorem sum_pa (L : List Bt) {k n0 : Nat} (hk : k ≤ n0) : It.sum (Pa.cts (L.take k) 0) ≤ 4 * n0 := by
  have h1 := cts_sum (L.take k) 0
  have h2 : (L.take k).length ≤ k := by rw [List.length_take]; exact Nat.min_le_left _ _
  omega
theorem results_row_4 {P : Program} {fn : Func} {p u1 u2 u3 u4 : Tmp} {ty : TypeId} (h : fn.results = #[.cell p ty, .tmp u1, .tmp u2, .tmp u3, .tmp u4]) (tmps : Array Value) (w : World) (g : Nat) (t : TypeId) (cs : Array Value) (fr : Nat × Nat) (d : TypeDesc)
    (hp : tmps.getD p undef = .pointer (some ⟨g, 0, none⟩)) (hg : w.heap[g]? = some (.cells cs t fr))
    (hu : P.underlying ty = some d) (hd : (match d with | .struct _ | .array _ _ => true | _ => false) = true) (hi : (P.info? ty).map (·.size) = some cs.size) (v1 v2 v3 v4 : Value) (h1 : tmps.getD u1 undef = v1) (h2 : tmps.getD u2 undef = v2) (h3 : tmps.getD u3 undef = v3) (h4 : tmps.getD u4 undef = v4) :
    (results fn tmps).run P w = .ok (.tuple #[.agg cs, v1, v2, v3, v4]) w := by
  subst h1 h2 h3 h4
  have hp' : tmps[p]?.getD undef = .pointer (some ⟨g, 0, none⟩) := by simpa using hp
  simp [results, h, hp', asAddr, run_loadVar_row w g t ty cs fr d hg hu hd hi]
/-- what made makes: a text of k clusters that can be read, its lines, their map. -/
structure Md (X : World) (C : List Ct) (O : List Nat) (k : Nat) (aC aO : Option Addr) (cC cO : Nat) (A : List Ln) (nA : Nat) (aA : Option Addr) (M s t : Nat) : Prop where
  pv : Pv X C O k (k + 1) aC aO cC cO
  ctg : Lv.Ctg C
  few : k ≤ 100
  sum : It.sum C ≤ 400
  hs : s = It.sum C
  chn : Lv.Chn 0 k A
  vA : Vw X aA (lnC A)
  hA : nA = A.length
  map : Mpp X M k C t (Lv.rof A)
  t0 : 0 < t
  t1 : t ≤ 64
theorem Md.keep {X Y : World} {C : List Ct} {O : List Nat} {k : Nat} {aC aO : Option Addr} {cC cO : Nat} {A : List Ln} {nA : Nat} {aA : Option Addr} {M s t : Nat} (h : Md X C O k aC aO cC cO A nA aA M s t) (ho : Only (fun _ => False) X Y) : Md Y C O k aC aO cC cO A nA aA M s t :=
  ⟨h.pv.keep ho, h.ctg, h.few, h.sum, h.hs, h.chn, h.vA.keep ho, h.hA, h.map.keep ho, h.t0, h.t1⟩
/-- the block of a way, and of the result, ahead of all. -/
theorem box62 (w : World) (v0 v1 v2 v3 v4 v5 u0 u1 : Value) (t t' : TypeId) : ∃ R b w1, (w.alloc (.cells #[v0, v1, v2, v3, v4, v5] t)).alloc (.cells #[u0, u1] t') = w1 ∧ w.heap.size + 1 = b ∧ w.heap.size = R ∧ Hid (w1.heap[R]? = some (.cells #[v0, v1, v2, v3, v4, v5] t (0, 0)) ∧ w1.heap[b]? = some (.cells #[u0, u1] t' (0, 0)) ∧ Only (fun _ => False) w w1 ∧ w.heap.size ≤ b) :=
  ⟨_, _, _, rfl, rfl, rfl, ⟨bx_made w _ _, heap_alloc2_new w _ _, ((Only.refl _ _).alloc _).alloc _, Nat.le_succ _⟩⟩
set_option maxRecDepth 100000 in
set_option maxHeartbeats 8000000 in
theorem made17_any (L0 : List Bt) (nL : Nat) (a0 : Option Addr) (c0 : Nat) (K : Wy) (w : World) (hV : Vw w a0 (btC L0)) (hB : ∀ b ∈ L0, b.cells < 256 ∧ b.kind < 256 ∧ b.len < 256 ∧ b.opp < 256) (hnL : nL = L0.length) (hc : nL ≤ c0) (hm : c0 ≤ maxLen) (hK : K.Ok) :
    Calls Try.prog 11 #[.slice a0 nL c0, K.val] w fun e w' => ∃ (C : List Ct) (O : List Nat) (k : Nat) (aC aO : Option Addr) (cC cO : Nat) (A : List Ln) (nA : Nat) (aA : Option Addr) (cA M s t : Nat), e = .returned (.tuple #[.agg #[.slice aC k cC, .slice aO (k + 1) cO], .slice aA nA cA, .pointer (some ⟨M, 0, none⟩), .int .i64 (s : Int), .int .i64 (t : Int)]) ∧ Md w' C O k aC aO cC cO A nA aA M s t ∧ Only (fun _ => False) w w' := by
  obtain ⟨wi, tb, mo, hy, pr, lo⟩ := K
  obtain ⟨W1, hW1⟩ : ∃ x, x = 1 + wi := ⟨_, rfl⟩
  obtain ⟨T1, hT1⟩ : ∃ x, x = 1 + tb % 64 := ⟨_, rfl⟩
  obtain ⟨M1, hM1⟩ : ∃ x, x = mo % 2 := ⟨_, rfl⟩
  have HCF : Hid (∀ W, Calls Try.prog 20 #[.agg #[.int .u8 (wi : Int), .int .u8 (tb : Int), .int .u8 (mo : Int), .int .u16 (hy : Int), .int .u16 (pr : Int), .float .f64 lo]] W fun e w' => e = .returned (.agg #[.int .i64 (W1 : Int), .int .i64 (T1 : Int), .int .u8 (M1 : Int), .int .i64 (hy : Int), .int .i64 (pr : Int), .float .f64 lo]) ∧ Only (fun _ => False) W w') := fun W => by
    rw [hW1, hT1, hM1]
    exact config_any ⟨wi, tb, mo, hy, pr, lo⟩ W hK
  obtain ⟨b0, b1, b2, b3, b4, b5⟩ := hK
  simp only at b0 b1 b2 b3 b4 b5
  have hw1 : W1 ≤ 256 := by omega
  have hw0 : 1 ≤ W1 := by omega
  have ht0 : 0 < T1 := by omega
  have ht1 : T1 ≤ 64 := by omega
  have hm1 : M1 ≤ 1 := by omega
  obtain ⟨n0, hn0⟩ : ∃ n, n = min nL 100 := ⟨_, rfl⟩
  obtain ⟨L, hL⟩ : ∃ x, x = L0.take n0 := ⟨_, rfl⟩
  have hlen : n0 = L.length := by rw [hL, List.length_take, ← hnL]; omega
  have HN : Hid (n0 = L.length) := hlen
  have h5 : n0 ≤ 100 := by omega
  have HPA : Hid (∀ W, Only (fun _ => False) w W → Calls Try.prog 18 #[.slice a0 n0 c0] W fun e w' => ∃ k aC aO cC cO, e = .returned (.agg #[.slice aC k cC, .slice aO (k + 1) cO]) ∧ Made w' L n0 k aC aO cC cO ∧ Only (fun _ => False) W w') := fun W ho => para_made L n0 a0 c0 W hlen (by rw [hL]; exact (hV.keep ho).btTake n0) (fun b hb => hB b (by rw [hL] at hb; exact List.mem_of_mem_take hb)) (by omega)
  unfold Wy.val
  simp only
  have hmn : (if (100 : Int) < (nL : Int) then (100 : Int) else (nL : Int)) = (n0 : Int) := by split <;> omega
  have hn0c : (n0 : Int) ≤ (c0 : Int) := by omega
  have hn0c2 : n0 ≤ c0 := by omega
  have hcm : c0 ≤ 9223372036854775807 := by unfold maxLen at hm; exact hm
  clear hlen hL hV hB hnL hc hm hW1 hT1 hM1 hn0
  go_enter Try.func11, Try.ntmps11
  go_upto_region 1 with fail
  obtain ⟨R, B4, w2, hw2, hB4, hR, H0⟩ := box62 w (.int .u8 (wi : Int)) (.int .u8 (tb : Int)) (.int .u8 (mo : Int)) (.int .u16 (hy : Int)) (.int .u16 (pr : Int)) (.float .f64 lo) (.slice none 0 0) (.slice none 0 0) 26 31
  rw [hw2, hB4, hR]
  clear hw2 hB4 hR
  have HW2 : Hid (Only (fun _ => False) w w2) := H0.out.2.2.1
  have HKS : Hid (∀ W', Only (fun _ => False) w2 W' → (W'.cell? ⟨R, 0, none⟩ = some (.int .u8 (wi : Int)) ∧ W'.cell? ⟨R, 1, none⟩ = some (.int .u8 (tb : Int)) ∧ W'.cell? ⟨R, 2, none⟩ = some (.int .u8 (mo : Int)) ∧ W'.cell? ⟨R, 3, none⟩ = some (.int .u16 (hy : Int)) ∧ W'.cell? ⟨R, 4, none⟩ = some (.int .u16 (pr : Int)) ∧ W'.cell? ⟨R, 5, none⟩ = some (.float .f64 lo))) := fun W' ho => blk_six (blk_keep ho H0.out.1)
  go_cut [9, 10] from 16 to 23 (fun v5 v6 wr => ∃ (k B5 B6 : Nat) (aC aO : Option Addr) (cC cO : Nat) (X : World), X = wr ∧ v5 = .pointer (some ⟨B5, 0, none⟩) ∧ v6 = .pointer (some ⟨B6, 0, none⟩) ∧ Made X L n0 k aC aO cC cO ∧ Blk w2 X B5 31 #[.slice aC k cC, .slice aO (k + 1) cO] ∧ Blk w2 X B6 69 #[.int .i64 (W1 : Int), .int .i64 (T1 : Int), .int .u8 (M1 : Int), .int .i64 (hy : Int), .int .i64 (pr : Int), .float .f64 lo] ∧ Only (fun _ => False) w2 X)
  case first =>
    have HXD : Hid (Only (fun _ => False) w2 w2.drew) := (Only.refl _ _).drew
    refine wp_region_held_drew (S := (fun W' => W'.cell? ⟨R, 0, none⟩ = some (.int .u8 (wi : Int)) ∧ W'.cell? ⟨R, 1, none⟩ = some (.int .u8 (tb : Int)) ∧ W'.cell? ⟨R, 2, none⟩ = some (.int .u8 (mo : Int)) ∧ W'.cell? ⟨R, 3, none⟩ = some (.int .u16 (hy : Int)) ∧ W'.cell? ⟨R, 4, none⟩ = some (.int .u16 (pr : Int)) ∧ W'.cell? ⟨R, 5, none⟩ = some (.float .f64 lo))) (by kernel_rfl) (HKS.out _ HXD.out) (fun hHeld => ?_)
    refine wpAnyH_take (i := 0) (oi := { dst := some 16, op := _, type := _, pos := _, after := _, guard := _ }) (v := .slice a0 nL c0) rfl (by kernel_rfl) (by kernel_rfl) (by kernel_rfl) (fun _ _ _ h => h) (Or.inl ⟨by rfl, fun w hSw => by obtain ⟨y0, y1, y2, y3, y4, y5⟩ := hSw; first | (go_simp; done) | go_simp⟩) (by assumption) ?_
    (try simp only [Act.put, List.setIfInBounds_toArray, List.set_cons_zero, List.set_cons_succ])
    refine wpAnyH_take (i := 1) (oi := { dst := some 17, op := _, type := _, pos := _, after := _, guard := _ }) (v := .slice a0 nL c0) rfl (by kernel_rfl) (by kernel_rfl) (by kernel_rfl) (fun _ _ _ h => h) (Or.inl ⟨by rfl, fun w hSw => by obtain ⟨y0, y1, y2, y3, y4, y5⟩ := hSw; first | (go_simp; done) | go_simp⟩) (by assumption) ?_
    (try simp only [Act.put, List.setIfInBounds_toArray, List.set_cons_zero, List.set_cons_succ])
    refine wpAnyH_take (i := 2) (oi := { dst := some 18, op := _, type := _, pos := _, after := _, guard := _ }) (v := .int .i64 (nL : Int)) rfl (by kernel_rfl) (by kernel_rfl) (by kernel_rfl) (fun _ _ _ h => h) (Or.inl ⟨by rfl, fun w hSw => by obtain ⟨y0, y1, y2, y3, y4, y5⟩ := hSw; first | (go_simp; done) | go_simp⟩) (by assumption) ?_
    (try simp only [Act.put, List.setIfInBounds_toArray, List.set_cons_zero, List.set_cons_succ])
    refine wpAnyH_take (i := 3) (oi := { dst := some 19, op := _, type := _, pos := _, after := _, guard := _ }) (v := .int .i64 (n0 : Int)) rfl (by kernel_rfl) (by kernel_rfl) (by kernel_rfl) (fun _ _ _ h => h) (Or.inl ⟨by rfl, fun w hSw => by obtain ⟨y0, y1, y2, y3, y4, y5⟩ := hSw; first | (go_simp; done) | go_simp⟩) (by assumption) ?_
    (try simp only [Act.put, List.setIfInBounds_toArray, List.set_cons_zero, List.set_cons_succ])
    refine wpAnyH_take (i := 4) (oi := { dst := some 20, op := _, type := _, pos := _, after := _, guard := _ }) (v := .slice a0 n0 c0) rfl (by kernel_rfl) (by kernel_rfl) (by kernel_rfl) (fun _ _ _ h => h) (Or.inl ⟨by rfl, fun w hSw => by obtain ⟨y0, y1, y2, y3, y4, y5⟩ := hSw; first | (go_simp; done) | go_simp⟩) (by assumption) ?_
    (try simp only [Act.put, List.setIfInBounds_toArray, List.set_cons_zero, List.set_cons_succ])
    refine wpAnyH_take (i := 6) (oi := { dst := some 22, op := _, type := _, pos := _, after := _, guard := _ }) (v := .agg #[.int .u8 (wi : Int), .int .u8 (tb : Int), .int .u8 (mo : Int), .int .u16 (hy : Int), .int .u16 (pr : Int), .float .f64 lo]) rfl (by kernel_rfl) (by kernel_rfl) (by kernel_rfl) (fun _ _ _ h => h) (Or.inl ⟨by rfl, fun w hSw => by obtain ⟨y0, y1, y2, y3, y4, y5⟩ := hSw; first | (go_simp; done) | go_simp⟩) (by assumption) ?_
    (try simp only [Act.put, List.setIfInBounds_toArray, List.set_cons_zero, List.set_cons_succ])
    refine wpAnyH_ready (rs := [5, 8, 9]) (by kernel_rfl) (by simp) ?_
    refine AllReadyH.cons rfl (fun K hK => ?_) (AllReadyH.cons rfl (fun K hK => ?_) (AllReadyH.cons rfl (fun K hK => ?_) AllReadyH.nil))
    · rw [if_pos (by rfl)]
      go_simp
      refine Calls.mono (HPA.out _ (HW2.out.trans HXD.out)) ?_
      rintro e y1 ⟨k, aC, aO, cC, cO, rfl, hmd, ho⟩
      have HMy1 : Hid (Made y1 L n0 k aC aO cC cO) := hmd
      clear hmd
      have HXy1 : Hid (Only (fun _ => False) w2 y1) := HXD.out.trans ho
      clear ho
      refine hK.out _ _ (HKS.out _ HXy1.out) (fun hHeld => ?_)
      clear hK
      (try simp only [Act.put, List.setIfInBounds_toArray, List.set_cons_zero, List.set_cons_succ])
      refine wpAnyH_ready (rs := [7, 8, 9]) (by kernel_rfl) (by simp) ?_
      refine AllReadyH.cons rfl (fun K hK => ?_) (AllReadyH.cons rfl (fun K hK => ?_) (AllReadyH.cons rfl (fun K hK => ?_) AllReadyH.nil))
      · rw [if_pos (by rfl)]
        go_simp
        refine Calls.mono (HCF.out _) ?_
        rintro e y2 ⟨rfl, ho⟩
        have HMy2 : Hid (Made y2 L n0 k aC aO cC cO) := HMy1.out.keep ho
        have HXy2 : Hid (Only (fun _ => False) w2 y2) := HXy1.out.trans ho
        clear ho
        refine hK.out _ _ (HKS.out _ HXy2.out) (fun hHeld => ?_)
        clear hK
        (try simp only [Act.put, List.setIfInBounds_toArray, List.set_cons_zero, List.set_cons_succ])
        refine wpAnyH_ready (rs := [8, 9]) (by kernel_rfl) (by simp) ?_
        refine AllReadyH.cons rfl (fun K hK => ?_) (AllReadyH.cons rfl (fun K hK => ?_) AllReadyH.nil)
        · rw [if_pos (by rfl)]
          go_simp
          obtain ⟨y3, hy3⟩ : ∃ Y, Y = y2.alloc (.cells #[.slice none 0 0, .slice none 0 0] 31) := ⟨_, rfl⟩
          obtain ⟨B5, hB5⟩ : ∃ b, b = y2.heap.size := ⟨_, rfl⟩
          have ho : Only (fun _ => False) y2 y3 := by rw [hy3]; exact (Only.refl _ _).alloc _
          have HXy3 : Hid (Only (fun _ => False) w2 y3) := HXy2.out.trans ho
          have HB5y3 : Hid (Blk w2 y3 B5 31 #[.slice none 0 0, .slice none 0 0]) := by rw [hy3, hB5]; exact Blk.made HXy2.out _ _
          have HMy3 : Hid (Made y3 L n0 k aC aO cC cO) := HMy2.out.keep ho
          rw [← hy3, ← hB5]
          clear hy3 hB5 ho
          refine hK.out _ _ (HKS.out _ HXy3.out) (fun hHeld => ?_)
          clear hK
          (try simp only [Act.put, List.setIfInBounds_toArray, List.set_cons_zero, List.set_cons_succ])
          refine wpAnyH_ready (rs := [9]) (by kernel_rfl) (by simp) ?_
          refine AllReadyH.cons rfl (fun K hK => ?_) AllReadyH.nil
          rw [if_pos (by rfl)]
          go_simp
          obtain ⟨y4, hy4⟩ : ∃ Y, Y = y3.alloc (.cells #[.int .i64 0, .int .i64 0, .int .u8 0, .int .i64 0, .int .i64 0, .float .f64 0] 69) := ⟨_, rfl⟩
          obtain ⟨B6, hB6⟩ : ∃ b, b = y3.heap.size := ⟨_, rfl⟩
          have ho : Only (fun _ => False) y3 y4 := by rw [hy4]; exact (Only.refl _ _).alloc _
          have HXy4 : Hid (Only (fun _ => False) w2 y4) := HXy3.out.trans ho
          have HB6y4 : Hid (Blk w2 y4 B6 69 #[.int .i64 0, .int .i64 0, .int .u8 0, .int .i64 0, .int .i64 0, .float .f64 0]) := by rw [hy4, hB6]; exact Blk.made HXy3.out _ _
          have HB5y4 : Hid (Blk w2 y4 B5 31 #[.slice none 0 0, .slice none 0 0]) := HB5y3.out.keep ho
          have HMy4 : Hid (Made y4 L n0 k aC aO cC cO) := HMy3.out.keep ho
          rw [← hy4, ← hB6]
          clear hy4 hB6 ho
          refine hK.out _ _ (HKS.out _ HXy4.out) (fun hHeld => ?_)
          clear hK
          (try simp only [Act.put, List.setIfInBounds_toArray, List.set_cons_zero, List.set_cons_succ])
          refine wpAnyH_ready (rs := [10]) (by kernel_rfl) (by simp) ?_
          refine AllReadyH.cons rfl (fun K hK => ?_) AllReadyH.nil
          rw [if_pos (by rfl)]
          have HXa : Hid (Only (fun _ => False) w2 (y4.setRow B5 #[.slice aC k cC, .slice aO (k + 1) cO])) := HXy4.out.setRowNew HB5y4.out.2 _
          refine wp_store_row 31 _ _ rfl B5 #[.slice aC k cC, .slice aO (k + 1) cO] rfl rfl 31 _ HB5y4.out.1 (by kernel_rfl) rfl (two_one _ _ _ _ _ _) ?_
          have HMa : Hid (Made (y4.setRow B5 #[.slice aC k cC, .slice aO (k + 1) cO]) L n0 k aC aO cC cO ∧ Blk w2 (y4.setRow B5 #[.slice aC k cC, .slice aO (k + 1) cO]) B5 31 #[.slice aC k cC, .slice aO (k + 1) cO] ∧ Blk w2 (y4.setRow B5 #[.slice aC k cC, .slice aO (k + 1) cO]) B6 69 #[.int .i64 0, .int .i64 0, .int .u8 0, .int .i64 0, .int .i64 0, .float .f64 0]) := ⟨HMy4.out.store HB5y4.out.1 (by decide) (by decide) _, HB5y4.out.put _, HB6y4.out.far HB5y4.out (by decide) _⟩
          obtain ⟨za, hza⟩ : ∃ Y, Y = y4.setRow B5 #[.slice aC k cC, .slice aO (k + 1) cO] := ⟨_, rfl⟩
          rw [← hza] at HXa HMa ⊢
          clear hza
          refine hK.out _ _ (HKS.out _ HXa.out) (fun hHeld => ?_)
          clear hK
          (try simp only [Act.put, List.setIfInBounds_toArray, List.set_cons_zero, List.set_cons_succ])
          refine wpAnyH_ready (rs := [11]) (by kernel_rfl) (by simp) ?_
          refine AllReadyH.cons rfl (fun K hK => ?_) AllReadyH.nil
          rw [if_pos (by rfl)]
          have HXb : Hid (Only (fun _ => False) w2 (za.setRow B6 #[.int .i64 (W1 : Int), .int .i64 (T1 : Int), .int .u8 (M1 : Int), .int .i64 (hy : Int), .int .i64 (pr : Int), .float .f64 lo])) := HXa.out.setRowNew HMa.out.2.2.2 _
          refine wp_store_row 69 _ _ rfl B6 #[.int .i64 (W1 : Int), .int .i64 (T1 : Int), .int .u8 (M1 : Int), .int .i64 (hy : Int), .int .i64 (pr : Int), .float .f64 lo] rfl rfl 69 _ HMa.out.2.2.1 (by kernel_rfl) rfl (cfg_one _ _ _ _ _ _) ?_
          have HMb : Hid (Made (za.setRow B6 #[.int .i64 (W1 : Int), .int .i64 (T1 : Int), .int .u8 (M1 : Int), .int .i64 (hy : Int), .int .i64 (pr : Int), .float .f64 lo]) L n0 k aC aO cC cO ∧ Blk w2 (za.setRow B6 #[.int .i64 (W1 : Int), .int .i64 (T1 : Int), .int .u8 (M1 : Int), .int .i64 (hy : Int), .int .i64 (pr : Int), .float .f64 lo]) B5 31 #[.slice aC k cC, .slice aO (k + 1) cO] ∧ Blk w2 (za.setRow B6 #[.int .i64 (W1 : Int), .int .i64 (T1 : Int), .int .u8 (M1 : Int), .int .i64 (hy : Int), .int .i64 (pr : Int), .float .f64 lo]) B6 69 #[.int .i64 (W1 : Int), .int .i64 (T1 : Int), .int .u8 (M1 : Int), .int .i64 (hy : Int), .int .i64 (pr : Int), .float .f64 lo]) := ⟨HMa.out.1.store HMa.out.2.2.1 (by decide) (by decide) _, HMa.out.2.1.far HMa.out.2.2 (by decide) _, HMa.out.2.2.put _⟩
          obtain ⟨zb, hzb⟩ : ∃ Y, Y = za.setRow B6 #[.int .i64 (W1 : Int), .int .i64 (T1 : Int), .int .u8 (M1 : Int), .int .i64 (hy : Int), .int .i64 (pr : Int), .float .f64 lo] := ⟨_, rfl⟩
          rw [← hzb] at HXb HMb ⊢
          clear hzb
          refine hK.out _ _ (HKS.out _ HXb.out) (fun hHeld => ?_)
          clear hK
          (try simp only [Act.put, List.setIfInBounds_toArray, List.set_cons_zero, List.set_cons_succ])
          refine wpAnyH_done (by kernel_rfl) ?_ _
          clear hHeld
          go_wp2_with fail
          go_meet
          exact ⟨k, B5, B6, aC, aO, cC, cO, _, rfl, rfl, rfl, HMb.out.1, HMb.out.2.1, HMb.out.2.2, HXb.out⟩
        · rw [if_pos (by rfl)]
          go_simp
          obtain ⟨y3, hy3⟩ : ∃ Y, Y = y2.alloc (.cells #[.int .i64 0, .int .i64 0, .int .u8 0, .int .i64 0, .int .i64 0, .float .f64 0] 69) := ⟨_, rfl⟩
          obtain ⟨B6, hB6⟩ : ∃ b, b = y2.heap.size := ⟨_, rfl⟩
          have ho : Only (fun _ => False) y2 y3 := by rw [hy3]; exact (Only.refl _ _).alloc _
          have HXy3 : Hid (Only (fun _ => False) w2 y3) := HXy2.out.trans ho
          have HB6y3 : Hid (Blk w2 y3 B6 69 #[.int .i64 0, .int .i64 0, .int .u8 0, .int .i64 0, .int .i64 0, .float .f64 0]) := by rw [hy3, hB6]; exact Blk.made HXy2.out _ _
          have HMy3 : Hid (Made y3 L n0 k aC aO cC cO) := HMy2.out.keep ho
          rw [← hy3, ← hB6]
          clear hy3 hB6 ho
          refine hK.out _ _ (HKS.out _ HXy3.out) (fun hHeld => ?_)
          clear hK
          (try simp only [Act.put, List.setIfInBounds_toArray, List.set_cons_zero, List.set_cons_succ])
          refine wpAnyH_ready (rs := [8]) (by kernel_rfl) (by simp) ?_
          refine AllReadyH.cons rfl (fun K hK => ?_) AllReadyH.nil
          rw [if_pos (by rfl)]
          go_simp
          obtain ⟨y4, hy4⟩ : ∃ Y, Y = y3.alloc (.cells #[.slice none 0 0, .slice none 0 0] 31) := ⟨_, rfl⟩
          obtain ⟨B5, hB5⟩ : ∃ b, b = y3.heap.size := ⟨_, rfl⟩
          have ho : Only (fun _ => False) y3 y4 := by rw [hy4]; exact (Only.refl _ _).alloc _
          have HXy4 : Hid (Only (fun _ => False) w2 y4) := HXy3.out.trans ho
          have HB5y4 : Hid (Blk w2 y4 B5 31 #[.slice none 0 0, .slice none 0 0]) := by rw [hy4, hB5]; exact Blk.made HXy3.out _ _
          have HB6y4 : Hid (Blk w2 y4 B6 69 #[.int .i64 0, .int .i64 0, .int .u8 0, .int .i64 0, .int .i64 0, .float .f64 0]) := HB6y3.out.keep ho
          have HMy4 : Hid (Made y4 L n0 k aC aO cC cO) := HMy3.out.keep ho
          rw [← hy4, ← hB5]
          clear hy4 hB5 ho
          refine hK.out _ _ (HKS.out _ HXy4.out) (fun hHeld => ?_)
          clear hK
          (try simp only [Act.put, List.setIfInBounds_toArray, List.set_cons_zero, List.set_cons_succ])
          refine wpAnyH_ready (rs := [10]) (by kernel_rfl) (by simp) ?_
          refine AllReadyH.cons rfl (fun K hK => ?_) AllReadyH.nil
          rw [if_pos (by rfl)]
          have HXa : Hid (Only (fun _ => False) w2 (y4.setRow B5 #[.slice aC k cC, .slice aO (k + 1) cO])) := HXy4.out.setRowNew HB5y4.out.2 _
          refine wp_store_row 31 _ _ rfl B5 #[.slice aC k cC, .slice aO (k + 1) cO] rfl rfl 31 _ HB5y4.out.1 (by kernel_rfl) rfl (two_one _ _ _ _ _ _) ?_
          have HMa : Hid (Made (y4.setRow B5 #[.slice aC k cC, .slice aO (k + 1) cO]) L n0 k aC aO cC cO ∧ Blk w2 (y4.setRow B5 #[.slice aC k cC, .slice aO (k + 1) cO]) B5 31 #[.slice aC k cC, .slice aO (k + 1) cO] ∧ Blk w2 (y4.setRow B5 #[.slice aC k cC, .slice aO (k + 1) cO]) B6 69 #[.int .i64 0, .int .i64 0, .int .u8 0, .int .i64 0, .int .i64 0, .float .f64 0]) := ⟨HMy4.out.store HB5y4.out.1 (by decide) (by decide) _, HB5y4.out.put _, HB6y4.out.far HB5y4.out (by decide) _⟩
          obtain ⟨za, hza⟩ : ∃ Y, Y = y4.setRow B5 #[.slice aC k cC, .slice aO (k + 1) cO] := ⟨_, rfl⟩
          rw [← hza] at HXa HMa ⊢
          clear hza
          refine hK.out _ _ (HKS.out _ HXa.out) (fun hHeld => ?_)
          clear hK
          (try simp only [Act.put, List.setIfInBounds_toArray, List.set_cons_zero, List.set_cons_succ])
          refine wpAnyH_ready (rs := [11]) (by kernel_rfl) (by simp) ?_
          refine AllReadyH.cons rfl (fun K hK => ?_) AllReadyH.nil
          rw [if_pos (by rfl)]
          have HXb : Hid (Only (fun _ => False) w2 (za.setRow B6 #[.int .i64 (W1 : Int), .int .i64 (T1 : Int), .int .u8 (M1 : Int), .int .i64 (hy : Int), .int .i64 (pr : Int), .float .f64 lo])) := HXa.out.setRowNew HMa.out.2.2.2 _
          refine wp_store_row 69 _ _ rfl B6 #[.int .i64 (W1 : Int), .int .i64 (T1 : Int), .int .u8 (M1 : Int), .int .i64 (hy : Int), .int .i64 (pr : Int), .float .f64 lo] rfl rfl 69 _ HMa.out.2.2.1 (by kernel_rfl) rfl (cfg_one _ _ _ _ _ _) ?_
          have HMb : Hid (Made (za.setRow B6 #[.int .i64 (W1 : Int), .int .i64 (T1 : Int), .int .u8 (M1 : Int), .int .i64 (hy : Int), .int .i64 (pr : Int), .float .f64 lo]) L n0 k aC aO cC cO ∧ Blk w2 (za.setRow B6 #[.int .i64 (W1 : Int), .int .i64 (T1 : Int), .int .u8 (M1 : Int), .int .i64 (hy : Int), .int .i64 (pr : Int), .float .f64 lo]) B5 31 #[.slice aC k cC, .slice aO (k + 1) cO] ∧ Blk w2 (za.setRow B6 #[.int .i64 (W1 : Int), .int .i64 (T1 : Int), .int .u8 (M1 : Int), .int .i64 (hy : Int), .int .i64 (pr : Int), .float .f64 lo]) B6 69 #[.int .i64 (W1 : Int), .int .i64 (T1 : Int), .int .u8 (M1 : Int), .int .i64 (hy : Int), .int .i64 (pr : Int), .float .f64 lo]) := ⟨HMa.out.1.store HMa.out.2.2.1 (by decide) (by decide) _, HMa.out.2.1.far HMa.out.2.2 (by decide) _, HMa.out.2.2.put _⟩
          obtain ⟨zb, hzb⟩ : ∃ Y, Y = za.setRow B6 #[.int .i64 (W1 : Int), .int .i64 (T1 : Int), .int .u8 (M1 : Int), .int .i64 (hy : Int), .int .i64 (pr : Int), .float .f64 lo] := ⟨_, rfl⟩
          rw [← hzb] at HXb HMb ⊢
          clear hzb
          refine hK.out _ _ (HKS.out _ HXb.out) (fun hHeld => ?_)
          clear hK
          (try simp only [Act.put, List.setIfInBounds_toArray, List.set_cons_zero, List.set_cons_succ])
          refine wpAnyH_done (by kernel_rfl) ?_ _
          clear hHeld
          go_wp2_with fail
          go_meet
          exact ⟨k, B5, B6, aC, aO, cC, cO, _, rfl, rfl, rfl, HMb.out.1, HMb.out.2.1, HMb.out.2.2, HXb.out⟩
      · rw [if_pos (by rfl)]
        go_simp
        obtain ⟨y2, hy2⟩ : ∃ Y, Y = y1.alloc (.cells #[.slice none 0 0, .slice none 0 0] 31) := ⟨_, rfl⟩
        obtain ⟨B5, hB5⟩ : ∃ b, b = y1.heap.size := ⟨_, rfl⟩
        have ho : Only (fun _ => False) y1 y2 := by rw [hy2]; exact (Only.refl _ _).alloc _
        have HXy2 : Hid (Only (fun _ => False) w2 y2) := HXy1.out.trans ho
        have HB5y2 : Hid (Blk w2 y2 B5 31 #[.slice none 0 0, .slice none 0 0]) := by rw [hy2, hB5]; exact Blk.made HXy1.out _ _
        have HMy2 : Hid (Made y2 L n0 k aC aO cC cO) := HMy1.out.keep ho
        rw [← hy2, ← hB5]
        clear hy2 hB5 ho
        refine hK.out _ _ (HKS.out _ HXy2.out) (fun hHeld => ?_)
        clear hK
        (try simp only [Act.put, List.setIfInBounds_toArray, List.set_cons_zero, List.set_cons_succ])
        refine wpAnyH_ready (rs := [7, 9]) (by kernel_rfl) (by simp) ?_
        refine AllReadyH.cons rfl (fun K hK => ?_) (AllReadyH.cons rfl (fun K hK => ?_) AllReadyH.nil)
        · rw [if_pos (by rfl)]
          go_simp
          refine Calls.mono (HCF.out _) ?_
          rintro e y3 ⟨rfl, ho⟩
          have HMy3 : Hid (Made y3 L n0 k aC aO cC cO) := HMy2.out.keep ho
          have HXy3 : Hid (Only (fun _ => False) w2 y3) := HXy2.out.trans ho
          have HB5y3 : Hid (Blk w2 y3 B5 31 #[.slice none 0 0, .slice none 0 0]) := HB5y2.out.keep ho
          clear ho
          refine hK.out _ _ (HKS.out _ HXy3.out) (fun hHeld => ?_)
          clear hK
          (try simp only [Act.put, List.setIfInBounds_toArray, List.set_cons_zero, List.set_cons_succ])
          refine wpAnyH_ready (rs := [9]) (by kernel_rfl) (by simp) ?_
          refine AllReadyH.cons rfl (fun K hK => ?_) AllReadyH.nil
          rw [if_pos (by rfl)]
          go_simp
          obtain ⟨y4, hy4⟩ : ∃ Y, Y = y3.alloc (.cells #[.int .i64 0, .int .i64 0, .int .u8 0, .int .i64 0, .int .i64 0, .float .f64 0] 69) := ⟨_, rfl⟩
          obtain ⟨B6, hB6⟩ : ∃ b, b = y3.heap.size := ⟨_, rfl⟩
          have ho : Only (fun _ => False) y3 y4 := by rw [hy4]; exact (Only.refl _ _).alloc _
          have HXy4 : Hid (Only (fun _ => False) w2 y4) := HXy3.out.trans ho
          have HB6y4 : Hid (Blk w2 y4 B6 69 #[.int .i64 0, .int .i64 0, .int .u8 0, .int .i64 0, .int .i64 0, .float .f64 0]) := by rw [hy4, hB6]; exact Blk.made HXy3.out _ _
          have HB5y4 : Hid (Blk w2 y4 B5 31 #[.slice none 0 0, .slice none 0 0]) := HB5y3.out.keep ho
          have HMy4 : Hid (Made y4 L n0 k aC aO cC cO) := HMy3.out.keep ho
          rw [← hy4, ← hB6]
          clear hy4 hB6 ho
          refine hK.out _ _ (HKS.out _ HXy4.out) (fun hHeld => ?_)
          clear hK
          (try simp only [Act.put, List.setIfInBounds_toArray, List.set_cons_zero, List.set_cons_succ])
          refine wpAnyH_ready (rs := [10]) (by kernel_rfl) (by simp) ?_
          refine AllReadyH.cons rfl (fun K hK => ?_) AllReadyH.nil
          rw [if_pos (by rfl)]
          have HXa : Hid (Only (fun _ => False) w2 (y4.setRow B5 #[.slice aC k cC, .slice aO (k + 1) cO])) := HXy4.out.setRowNew HB5y4.out.2 _
          refine wp_store_row 31 _ _ rfl B5 #[.slice aC k cC, .slice aO (k + 1) cO] rfl rfl 31 _ HB5y4.out.1 (by kernel_rfl) rfl (two_one _ _ _ _ _ _) ?_
          have HMa : Hid (Made (y4.setRow B5 #[.slice aC k cC, .slice aO (k + 1) cO]) L n0 k aC aO cC cO ∧ Blk w2 (y4.setRow B5 #[.slice aC k cC, .slice aO (k + 1) cO]) B5 31 #[.slice aC k cC, .slice aO (k + 1) cO] ∧ Blk w2 (y4.setRow B5 #[.slice aC k cC, .slice aO (k + 1) cO]) B6 69 #[.int .i64 0, .int .i64 0, .int .u8 0, .int .i64 0, .int .i64 0, .float .f64 0]) := ⟨HMy4.out.store HB5y4.out.1 (by decide) (by decide) _, HB5y4.out.put _, HB6y4.out.far HB5y4.out (by decide) _⟩
          obtain ⟨za, hza⟩ : ∃ Y, Y = y4.setRow B5 #[.slice aC k cC, .slice aO (k + 1) cO] := ⟨_, rfl⟩
          rw [← hza] at HXa HMa ⊢
          clear hza
          refine hK.out _ _ (HKS.out _ HXa.out) (fun hHeld => ?_)
          clear hK
          (try simp only [Act.put, List.setIfInBounds_toArray, List.set_cons_zero, List.set_cons_succ])
          refine wpAnyH_ready (rs := [11]) (by kernel_rfl) (by simp) ?_
          refine AllReadyH.cons rfl (fun K hK => ?_) AllReadyH.nil
          rw [if_pos (by rfl)]
          have HXb : Hid (Only (fun _ => False) w2 (za.setRow B6 #[.int .i64 (W1 : Int), .int .i64 (T1 : Int), .int .u8 (M1 : Int), .int .i64 (hy : Int), .int .i64 (pr : Int), .float .f64 lo])) := HXa.out.setRowNew HMa.out.2.2.2 _
          refine wp_store_row 69 _ _ rfl B6 #[.int .i64 (W1 : Int), .int .i64 (T1 : Int), .int .u8 (M1 : Int), .int .i64 (hy : Int), .int .i64 (pr : Int), .float .f64 lo] rfl rfl 69 _ HMa.out.2.2.1 (by kernel_rfl) rfl (cfg_one _ _ _ _ _ _) ?_
          have HMb : Hid (Made (za.setRow B6 #[.int .i64 (W1 : Int), .int .i64 (T1 : Int), .int .u8 (M1 : Int), .int .i64 (hy : Int), .int .i64 (pr : Int), .float .f64 lo]) L n0 k aC aO cC cO ∧ Blk w2 (za.setRow B6 #[.int .i64 (W1 : Int), .int .i64 (T1 : Int), .int .u8 (M1 : Int), .int .i64 (hy : Int), .int .i64 (pr : Int), .float .f64 lo]) B5 31 #[.slice aC k cC, .slice aO (k + 1) cO] ∧ Blk w2 (za.setRow B6 #[.int .i64 (W1 : Int), .int .i64 (T1 : Int), .int .u8 (M1 : Int), .int .i64 (hy : Int), .int .i64 (pr : Int), .float .f64 lo]) B6 69 #[.int .i64 (W1 : Int), .int .i64 (T1 : Int), .int .u8 (M1 : Int), .int .i64 (hy : Int), .int .i64 (pr : Int), .float .f64 lo]) := ⟨HMa.out.1.store HMa.out.2.2.1 (by decide) (by decide) _, HMa.out.2.1.far HMa.out.2.2 (by decide) _, HMa.out.2.2.put _⟩
          obtain ⟨zb, hzb⟩ : ∃ Y, Y = za.setRow B6 #[.int .i64 (W1 : Int), .int .i64 (T1 : Int), .int .u8 (M1 : Int), .int .i64 (hy : Int), .int .i64 (pr : Int), .float .f64 lo] := ⟨_, rfl⟩
          rw [← hzb] at HXb HMb ⊢
          clear hzb
          refine hK.out _ _ (HKS.out _ HXb.out) (fun hHeld => ?_)
          clear hK
          (try simp only [Act.put, List.setIfInBounds_toArray, List.set_cons_zero, List.set_cons_succ])
          refine wpAnyH_done (by kernel_rfl) ?_ _
          clear hHeld
          go_wp2_with fail
          go_meet
          exact ⟨k, B5, B6, aC, aO, cC, cO, _, rfl, rfl, rfl, HMb.out.1, HMb.out.2.1, HMb.out.2.2, HXb.out⟩
        · rw [if_pos (by rfl)]
          go_simp
          obtain ⟨y3, hy3⟩ : ∃ Y, Y = y2.alloc (.cells #[.int .i64 0, .int .i64 0, .int .u8 0, .int .i64 0, .int .i64 0, .float .f64 0] 69) := ⟨_, rfl⟩
          obtain ⟨B6, hB6⟩ : ∃ b, b = y2.heap.size := ⟨_, rfl⟩
          have ho : Only (fun _ => False) y2 y3 := by rw [hy3]; exact (Only.refl _ _).alloc _
          have HXy3 : Hid (Only (fun _ => False) w2 y3) := HXy2.out.trans ho
          have HB6y3 : Hid (Blk w2 y3 B6 69 #[.int .i64 0, .int .i64 0, .int .u8 0, .int .i64 0, .int .i64 0, .float .f64 0]) := by rw [hy3, hB6]; exact Blk.made HXy2.out _ _
          have HB5y3 : Hid (Blk w2 y3 B5 31 #[.slice none 0 0, .slice none 0 0]) := HB5y2.out.keep ho
          have HMy3 : Hid (Made y3 L n0 k aC aO cC cO) := HMy2.out.keep ho
          rw [← hy3, ← hB6]
          clear hy3 hB6 ho
          refine hK.out _ _ (HKS.out _ HXy3.out) (fun hHeld => ?_)
          clear hK
          (try simp only [Act.put, List.setIfInBounds_toArray, List.set_cons_zero, List.set_cons_succ])
          refine wpAnyH_ready (rs := [7]) (by kernel_rfl) (by simp) ?_
          refine AllReadyH.cons rfl (fun K hK => ?_) AllReadyH.nil
          rw [if_pos (by rfl)]
          go_simp
          refine Calls.mono (HCF.out _) ?_
          rintro e y4 ⟨rfl, ho⟩
          have HMy4 : Hid (Made y4 L n0 k aC aO cC cO) := HMy3.out.keep ho
          have HXy4 : Hid (Only (fun _ => False) w2 y4) := HXy3.out.trans ho
          have HB5y4 : Hid (Blk w2 y4 B5 31 #[.slice none 0 0, .slice none 0 0]) := HB5y3.out.keep ho
          have HB6y4 : Hid (Blk w2 y4 B6 69 #[.int .i64 0, .int .i64 0, .int .u8 0, .int .i64 0, .int .i64 0, .float .f64 0]) := HB6y3.out.keep ho
          clear ho
          refine hK.out _ _ (HKS.out _ HXy4.out) (fun hHeld => ?_)
          clear hK
          (try simp only [Act.put, List.setIfInBounds_toArray, List.set_cons_zero, List.set_cons_succ])
          refine wpAnyH_ready (rs := [10]) (by kernel_rfl) (by simp) ?_
          refine AllReadyH.cons rfl (fun K hK => ?_) AllReadyH.nil
          rw [if_pos (by rfl)]
          have HXa : Hid (Only (fun _ => False) w2 (y4.setRow B5 #[.slice aC k cC, .slice aO (k + 1) cO])) := HXy4.out.setRowNew HB5y4.out.2 _
          refine wp_store_row 31 _ _ rfl B5 #[.slice aC k cC, .slice aO (k + 1) cO] rfl rfl 31 _ HB5y4.out.1 (by kernel_rfl) rfl (two_one _ _ _ _ _ _) ?_
          have HMa : Hid (Made (y4.setRow B5 #[.slice aC k cC, .slice aO (k + 1) cO]) L n0 k aC aO cC cO ∧ Blk w2 (y4.setRow B5 #[.slice aC k cC, .slice aO (k + 1) cO]) B5 31 #[.slice aC k cC, .slice aO (k + 1) cO] ∧ Blk w2 (y4.setRow B5 #[.slice aC k cC, .slice aO (k + 1) cO]) B6 69 #[.int .i64 0, .int .i64 0, .int .u8 0, .int .i64 0, .int .i64 0, .float .f64 0]) := ⟨HMy4.out.store HB5y4.out.1 (by decide) (by decide) _, HB5y4.out.put _, HB6y4.out.far HB5y4.out (by decide) _⟩
          obtain ⟨za, hza⟩ : ∃ Y, Y = y4.setRow B5 #[.slice aC k cC, .slice aO (k + 1) cO] := ⟨_, rfl⟩
          rw [← hza] at HXa HMa ⊢
          clear hza
          refine hK.out _ _ (HKS.out _ HXa.out) (fun hHeld => ?_)
          clear hK
          (try simp only [Act.put, List.setIfInBounds_toArray, List.set_cons_zero, List.set_cons_succ])
          refine wpAnyH_ready (rs := [11]) (by kernel_rfl) (by simp) ?_
          refine AllReadyH.cons rfl (fun K hK => ?_) AllReadyH.nil
          rw [if_pos (by rfl)]
          have HXb : Hid (Only (fun _ => False) w2 (za.setRow B6 #[.int .i64 (W1 : Int), .int .i64 (T1 : Int), .int .u8 (M1 : Int), .int .i64 (hy : Int), .int .i64 (pr : Int), .float .f64 lo])) := HXa.out.setRowNew HMa.out.2.2.2 _
          refine wp_store_row 69 _ _ rfl B6 #[.int .i64 (W1 : Int), .int .i64 (T1 : Int), .int .u8 (M1 : Int), .int .i64 (hy : Int), .int .i64 (pr : Int), .float .f64 lo] rfl rfl 69 _ HMa.out.2.2.1 (by kernel_rfl) rfl (cfg_one _ _ _ _ _ _) ?_
          have HMb : Hid (Made (za.setRow B6 #[.int .i64 (W1 : Int), .int .i64 (T1 : Int), .int .u8 (M1 : Int), .int .i64 (hy : Int), .int .i64 (pr : Int), .float .f64 lo]) L n0 k aC aO cC cO ∧ Blk w2 (za.setRow B6 #[.int .i64 (W1 : Int), .int .i64 (T1 : Int), .int .u8 (M1 : Int), .int .i64 (hy : Int), .int .i64 (pr : Int), .float .f64 lo]) B5 31 #[.slice aC k cC, .slice aO (k + 1) cO] ∧ Blk w2 (za.setRow B6 #[.int .i64 (W1 : Int), .int .i64 (T1 : Int), .int .u8 (M1 : Int), .int .i64 (hy : Int), .int .i64 (pr : Int), .float .f64 lo]) B6 69 #[.int .i64 (W1 : Int), .int .i64 (T1 : Int), .int .u8 (M1 : Int), .int .i64 (hy : Int), .int .i64 (pr : Int), .float .f64 lo]) := ⟨HMa.out.1.store HMa.out.2.2.1 (by decide) (by decide) _, HMa.out.2.1.far HMa.out.2.2 (by decide) _, HMa.out.2.2.put _⟩
          obtain ⟨zb, hzb⟩ : ∃ Y, Y = za.setRow B6 #[.int .i64 (W1 : Int), .int .i64 (T1 : Int), .int .u8 (M1 : Int), .int .i64 (hy : Int), .int .i64 (pr : Int), .float .f64 lo] := ⟨_, rfl⟩
          rw [← hzb] at HXb HMb ⊢
          clear hzb
          refine hK.out _ _ (HKS.out _ HXb.out) (fun hHeld => ?_)
          clear hK
          (try simp only [Act.put, List.setIfInBounds_toArray, List.set_cons_zero, List.set_cons_succ])
          refine wpAnyH_done (by kernel_rfl) ?_ _
          clear hHeld
          go_wp2_with fail
          go_meet
          exact ⟨k, B5, B6, aC, aO, cC, cO, _, rfl, rfl, rfl, HMb.out.1, HMb.out.2.1, HMb.out.2.2, HXb.out⟩
      · rw [if_pos (by rfl)]
        go_simp
        obtain ⟨y2, hy2⟩ : ∃ Y, Y = y1.alloc (.cells #[.int .i64 0, .int .i64 0, .int .u8 0, .int .i64 0, .int .i64 0, .float .f64 0] 69) := ⟨_, rfl⟩
        obtain ⟨B6, hB6⟩ : ∃ b, b = y1.heap.size := ⟨_, rfl⟩
        have ho : Only (fun _ => False) y1 y2 := by rw [hy2]; exact (Only.refl _ _).alloc _
        have HXy2 : Hid (Only (fun _ => False) w2 y2) := HXy1.out.trans ho
        have HB6y2 : Hid (Blk w2 y2 B6 69 #[.int .i64 0, .int .i64 0, .int .u8 0, .int .i64 0, .int .i64 0, .float .f64 0]) := by rw [hy2, hB6]; exact Blk.made HXy1.out _ _
        have HMy2 : Hid (Made y2 L n0 k aC aO cC cO) := HMy1.out.keep ho
        rw [← hy2, ← hB6]
        clear hy2 hB6 ho
        refine hK.out _ _ (HKS.out _ HXy2.out) (fun hHeld => ?_)
        clear hK
        (try simp only [Act.put, List.setIfInBounds_toArray, List.set_cons_zero, List.set_cons_succ])
        refine wpAnyH_ready (rs := [7, 8]) (by kernel_rfl) (by simp) ?_
        refine AllReadyH.cons rfl (fun K hK => ?_) (AllReadyH.cons rfl (fun K hK => ?_) AllReadyH.nil)
        · rw [if_pos (by rfl)]
          go_simp
          refine Calls.mono (HCF.out _) ?_
          rintro e y3 ⟨rfl, ho⟩
          have HMy3 : Hid (Made y3 L n0 k aC aO cC cO) := HMy2.out.keep ho
          have HXy3 : Hid (Only (fun _ => False) w2 y3) := HXy2.out.trans ho
          have HB6y3 : Hid (Blk w2 y3 B6 69 #[.int .i64 0, .int .i64 0, .int .u8 0, .int .i64 0, .int .i64 0, .float .f64 0]) := HB6y2.out.keep ho
          clear ho
          refine hK.out _ _ (HKS.out _ HXy3.out) (fun hHeld => ?_)
          clear hK
          (try simp only [Act.put, List.setIfInBounds_toArray, List.set_cons_zero, List.set_cons_succ])
          refine wpAnyH_ready (rs := [8]) (by kernel_rfl) (by simp) ?_
          refine AllReadyH.cons rfl (fun K hK => ?_) AllReadyH.nil
          rw [if_pos (by rfl)]
          go_simp
          obtain ⟨y4, hy4⟩ : ∃ Y, Y = y3.alloc (.cells #[.slice none 0 0, .slice none 0 0] 31) := ⟨_, rfl⟩
          obtain ⟨B5, hB5⟩ : ∃ b, b = y3.heap.size := ⟨_, rfl⟩
          have ho : Only (fun _ => False) y3 y4 := by rw [hy4]; exact (Only.refl _ _).alloc _
          have HXy4 : Hid (Only (fun _ => False) w2 y4) := HXy3.out.trans ho
          have HB5y4 : Hid (Blk w2 y4 B5 31 #[.slice none 0 0, .slice none 0 0]) := by rw [hy4, hB5]; exact Blk.made HXy3.out _ _
          have HB6y4 : Hid (Blk w2 y4 B6 69 #[.int .i64 0, .int .i64 0, .int .u8 0, .int .i64 0, .int .i64 0, .float .f64 0]) := HB6y3.out.keep ho
          have HMy4 : Hid (Made y4 L n0 k aC aO cC cO) := HMy3.out.keep ho
          rw [← hy4, ← hB5]
          clear hy4 hB5 ho
          refine hK.out _ _ (HKS.out _ HXy4.out) (fun hHeld => ?_)
          clear hK
          (try simp only [Act.put, List.setIfInBounds_toArray, List.set_cons_zero, List.set_cons_succ])
          refine wpAnyH_ready (rs := [10]) (by kernel_rfl) (by simp) ?_
          refine AllReadyH.cons rfl (fun K hK => ?_) AllReadyH.nil
          rw [if_pos (by rfl)]
          have HXa : Hid (Only (fun _ => False) w2 (y4.setRow B5 #[.slice aC k cC, .slice aO (k + 1) cO])) := HXy4.out.setRowNew HB5y4.out.2 _
          refine wp_store_row 31 _ _ rfl B5 #[.slice aC k cC, .slice aO (k + 1) cO] rfl rfl 31 _ HB5y4.out.1 (by kernel_rfl) rfl (two_one _ _ _ _ _ _) ?_
          have HMa : Hid (Made (y4.setRow B5 #[.slice aC k cC, .slice aO (k + 1) cO]) L n0 k aC aO cC cO ∧ Blk w2 (y4.setRow B5 #[.slice aC k cC, .slice aO (k + 1) cO]) B5 31 #[.slice aC k cC, .slice aO (k + 1) cO] ∧ Blk w2 (y4.setRow B5 #[.slice aC k cC, .slice aO (k + 1) cO]) B6 69 #[.int .i64 0, .int .i64 0, .int .u8 0, .int .i64 0, .int .i64 0, .float .f64 0]) := ⟨HMy4.out.store HB5y4.out.1 (by decide) (by decide) _, HB5y4.out.put _, HB6y4.out.far HB5y4.out (by decide) _⟩
          obtain ⟨za, hza⟩ : ∃ Y, Y = y4.setRow B5 #[.slice aC k cC, .slice aO (k + 1) cO] := ⟨_, rfl⟩
          rw [← hza] at HXa HMa ⊢
          clear hza
          refine hK.out _ _ (HKS.out _ HXa.out) (fun hHeld => ?_)
          clear hK
          (try simp only [Act.put, List.setIfInBounds_toArray, List.set_cons_zero, List.set_cons_succ])
          refine wpAnyH_ready (rs := [11]) (by kernel_rfl) (by simp) ?_
          refine AllReadyH.cons rfl (fun K hK => ?_) AllReadyH.nil
          rw [if_pos (by rfl)]
          have HXb : Hid (Only (fun _ => False) w2 (za.setRow B6 #[.int .i64 (W1 : Int), .int .i64 (T1 : Int), .int .u8 (M1 : Int), .int .i64 (hy : Int), .int .i64 (pr : Int), .float .f64 lo])) := HXa.out.setRowNew HMa.out.2.2.2 _
          refine wp_store_row 69 _ _ rfl B6 #[.int .i64 (W1 : Int), .int .i64 (T1 : Int), .int .u8 (M1 : Int), .int .i64 (hy : Int), .int .i64 (pr : Int), .float .f64 lo] rfl rfl 69 _ HMa.out.2.2.1 (by kernel_rfl) rfl (cfg_one _ _ _ _ _ _) ?_
          have HMb : Hid (Made (za.setRow B6 #[.int .i64 (W1 : Int), .int .i64 (T1 : Int), .int .u8 (M1 : Int), .int .i64 (hy : Int), .int .i64 (pr : Int), .float .f64 lo]) L n0 k aC aO cC cO ∧ Blk w2 (za.setRow B6 #[.int .i64 (W1 : Int), .int .i64 (T1 : Int), .int .u8 (M1 : Int), .int .i64 (hy : Int), .int .i64 (pr : Int), .float .f64 lo]) B5 31 #[.slice aC k cC, .slice aO (k + 1) cO] ∧ Blk w2 (za.setRow B6 #[.int .i64 (W1 : Int), .int .i64 (T1 : Int), .int .u8 (M1 : Int), .int .i64 (hy : Int), .int .i64 (pr : Int), .float .f64 lo]) B6 69 #[.int .i64 (W1 : Int), .int .i64 (T1 : Int), .int .u8 (M1 : Int), .int .i64 (hy : Int), .int .i64 (pr : Int), .float .f64 lo]) := ⟨HMa.out.1.store HMa.out.2.2.1 (by decide) (by decide) _, HMa.out.2.1.far HMa.out.2.2 (by decide) _, HMa.out.2.2.put _⟩
          obtain ⟨zb, hzb⟩ : ∃ Y, Y = za.setRow B6 #[.int .i64 (W1 : Int), .int .i64 (T1 : Int), .int .u8 (M1 : Int), .int .i64 (hy : Int), .int .i64 (pr : Int), .float .f64 lo] := ⟨_, rfl⟩
          rw [← hzb] at HXb HMb ⊢
          clear hzb
          refine hK.out _ _ (HKS.out _ HXb.out) (fun hHeld => ?_)
          clear hK
          (try simp only [Act.put, List.setIfInBounds_toArray, List.set_cons_zero, List.set_cons_succ])
          refine wpAnyH_done (by kernel_rfl) ?_ _
          clear hHeld
          go_wp2_with fail
          go_meet
          exact ⟨k, B5, B6, aC, aO, cC, cO, _, rfl, rfl, rfl, HMb.out.1, HMb.out.2.1, HMb.out.2.2, HXb.out⟩
        · rw [if_pos (by rfl)]
          go_simp
          obtain ⟨y3, hy3⟩ : ∃ Y, Y = y2.alloc (.cells #[.slice none 0 0, .slice none 0 0] 31) := ⟨_, rfl⟩
          obtain ⟨B5, hB5⟩ : ∃ b, b = y2.heap.size := ⟨_, rfl⟩
          have ho : Only (fun _ => False) y2 y3 := by rw [hy3]; exact (Only.refl _ _).alloc _
          have HXy3 : Hid (Only (fun _ => False) w2 y3) := HXy2.out.trans ho
          have HB5y3 : Hid (Blk w2 y3 B5 31 #[.slice none 0 0, .slice none 0 0]) := by rw [hy3, hB5]; exact Blk.made HXy2.out _ _
          have HB6y3 : Hid (Blk w2 y3 B6 69 #[.int .i64 0, .int .i64 0, .int .u8 0, .int .i64 0, .int .i64 0, .float .f64 0]) := HB6y2.out.keep ho
          have HMy3 : Hid (Made y3 L n0 k aC aO cC cO) := HMy2.out.keep ho
          rw [← hy3, ← hB5]
          clear hy3 hB5 ho
          refine hK.out _ _ (HKS.out _ HXy3.out) (fun hHeld => ?_)
          clear hK
          (try simp only [Act.put, List.setIfInBounds_toArray, List.set_cons_zero, List.set_cons_succ])
          refine wpAnyH_ready (rs := [7]) (by kernel_rfl) (by simp) ?_
          refine AllReadyH.cons rfl (fun K hK => ?_) AllReadyH.nil
          rw [if_pos (by rfl)]
          go_simp
          refine Calls.mono (HCF.out _) ?_
          rintro e y4 ⟨rfl, ho⟩
          have HMy4 : Hid (Made y4 L n0 k aC aO cC cO) := HMy3.out.keep ho
          have HXy4 : Hid (Only (fun _ => False) w2 y4) := HXy3.out.trans ho
          have HB5y4 : Hid (Blk w2 y4 B5 31 #[.slice none 0 0, .slice none 0 0]) := HB5y3.out.keep ho
          have HB6y4 : Hid (Blk w2 y4 B6 69 #[.int .i64 0, .int .i64 0, .int .u8 0, .int .i64 0, .int .i64 0, .float .f64 0]) := HB6y3.out.keep ho
          clear ho
          refine hK.out _ _ (HKS.out _ HXy4.out) (fun hHeld => ?_)
          clear hK
          (try simp only [Act.put, List.setIfInBounds_toArray, List.set_cons_zero, List.set_cons_succ])
          refine wpAnyH_ready (rs := [10]) (by kernel_rfl) (by simp) ?_
          refine AllReadyH.cons rfl (fun K hK => ?_) AllReadyH.nil
          rw [if_pos (by rfl)]
          have HXa : Hid (Only (fun _ => False) w2 (y4.setRow B5 #[.slice aC k cC, .slice aO (k + 1) cO])) := HXy4.out.setRowNew HB5y4.out.2 _
          refine wp_store_row 31 _ _ rfl B5 #[.slice aC k cC, .slice aO (k + 1) cO] rfl rfl 31 _ HB5y4.out.1 (by kernel_rfl) rfl (two_one _ _ _ _ _ _) ?_
          have HMa : Hid (Made (y4.setRow B5 #[.slice aC k cC, .slice aO (k + 1) cO]) L n0 k aC aO cC cO ∧ Blk w2 (y4.setRow B5 #[.slice aC k cC, .slice aO (k + 1) cO]) B5 31 #[.slice aC k cC, .slice aO (k + 1) cO] ∧ Blk w2 (y4.setRow B5 #[.slice aC k cC, .slice aO (k + 1) cO]) B6 69 #[.int .i64 0, .int .i64 0, .int .u8 0, .int .i64 0, .int .i64 0, .float .f64 0]) := ⟨HMy4.out.store HB5y4.out.1 (by decide) (by decide) _, HB5y4.out.put _, HB6y4.out.far HB5y4.out (by decide) _⟩
          obtain ⟨za, hza⟩ : ∃ Y, Y = y4.setRow B5 #[.slice aC k cC, .slice aO (k + 1) cO] := ⟨_, rfl⟩
          rw [← hza] at HXa HMa ⊢
          clear hza
          refine hK.out _ _ (HKS.out _ HXa.out) (fun hHeld => ?_)
          clear hK
          (try simp only [Act.put, List.setIfInBounds_toArray, List.set_cons_zero, List.set_cons_succ])
          refine wpAnyH_ready (rs := [11]) (by kernel_rfl) (by simp) ?_
          refine AllReadyH.cons rfl (fun K hK => ?_) AllReadyH.nil
          rw [if_pos (by rfl)]
          have HXb : Hid (Only (fun _ => False) w2 (za.setRow B6 #[.int .i64 (W1 : Int), .int .i64 (T1 : Int), .int .u8 (M1 : Int), .int .i64 (hy : Int), .int .i64 (pr : Int), .float .f64 lo])) := HXa.out.setRowNew HMa.out.2.2.2 _
          refine wp_store_row 69 _ _ rfl B6 #[.int .i64 (W1 : Int), .int .i64 (T1 : Int), .int .u8 (M1 : Int), .int .i64 (hy : Int), .int .i64 (pr : Int), .float .f64 lo] rfl rfl 69 _ HMa.out.2.2.1 (by kernel_rfl) rfl (cfg_one _ _ _ _ _ _) ?_
          have HMb : Hid (Made (za.setRow B6 #[.int .i64 (W1 : Int), .int .i64 (T1 : Int), .int .u8 (M1 : Int), .int .i64 (hy : Int), .int .i64 (pr : Int), .float .f64 lo]) L n0 k aC aO cC cO ∧ Blk w2 (za.setRow B6 #[.int .i64 (W1 : Int), .int .i64 (T1 : Int), .int .u8 (M1 : Int), .int .i64 (hy : Int), .int .i64 (pr : Int), .float .f64 lo]) B5 31 #[.slice aC k cC, .slice aO (k + 1) cO] ∧ Blk w2 (za.setRow B6 #[.int .i64 (W1 : Int), .int .i64 (T1 : Int), .int .u8 (M1 : Int), .int .i64 (hy : Int), .int .i64 (pr : Int), .float .f64 lo]) B6 69 #[.int .i64 (W1 : Int), .int .i64 (T1 : Int), .int .u8 (M1 : Int), .int .i64 (hy : Int), .int .i64 (pr : Int), .float .f64 lo]) := ⟨HMa.out.1.store HMa.out.2.2.1 (by decide) (by decide) _, HMa.out.2.1.far HMa.out.2.2 (by decide) _, HMa.out.2.2.put _⟩
          obtain ⟨zb, hzb⟩ : ∃ Y, Y = za.setRow B6 #[.int .i64 (W1 : Int), .int .i64 (T1 : Int), .int .u8 (M1 : Int), .int .i64 (hy : Int), .int .i64 (pr : Int), .float .f64 lo] := ⟨_, rfl⟩
          rw [← hzb] at HXb HMb ⊢
          clear hzb
          refine hK.out _ _ (HKS.out _ HXb.out) (fun hHeld => ?_)
          clear hK
          (try simp only [Act.put, List.setIfInBounds_toArray, List.set_cons_zero, List.set_cons_succ])
          refine wpAnyH_done (by kernel_rfl) ?_ _
          clear hHeld
          go_wp2_with fail
          go_meet
          exact ⟨k, B5, B6, aC, aO, cC, cO, _, rfl, rfl, rfl, HMb.out.1, HMb.out.2.1, HMb.out.2.2, HXb.out⟩
    · rw [if_pos (by rfl)]
      go_simp
      obtain ⟨y1, hy1⟩ : ∃ Y, Y = (w2.alloc (.cells #[.slice none 0 0, .slice none 0 0] 31)).drew := ⟨_, rfl⟩
      obtain ⟨B5, hB5⟩ : ∃ b, b = w2.heap.size := ⟨_, rfl⟩
      have ho : Only (fun _ => False) w2 y1 := by rw [hy1]; exact ((Only.refl _ _).alloc _).drew
      have HXy1 : Hid (Only (fun _ => False) w2 y1) := ho
      have HB5y1 : Hid (Blk w2 y1 B5 31 #[.slice none 0 0, .slice none 0 0]) := by rw [hy1, hB5]; exact (Blk.made (Only.refl _ _) _ _).drew
      rw [← hy1, ← hB5]
      clear hy1 hB5 ho
      refine hK.out _ _ (HKS.out _ HXy1.out) (fun hHeld => ?_)
      clear hK
      (try simp only [Act.put, List.setIfInBounds_toArray, List.set_cons_zero, List.set_cons_succ])
      refine wpAnyH_ready (rs := [5, 9]) (by kernel_rfl) (by simp) ?_
      refine AllReadyH.cons rfl (fun K hK => ?_) (AllReadyH.cons rfl (fun K hK => ?_) AllReadyH.nil)
      · rw [if_pos (by rfl)]
        go_simp
        refine Calls.mono (HPA.out _ (HW2.out.trans HXy1.out)) ?_
        rintro e y2 ⟨k, aC, aO, cC, cO, rfl, hmd, ho⟩
        have HMy2 : Hid (Made y2 L n0 k aC aO cC cO) := hmd
        clear hmd
        have HXy2 : Hid (Only (fun _ => False) w2 y2) := HXy1.out.trans ho
        have HB5y2 : Hid (Blk w2 y2 B5 31 #[.slice none 0 0, .slice none 0 0]) := HB5y1.out.keep ho
        clear ho
        refine hK.out _ _ (HKS.out _ HXy2.out) (fun hHeld => ?_)
        clear hK
        (try simp only [Act.put, List.setIfInBounds_toArray, List.set_cons_zero, List.set_cons_succ])
        refine wpAnyH_ready (rs := [7, 9]) (by kernel_rfl) (by simp) ?_
        refine AllReadyH.cons rfl (fun K hK => ?_) (AllReadyH.cons rfl (fun K hK => ?_) AllReadyH.nil)
        · rw [if_pos (by rfl)]
          go_simp
          refine Calls.mono (HCF.out _) ?_
          rintro e y3 ⟨rfl, ho⟩
          have HMy3 : Hid (Made y3 L n0 k aC aO cC cO) := HMy2.out.keep ho
          have HXy3 : Hid (Only (fun _ => False) w2 y3) := HXy2.out.trans ho
          have HB5y3 : Hid (Blk w2 y3 B5 31 #[.slice none 0 0, .slice none 0 0]) := HB5y2.out.keep ho
          clear ho
          refine hK.out _ _ (HKS.out _ HXy3.out) (fun hHeld => ?_)
          clear hK
          (try simp only [Act.put, List.setIfInBounds_toArray, List.set_cons_zero, List.set_cons_succ])
          refine wpAnyH_ready (rs := [9]) (by kernel_rfl) (by simp) ?_
          refine AllReadyH.cons rfl (fun K hK => ?_) AllReadyH.nil
          rw [if_pos (by rfl)]
          go_simp
          obtain ⟨y4, hy4⟩ : ∃ Y, Y = y3.alloc (.cells #[.int .i64 0, .int .i64 0, .int .u8 0, .int .i64 0, .int .i64 0, .float .f64 0] 69) := ⟨_, rfl⟩
          obtain ⟨B6, hB6⟩ : ∃ b, b = y3.heap.size := ⟨_, rfl⟩
          have ho : Only (fun _ => False) y3 y4 := by rw [hy4]; exact (Only.refl _ _).alloc _
          have HXy4 : Hid (Only (fun _ => False) w2 y4) := HXy3.out.trans ho
          have HB6y4 : Hid (Blk w2 y4 B6 69 #[.int .i64 0, .int .i64 0, .int .u8 0, .int .i64 0, .int .i64 0, .float .f64 0]) := by rw [hy4, hB6]; exact Blk.made HXy3.out _ _
          have HB5y4 : Hid (Blk w2 y4 B5 31 #[.slice none 0 0, .slice none 0 0]) := HB5y3.out.keep ho
          have HMy4 : Hid (Made y4 L n0 k aC aO cC cO) := HMy3.out.keep ho
          rw [← hy4, ← hB6]
          clear hy4 hB6 ho
          refine hK.out _ _ (HKS.out _ HXy4.out) (fun hHeld => ?_)
          clear hK
          (try simp only [Act.put, List.setIfInBounds_toArray, List.set_cons_zero, List.set_cons_succ])
          refine wpAnyH_ready (rs := [10]) (by kernel_rfl) (by simp) ?_
          refine AllReadyH.cons rfl (fun K hK => ?_) AllReadyH.nil
          rw [if_pos (by rfl)]
          have HXa : Hid (Only (fun _ => False) w2 (y4.setRow B5 #[.slice aC k cC, .slice aO (k + 1) cO])) := HXy4.out.setRowNew HB5y4.out.2 _
          refine wp_store_row 31 _ _ rfl B5 #[.slice aC k cC, .slice aO (k + 1) cO] rfl rfl 31 _ HB5y4.out.1 (by kernel_rfl) rfl (two_one _ _ _ _ _ _) ?_
          have HMa : Hid (Made (y4.setRow B5 #[.slice aC k cC, .slice aO (k + 1) cO]) L n0 k aC aO cC cO ∧ Blk w2 (y4.setRow B5 #[.slice aC k cC, .slice aO (k + 1) cO]) B5 31 #[.slice aC k cC, .slice aO (k + 1) cO] ∧ Blk w2 (y4.setRow B5 #[.slice aC k cC, .slice aO (k + 1) cO]) B6 69 #[.int .i64 0, .int .i64 0, .int .u8 0, .int .i64 0, .int .i64 0, .float .f64 0]) := ⟨HMy4.out.store HB5y4.out.1 (by decide) (by decide) _, HB5y4.out.put _, HB6y4.out.far HB5y4.out (by decide) _⟩
          obtain ⟨za, hza⟩ : ∃ Y, Y = y4.setRow B5 #[.slice aC k cC, .slice aO (k + 1) cO] := ⟨_, rfl⟩
          rw [← hza] at HXa HMa ⊢
          clear hza
          refine hK.out _ _ (HKS.out _ HXa.out) (fun hHeld => ?_)
          clear hK
          (try simp only [Act.put, List.setIfInBounds_toArray, List.set_cons_zero, List.set_cons_succ])
          refine wpAnyH_ready (rs := [11]) (by kernel_rfl) (by simp) ?_
          refine AllReadyH.cons rfl (fun K hK => ?_) AllReadyH.nil
          rw [if_pos (by rfl)]
          have HXb : Hid (Only (fun _ => False) w2 (za.setRow B6 #[.int .i64 (W1 : Int), .int .i64 (T1 : Int), .int .u8 (M1 : Int), .int .i64 (hy : Int), .int .i64 (pr : Int), .float .f64 lo])) := HXa.out.setRowNew HMa.out.2.2.2 _
          refine wp_store_row 69 _ _ rfl B6 #[.int .i64 (W1 : Int), .int .i64 (T1 : Int), .int .u8 (M1 : Int), .int .i64 (hy : Int), .int .i64 (pr : Int), .float .f64 lo] rfl rfl 69 _ HMa.out.2.2.1 (by kernel_rfl) rfl (cfg_one _ _ _ _ _ _) ?_
          have HMb : Hid (Made (za.setRow B6 #[.int .i64 (W1 : Int), .int .i64 (T1 : Int), .int .u8 (M1 : Int), .int .i64 (hy : Int), .int .i64 (pr : Int), .float .f64 lo]) L n0 k aC aO cC cO ∧ Blk w2 (za.setRow B6 #[.int .i64 (W1 : Int), .int .i64 (T1 : Int), .int .u8 (M1 : Int), .int .i64 (hy : Int), .int .i64 (pr : Int), .float .f64 lo]) B5 31 #[.slice aC k cC, .slice aO (k + 1) cO] ∧ Blk w2 (za.setRow B6 #[.int .i64 (W1 : Int), .int .i64 (T1 : Int), .int .u8 (M1 : Int), .int .i64 (hy : Int), .int .i64 (pr : Int), .float .f64 lo]) B6 69 #[.int .i64 (W1 : Int), .int .i64 (T1 : Int), .int .u8 (M1 : Int), .int .i64 (hy : Int), .int .i64 (pr : Int), .float .f64 lo]) := ⟨HMa.out.1.store HMa.out.2.2.1 (by decide) (by decide) _, HMa.out.2.1.far HMa.out.2.2 (by decide) _, HMa.out.2.2.put _⟩
          obtain ⟨zb, hzb⟩ : ∃ Y, Y = za.setRow B6 #[.int .i64 (W1 : Int), .int .i64 (T1 : Int), .int .u8 (M1 : Int), .int .i64 (hy : Int), .int .i64 (pr : Int), .float .f64 lo] := ⟨_, rfl⟩
          rw [← hzb] at HXb HMb ⊢
          clear hzb
          refine hK.out _ _ (HKS.out _ HXb.out) (fun hHeld => ?_)
          clear hK
          (try simp only [Act.put, List.setIfInBounds_toArray, List.set_cons_zero, List.set_cons_succ])
          refine wpAnyH_done (by kernel_rfl) ?_ _
          clear hHeld
          go_wp2_with fail
          go_meet
          exact ⟨k, B5, B6, aC, aO, cC, cO, _, rfl, rfl, rfl, HMb.out.1, HMb.out.2.1, HMb.out.2.2, HXb.out⟩
        · rw [if_pos (by rfl)]
          go_simp
          obtain ⟨y3, hy3⟩ : ∃ Y, Y = y2.alloc (.cells #[.int .i64 0, .int .i64 0, .int .u8 0, .int .i64 0, .int .i64 0, .float .f64 0] 69) := ⟨_, rfl⟩
          obtain ⟨B6, hB6⟩ : ∃ b, b = y2.heap.size := ⟨_, rfl⟩
          have ho : Only (fun _ => False) y2 y3 := by rw [hy3]; exact (Only.refl _ _).alloc _
          have HXy3 : Hid (Only (fun _ => False) w2 y3) := HXy2.out.trans ho
          have HB6y3 : Hid (Blk w2 y3 B6 69 #[.int .i64 0, .int .i64 0, .int .u8 0, .int .i64 0, .int .i64 0, .float .f64 0]) := by rw [hy3, hB6]; exact Blk.made HXy2.out _ _
          have HB5y3 : Hid (Blk w2 y3 B5 31 #[.slice none 0 0, .slice none 0 0]) := HB5y2.out.keep ho
          have HMy3 : Hid (Made y3 L n0 k aC aO cC cO) := HMy2.out.keep ho
          rw [← hy3, ← hB6]
          clear hy3 hB6 ho
          refine hK.out _ _ (HKS.out _ HXy3.out) (fun hHeld => ?_)
          clear hK
          (try simp only [Act.put, List.setIfInBounds_toArray, List.set_cons_zero, List.set_cons_succ])
          refine wpAnyH_ready (rs := [7]) (by kernel_rfl) (by simp) ?_
          refine AllReadyH.cons rfl (fun K hK => ?_) AllReadyH.nil
          rw [if_pos (by rfl)]
          go_simp
          refine Calls.mono (HCF.out _) ?_
          rintro e y4 ⟨rfl, ho⟩
          have HMy4 : Hid (Made y4 L n0 k aC aO cC cO) := HMy3.out.keep ho
          have HXy4 : Hid (Only (fun _ => False) w2 y4) := HXy3.out.trans ho
          have HB5y4 : Hid (Blk w2 y4 B5 31 #[.slice none 0 0, .slice none 0 0]) := HB5y3.out.keep ho
          have HB6y4 : Hid (Blk w2 y4 B6 69 #[.int .i64 0, .int .i64 0, .int .u8 0, .int .i64 0, .int .i64 0, .float .f64 0]) := HB6y3.out.keep ho
          clear ho
          refine hK.out _ _ (HKS.out _ HXy4.out) (fun hHeld => ?_)
          clear hK
          (try simp only [Act.put, List.setIfInBounds_toArray, List.set_cons_zero, List.set_cons_succ])
          refine wpAnyH_ready (rs := [10]) (by kernel_rfl) (by simp) ?_
          refine AllReadyH.cons rfl (fun K hK => ?_) AllReadyH.nil
          rw [if_pos (by rfl)]
          have HXa : Hid (Only (fun _ => False) w2 (y4.setRow B5 #[.slice aC k cC, .slice aO (k + 1) cO])) := HXy4.out.setRowNew HB5y4.out.2 _
          refine wp_store_row 31 _ _ rfl B5 #[.slice aC k cC, .slice aO (k + 1) cO] rfl rfl 31 _ HB5y4.out.1 (by kernel_rfl) rfl (two_one _ _ _ _ _ _) ?_
          have HMa : Hid (Made (y4.setRow B5 #[.slice aC k cC, .slice aO (k + 1) cO]) L n0 k aC aO cC cO ∧ Blk w2 (y4.setRow B5 #[.slice aC k cC, .slice aO (k + 1) cO]) B5 31 #[.slice aC k cC, .slice aO (k + 1) cO] ∧ Blk w2 (y4.setRow B5 #[.slice aC k cC, .slice aO (k + 1) cO]) B6 69 #[.int .i64 0, .int .i64 0, .int .u8 0, .int .i64 0, .int .i64 0, .float .f64 0]) := ⟨HMy4.out.store HB5y4.out.1 (by decide) (by decide) _, HB5y4.out.put _, HB6y4.out.far HB5y4.out (by decide) _⟩
          obtain ⟨za, hza⟩ : ∃ Y, Y = y4.setRow B5 #[.slice aC k cC, .slice aO (k + 1) cO] := ⟨_, rfl⟩
          rw [← hza] at HXa HMa ⊢
          clear hza
          refine hK.out _ _ (HKS.out _ HXa.out) (fun hHeld => ?_)
          clear hK
          (try simp only [Act.put, List.setIfInBounds_toArray, List.set_cons_zero, List.set_cons_succ])
          refine wpAnyH_ready (rs := [11]) (by kernel_rfl) (by simp) ?_
          refine AllReadyH.cons rfl (fun K hK => ?_) AllReadyH.nil
          rw [if_pos (by rfl)]
          have HXb : Hid (Only (fun _ => False) w2 (za.setRow B6 #[.int .i64 (W1 : Int), .int .i64 (T1 : Int), .int .u8 (M1 : Int), .int .i64 (hy : Int), .int .i64 (pr : Int), .float .f64 lo])) := HXa.out.setRowNew HMa.out.2.2.2 _
          refine wp_store_row 69 _ _ rfl B6 #[.int .i64 (W1 : Int), .int .i64 (T1 : Int), .int .u8 (M1 : Int), .int .i64 (hy : Int), .int .i64 (pr : Int), .float .f64 lo] rfl rfl 69 _ HMa.out.2.2.1 (by kernel_rfl) rfl (cfg_one _ _ _ _ _ _) ?_
          have HMb : Hid (Made (za.setRow B6 #[.int .i64 (W1 : Int), .int .i64 (T1 : Int), .int .u8 (M1 : Int), .int .i64 (hy : Int), .int .i64 (pr : Int), .float .f64 lo]) L n0 k aC aO cC cO ∧ Blk w2 (za.setRow B6 #[.int .i64 (W1 : Int), .int .i64 (T1 : Int), .int .u8 (M1 : Int), .int .i64 (hy : Int), .int .i64 (pr : Int), .float .f64 lo]) B5 31 #[.slice aC k cC, .slice aO (k + 1) cO] ∧ Blk w2 (za.setRow B6 #[.int .i64 (W1 : Int), .int .i64 (T1 : Int), .int .u8 (M1 : Int), .int .i64 (hy : Int), .int .i64 (pr : Int), .float .f64 lo]) B6 69 #[.int .i64 (W1 : Int), .int .i64 (T1 : Int), .int .u8 (M1 : Int), .int .i64 (hy : Int), .int .i64 (pr : Int), .float .f64 lo]) := ⟨HMa.out.1.store HMa.out.2.2.1 (by decide) (by decide) _, HMa.out.2.1.far HMa.out.2.2 (by decide) _, HMa.out.2.2.put _⟩
          obtain ⟨zb, hzb⟩ : ∃ Y, Y = za.setRow B6 #[.int .i64 (W1 : Int), .int .i64 (T1 : Int), .int .u8 (M1 : Int), .int .i64 (hy : Int), .int .i64 (pr : Int), .float .f64 lo] := ⟨_, rfl⟩
          rw [← hzb] at HXb HMb ⊢
          clear hzb
          refine hK.out _ _ (HKS.out _ HXb.out) (fun hHeld => ?_)
          clear hK
          (try simp only [Act.put, List.setIfInBounds_toArray, List.set_cons_zero, List.set_cons_succ])
          refine wpAnyH_done (by kernel_rfl) ?_ _
          clear hHeld
          go_wp2_with fail
          go_meet
          exact ⟨k, B5, B6, aC, aO, cC, cO, _, rfl, rfl, rfl, HMb.out.1, HMb.out.2.1, HMb.out.2.2, HXb.out⟩
      · rw [if_pos (by rfl)]
        go_simp
        obtain ⟨y2, hy2⟩ : ∃ Y, Y = y1.alloc (.cells #[.int .i64 0, .int .i64 0, .int .u8 0, .int .i64 0, .int .i64 0, .float .f64 0] 69) := ⟨_, rfl⟩
        obtain ⟨B6, hB6⟩ : ∃ b, b = y1.heap.size := ⟨_, rfl⟩
        have ho : Only (fun _ => False) y1 y2 := by rw [hy2]; exact (Only.refl _ _).alloc _
        have HXy2 : Hid (Only (fun _ => False) w2 y2) := HXy1.out.trans ho
        have HB6y2 : Hid (Blk w2 y2 B6 69 #[.int .i64 0, .int .i64 0, .int .u8 0, .int .i64 0, .int .i64 0, .float .f64 0]) := by rw [hy2, hB6]; exact Blk.made HXy1.out _ _
        have HB5y2 : Hid (Blk w2 y2 B5 31 #[.slice none 0 0, .slice none 0 0]) := HB5y1.out.keep ho
        rw [← hy2, ← hB6]
        clear hy2 hB6 ho
        refine hK.out _ _ (HKS.out _ HXy2.out) (fun hHeld => ?_)
        clear hK
        (try simp only [Act.put, List.setIfInBounds_toArray, List.set_cons_zero, List.set_cons_succ])
        refine wpAnyH_ready (rs := [5]) (by kernel_rfl) (by simp) ?_
        refine AllReadyH.cons rfl (fun K hK => ?_) AllReadyH.nil
        rw [if_pos (by rfl)]
        go_simp
        refine Calls.mono (HPA.out _ (HW2.out.trans HXy2.out)) ?_
        rintro e y3 ⟨k, aC, aO, cC, cO, rfl, hmd, ho⟩
        have HMy3 : Hid (Made y3 L n0 k aC aO cC cO) := hmd
        clear hmd
        have HXy3 : Hid (Only (fun _ => False) w2 y3) := HXy2.out.trans ho
        have HB5y3 : Hid (Blk w2 y3 B5 31 #[.slice none 0 0, .slice none 0 0]) := HB5y2.out.keep ho
        have HB6y3 : Hid (Blk w2 y3 B6 69 #[.int .i64 0, .int .i64 0, .int .u8 0, .int .i64 0, .int .i64 0, .float .f64 0]) := HB6y2.out.keep ho
        clear ho
        refine hK.out _ _ (HKS.out _ HXy3.out) (fun hHeld => ?_)
        clear hK
        (try simp only [Act.put, List.setIfInBounds_toArray, List.set_cons_zero, List.set_cons_succ])
        refine wpAnyH_ready (rs := [7]) (by kernel_rfl) (by simp) ?_
        refine AllReadyH.cons rfl (fun K hK => ?_) AllReadyH.nil
        rw [if_pos (by rfl)]
        go_simp
        refine Calls.mono (HCF.out _) ?_
        rintro e y4 ⟨rfl, ho⟩
        have HMy4 : Hid (Made y4 L n0 k aC aO cC cO) := HMy3.out.keep ho
        have HXy4 : Hid (Only (fun _ => False) w2 y4) := HXy3.out.trans ho
        have HB5y4 : Hid (Blk w2 y4 B5 31 #[.slice none 0 0, .slice none 0 0]) := HB5y3.out.keep ho
        have HB6y4 : Hid (Blk w2 y4 B6 69 #[.int .i64 0, .int .i64 0, .int .u8 0, .int .i64 0, .int .i64 0, .float .f64 0]) := HB6y3.out.keep ho
        clear ho
        refine hK.out _ _ (HKS.out _ HXy4.out) (fun hHeld => ?_)
        clear hK
        (try simp only [Act.put, List.setIfInBounds_toArray, List.set_cons_zero, List.set_cons_succ])
        refine wpAnyH_ready (rs := [10]) (by kernel_rfl) (by simp) ?_
        refine AllReadyH.cons rfl (fun K hK => ?_) AllReadyH.nil
        rw [if_pos (by rfl)]
        have HXa : Hid (Only (fun _ => False) w2 (y4.setRow B5 #[.slice aC k cC, .slice aO (k + 1) cO])) := HXy4.out.setRowNew HB5y4.out.2 _
        refine wp_store_row 31 _ _ rfl B5 #[.slice aC k cC, .slice aO (k + 1) cO] rfl rfl 31 _ HB5y4.out.1 (by kernel_rfl) rfl (two_one _ _ _ _ _ _) ?_
        have HMa : Hid (Made (y4.setRow B5 #[.slice aC k cC, .slice aO (k + 1) cO]) L n0 k aC aO cC cO ∧ Blk w2 (y4.setRow B5 #[.slice aC k cC, .slice aO (k + 1) cO]) B5 31 #[.slice aC k cC, .slice aO (k + 1) cO] ∧ Blk w2 (y4.setRow B5 #[.slice aC k cC, .slice aO (k + 1) cO]) B6 69 #[.int .i64 0, .int .i64 0, .int .u8 0, .int .i64 0, .int .i64 0, .float .f64 0]) := ⟨HMy4.out.store HB5y4.out.1 (by decide) (by decide) _, HB5y4.out.put _, HB6y4.out.far HB5y4.out (by decide) _⟩
        obtain ⟨za, hza⟩ : ∃ Y, Y = y4.setRow B5 #[.slice aC k cC, .slice aO (k + 1) cO] := ⟨_, rfl⟩
        rw [← hza] at HXa HMa ⊢
        clear hza
        refine hK.out _ _ (HKS.out _ HXa.out) (fun hHeld => ?_)
        clear hK
        (try simp only [Act.put, List.setIfInBounds_toArray, List.set_cons_zero, List.set_cons_succ])
        refine wpAnyH_ready (rs := [11]) (by kernel_rfl) (by simp) ?_
        refine AllReadyH.cons rfl (fun K hK => ?_) AllReadyH.nil
        rw [if_pos (by rfl)]
        have HXb : Hid (Only (fun _ => False) w2 (za.setRow B6 #[.int .i64 (W1 : Int), .int .i64 (T1 : Int), .int .u8 (M1 : Int), .int .i64 (hy : Int), .int .i64 (pr : Int), .float .f64 lo])) := HXa.out.setRowNew HMa.out.2.2.2 _
        refine wp_store_row 69 _ _ rfl B6 #[.int .i64 (W1 : Int), .int .i64 (T1 : Int), .int .u8 (M1 : Int), .int .i64 (hy : Int), .int .i64 (pr : Int), .float .f64 lo] rfl rfl 69 _ HMa.out.2.2.1 (by kernel_rfl) rfl (cfg_one _ _ _ _ _ _) ?_
        have HMb : Hid (Made (za.setRow B6 #[.int .i64 (W1 : Int), .int .i64 (T1 : Int), .int .u8 (M1 : Int), .int .i64 (hy : Int), .int .i64 (pr : Int), .float .f64 lo]) L n0 k aC aO cC cO ∧ Blk w2 (za.setRow B6 #[.int .i64 (W1 : Int), .int .i64 (T1 : Int), .int .u8 (M1 : Int), .int .i64 (hy : Int), .int .i64 (pr : Int), .float .f64 lo]) B5 31 #[.slice aC k cC, .slice aO (k + 1) cO] ∧ Blk w2 (za.setRow B6 #[.int .i64 (W1 : Int), .int .i64 (T1 : Int), .int .u8 (M1 : Int), .int .i64 (hy : Int), .int .i64 (pr : Int), .float .f64 lo]) B6 69 #[.int .i64 (W1 : Int), .int .i64 (T1 : Int), .int .u8 (M1 : Int), .int .i64 (hy : Int), .int .i64 (pr : Int), .float .f64 lo]) := ⟨HMa.out.1.store HMa.out.2.2.1 (by decide) (by decide) _, HMa.out.2.1.far HMa.out.2.2 (by decide) _, HMa.out.2.2.put _⟩
        obtain ⟨zb, hzb⟩ : ∃ Y, Y = za.setRow B6 #[.int .i64 (W1 : Int), .int .i64 (T1 : Int), .int .u8 (M1 : Int), .int .i64 (hy : Int), .int .i64 (pr : Int), .float .f64 lo] := ⟨_, rfl⟩
        rw [← hzb] at HXb HMb ⊢
        clear hzb
        refine hK.out _ _ (HKS.out _ HXb.out) (fun hHeld => ?_)
        clear hK
        (try simp only [Act.put, List.setIfInBounds_toArray, List.set_cons_zero, List.set_cons_succ])
        refine wpAnyH_done (by kernel_rfl) ?_ _
        clear hHeld
        go_wp2_with fail
        go_meet
        exact ⟨k, B5, B6, aC, aO, cC, cO, _, rfl, rfl, rfl, HMb.out.1, HMb.out.2.1, HMb.out.2.2, HXb.out⟩
    · rw [if_pos (by rfl)]
      go_simp
      obtain ⟨y1, hy1⟩ : ∃ Y, Y = (w2.alloc (.cells #[.int .i64 0, .int .i64 0, .int .u8 0, .int .i64 0, .int .i64 0, .float .f64 0] 69)).drew := ⟨_, rfl⟩
      obtain ⟨B6, hB6⟩ : ∃ b, b = w2.heap.size := ⟨_, rfl⟩
      have ho : Only (fun _ => False) w2 y1 := by rw [hy1]; exact ((Only.refl _ _).alloc _).drew
      have HXy1 : Hid (Only (fun _ => False) w2 y1) := ho
      have HB6y1 : Hid (Blk w2 y1 B6 69 #[.int .i64 0, .int .i64 0, .int .u8 0, .int .i64 0, .int .i64 0, .float .f64 0]) := by rw [hy1, hB6]; exact (Blk.made (Only.refl _ _) _ _).drew
      rw [← hy1, ← hB6]
      clear hy1 hB6 ho
      refine hK.out _ _ (HKS.out _ HXy1.out) (fun hHeld => ?_)
      clear hK
      (try simp only [Act.put, List.setIfInBounds_toArray, List.set_cons_zero, List.set_cons_succ])
      refine wpAnyH_ready (rs := [5, 8]) (by kernel_rfl) (by simp) ?_
      refine AllReadyH.cons rfl (fun K hK => ?_) (AllReadyH.cons rfl (fun K hK => ?_) AllReadyH.nil)
      · rw [if_pos (by rfl)]
        go_simp
        refine Calls.mono (HPA.out _ (HW2.out.trans HXy1.out)) ?_
        rintro e y2 ⟨k, aC, aO, cC, cO, rfl, hmd, ho⟩
        have HMy2 : Hid (Made y2 L n0 k aC aO cC cO) := hmd
        clear hmd
        have HXy2 : Hid (Only (fun _ => False) w2 y2) := HXy1.out.trans ho
        have HB6y2 : Hid (Blk w2 y2 B6 69 #[.int .i64 0, .int .i64 0, .int .u8 0, .int .i64 0, .int .i64 0, .float .f64 0]) := HB6y1.out.keep ho
        clear ho
        refine hK.out _ _ (HKS.out _ HXy2.out) (fun hHeld => ?_)
        clear hK
        (try simp only [Act.put, List.setIfInBounds_toArray, List.set_cons_zero, List.set_cons_succ])
        refine wpAnyH_ready (rs := [7, 8]) (by kernel_rfl) (by simp) ?_
        refine AllReadyH.cons rfl (fun K hK => ?_) (AllReadyH.cons rfl (fun K hK => ?_) AllReadyH.nil)
        · rw [if_pos (by rfl)]
          go_simp
          refine Calls.mono (HCF.out _) ?_
          rintro e y3 ⟨rfl, ho⟩
          have HMy3 : Hid (Made y3 L n0 k aC aO cC cO) := HMy2.out.keep ho
          have HXy3 : Hid (Only (fun _ => False) w2 y3) := HXy2.out.trans ho
          have HB6y3 : Hid (Blk w2 y3 B6 69 #[.int .i64 0, .int .i64 0, .int .u8 0, .int .i64 0, .int .i64 0, .float .f64 0]) := HB6y2.out.keep ho
          clear ho
          refine hK.out _ _ (HKS.out _ HXy3.out) (fun hHeld => ?_)
          clear hK
          (try simp only [Act.put, List.setIfInBounds_toArray, List.set_cons_zero, List.set_cons_succ])
          refine wpAnyH_ready (rs := [8]) (by kernel_rfl) (by simp) ?_
          refine AllReadyH.cons rfl (fun K hK => ?_) AllReadyH.nil
          rw [if_pos (by rfl)]
          go_simp
          obtain ⟨y4, hy4⟩ : ∃ Y, Y = y3.alloc (.cells #[.slice none 0 0, .slice none 0 0] 31) := ⟨_, rfl⟩
          obtain ⟨B5, hB5⟩ : ∃ b, b = y3.heap.size := ⟨_, rfl⟩
          have ho : Only (fun _ => False) y3 y4 := by rw [hy4]; exact (Only.refl _ _).alloc _
          have HXy4 : Hid (Only (fun _ => False) w2 y4) := HXy3.out.trans ho
          have HB5y4 : Hid (Blk w2 y4 B5 31 #[.slice none 0 0, .slice none 0 0]) := by rw [hy4, hB5]; exact Blk.made HXy3.out _ _
          have HB6y4 : Hid (Blk w2 y4 B6 69 #[.int .i64 0, .int .i64 0, .int .u8 0, .int .i64 0, .int .i64 0, .float .f64 0]) := HB6y3.out.keep ho
          have HMy4 : Hid (Made y4 L n0 k aC aO cC cO) := HMy3.out.keep ho
          rw [← hy4, ← hB5]
          clear hy4 hB5 ho
          refine hK.out _ _ (HKS.out _ HXy4.out) (fun hHeld => ?_)
          clear hK
          (try simp only [Act.put, List.setIfInBounds_toArray, List.set_cons_zero, List.set_cons_succ])
          refine wpAnyH_ready (rs := [10]) (by kernel_rfl) (by simp) ?_
          refine AllReadyH.cons rfl (fun K hK => ?_) AllReadyH.nil
          rw [if_pos (by rfl)]
          have HXa : Hid (Only (fun _ => False) w2 (y4.setRow B5 #[.slice aC k cC, .slice aO (k + 1) cO])) := HXy4.out.setRowNew HB5y4.out.2 _
          refine wp_store_row 31 _ _ rfl B5 #[.slice aC k cC, .slice aO (k + 1) cO] rfl rfl 31 _ HB5y4.out.1 (by kernel_rfl) rfl (two_one _ _ _ _ _ _) ?_
          have HMa : Hid (Made (y4.setRow B5 #[.slice aC k cC, .slice aO (k + 1) cO]) L n0 k aC aO cC cO ∧ Blk w2 (y4.setRow B5 #[.slice aC k cC, .slice aO (k + 1) cO]) B5 31 #[.slice aC k cC, .slice aO (k + 1) cO] ∧ Blk w2 (y4.setRow B5 #[.slice aC k cC, .slice aO (k + 1) cO]) B6 69 #[.int .i64 0, .int .i64 0, .int .u8 0, .int .i64 0, .int .i64 0, .float .f64 0]) := ⟨HMy4.out.store HB5y4.out.1 (by decide) (by decide) _, HB5y4.out.put _, HB6y4.out.far HB5y4.out (by decide) _⟩
          obtain ⟨za, hza⟩ : ∃ Y, Y = y4.setRow B5 #[.slice aC k cC, .slice aO (k + 1) cO] := ⟨_, rfl⟩
          rw [← hza] at HXa HMa ⊢
          clear hza
          refine hK.out _ _ (HKS.out _ HXa.out) (fun hHeld => ?_)
          clear hK
          (try simp only [Act.put, List.setIfInBounds_toArray, List.set_cons_zero, List.set_cons_succ])
          refine wpAnyH_ready (rs := [11]) (by kernel_rfl) (by simp) ?_
          refine AllReadyH.cons rfl (fun K hK => ?_) AllReadyH.nil
          rw [if_pos (by rfl)]
          have HXb : Hid (Only (fun _ => False) w2 (za.setRow B6 #[.int .i64 (W1 : Int), .int .i64 (T1 : Int), .int .u8 (M1 : Int), .int .i64 (hy : Int), .int .i64 (pr : Int), .float .f64 lo])) := HXa.out.setRowNew HMa.out.2.2.2 _
          refine wp_store_row 69 _ _ rfl B6 #[.int .i64 (W1 : Int), .int .i64 (T1 : Int), .int .u8 (M1 : Int), .int .i64 (hy : Int), .int .i64 (pr : Int), .float .f64 lo] rfl rfl 69 _ HMa.out.2.2.1 (by kernel_rfl) rfl (cfg_one _ _ _ _ _ _) ?_
          have HMb : Hid (Made (za.setRow B6 #[.int .i64 (W1 : Int), .int .i64 (T1 : Int), .int .u8 (M1 : Int), .int .i64 (hy : Int), .int .i64 (pr : Int), .float .f64 lo]) L n0 k aC aO cC cO ∧ Blk w2 (za.setRow B6 #[.int .i64 (W1 : Int), .int .i64 (T1 : Int), .int .u8 (M1 : Int), .int .i64 (hy : Int), .int .i64 (pr : Int), .float .f64 lo]) B5 31 #[.slice aC k cC, .slice aO (k + 1) cO] ∧ Blk w2 (za.setRow B6 #[.int .i64 (W1 : Int), .int .i64 (T1 : Int), .int .u8 (M1 : Int), .int .i64 (hy : Int), .int .i64 (pr : Int), .float .f64 lo]) B6 69 #[.int .i64 (W1 : Int), .int .i64 (T1 : Int), .int .u8 (M1 : Int), .int .i64 (hy : Int), .int .i64 (pr : Int), .float .f64 lo]) := ⟨HMa.out.1.store HMa.out.2.2.1 (by decide) (by decide) _, HMa.out.2.1.far HMa.out.2.2 (by decide) _, HMa.out.2.2.put _⟩
          obtain ⟨zb, hzb⟩ : ∃ Y, Y = za.setRow B6 #[.int .i64 (W1 : Int), .int .i64 (T1 : Int), .int .u8 (M1 : Int), .int .i64 (hy : Int), .int .i64 (pr : Int), .float .f64 lo] := ⟨_, rfl⟩
          rw [← hzb] at HXb HMb ⊢
          clear hzb
          refine hK.out _ _ (HKS.out _ HXb.out) (fun hHeld => ?_)
          clear hK
          (try simp only [Act.put, List.setIfInBounds_toArray, List.set_cons_zero, List.set_cons_succ])
          refine wpAnyH_done (by kernel_rfl) ?_ _
          clear hHeld
          go_wp2_with fail
          go_meet
          exact ⟨k, B5, B6, aC, aO, cC, cO, _, rfl, rfl, rfl, HMb.out.1, HMb.out.2.1, HMb.out.2.2, HXb.out⟩
        · rw [if_pos (by rfl)]
          go_simp
          obtain ⟨y3, hy3⟩ : ∃ Y, Y = y2.alloc (.cells #[.slice none 0 0, .slice none 0 0] 31) := ⟨_, rfl⟩
          obtain ⟨B5, hB5⟩ : ∃ b, b = y2.heap.size := ⟨_, rfl⟩
          have ho : Only (fun _ => False) y2 y3 := by rw [hy3]; exact (Only.refl _ _).alloc _
          have HXy3 : Hid (Only (fun _ => False) w2 y3) := HXy2.out.trans ho
          have HB5y3 : Hid (Blk w2 y3 B5 31 #[.slice none 0 0, .slice none 0 0]) := by rw [hy3, hB5]; exact Blk.made HXy2.out _ _
          have HB6y3 : Hid (Blk w2 y3 B6 69 #[.int .i64 0, .int .i64 0, .int .u8 0, .int .i64 0, .int .i64 0, .float .f64 0]) := HB6y2.out.keep ho
          have HMy3 : Hid (Made y3 L n0 k aC aO cC cO) := HMy2.out.keep ho
          rw [← hy3, ← hB5]
          clear hy3 hB5 ho
          refine hK.out _ _ (HKS.out _ HXy3.out) (fun hHeld => ?_)
          clear hK
          (try simp only [Act.put, List.setIfInBounds_toArray, List.set_cons_zero, List.set_cons_succ])
          refine wpAnyH_ready (rs := [7]) (by kernel_rfl) (by simp) ?_
          refine AllReadyH.cons rfl (fun K hK => ?_) AllReadyH.nil
          rw [if_pos (by rfl)]
          go_simp
          refine Calls.mono (HCF.out _) ?_
          rintro e y4 ⟨rfl, ho⟩
          have HMy4 : Hid (Made y4 L n0 k aC aO cC cO) := HMy3.out.keep ho
          have HXy4 : Hid (Only (fun _ => False) w2 y4) := HXy3.out.trans ho
          have HB5y4 : Hid (Blk w2 y4 B5 31 #[.slice none 0 0, .slice none 0 0]) := HB5y3.out.keep ho
          have HB6y4 : Hid (Blk w2 y4 B6 69 #[.int .i64 0, .int .i64 0, .int .u8 0, .int .i64 0, .int .i64 0, .float .f64 0]) := HB6y3.out.keep ho
          clear ho
          refine hK.out _ _ (HKS.out _ HXy4.out) (fun hHeld => ?_)
          clear hK
          (try simp only [Act.put, List.setIfInBounds_toArray, List.set_cons_zero, List.set_cons_succ])
          refine wpAnyH_ready (rs := [10]) (by kernel_rfl) (by simp) ?_
          refine AllReadyH.cons rfl (fun K hK => ?_) AllReadyH.nil
          rw [if_pos (by rfl)]
          have HXa : Hid (Only (fun _ => False) w2 (y4.setRow B5 #[.slice aC k cC, .slice aO (k + 1) cO])) := HXy4.out.setRowNew HB5y4.out.2 _
          refine wp_store_row 31 _ _ rfl B5 #[.slice aC k cC, .slice aO (k + 1) cO] rfl rfl 31 _ HB5y4.out.1 (by kernel_rfl) rfl (two_one _ _ _ _ _ _) ?_
          have HMa : Hid (Made (y4.setRow B5 #[.slice aC k cC, .slice aO (k + 1) cO]) L n0 k aC aO cC cO ∧ Blk w2 (y4.setRow B5 #[.slice aC k cC, .slice aO (k + 1) cO]) B5 31 #[.slice aC k cC, .slice aO (k + 1) cO] ∧ Blk w2 (y4.setRow B5 #[.slice aC k cC, .slice aO (k + 1) cO]) B6 69 #[.int .i64 0, .int .i64 0, .int .u8 0, .int .i64 0, .int .i64 0, .float .f64 0]) := ⟨HMy4.out.store HB5y4.out.1 (by decide) (by decide) _, HB5y4.out.put _, HB6y4.out.far HB5y4.out (by decide) _⟩
          obtain ⟨za, hza⟩ : ∃ Y, Y = y4.setRow B5 #[.slice aC k cC, .slice aO (k + 1) cO] := ⟨_, rfl⟩
          rw [← hza] at HXa HMa ⊢
          clear hza
          refine hK.out _ _ (HKS.out _ HXa.out) (fun hHeld => ?_)
          clear hK
          (try simp only [Act.put, List.setIfInBounds_toArray, List.set_cons_zero, List.set_cons_succ])
          refine wpAnyH_ready (rs := [11]) (by kernel_rfl) (by simp) ?_
          refine AllReadyH.cons rfl (fun K hK => ?_) AllReadyH.nil
          rw [if_pos (by rfl)]
          have HXb : Hid (Only (fun _ => False) w2 (za.setRow B6 #[.int .i64 (W1 : Int), .int .i64 (T1 : Int), .int .u8 (M1 : Int), .int .i64 (hy : Int), .int .i64 (pr : Int), .float .f64 lo])) := HXa.out.setRowNew HMa.out.2.2.2 _
          refine wp_store_row 69 _ _ rfl B6 #[.int .i64 (W1 : Int), .int .i64 (T1 : Int), .int .u8 (M1 : Int), .int .i64 (hy : Int), .int .i64 (pr : Int), .float .f64 lo] rfl rfl 69 _ HMa.out.2.2.1 (by kernel_rfl) rfl (cfg_one _ _ _ _ _ _) ?_
          have HMb : Hid (Made (za.setRow B6 #[.int .i64 (W1 : Int), .int .i64 (T1 : Int), .int .u8 (M1 : Int), .int .i64 (hy : Int), .int .i64 (pr : Int), .float .f64 lo]) L n0 k aC aO cC cO ∧ Blk w2 (za.setRow B6 #[.int .i64 (W1 : Int), .int .i64 (T1 : Int), .int .u8 (M1 : Int), .int .i64 (hy : Int), .int .i64 (pr : Int), .float .f64 lo]) B5 31 #[.slice aC k cC, .slice aO (k + 1) cO] ∧ Blk w2 (za.setRow B6 #[.int .i64 (W1 : Int), .int .i64 (T1 : Int), .int .u8 (M1 : Int), .int .i64 (hy : Int), .int .i64 (pr : Int), .float .f64 lo]) B6 69 #[.int .i64 (W1 : Int), .int .i64 (T1 : Int), .int .u8 (M1 : Int), .int .i64 (hy : Int), .int .i64 (pr : Int), .float .f64 lo]) := ⟨HMa.out.1.store HMa.out.2.2.1 (by decide) (by decide) _, HMa.out.2.1.far HMa.out.2.2 (by decide) _, HMa.out.2.2.put _⟩
          obtain ⟨zb, hzb⟩ : ∃ Y, Y = za.setRow B6 #[.int .i64 (W1 : Int), .int .i64 (T1 : Int), .int .u8 (M1 : Int), .int .i64 (hy : Int), .int .i64 (pr : Int), .float .f64 lo] := ⟨_, rfl⟩
          rw [← hzb] at HXb HMb ⊢
          clear hzb
          refine hK.out _ _ (HKS.out _ HXb.out) (fun hHeld => ?_)
          clear hK
          (try simp only [Act.put, List.setIfInBounds_toArray, List.set_cons_zero, List.set_cons_succ])
          refine wpAnyH_done (by kernel_rfl) ?_ _
          clear hHeld
          go_wp2_with fail
          go_meet
          exact ⟨k, B5, B6, aC, aO, cC, cO, _, rfl, rfl, rfl, HMb.out.1, HMb.out.2.1, HMb.out.2.2, HXb.out⟩
      · rw [if_pos (by rfl)]
        go_simp
        obtain ⟨y2, hy2⟩ : ∃ Y, Y = y1.alloc (.cells #[.slice none 0 0, .slice none 0 0] 31) := ⟨_, rfl⟩
        obtain ⟨B5, hB5⟩ : ∃ b, b = y1.heap.size := ⟨_, rfl⟩
        have ho : Only (fun _ => False) y1 y2 := by rw [hy2]; exact (Only.refl _ _).alloc _
        have HXy2 : Hid (Only (fun _ => False) w2 y2) := HXy1.out.trans ho
        have HB5y2 : Hid (Blk w2 y2 B5 31 #[.slice none 0 0, .slice none 0 0]) := by rw [hy2, hB5]; exact Blk.made HXy1.out _ _
        have HB6y2 : Hid (Blk w2 y2 B6 69 #[.int .i64 0, .int .i64 0, .int .u8 0, .int .i64 0, .int .i64 0, .float .f64 0]) := HB6y1.out.keep ho
        rw [← hy2, ← hB5]
        clear hy2 hB5 ho
        refine hK.out _ _ (HKS.out _ HXy2.out) (fun hHeld => ?_)
        clear hK
        (try simp only [Act.put, List.setIfInBounds_toArray, List.set_cons_zero, List.set_cons_succ])
        refine wpAnyH_ready (rs := [5]) (by kernel_rfl) (by simp) ?_
        refine AllReadyH.cons rfl (fun K hK => ?_) AllReadyH.nil
        rw [if_pos (by rfl)]
        go_simp
        refine Calls.mono (HPA.out _ (HW2.out.trans HXy2.out)) ?_
        rintro e y3 ⟨k, aC, aO, cC, cO, rfl, hmd, ho⟩
        have HMy3 : Hid (Made y3 L n0 k aC aO cC cO) := hmd
        clear hmd
        have HXy3 : Hid (Only (fun _ => False) w2 y3) := HXy2.out.trans ho
        have HB5y3 : Hid (Blk w2 y3 B5 31 #[.slice none 0 0, .slice none 0 0]) := HB5y2.out.keep ho
        have HB6y3 : Hid (Blk w2 y3 B6 69 #[.int .i64 0, .int .i64 0, .int .u8 0, .int .i64 0, .int .i64 0, .float .f64 0]) := HB6y2.out.keep ho
        clear ho
        refine hK.out _ _ (HKS.out _ HXy3.out) (fun hHeld => ?_)
        clear hK
        (try simp only [Act.put, List.setIfInBounds_toArray, List.set_cons_zero, List.set_cons_succ])
        refine wpAnyH_ready (rs := [7]) (by kernel_rfl) (by simp) ?_
        refine AllReadyH.cons rfl (fun K hK => ?_) AllReadyH.nil
        rw [if_pos (by rfl)]
        go_simp
        refine Calls.mono (HCF.out _) ?_
        rintro e y4 ⟨rfl, ho⟩
        have HMy4 : Hid (Made y4 L n0 k aC aO cC cO) := HMy3.out.keep ho
        have HXy4 : Hid (Only (fun _ => False) w2 y4) := HXy3.out.trans ho
        have HB5y4 : Hid (Blk w2 y4 B5 31 #[.slice none 0 0, .slice none 0 0]) := HB5y3.out.keep ho
        have HB6y4 : Hid (Blk w2 y4 B6 69 #[.int .i64 0, .int .i64 0, .int .u8 0, .int .i64 0, .int .i64 0, .float .f64 0]) := HB6y3.out.keep ho
        clear ho
        refine hK.out _ _ (HKS.out _ HXy4.out) (fun hHeld => ?_)
        clear hK
        (try simp only [Act.put, List.setIfInBounds_toArray, List.set_cons_zero, List.set_cons_succ])
        refine wpAnyH_ready (rs := [10]) (by kernel_rfl) (by simp) ?_
        refine AllReadyH.cons rfl (fun K hK => ?_) AllReadyH.nil
        rw [if_pos (by rfl)]
        have HXa : Hid (Only (fun _ => False) w2 (y4.setRow B5 #[.slice aC k cC, .slice aO (k + 1) cO])) := HXy4.out.setRowNew HB5y4.out.2 _
        refine wp_store_row 31 _ _ rfl B5 #[.slice aC k cC, .slice aO (k + 1) cO] rfl rfl 31 _ HB5y4.out.1 (by kernel_rfl) rfl (two_one _ _ _ _ _ _) ?_
        have HMa : Hid (Made (y4.setRow B5 #[.slice aC k cC, .slice aO (k + 1) cO]) L n0 k aC aO cC cO ∧ Blk w2 (y4.setRow B5 #[.slice aC k cC, .slice aO (k + 1) cO]) B5 31 #[.slice aC k cC, .slice aO (k + 1) cO] ∧ Blk w2 (y4.setRow B5 #[.slice aC k cC, .slice aO (k + 1) cO]) B6 69 #[.int .i64 0, .int .i64 0, .int .u8 0, .int .i64 0, .int .i64 0, .float .f64 0]) := ⟨HMy4.out.store HB5y4.out.1 (by decide) (by decide) _, HB5y4.out.put _, HB6y4.out.far HB5y4.out (by decide) _⟩
        obtain ⟨za, hza⟩ : ∃ Y, Y = y4.setRow B5 #[.slice aC k cC, .slice aO (k + 1) cO] := ⟨_, rfl⟩
        rw [← hza] at HXa HMa ⊢
        clear hza
        refine hK.out _ _ (HKS.out _ HXa.out) (fun hHeld => ?_)
        clear hK
        (try simp only [Act.put, List.setIfInBounds_toArray, List.set_cons_zero, List.set_cons_succ])
        refine wpAnyH_ready (rs := [11]) (by kernel_rfl) (by simp) ?_
        refine AllReadyH.cons rfl (fun K hK => ?_) AllReadyH.nil
        rw [if_pos (by rfl)]
        have HXb : Hid (Only (fun _ => False) w2 (za.setRow B6 #[.int .i64 (W1 : Int), .int .i64 (T1 : Int), .int .u8 (M1 : Int), .int .i64 (hy : Int), .int .i64 (pr : Int), .float .f64 lo])) := HXa.out.setRowNew HMa.out.2.2.2 _
        refine wp_store_row 69 _ _ rfl B6 #[.int .i64 (W1 : Int), .int .i64 (T1 : Int), .int .u8 (M1 : Int), .int .i64 (hy : Int), .int .i64 (pr : Int), .float .f64 lo] rfl rfl 69 _ HMa.out.2.2.1 (by kernel_rfl) rfl (cfg_one _ _ _ _ _ _) ?_
        have HMb : Hid (Made (za.setRow B6 #[.int .i64 (W1 : Int), .int .i64 (T1 : Int), .int .u8 (M1 : Int), .int .i64 (hy : Int), .int .i64 (pr : Int), .float .f64 lo]) L n0 k aC aO cC cO ∧ Blk w2 (za.setRow B6 #[.int .i64 (W1 : Int), .int .i64 (T1 : Int), .int .u8 (M1 : Int), .int .i64 (hy : Int), .int .i64 (pr : Int), .float .f64 lo]) B5 31 #[.slice aC k cC, .slice aO (k + 1) cO] ∧ Blk w2 (za.setRow B6 #[.int .i64 (W1 : Int), .int .i64 (T1 : Int), .int .u8 (M1 : Int), .int .i64 (hy : Int), .int .i64 (pr : Int), .float .f64 lo]) B6 69 #[.int .i64 (W1 : Int), .int .i64 (T1 : Int), .int .u8 (M1 : Int), .int .i64 (hy : Int), .int .i64 (pr : Int), .float .f64 lo]) := ⟨HMa.out.1.store HMa.out.2.2.1 (by decide) (by decide) _, HMa.out.2.1.far HMa.out.2.2 (by decide) _, HMa.out.2.2.put _⟩
        obtain ⟨zb, hzb⟩ : ∃ Y, Y = za.setRow B6 #[.int .i64 (W1 : Int), .int .i64 (T1 : Int), .int .u8 (M1 : Int), .int .i64 (hy : Int), .int .i64 (pr : Int), .float .f64 lo] := ⟨_, rfl⟩
        rw [← hzb] at HXb HMb ⊢
        clear hzb
        refine hK.out _ _ (HKS.out _ HXb.out) (fun hHeld => ?_)
        clear hK
        (try simp only [Act.put, List.setIfInBounds_toArray, List.set_cons_zero, List.set_cons_succ])
        refine wpAnyH_done (by kernel_rfl) ?_ _
        clear hHeld
        go_wp2_with fail
        go_meet
        exact ⟨k, B5, B6, aC, aO, cC, cO, _, rfl, rfl, rfl, HMb.out.1, HMb.out.2.1, HMb.out.2.2, HXb.out⟩
  case rest =>
    obtain ⟨k, B5, B6, aC, aO, cC, cO, X, hX, rfl, rfl, hmd, hb5, hb6, hoX⟩ := hcut
    subst hX
    have hk0 := hmd.le
    obtain ⟨q0, q1, q2, q3, q4, q5⟩ := blk_six hb6.1
    have fz : X.frozen? ⟨B6, 2, none⟩ = false := fz_blk hb6.1 2
    have lq : B6 < X.heap.size := (Array.getElem?_eq_some_iff.1 hb6.1).1
    have HQ : Hid (Made X L n0 k aC aO cC cO ∧ Blk w2 X B5 31 #[.slice aC k cC, .slice aO (k + 1) cO] ∧ Blk w2 X B6 69 #[.int .i64 (W1 : Int), .int .i64 (T1 : Int), .int .u8 (M1 : Int), .int .i64 (hy : Int), .int .i64 (pr : Int), .float .f64 lo] ∧ Only (fun _ => False) w2 X) := ⟨hmd, hb5, hb6, hoX⟩
    clear hmd hb5 hb6 hoX
    go_upto_region 3 with fail
    obtain ⟨Y, hY⟩ : ∃ Y, Y = X.setCell ⟨B6, 2, none⟩ (.int .u8 0) := ⟨_, rfl⟩
    rw [← hY]
    have e1 : Y = X.setRow B6 #[.int .i64 (W1 : Int), .int .i64 (T1 : Int), .int .u8 0, .int .i64 (hy : Int), .int .i64 (pr : Int), .float .f64 lo] := by rw [hY, setCell_eq_setRow _ _ _ _ _ _ _ HQ.out.2.2.1.1]; rfl
    have HY : Hid (Made Y L n0 k aC aO cC cO ∧ Blk w2 Y B5 31 #[.slice aC k cC, .slice aO (k + 1) cO] ∧ Blk w2 Y B6 69 #[.int .i64 (W1 : Int), .int .i64 (T1 : Int), .int .u8 0, .int .i64 (hy : Int), .int .i64 (pr : Int), .float .f64 lo] ∧ Only (fun _ => False) w2 Y) := by
      rw [e1]
      exact ⟨HQ.out.1.store HQ.out.2.2.1.1 (by decide) (by decide) _, HQ.out.2.1.far HQ.out.2.2.1 (by decide) _, HQ.out.2.2.1.put _, HQ.out.2.2.2.setRowNew HQ.out.2.2.1.2 _⟩
    clear hY e1 q0 q1 q2 q3 q4 q5 fz lq HQ
    obtain ⟨C, hC⟩ : ∃ x, x = Pa.cts (L.take k) 0 := ⟨_, rfl⟩
    obtain ⟨O, hO⟩ : ∃ x, x = Pa.ops L k ++ [2] := ⟨_, rfl⟩
    have HPv : Hid (∀ W', Only (fun _ => False) Y W' → Pv W' C O k (k + 1) aC aO cC cO) := fun W' ho => by
      rw [hC, hO]
      exact (HY.out.1.keep ho).pv (by omega) HN.out
    have HST : Hid (∀ W' (B : Nat) (old : Array Value) (cs : Array Value), Only (fun _ => False) Y W' → W'.heap[B]? = some (.cells old 31 (0, 0)) → Pv (W'.setRow B cs) C O k (k + 1) aC aO cC cO) := fun W' B old cs ho hB => by
      rw [hC, hO]
      exact ((HY.out.1.keep ho).store hB (by decide) (by decide) cs).pv (by omega) HN.out
    have HOK : Hid (Lv.Opk O k ∧ Lv.Ctg C ∧ It.sum C ≤ 400 ∧ k = C.length) := by
      refine ⟨by rw [hO]; exact opk_pa L k, by rw [hC]; exact Lv.ctg_pa _, ?_, (HPv.out Y (Only.refl _ _)).hn⟩
      have h := sum_pa L hk0
      rw [hC]
      omega
    clear hC hO
    obtain ⟨A, hA⟩ : ∃ x, x = Lv.fof C O T1 W1 (It.parts O (k + 1)) (It.parts O (k + 1)).length := ⟨_, rfl⟩
    obtain ⟨nA, hnA⟩ : ∃ x, x = A.length := ⟨_, rfl⟩
    have HCH : Hid (Lv.Chn 0 k A ∧ nA = A.length) := ⟨by rw [hA]; exact Lv.all_chn HOK.out.1, hnA⟩
    have HBR : Hid (∀ W', Only (fun _ => False) Y W' → Calls Try.prog 21 #[.agg #[.slice aC k cC, .slice aO (k + 1) cO], .agg #[.int .i64 (W1 : Int), .int .i64 (T1 : Int), .int .u8 0, .int .i64 (hy : Int), .int .i64 (pr : Int), .float .f64 lo]] W' fun e w' => ∃ (a : Option Addr) (c : Nat), e = .returned (.tuple #[.slice a nA c, .bool false]) ∧ w'.ownsRow W'.heap.size 59 4 (.slice a nA c) nA (lnC A) ∧ Only (fun _ => False) W' w') := fun W' ho => by
      refine (refBreakF_any C O k (k + 1) aC aO cC cO W1 T1 hy pr lo W' (HPv.out W' ho) rfl (by omega) (by omega) ht0 (by omega)).mono ?_
      rintro e w' ⟨n, a, c, hn, he, hown, ho'⟩
      rw [← hA] at hn he hown
      have e2 : n = nA := hn.trans hnA.symm
      subst e2
      exact ⟨a, c, he, hown, ho'⟩
    have hnAk : nA ≤ k := by have := HCH.out.1.len; have := HCH.out.2; omega
    clear hA hnA
    have HS : Hid (∀ W', Only (fun _ => False) Y W' → ((W'.cell? ⟨B5, 0, none⟩ = some (.slice aC k cC) ∧ W'.cell? ⟨B5, 1, none⟩ = some (.slice aO (k + 1) cO)) ∧ (W'.cell? ⟨B6, 0, none⟩ = some (.int .i64 (W1 : Int)) ∧ W'.cell? ⟨B6, 1, none⟩ = some (.int .i64 (T1 : Int)) ∧ W'.cell? ⟨B6, 2, none⟩ = some (.int .u8 0) ∧ W'.cell? ⟨B6, 3, none⟩ = some (.int .i64 (hy : Int)) ∧ W'.cell? ⟨B6, 4, none⟩ = some (.int .i64 (pr : Int)) ∧ W'.cell? ⟨B6, 5, none⟩ = some (.float .f64 lo))) ∧ B5 < W'.heap.size ∧ B6 < W'.heap.size ∧ Only (fun _ => False) w W') := fun W' ho => by
      have e5 := blk_keep ho HY.out.2.1.1
      have e6 := blk_keep ho HY.out.2.2.1.1
      exact ⟨⟨⟨(blk_two e5).1, (blk_two e5).2.1⟩, blk_six e6⟩, (blk_two e5).2.2, (Array.getElem?_eq_some_iff.1 e6).1, HW2.out.trans (HY.out.2.2.2.trans ho)⟩
    obtain ⟨⟨⟨r0, r1⟩, k0, k1, k2, k3, k4, k5⟩, l5, l6, -⟩ := HS.out Y (Only.refl _ _)
    go_wp2_with fail
    refine Calls.mono (HBR.out _ (Only.refl _ _)) ?_
    rintro e Z ⟨aA, cA, rfl, hownA, hoZ⟩
    have HZ : Hid (Z.ownsRow Y.heap.size 59 4 (.slice aA nA cA) nA (lnC A) ∧ Only (fun _ => False) Y Z) := ⟨hownA, hoZ⟩
    clear hownA hoZ r0 r1 k0 k1 k2 k3 k4 k5 l5 l6
    obtain ⟨⟨⟨r0, r1⟩, k0, k1, k2, k3, k4, k5⟩, l5, l6, -⟩ := HS.out Z HZ.out.2
    go_wp2_with fail
    go_loopg [13, 34] k (fun gh v13 v34 wr => ∃ (i s1 : Nat) (W : World), W = wr ∧ gh = k - i ∧ i ≤ k ∧ v13 = .int .i64 (s1 : Int) ∧ v34 = .int .i64 (i : Int) ∧ s1 = It.sum (C.take i) ∧ Only (fun _ => False) Z W)
    case atStart => exact ⟨0, 0, _, rfl, rfl, Nat.zero_le _, rfl, rfl, rfl, Only.refl _ _⟩
    case round =>
      obtain ⟨i, s1, W, hW, rfl, hi, rfl, rfl, hs1, hoW⟩ := hrel
      subst hW
      have HI : Hid (s1 = It.sum (C.take i) ∧ Only (fun _ => False) Z W) := ⟨hs1, hoW⟩
      have hs1l : s1 ≤ 400 := by rw [hs1]; exact Nat.le_trans (It.sum_le i) HOK.out.2.2.1
      clear hs1 hoW r0 r1 k0 k1 k2 k3 k4 k5 l5 l6
      obtain ⟨⟨⟨r0, r1⟩, k0, k1, k2, k3, k4, k5⟩, l5, l6, -⟩ := HS.out W (HZ.out.2.trans HI.out.2)
      by_cases hlt : i < k
      · have t1 : (i : Int) < (k : Int) := by omega
        obtain ⟨z, hz⟩ : ∃ z, C[i]? = some z := ⟨_, List.getElem?_eq_getElem (by rw [← HOK.out.2.2.2]; exact hlt)⟩
        have hPw := HPv.out W (HZ.out.2.trans HI.out.2)
        obtain ⟨xp, xl, xc, xk, rfl, hxc, hxk⟩ := hPw.ok.nat hz
        have hce := Lv.ctg_end HOK.out.2.1 hz
        simp only at hce
        obtain ⟨g, off, eg, hg, d0, d1, d2, d3⟩ := hPw.vC.cluster (k := i) hz
        simp only at d0 d1 d2 d3
        obtain ⟨s2, hs2⟩ : ∃ x, x = s1 + xl := ⟨_, rfl⟩
        have he : s2 = It.sum (C.take (i + 1)) := by
          have h1 := hce.1
          have h2 := hce.2.1
          have h3 := HI.out.1
          omega
        have HE : Hid (s2 = It.sum (C.take (i + 1))) := he
        have hs2l : s2 ≤ 400 := by rw [he]; exact Nat.le_trans (It.sum_le (i + 1)) HOK.out.2.2.1
        have es : (s1 : Int) + (xl : Int) = (s2 : Int) := by omega
        subst eg
        clear hz hce hs2 he hPw
        go_wp2_with fail
        go_roundg (k - (i + 1))
        case measure => omega
        case rel => exact ⟨i + 1, s2, _, rfl, rfl, by omega, by go_num, by go_num, HE.out, HI.out.2.alloc _⟩
      · have t1 : decide ((i : Int) < (k : Int)) = false := decide_eq_false (by omega)
        have hik : i = k := by omega
        have HSS : Hid (s1 = It.sum C) := by rw [HI.out.1, hik, HOK.out.2.2.2, List.take_length]; exact rfl
        have HO : Hid (Only (fun _ => False) Y W ∧ W.ownsRow Y.heap.size 59 4 (.slice aA nA cA) nA (lnC A)) := ⟨HZ.out.2.trans HI.out.2, own_only HZ.out.1 HI.out.2 (fun _ _ h => h)⟩
        clear hik HI
        have HMK : Hid (∀ W', Only (fun _ => False) W W' → Calls Try.prog 19 #[.agg #[.slice aC k cC, .slice aO (k + 1) cO], .slice aA nA cA, .int .i64 (T1 : Int)] W' fun e w' => ∃ M, e = .returned (.pointer (some ⟨M, 0, none⟩)) ∧ (∀ W9, Only (fun g => g < W'.heap.size) w' W9 → Mpp W9 M k C T1 (Lv.rof A)) ∧ Only (fun _ => False) W' w') := fun W' ho => make_far C O k (k + 1) aC aO cC cO T1 A nA aA cA W' (HPv.out W' (HO.out.1.trans ho)) HOK.out.2.1 (Nat.le_trans HOK.out.2.2.1 (by decide)) HCH.out.1 ((own_vw HO.out.2).keep ho) HCH.out.2 (by omega) ht0 (by omega)
        have HB4 : Hid (∀ W', Only (fun _ => False) W W' → W'.heap[B4]? = some (.cells #[.slice none 0 0, .slice none 0 0] 31 (0, 0))) := fun W' ho => blk_keep (HY.out.2.2.2.trans (HO.out.1.trans ho)) H0.out.2.1
        have hB4 : B4 < w2.heap.size := (Array.getElem?_eq_some_iff.1 H0.out.2.1).1
        have HN5 : Hid (B5 ≠ B4 ∧ B6 ≠ B4) := by
          have h5' := HY.out.2.1.2
          have h6' := HY.out.2.2.1.2
          exact ⟨fun e => by omega, fun e => by omega⟩
        have HK : Hid (∀ W', Only (fun g => g = B4) W W' → (W'.cell? ⟨B5, 0, none⟩ = some (.slice aC k cC) ∧ W'.cell? ⟨B5, 1, none⟩ = some (.slice aO (k + 1) cO)) ∧ W'.cell? ⟨B6, 1, none⟩ = some (.int .i64 (T1 : Int))) := fun W' ho => by
          have h := (HS.out W HO.out.1).1
          exact ⟨⟨keepS ho h.1.1 HN5.out.1, keepS ho h.1.2 HN5.out.1⟩, keepS ho h.2.2.1 HN5.out.2⟩
        go_upto_region 10 with fail
        go_region_held3 (fun W' => (W'.cell? ⟨B5, 0, none⟩ = some (.slice aC k cC) ∧ W'.cell? ⟨B5, 1, none⟩ = some (.slice aO (k + 1) cO)) ∧ W'.cell? ⟨B6, 1, none⟩ = some (.int .i64 (T1 : Int))) ((first | exact HK.out _ (Only.refl _ _).drew | exact HK.out _ HQ.out.2.2 | exact HK.out _ ((HQ.out.2.2.setCell (p := ⟨B4, 0, none⟩) rfl _).setCell (p := ⟨B4, 1, none⟩) rfl _) | trace_state)) ((go_at_call 19; refine Calls.mono (HMK.out _ (Only.refl _ _).drew) ?_; rintro e y ⟨M, rfl, hMy, hoy'⟩; have HQ : Hid ((∀ W9, Only (fun g => g < W.heap.size) y W9 → Mpp W9 M k C T1 (Lv.rof A)) ∧ Only (fun _ => False) W y ∧ Only (fun g => g = B4) W y) := ⟨hMy, (Only.refl _ _).drew.trans hoy', ((Only.refl (fun _ => False) W).drew.trans hoy').mono (fun _ h => h.elim)⟩; clear hMy hoy'; have hy4 := HB4.out y HQ.out.2.1; obtain ⟨x0, x1, lx⟩ := blk_two hy4; have fx0 : y.frozen? ⟨B4, 0, none⟩ = false := fz_blk hy4 _; have fx1 : y.frozen? ⟨B4, 1, none⟩ = false := fz_blk hy4 _; clear hy4))
        go_wp2_with fail
        have hy4 := HB4.out y HQ.out.2.1
        refine bodyPost_ret (v := .tuple #[.agg #[.slice aC k cC, .slice aO (k + 1) cO], .slice aA nA cA, .pointer (some ⟨M, 0, none⟩), .int .i64 (s1 : Int), .int .i64 (T1 : Int)]) (results_row_4 rfl _ _ B4 31 #[.slice aC k cC, .slice aO (k + 1) cO] (0, 0) _ rfl (heap_setCell_at (k := 1) (heap_setCell_at (k := 0) hy4 _) _) Try.underlying31 rfl (by kernel_rfl) _ _ _ _ rfl rfl rfl rfl) rfl ⟨C, O, k, aC, aO, cC, cO, A, nA, aA, cA, M, s1, T1, rfl, ?_, ?_⟩
        · have ez : (y.setCell ⟨B4, 0, none⟩ (.slice aC k cC)).setCell ⟨B4, 1, none⟩ (.slice aO (k + 1) cO) = y.setRow B4 #[.slice aC k cC, .slice aO (k + 1) cO] := by
            rw [setCell_eq_setRow _ _ _ _ _ _ _ hy4, setCell_eq_setRow _ _ _ _ _ _ _ (setRow_heap _ _ _ _ _ _ hy4), setRow_setRow]
            rfl
          have hoz : Only (fun g => g = B4) y (y.setRow B4 #[.slice aC k cC, .slice aO (k + 1) cO]) := Only.setRow _ _ _
          have hWY := HO.out.1.size
          have hw2Y := HY.out.2.2.2.size
          rw [ez]
          exact ⟨HST.out y B4 _ _ (HO.out.1.trans HQ.out.2.1) hy4, HOK.out.2.1, by omega, HOK.out.2.2.1, HSS.out, HCH.out.1, own_vw (own_stay (own_only HO.out.2 HQ.out.2.1 (fun _ _ h => h)) hoz (fun g hg he => own_ne (own_only HO.out.2 HQ.out.2.1 (fun _ _ h => h)) hy4 (by decide) (by rw [← he]; exact hg))), HCH.out.2, HQ.out.1 _ (hoz.mono (fun g hg => by rw [hg]; omega)), ht0, ht1⟩
        · exact ((HS.out y (HO.out.1.trans HQ.out.2.1)).2.2.2.setNew (p := ⟨B4, 0, none⟩) H0.out.2.2.2 _).setNew (p := ⟨B4, 1, none⟩) H0.out.2.2.2 _
end Go.Proofs.Yteejgjapghccnaa
