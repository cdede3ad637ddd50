/-
  Layer 18's lined: a text, its lines, and how wide it is set.
-/
import Derived.Test.YtngaihkgndlkhaaJi
import Derived.Test.YtngaihkgndlkhaaGa
import Derived.Test.YtngaihkgndlkhaaPc
import Derived.Test.YtngaihkgndlkhaaAp
namespace Go.Proofs.Ytngaihkgndlkhaa
open Go.RowKit Go.Maps
set_option linter.unusedVariables false
set_option linter.unusedSimpArgs false
theorem opk_pa (L : List Bt) (k : Nat) : Lv.Opk (Pa.ops L k ++ [2]) k := by
  refine ⟨by rw [List.length_append, Pa.ops_len]; rfl, ops_end L k, fun h => ?_⟩
  have e : (Pa.ops L k ++ [2]).getD 0 0 = 0 := by
    rw [List.getD_eq_getElem?_getD, List.getElem?_append_left (by rw [Pa.ops_len]; omega)]
    unfold Pa.ops
    rw [List.getElem?_map, List.getElem?_range h]
    rfl
  rw [e]
  decide
namespace Lv
/-- of a line: how wide it is, and how it ends. -/
def Lnk (C : List Ct) (t : Nat) (l : Ln) : Prop := l.w = Sp.wde C t l.a l.b l.e ∧ l.e < 256
theorem getD_lt {O : List Nat} (h : ∀ x ∈ O, x < 256) (k : Nat) : O.getD k 0 < 256 := by
  rw [List.getD_eq_getElem?_getD]
  cases e : O[k]? with
  | none => show 0 < 256; decide
  | some x => exact h x (List.mem_of_getElem? e)
theorem nxt_lt256 {C : List Ct} {O : List Nat} (h : ∀ x ∈ O, x < 256) (t W a b : Nat) : (Sp.nxt C O t W a b).2 < 256 := by
  unfold Sp.nxt
  cases Sp.bst C O t W a (b - a) with
  | some k => exact getD_lt h k
  | none =>
    simp only
    split
    · exact getD_lt h _
    · decide
theorem lines_lnk {C : List Ct} {O : List Nat} (h : ∀ x ∈ O, x < 256) (t W b : Nat) : ∀ (n a : Nat), b - a ≤ n → ∀ l ∈ Sp.lines C O t W a b, Lnk C t l
  | 0, a, hn, l, hl => by
    rw [Sp.lines_nil (by omega)] at hl
    cases hl
  | n + 1, a, hn, l, hl => by
    by_cases e : a < b
    · have hx := Sp.nxt_in (C := C) (O := O) (t := t) (W := W) e
      rw [Sp.lines_cons e] at hl
      rcases List.mem_cons.1 hl with q | q
      · subst q
        exact ⟨rfl, nxt_lt256 h t W a b⟩
      · exact lines_lnk h t W b n _ (by omega) l q
    · rw [Sp.lines_nil (by omega)] at hl
      cases hl
theorem fof_lnk {C : List Ct} {O : List Nat} (h : ∀ x ∈ O, x < 256) (t W : Nat) (P : List Nat) : ∀ (i : Nat), ∀ l ∈ fof C O t W P i, Lnk C t l
  | 0, l, hl => by cases hl
  | i + 1, l, hl => by
    rcases List.mem_append.1 hl with q | q
    · exact fof_lnk h t W P i l q
    · exact lines_lnk h t W _ _ _ (Nat.le_refl _) l q
theorem Chn.line : ∀ {a b : Nat} {L : List Ln} {i : Nat} {l : Ln}, Chn a b L → L[i]? = some l → l.a < l.b ∧ l.b ≤ b
  | a, b, [], i, l, h, hl => by simp at hl
  | a, b, x :: L, 0, l, h, hl => by
    have e : x = l := by simpa using hl
    subst e
    have h1 := h.1
    have h2 := h.2.1
    exact ⟨by omega, h.2.2.le⟩
  | a, b, x :: L, i + 1, l, h, hl => Chn.line h.2.2 (i := i) (by simpa using hl)
end Lv
theorem results_cell3 {P : Program} {fn : Func} {p u p2 : Tmp} {ty ty2 : TypeId} (h : fn.results = #[.cell p ty, .tmp u, .cell p2 ty2]) (tmps : Array Value) (w : World) (g : Nat) (t : TypeId) (cs : Array Value) (fr : Nat × Nat) (d : TypeDesc)
    (hp : tmps.getD p undef = .pointer (some ⟨g, 0, none⟩)) (hg : w.heap[g]? = some (.cells cs t fr))
    (hu : P.underlying ty = some d) (hd : (match d with | .struct _ | .array _ _ => true | _ => false) = true) (hi : (P.info? ty).map (·.size) = some cs.size) (v1 : Value) (h1 : tmps.getD u undef = v1)
    (g2 : Nat) (t2 : TypeId) (cs2 : Array Value) (fr2 : Nat × Nat) (d2 : TypeDesc)
    (hp2 : tmps.getD p2 undef = .pointer (some ⟨g2, 0, none⟩)) (hg2 : w.heap[g2]? = some (.cells cs2 t2 fr2))
    (hu2 : P.underlying ty2 = some d2) (hd2 : (match d2 with | .struct _ | .array _ _ => true | _ => false) = true) (hi2 : (P.info? ty2).map (·.size) = some cs2.size) :
    (results fn tmps).run P w = .ok (.tuple #[.agg cs, v1, .agg cs2]) w := by
  subst h1
  have hp' : tmps[p]?.getD undef = .pointer (some ⟨g, 0, none⟩) := by simpa using hp
  have hp2' : tmps[p2]?.getD undef = .pointer (some ⟨g2, 0, none⟩) := by simpa using hp2
  simp [results, h, hp', hp2', asAddr, run_loadVar_row w g t ty cs fr d hg hu hd hi, run_loadVar_row w g2 t2 ty2 cs2 fr2 d2 hg2 hu2 hd2 hi2]
/-- what lined makes: a text of k clusters that can be read, and its lines. -/
structure Ld (X : World) (C : List Ct) (O : List Nat) (k : Nat) (aC aO : Option Addr) (cC cO : Nat) (A : List Ln) (nA : Nat) (aA : Option Addr) (W t : Nat) : Prop where
  pv : Pv X C O k (k + 1) aC aO cC cO
  few : k ≤ 100
  chn : Lv.Chn 0 k A
  lnk : ∀ l ∈ A, Lv.Lnk C t l
  vA : Vw X aA (lnC A)
  hA : nA = A.length
  w1 : W ≤ 256
  t0 : 0 < t
  t1 : t ≤ 64
theorem Ld.keep {X Y : World} {C : List Ct} {O : List Nat} {k : Nat} {aC aO : Option Addr} {cC cO : Nat} {A : List Ln} {nA : Nat} {aA : Option Addr} {W t : Nat} (h : Ld X C O k aC aO cC cO A nA aA W t) (ho : Only (fun _ => False) X Y) : Ld Y C O k aC aO cC cO A nA aA W t :=
  ⟨h.pv.keep ho, h.few, h.chn, h.lnk, h.vA.keep ho, h.hA, h.w1, h.t0, h.t1⟩
/-- the block of a way, and of the two results, ahead of all. -/
theorem box626 (w : World) (v0 v1 v2 v3 v4 v5 u0 u1 x0 x1 x2 x3 x4 x5 : Value) (t t' t'' : TypeId) : ∃ R b q w1, ((w.alloc (.cells #[v0, v1, v2, v3, v4, v5] t)).alloc (.cells #[u0, u1] t')).alloc (.cells #[x0, x1, x2, x3, x4, x5] t'') = w1 ∧ w.heap.size + 1 + 1 = q ∧ w.heap.size + 1 = b ∧ w.heap.size = R ∧ Hid (w1.heap[R]? = some (.cells #[v0, v1, v2, v3, v4, v5] t (0, 0)) ∧ w1.heap[b]? = some (.cells #[u0, u1] t' (0, 0)) ∧ w1.heap[q]? = some (.cells #[x0, x1, x2, x3, x4, x5] t'' (0, 0)) ∧ Only (fun _ => False) w w1 ∧ w.heap.size ≤ b ∧ w.heap.size ≤ q ∧ b ≠ q) := by
  have h3 := blk3 w (.cells #[v0, v1, v2, v3, v4, v5] t) (.cells #[u0, u1] t') (.cells #[x0, x1, x2, x3, x4, x5] t'')
  have o3 : Only (fun _ => False) ((w.alloc (.cells #[v0, v1, v2, v3, v4, v5] t)).alloc (.cells #[u0, u1] t')) (((w.alloc (.cells #[v0, v1, v2, v3, v4, v5] t)).alloc (.cells #[u0, u1] t')).alloc (.cells #[x0, x1, x2, x3, x4, x5] t'')) := (Only.refl _ _).alloc _
  exact ⟨_, _, _, _, rfl, rfl, rfl, rfl, ⟨blk_keep o3 (bx_made w _ _), blk_keep o3 (heap_alloc2_new w _ _), h3.1, (((Only.refl _ _).alloc _).alloc _).alloc _, by omega, by omega, by omega⟩⟩
set_option maxRecDepth 100000 in
set_option maxHeartbeats 8000000 in
theorem lined18_any (L0 : List Bt) (nL : Nat) (a0 : Option Addr) (c0 : Nat) (K : Wy) (w : World) (hV : Vw w a0 (btC L0)) (hB : ∀ b ∈ L0, b.cells < 256 ∧ b.kind < 256 ∧ b.len < 256 ∧ b.opp < 256) (hnL : nL = L0.length) (hc : nL ≤ c0) (hm : c0 ≤ maxLen) (hK : K.Ok) :
    Calls Try.prog 12 #[.slice a0 nL c0, K.val] w fun e w' => ∃ (C : List Ct) (O : List Nat) (k : Nat) (aC aO : Option Addr) (cC cO : Nat) (A : List Ln) (nA : Nat) (aA : Option Addr) (cA W t hy pr lo : Nat), e = .returned (.tuple #[.agg #[.slice aC k cC, .slice aO (k + 1) cO], .slice aA nA cA, .agg #[.int .i64 (W : Int), .int .i64 (t : Int), .int .u8 0, .int .i64 (hy : Int), .int .i64 (pr : Int), .float .f64 lo]]) ∧ Ld w' C O k aC aO cC cO A nA aA W t ∧ Only (fun _ => False) w w' := by
  obtain ⟨wi, tb, mo, hy, pr, lo⟩ := K
  obtain ⟨W1, hW1⟩ : ∃ x, x = 1 + wi := ⟨_, rfl⟩
  obtain ⟨T1, hT1⟩ : ∃ x, x = 1 + tb % 64 := ⟨_, rfl⟩
  obtain ⟨M1, hM1⟩ : ∃ x, x = mo % 2 := ⟨_, rfl⟩
  have HCF : Hid (∀ W, Calls Try.prog 16 #[.agg #[.int .u8 (wi : Int), .int .u8 (tb : Int), .int .u8 (mo : Int), .int .u16 (hy : Int), .int .u16 (pr : Int), .float .f64 lo]] W fun e w' => e = .returned (.agg #[.int .i64 (W1 : Int), .int .i64 (T1 : Int), .int .u8 (M1 : Int), .int .i64 (hy : Int), .int .i64 (pr : Int), .float .f64 lo]) ∧ Only (fun _ => False) W w') := fun W => by
    rw [hW1, hT1, hM1]
    exact config_any ⟨wi, tb, mo, hy, pr, lo⟩ W hK
  obtain ⟨b0, b1, b2, b3, b4, b5⟩ := hK
  simp only at b0 b1 b2 b3 b4 b5
  have hw1 : W1 ≤ 256 := by omega
  have hw0 : 1 ≤ W1 := by omega
  have ht0 : 0 < T1 := by omega
  have ht1 : T1 ≤ 64 := by omega
  have hm1 : M1 ≤ 1 := by omega
  obtain ⟨n0, hn0⟩ : ∃ n, n = min nL 100 := ⟨_, rfl⟩
  obtain ⟨L, hL⟩ : ∃ x, x = L0.take n0 := ⟨_, rfl⟩
  have hlen : n0 = L.length := by rw [hL, List.length_take, ← hnL]; omega
  have HN : Hid (n0 = L.length) := hlen
  have h5 : n0 ≤ 100 := by omega
  have HPA : Hid (∀ W, Only (fun _ => False) w W → Calls Try.prog 15 #[.slice a0 n0 c0] W fun e w' => ∃ k aC aO cC cO, e = .returned (.agg #[.slice aC k cC, .slice aO (k + 1) cO]) ∧ Made w' L n0 k aC aO cC cO ∧ Only (fun _ => False) W w') := fun W ho => para_made L n0 a0 c0 W hlen (by rw [hL]; exact (hV.keep ho).btTake n0) (fun b hb => hB b (by rw [hL] at hb; exact List.mem_of_mem_take hb)) (by omega)
  unfold Wy.val
  simp only
  have hmn : (if (100 : Int) < (nL : Int) then (100 : Int) else (nL : Int)) = (n0 : Int) := by split <;> omega
  have hn0c : (n0 : Int) ≤ (c0 : Int) := by omega
  have hn0c2 : n0 ≤ c0 := by omega
  have hcm : c0 ≤ 9223372036854775807 := by unfold maxLen at hm; exact hm
  clear hlen hL hV hB hnL hc hm hW1 hT1 hM1 hn0
  go_enter Try.func12, Try.ntmps12
  go_upto_region 1 with fail
  obtain ⟨R, B4, B7, w2, hw2, hB7, hB4, hR, H0⟩ := box626 w (.int .u8 (wi : Int)) (.int .u8 (tb : Int)) (.int .u8 (mo : Int)) (.int .u16 (hy : Int)) (.int .u16 (pr : Int)) (.float .f64 lo) (.slice none 0 0) (.slice none 0 0) (.int .i64 0) (.int .i64 0) (.int .u8 0) (.int .i64 0) (.int .i64 0) (.float .f64 0) 33 37 41
  rw [hw2, hB7, hB4, hR]
  clear hw2 hB7 hB4 hR
  have HW2 : Hid (Only (fun _ => False) w w2) := H0.out.2.2.2.1
  have HKS : Hid (∀ W', Only (fun _ => False) w2 W' → (W'.cell? ⟨R, 0, none⟩ = some (.int .u8 (wi : Int)) ∧ W'.cell? ⟨R, 1, none⟩ = some (.int .u8 (tb : Int)) ∧ W'.cell? ⟨R, 2, none⟩ = some (.int .u8 (mo : Int)) ∧ W'.cell? ⟨R, 3, none⟩ = some (.int .u16 (hy : Int)) ∧ W'.cell? ⟨R, 4, none⟩ = some (.int .u16 (pr : Int)) ∧ W'.cell? ⟨R, 5, none⟩ = some (.float .f64 lo))) := fun W' ho => blk_six (blk_keep ho H0.out.1)
  go_cut [7, 8] from 11 to 18 (fun v5 v6 wr => ∃ (k B5 B6 : Nat) (aC aO : Option Addr) (cC cO : Nat) (X : World), X = wr ∧ v5 = .pointer (some ⟨B5, 0, none⟩) ∧ v6 = .pointer (some ⟨B6, 0, none⟩) ∧ Made X L n0 k aC aO cC cO ∧ Blk w2 X B5 37 #[.slice aC k cC, .slice aO (k + 1) cO] ∧ Blk w2 X B6 41 #[.int .i64 (W1 : Int), .int .i64 (T1 : Int), .int .u8 (M1 : Int), .int .i64 (hy : Int), .int .i64 (pr : Int), .float .f64 lo] ∧ Only (fun _ => False) w2 X)
  case first =>
    have HXD : Hid (Only (fun _ => False) w2 w2.drew) := (Only.refl _ _).drew
    refine wp_region_held_drew (S := (fun W' => W'.cell? ⟨R, 0, none⟩ = some (.int .u8 (wi : Int)) ∧ W'.cell? ⟨R, 1, none⟩ = some (.int .u8 (tb : Int)) ∧ W'.cell? ⟨R, 2, none⟩ = some (.int .u8 (mo : Int)) ∧ W'.cell? ⟨R, 3, none⟩ = some (.int .u16 (hy : Int)) ∧ W'.cell? ⟨R, 4, none⟩ = some (.int .u16 (pr : Int)) ∧ W'.cell? ⟨R, 5, none⟩ = some (.float .f64 lo))) (by kernel_rfl) (HKS.out _ HXD.out) (fun hHeld => ?_)
    refine wpAnyH_take (i := 0) (oi := { dst := some 11, op := _, type := _, pos := _, after := _, guard := _ }) (v := .slice a0 nL c0) rfl (by kernel_rfl) (by kernel_rfl) (by kernel_rfl) (fun _ _ _ h => h) (Or.inl ⟨by rfl, fun w hSw => by obtain ⟨y0, y1, y2, y3, y4, y5⟩ := hSw; first | (go_simp; done) | go_simp⟩) (by assumption) ?_
    (try simp only [Act.put, List.setIfInBounds_toArray, List.set_cons_zero, List.set_cons_succ])
    refine wpAnyH_take (i := 1) (oi := { dst := some 12, op := _, type := _, pos := _, after := _, guard := _ }) (v := .slice a0 nL c0) rfl (by kernel_rfl) (by kernel_rfl) (by kernel_rfl) (fun _ _ _ h => h) (Or.inl ⟨by rfl, fun w hSw => by obtain ⟨y0, y1, y2, y3, y4, y5⟩ := hSw; first | (go_simp; done) | go_simp⟩) (by assumption) ?_
    (try simp only [Act.put, List.setIfInBounds_toArray, List.set_cons_zero, List.set_cons_succ])
    refine wpAnyH_take (i := 2) (oi := { dst := some 13, op := _, type := _, pos := _, after := _, guard := _ }) (v := .int .i64 (nL : Int)) rfl (by kernel_rfl) (by kernel_rfl) (by kernel_rfl) (fun _ _ _ h => h) (Or.inl ⟨by rfl, fun w hSw => by obtain ⟨y0, y1, y2, y3, y4, y5⟩ := hSw; first | (go_simp; done) | go_simp⟩) (by assumption) ?_
    (try simp only [Act.put, List.setIfInBounds_toArray, List.set_cons_zero, List.set_cons_succ])
    refine wpAnyH_take (i := 3) (oi := { dst := some 14, op := _, type := _, pos := _, after := _, guard := _ }) (v := .int .i64 (n0 : Int)) rfl (by kernel_rfl) (by kernel_rfl) (by kernel_rfl) (fun _ _ _ h => h) (Or.inl ⟨by rfl, fun w hSw => by obtain ⟨y0, y1, y2, y3, y4, y5⟩ := hSw; first | (go_simp; done) | go_simp⟩) (by assumption) ?_
    (try simp only [Act.put, List.setIfInBounds_toArray, List.set_cons_zero, List.set_cons_succ])
    refine wpAnyH_take (i := 4) (oi := { dst := some 15, op := _, type := _, pos := _, after := _, guard := _ }) (v := .slice a0 n0 c0) rfl (by kernel_rfl) (by kernel_rfl) (by kernel_rfl) (fun _ _ _ h => h) (Or.inl ⟨by rfl, fun w hSw => by obtain ⟨y0, y1, y2, y3, y4, y5⟩ := hSw; first | (go_simp; done) | go_simp⟩) (by assumption) ?_
    (try simp only [Act.put, List.setIfInBounds_toArray, List.set_cons_zero, List.set_cons_succ])
    refine wpAnyH_take (i := 6) (oi := { dst := some 17, op := _, type := _, pos := _, after := _, guard := _ }) (v := .agg #[.int .u8 (wi : Int), .int .u8 (tb : Int), .int .u8 (mo : Int), .int .u16 (hy : Int), .int .u16 (pr : Int), .float .f64 lo]) rfl (by kernel_rfl) (by kernel_rfl) (by kernel_rfl) (fun _ _ _ h => h) (Or.inl ⟨by rfl, fun w hSw => by obtain ⟨y0, y1, y2, y3, y4, y5⟩ := hSw; first | (go_simp; done) | go_simp⟩) (by assumption) ?_
    (try simp only [Act.put, List.setIfInBounds_toArray, List.set_cons_zero, List.set_cons_succ])
    refine wpAnyH_ready (rs := [5, 8, 9]) (by kernel_rfl) (by simp) ?_
    refine AllReadyH.cons rfl (fun K hK => ?_) (AllReadyH.cons rfl (fun K hK => ?_) (AllReadyH.cons rfl (fun K hK => ?_) AllReadyH.nil))
    · rw [if_pos (by rfl)]
      go_simp
      refine Calls.mono (HPA.out _ (HW2.out.trans HXD.out)) ?_
      rintro e y1 ⟨k, aC, aO, cC, cO, rfl, hmd, ho⟩
      have HMy1 : Hid (Made y1 L n0 k aC aO cC cO) := hmd
      clear hmd
      have HXy1 : Hid (Only (fun _ => False) w2 y1) := HXD.out.trans ho
      clear ho
      refine hK.out _ _ (HKS.out _ HXy1.out) (fun hHeld => ?_)
      clear hK
      (try simp only [Act.put, List.setIfInBounds_toArray, List.set_cons_zero, List.set_cons_succ])
      refine wpAnyH_ready (rs := [7, 8, 9]) (by kernel_rfl) (by simp) ?_
      refine AllReadyH.cons rfl (fun K hK => ?_) (AllReadyH.cons rfl (fun K hK => ?_) (AllReadyH.cons rfl (fun K hK => ?_) AllReadyH.nil))
      · rw [if_pos (by rfl)]
        go_simp
        refine Calls.mono (HCF.out _) ?_
        rintro e y2 ⟨rfl, ho⟩
        have HMy2 : Hid (Made y2 L n0 k aC aO cC cO) := HMy1.out.keep ho
        have HXy2 : Hid (Only (fun _ => False) w2 y2) := HXy1.out.trans ho
        clear ho
        refine hK.out _ _ (HKS.out _ HXy2.out) (fun hHeld => ?_)
        clear hK
        (try simp only [Act.put, List.setIfInBounds_toArray, List.set_cons_zero, List.set_cons_succ])
        refine wpAnyH_ready (rs := [8, 9]) (by kernel_rfl) (by simp) ?_
        refine AllReadyH.cons rfl (fun K hK => ?_) (AllReadyH.cons rfl (fun K hK => ?_) AllReadyH.nil)
        · rw [if_pos (by rfl)]
          go_simp
          obtain ⟨y3, hy3⟩ : ∃ Y, Y = y2.alloc (.cells #[.slice none 0 0, .slice none 0 0] 37) := ⟨_, rfl⟩
          obtain ⟨B5, hB5⟩ : ∃ b, b = y2.heap.size := ⟨_, rfl⟩
          have ho : Only (fun _ => False) y2 y3 := by rw [hy3]; exact (Only.refl _ _).alloc _
          have HXy3 : Hid (Only (fun _ => False) w2 y3) := HXy2.out.trans ho
          have HB5y3 : Hid (Blk w2 y3 B5 37 #[.slice none 0 0, .slice none 0 0]) := by rw [hy3, hB5]; exact Blk.made HXy2.out _ _
          have HMy3 : Hid (Made y3 L n0 k aC aO cC cO) := HMy2.out.keep ho
          rw [← hy3, ← hB5]
          clear hy3 hB5 ho
          refine hK.out _ _ (HKS.out _ HXy3.out) (fun hHeld => ?_)
          clear hK
          (try simp only [Act.put, List.setIfInBounds_toArray, List.set_cons_zero, List.set_cons_succ])
          refine wpAnyH_ready (rs := [9]) (by kernel_rfl) (by simp) ?_
          refine AllReadyH.cons rfl (fun K hK => ?_) AllReadyH.nil
          rw [if_pos (by rfl)]
          go_simp
          obtain ⟨y4, hy4⟩ : ∃ Y, Y = y3.alloc (.cells #[.int .i64 0, .int .i64 0, .int .u8 0, .int .i64 0, .int .i64 0, .float .f64 0] 41) := ⟨_, rfl⟩
          obtain ⟨B6, hB6⟩ : ∃ b, b = y3.heap.size := ⟨_, rfl⟩
          have ho : Only (fun _ => False) y3 y4 := by rw [hy4]; exact (Only.refl _ _).alloc _
          have HXy4 : Hid (Only (fun _ => False) w2 y4) := HXy3.out.trans ho
          have HB6y4 : Hid (Blk w2 y4 B6 41 #[.int .i64 0, .int .i64 0, .int .u8 0, .int .i64 0, .int .i64 0, .float .f64 0]) := by rw [hy4, hB6]; exact Blk.made HXy3.out _ _
          have HB5y4 : Hid (Blk w2 y4 B5 37 #[.slice none 0 0, .slice none 0 0]) := HB5y3.out.keep ho
          have HMy4 : Hid (Made y4 L n0 k aC aO cC cO) := HMy3.out.keep ho
          rw [← hy4, ← hB6]
          clear hy4 hB6 ho
          refine hK.out _ _ (HKS.out _ HXy4.out) (fun hHeld => ?_)
          clear hK
          (try simp only [Act.put, List.setIfInBounds_toArray, List.set_cons_zero, List.set_cons_succ])
          refine wpAnyH_ready (rs := [10]) (by kernel_rfl) (by simp) ?_
          refine AllReadyH.cons rfl (fun K hK => ?_) AllReadyH.nil
          rw [if_pos (by rfl)]
          have HXa : Hid (Only (fun _ => False) w2 (y4.setRow B5 #[.slice aC k cC, .slice aO (k + 1) cO])) := HXy4.out.setRowNew HB5y4.out.2 _
          refine wp_store_row 37 _ _ rfl B5 #[.slice aC k cC, .slice aO (k + 1) cO] rfl rfl 37 _ HB5y4.out.1 (by kernel_rfl) rfl (two_one _ _ _ _ _ _) ?_
          have HMa : Hid (Made (y4.setRow B5 #[.slice aC k cC, .slice aO (k + 1) cO]) L n0 k aC aO cC cO ∧ Blk w2 (y4.setRow B5 #[.slice aC k cC, .slice aO (k + 1) cO]) B5 37 #[.slice aC k cC, .slice aO (k + 1) cO] ∧ Blk w2 (y4.setRow B5 #[.slice aC k cC, .slice aO (k + 1) cO]) B6 41 #[.int .i64 0, .int .i64 0, .int .u8 0, .int .i64 0, .int .i64 0, .float .f64 0]) := ⟨HMy4.out.store HB5y4.out.1 (by decide) (by decide) _, HB5y4.out.put _, HB6y4.out.far HB5y4.out (by decide) _⟩
          obtain ⟨za, hza⟩ : ∃ Y, Y = y4.setRow B5 #[.slice aC k cC, .slice aO (k + 1) cO] := ⟨_, rfl⟩
          rw [← hza] at HXa HMa ⊢
          clear hza
          refine hK.out _ _ (HKS.out _ HXa.out) (fun hHeld => ?_)
          clear hK
          (try simp only [Act.put, List.setIfInBounds_toArray, List.set_cons_zero, List.set_cons_succ])
          refine wpAnyH_ready (rs := [11]) (by kernel_rfl) (by simp) ?_
          refine AllReadyH.cons rfl (fun K hK => ?_) AllReadyH.nil
          rw [if_pos (by rfl)]
          have HXb : Hid (Only (fun _ => False) w2 (za.setRow B6 #[.int .i64 (W1 : Int), .int .i64 (T1 : Int), .int .u8 (M1 : Int), .int .i64 (hy : Int), .int .i64 (pr : Int), .float .f64 lo])) := HXa.out.setRowNew HMa.out.2.2.2 _
          refine wp_store_row 41 _ _ rfl B6 #[.int .i64 (W1 : Int), .int .i64 (T1 : Int), .int .u8 (M1 : Int), .int .i64 (hy : Int), .int .i64 (pr : Int), .float .f64 lo] rfl rfl 41 _ HMa.out.2.2.1 (by kernel_rfl) rfl (cfg_one _ _ _ _ _ _) ?_
          have HMb : Hid (Made (za.setRow B6 #[.int .i64 (W1 : Int), .int .i64 (T1 : Int), .int .u8 (M1 : Int), .int .i64 (hy : Int), .int .i64 (pr : Int), .float .f64 lo]) L n0 k aC aO cC cO ∧ Blk w2 (za.setRow B6 #[.int .i64 (W1 : Int), .int .i64 (T1 : Int), .int .u8 (M1 : Int), .int .i64 (hy : Int), .int .i64 (pr : Int), .float .f64 lo]) B5 37 #[.slice aC k cC, .slice aO (k + 1) cO] ∧ Blk w2 (za.setRow B6 #[.int .i64 (W1 : Int), .int .i64 (T1 : Int), .int .u8 (M1 : Int), .int .i64 (hy : Int), .int .i64 (pr : Int), .float .f64 lo]) B6 41 #[.int .i64 (W1 : Int), .int .i64 (T1 : Int), .int .u8 (M1 : Int), .int .i64 (hy : Int), .int .i64 (pr : Int), .float .f64 lo]) := ⟨HMa.out.1.store HMa.out.2.2.1 (by decide) (by decide) _, HMa.out.2.1.far HMa.out.2.2 (by decide) _, HMa.out.2.2.put _⟩
          obtain ⟨zb, hzb⟩ : ∃ Y, Y = za.setRow B6 #[.int .i64 (W1 : Int), .int .i64 (T1 : Int), .int .u8 (M1 : Int), .int .i64 (hy : Int), .int .i64 (pr : Int), .float .f64 lo] := ⟨_, rfl⟩
          rw [← hzb] at HXb HMb ⊢
          clear hzb
          refine hK.out _ _ (HKS.out _ HXb.out) (fun hHeld => ?_)
          clear hK
          (try simp only [Act.put, List.setIfInBounds_toArray, List.set_cons_zero, List.set_cons_succ])
          refine wpAnyH_done (by kernel_rfl) ?_ _
          clear hHeld
          go_wp2_with fail
          go_meet
          exact ⟨k, B5, B6, aC, aO, cC, cO, _, rfl, rfl, rfl, HMb.out.1, HMb.out.2.1, HMb.out.2.2, HXb.out⟩
        · rw [if_pos (by rfl)]
          go_simp
          obtain ⟨y3, hy3⟩ : ∃ Y, Y = y2.alloc (.cells #[.int .i64 0, .int .i64 0, .int .u8 0, .int .i64 0, .int .i64 0, .float .f64 0] 41) := ⟨_, rfl⟩
          obtain ⟨B6, hB6⟩ : ∃ b, b = y2.heap.size := ⟨_, rfl⟩
          have ho : Only (fun _ => False) y2 y3 := by rw [hy3]; exact (Only.refl _ _).alloc _
          have HXy3 : Hid (Only (fun _ => False) w2 y3) := HXy2.out.trans ho
          have HB6y3 : Hid (Blk w2 y3 B6 41 #[.int .i64 0, .int .i64 0, .int .u8 0, .int .i64 0, .int .i64 0, .float .f64 0]) := by rw [hy3, hB6]; exact Blk.made HXy2.out _ _
          have HMy3 : Hid (Made y3 L n0 k aC aO cC cO) := HMy2.out.keep ho
          rw [← hy3, ← hB6]
          clear hy3 hB6 ho
          refine hK.out _ _ (HKS.out _ HXy3.out) (fun hHeld => ?_)
          clear hK
          (try simp only [Act.put, List.setIfInBounds_toArray, List.set_cons_zero, List.set_cons_succ])
          refine wpAnyH_ready (rs := [8]) (by kernel_rfl) (by simp) ?_
          refine AllReadyH.cons rfl (fun K hK => ?_) AllReadyH.nil
          rw [if_pos (by rfl)]
          go_simp
          obtain ⟨y4, hy4⟩ : ∃ Y, Y = y3.alloc (.cells #[.slice none 0 0, .slice none 0 0] 37) := ⟨_, rfl⟩
          obtain ⟨B5, hB5⟩ : ∃ b, b = y3.heap.size := ⟨_, rfl⟩
          have ho : Only (fun _ => False) y3 y4 := by rw [hy4]; exact (Only.refl _ _).alloc _
          have HXy4 : Hid (Only (fun _ => False) w2 y4) := HXy3.out.trans ho
          have HB5y4 : Hid (Blk w2 y4 B5 37 #[.slice none 0 0, .slice none 0 0]) := by rw [hy4, hB5]; exact Blk.made HXy3.out _ _
          have HB6y4 : Hid (Blk w2 y4 B6 41 #[.int .i64 0, .int .i64 0, .int .u8 0, .int .i64 0, .int .i64 0, .float .f64 0]) := HB6y3.out.keep ho
          have HMy4 : Hid (Made y4 L n0 k aC aO cC cO) := HMy3.out.keep ho
          rw [← hy4, ← hB5]
          clear hy4 hB5 ho
          refine hK.out _ _ (HKS.out _ HXy4.out) (fun hHeld => ?_)
          clear hK
          (try simp only [Act.put, List.setIfInBounds_toArray, List.set_cons_zero, List.set_cons_succ])
          refine wpAnyH_ready (rs := [10]) (by kernel_rfl) (by simp) ?_
          refine AllReadyH.cons rfl (fun K hK => ?_) AllReadyH.nil
          rw [if_pos (by rfl)]
          have HXa : Hid (Only (fun _ => False) w2 (y4.setRow B5 #[.slice aC k cC, .slice aO (k + 1) cO])) := HXy4.out.setRowNew HB5y4.out.2 _
          refine wp_store_row 37 _ _ rfl B5 #[.slice aC k cC, .slice aO (k + 1) cO] rfl rfl 37 _ HB5y4.out.1 (by kernel_rfl) rfl (two_one _ _ _ _ _ _) ?_
          have HMa : Hid (Made (y4.setRow B5 #[.slice aC k cC, .slice aO (k + 1) cO]) L n0 k aC aO cC cO ∧ Blk w2 (y4.setRow B5 #[.slice aC k cC, .slice aO (k + 1) cO]) B5 37 #[.slice aC k cC, .slice aO (k + 1) cO] ∧ Blk w2 (y4.setRow B5 #[.slice aC k cC, .slice aO (k + 1) cO]) B6 41 #[.int .i64 0, .int .i64 0, .int .u8 0, .int .i64 0, .int .i64 0, .float .f64 0]) := ⟨HMy4.out.store HB5y4.out.1 (by decide) (by decide) _, HB5y4.out.put _, HB6y4.out.far HB5y4.out (by decide) _⟩
          obtain ⟨za, hza⟩ : ∃ Y, Y = y4.setRow B5 #[.slice aC k cC, .slice aO (k + 1) cO] := ⟨_, rfl⟩
          rw [← hza] at HXa HMa ⊢
          clear hza
          refine hK.out _ _ (HKS.out _ HXa.out) (fun hHeld => ?_)
          clear hK
          (try simp only [Act.put, List.setIfInBounds_toArray, List.set_cons_zero, List.set_cons_succ])
          refine wpAnyH_ready (rs := [11]) (by kernel_rfl) (by simp) ?_
          refine AllReadyH.cons rfl (fun K hK => ?_) AllReadyH.nil
          rw [if_pos (by rfl)]
          have HXb : Hid (Only (fun _ => False) w2 (za.setRow B6 #[.int .i64 (W1 : Int), .int .i64 (T1 : Int), .int .u8 (M1 : Int), .int .i64 (hy : Int), .int .i64 (pr : Int), .float .f64 lo])) := HXa.out.setRowNew HMa.out.2.2.2 _
          refine wp_store_row 41 _ _ rfl B6 #[.int .i64 (W1 : Int), .int .i64 (T1 : Int), .int .u8 (M1 : Int), .int .i64 (hy : Int), .int .i64 (pr : Int), .float .f64 lo] rfl rfl 41 _ HMa.out.2.2.1 (by kernel_rfl) rfl (cfg_one _ _ _ _ _ _) ?_
          have HMb : Hid (Made (za.setRow B6 #[.int .i64 (W1 : Int), .int .i64 (T1 : Int), .int .u8 (M1 : Int), .int .i64 (hy : Int), .int .i64 (pr : Int), .float .f64 lo]) L n0 k aC aO cC cO ∧ Blk w2 (za.setRow B6 #[.int .i64 (W1 : Int), .int .i64 (T1 : Int), .int .u8 (M1 : Int), .int .i64 (hy : Int), .int .i64 (pr : Int), .float .f64 lo]) B5 37 #[.slice aC k cC, .slice aO (k + 1) cO] ∧ Blk w2 (za.setRow B6 #[.int .i64 (W1 : Int), .int .i64 (T1 : Int), .int .u8 (M1 : Int), .int .i64 (hy : Int), .int .i64 (pr : Int), .float .f64 lo]) B6 41 #[.int .i64 (W1 : Int), .int .i64 (T1 : Int), .int .u8 (M1 : Int), .int .i64 (hy : Int), .int .i64 (pr : Int), .float .f64 lo]) := ⟨HMa.out.1.store HMa.out.2.2.1 (by decide) (by decide) _, HMa.out.2.1.far HMa.out.2.2 (by decide) _, HMa.out.2.2.put _⟩
          obtain ⟨zb, hzb⟩ : ∃ Y, Y = za.setRow B6 #[.int .i64 (W1 : Int), .int .i64 (T1 : Int), .int .u8 (M1 : Int), .int .i64 (hy : Int), .int .i64 (pr : Int), .float .f64 lo] := ⟨_, rfl⟩
          rw [← hzb] at HXb HMb ⊢
          clear hzb
          refine hK.out _ _ (HKS.out _ HXb.out) (fun hHeld => ?_)
          clear hK
          (try simp only [Act.put, List.setIfInBounds_toArray, List.set_cons_zero, List.set_cons_succ])
          refine wpAnyH_done (by kernel_rfl) ?_ _
          clear hHeld
          go_wp2_with fail
          go_meet
          exact ⟨k, B5, B6, aC, aO, cC, cO, _, rfl, rfl, rfl, HMb.out.1, HMb.out.2.1, HMb.out.2.2, HXb.out⟩
      · rw [if_pos (by rfl)]
        go_simp
        obtain ⟨y2, hy2⟩ : ∃ Y, Y = y1.alloc (.cells #[.slice none 0 0, .slice none 0 0] 37) := ⟨_, rfl⟩
        obtain ⟨B5, hB5⟩ : ∃ b, b = y1.heap.size := ⟨_, rfl⟩
        have ho : Only (fun _ => False) y1 y2 := by rw [hy2]; exact (Only.refl _ _).alloc _
        have HXy2 : Hid (Only (fun _ => False) w2 y2) := HXy1.out.trans ho
        have HB5y2 : Hid (Blk w2 y2 B5 37 #[.slice none 0 0, .slice none 0 0]) := by rw [hy2, hB5]; exact Blk.made HXy1.out _ _
        have HMy2 : Hid (Made y2 L n0 k aC aO cC cO) := HMy1.out.keep ho
        rw [← hy2, ← hB5]
        clear hy2 hB5 ho
        refine hK.out _ _ (HKS.out _ HXy2.out) (fun hHeld => ?_)
        clear hK
        (try simp only [Act.put, List.setIfInBounds_toArray, List.set_cons_zero, List.set_cons_succ])
        refine wpAnyH_ready (rs := [7, 9]) (by kernel_rfl) (by simp) ?_
        refine AllReadyH.cons rfl (fun K hK => ?_) (AllReadyH.cons rfl (fun K hK => ?_) AllReadyH.nil)
        · rw [if_pos (by rfl)]
          go_simp
          refine Calls.mono (HCF.out _) ?_
          rintro e y3 ⟨rfl, ho⟩
          have HMy3 : Hid (Made y3 L n0 k aC aO cC cO) := HMy2.out.keep ho
          have HXy3 : Hid (Only (fun _ => False) w2 y3) := HXy2.out.trans ho
          have HB5y3 : Hid (Blk w2 y3 B5 37 #[.slice none 0 0, .slice none 0 0]) := HB5y2.out.keep ho
          clear ho
          refine hK.out _ _ (HKS.out _ HXy3.out) (fun hHeld => ?_)
          clear hK
          (try simp only [Act.put, List.setIfInBounds_toArray, List.set_cons_zero, List.set_cons_succ])
          refine wpAnyH_ready (rs := [9]) (by kernel_rfl) (by simp) ?_
          refine AllReadyH.cons rfl (fun K hK => ?_) AllReadyH.nil
          rw [if_pos (by rfl)]
          go_simp
          obtain ⟨y4, hy4⟩ : ∃ Y, Y = y3.alloc (.cells #[.int .i64 0, .int .i64 0, .int .u8 0, .int .i64 0, .int .i64 0, .float .f64 0] 41) := ⟨_, rfl⟩
          obtain ⟨B6, hB6⟩ : ∃ b, b = y3.heap.size := ⟨_, rfl⟩
          have ho : Only (fun _ => False) y3 y4 := by rw [hy4]; exact (Only.refl _ _).alloc _
          have HXy4 : Hid (Only (fun _ => False) w2 y4) := HXy3.out.trans ho
          have HB6y4 : Hid (Blk w2 y4 B6 41 #[.int .i64 0, .int .i64 0, .int .u8 0, .int .i64 0, .int .i64 0, .float .f64 0]) := by rw [hy4, hB6]; exact Blk.made HXy3.out _ _
          have HB5y4 : Hid (Blk w2 y4 B5 37 #[.slice none 0 0, .slice none 0 0]) := HB5y3.out.keep ho
          have HMy4 : Hid (Made y4 L n0 k aC aO cC cO) := HMy3.out.keep ho
          rw [← hy4, ← hB6]
          clear hy4 hB6 ho
          refine hK.out _ _ (HKS.out _ HXy4.out) (fun hHeld => ?_)
          clear hK
          (try simp only [Act.put, List.setIfInBounds_toArray, List.set_cons_zero, List.set_cons_succ])
          refine wpAnyH_ready (rs := [10]) (by kernel_rfl) (by simp) ?_
          refine AllReadyH.cons rfl (fun K hK => ?_) AllReadyH.nil
          rw [if_pos (by rfl)]
          have HXa : Hid (Only (fun _ => False) w2 (y4.setRow B5 #[.slice aC k cC, .slice aO (k + 1) cO])) := HXy4.out.setRowNew HB5y4.out.2 _
          refine wp_store_row 37 _ _ rfl B5 #[.slice aC k cC, .slice aO (k + 1) cO] rfl rfl 37 _ HB5y4.out.1 (by kernel_rfl) rfl (two_one _ _ _ _ _ _) ?_
          have HMa : Hid (Made (y4.setRow B5 #[.slice aC k cC, .slice aO (k + 1) cO]) L n0 k aC aO cC cO ∧ Blk w2 (y4.setRow B5 #[.slice aC k cC, .slice aO (k + 1) cO]) B5 37 #[.slice aC k cC, .slice aO (k + 1) cO] ∧ Blk w2 (y4.setRow B5 #[.slice aC k cC, .slice aO (k + 1) cO]) B6 41 #[.int .i64 0, .int .i64 0, .int .u8 0, .int .i64 0, .int .i64 0, .float .f64 0]) := ⟨HMy4.out.store HB5y4.out.1 (by decide) (by decide) _, HB5y4.out.put _, HB6y4.out.far HB5y4.out (by decide) _⟩
          obtain ⟨za, hza⟩ : ∃ Y, Y = y4.setRow B5 #[.slice aC k cC, .slice aO (k + 1) cO] := ⟨_, rfl⟩
          rw [← hza] at HXa HMa ⊢
          clear hza
          refine hK.out _ _ (HKS.out _ HXa.out) (fun hHeld => ?_)
          clear hK
          (try simp only [Act.put, List.setIfInBounds_toArray, List.set_cons_zero, List.set_cons_succ])
          refine wpAnyH_ready (rs := [11]) (by kernel_rfl) (by simp) ?_
          refine AllReadyH.cons rfl (fun K hK => ?_) AllReadyH.nil
          rw [if_pos (by rfl)]
          have HXb : Hid (Only (fun _ => False) w2 (za.setRow B6 #[.int .i64 (W1 : Int), .int .i64 (T1 : Int), .int .u8 (M1 : Int), .int .i64 (hy : Int), .int .i64 (pr : Int), .float .f64 lo])) := HXa.out.setRowNew HMa.out.2.2.2 _
          refine wp_store_row 41 _ _ rfl B6 #[.int .i64 (W1 : Int), .int .i64 (T1 : Int), .int .u8 (M1 : Int), .int .i64 (hy : Int), .int .i64 (pr : Int), .float .f64 lo] rfl rfl 41 _ HMa.out.2.2.1 (by kernel_rfl) rfl (cfg_one _ _ _ _ _ _) ?_
          have HMb : Hid (Made (za.setRow B6 #[.int .i64 (W1 : Int), .int .i64 (T1 : Int), .int .u8 (M1 : Int), .int .i64 (hy : Int), .int .i64 (pr : Int), .float .f64 lo]) L n0 k aC aO cC cO ∧ Blk w2 (za.setRow B6 #[.int .i64 (W1 : Int), .int .i64 (T1 : Int), .int .u8 (M1 : Int), .int .i64 (hy : Int), .int .i64 (pr : Int), .float .f64 lo]) B5 37 #[.slice aC k cC, .slice aO (k + 1) cO] ∧ Blk w2 (za.setRow B6 #[.int .i64 (W1 : Int), .int .i64 (T1 : Int), .int .u8 (M1 : Int), .int .i64 (hy : Int), .int .i64 (pr : Int), .float .f64 lo]) B6 41 #[.int .i64 (W1 : Int), .int .i64 (T1 : Int), .int .u8 (M1 : Int), .int .i64 (hy : Int), .int .i64 (pr : Int), .float .f64 lo]) := ⟨HMa.out.1.store HMa.out.2.2.1 (by decide) (by decide) _, HMa.out.2.1.far HMa.out.2.2 (by decide) _, HMa.out.2.2.put _⟩
          obtain ⟨zb, hzb⟩ : ∃ Y, Y = za.setRow B6 #[.int .i64 (W1 : Int), .int .i64 (T1 : Int), .int .u8 (M1 : Int), .int .i64 (hy : Int), .int .i64 (pr : Int), .float .f64 lo] := ⟨_, rfl⟩
          rw [← hzb] at HXb HMb ⊢
          clear hzb
          refine hK.out _ _ (HKS.out _ HXb.out) (fun hHeld => ?_)
          clear hK
          (try simp only [Act.put, List.setIfInBounds_toArray, List.set_cons_zero, List.set_cons_succ])
          refine wpAnyH_done (by kernel_rfl) ?_ _
          clear hHeld
          go_wp2_with fail
          go_meet
          exact ⟨k, B5, B6, aC, aO, cC, cO, _, rfl, rfl, rfl, HMb.out.1, HMb.out.2.1, HMb.out.2.2, HXb.out⟩
        · rw [if_pos (by rfl)]
          go_simp
          obtain ⟨y3, hy3⟩ : ∃ Y, Y = y2.alloc (.cells #[.int .i64 0, .int .i64 0, .int .u8 0, .int .i64 0, .int .i64 0, .float .f64 0] 41) := ⟨_, rfl⟩
          obtain ⟨B6, hB6⟩ : ∃ b, b = y2.heap.size := ⟨_, rfl⟩
          have ho : Only (fun _ => False) y2 y3 := by rw [hy3]; exact (Only.refl _ _).alloc _
          have HXy3 : Hid (Only (fun _ => False) w2 y3) := HXy2.out.trans ho
          have HB6y3 : Hid (Blk w2 y3 B6 41 #[.int .i64 0, .int .i64 0, .int .u8 0, .int .i64 0, .int .i64 0, .float .f64 0]) := by rw [hy3, hB6]; exact Blk.made HXy2.out _ _
          have HB5y3 : Hid (Blk w2 y3 B5 37 #[.slice none 0 0, .slice none 0 0]) := HB5y2.out.keep ho
          have HMy3 : Hid (Made y3 L n0 k aC aO cC cO) := HMy2.out.keep ho
          rw [← hy3, ← hB6]
          clear hy3 hB6 ho
          refine hK.out _ _ (HKS.out _ HXy3.out) (fun hHeld => ?_)
          clear hK
          (try simp only [Act.put, List.setIfInBounds_toArray, List.set_cons_zero, List.set_cons_succ])
          refine wpAnyH_ready (rs := [7]) (by kernel_rfl) (by simp) ?_
          refine AllReadyH.cons rfl (fun K hK => ?_) AllReadyH.nil
          rw [if_pos (by rfl)]
          go_simp
          refine Calls.mono (HCF.out _) ?_
          rintro e y4 ⟨rfl, ho⟩
          have HMy4 : Hid (Made y4 L n0 k aC aO cC cO) := HMy3.out.keep ho
          have HXy4 : Hid (Only (fun _ => False) w2 y4) := HXy3.out.trans ho
          have HB5y4 : Hid (Blk w2 y4 B5 37 #[.slice none 0 0, .slice none 0 0]) := HB5y3.out.keep ho
          have HB6y4 : Hid (Blk w2 y4 B6 41 #[.int .i64 0, .int .i64 0, .int .u8 0, .int .i64 0, .int .i64 0, .float .f64 0]) := HB6y3.out.keep ho
          clear ho
          refine hK.out _ _ (HKS.out _ HXy4.out) (fun hHeld => ?_)
          clear hK
          (try simp only [Act.put, List.setIfInBounds_toArray, List.set_cons_zero, List.set_cons_succ])
          refine wpAnyH_ready (rs := [10]) (by kernel_rfl) (by simp) ?_
          refine AllReadyH.cons rfl (fun K hK => ?_) AllReadyH.nil
          rw [if_pos (by rfl)]
          have HXa : Hid (Only (fun _ => False) w2 (y4.setRow B5 #[.slice aC k cC, .slice aO (k + 1) cO])) := HXy4.out.setRowNew HB5y4.out.2 _
          refine wp_store_row 37 _ _ rfl B5 #[.slice aC k cC, .slice aO (k + 1) cO] rfl rfl 37 _ HB5y4.out.1 (by kernel_rfl) rfl (two_one _ _ _ _ _ _) ?_
          have HMa : Hid (Made (y4.setRow B5 #[.slice aC k cC, .slice aO (k + 1) cO]) L n0 k aC aO cC cO ∧ Blk w2 (y4.setRow B5 #[.slice aC k cC, .slice aO (k + 1) cO]) B5 37 #[.slice aC k cC, .slice aO (k + 1) cO] ∧ Blk w2 (y4.setRow B5 #[.slice aC k cC, .slice aO (k + 1) cO]) B6 41 #[.int .i64 0, .int .i64 0, .int .u8 0, .int .i64 0, .int .i64 0, .float .f64 0]) := ⟨HMy4.out.store HB5y4.out.1 (by decide) (by decide) _, HB5y4.out.put _, HB6y4.out.far HB5y4.out (by decide) _⟩
          obtain ⟨za, hza⟩ : ∃ Y, Y = y4.setRow B5 #[.slice aC k cC, .slice aO (k + 1) cO] := ⟨_, rfl⟩
          rw [← hza] at HXa HMa ⊢
          clear hza
          refine hK.out _ _ (HKS.out _ HXa.out) (fun hHeld => ?_)
          clear hK
          (try simp only [Act.put, List.setIfInBounds_toArray, List.set_cons_zero, List.set_cons_succ])
          refine wpAnyH_ready (rs := [11]) (by kernel_rfl) (by simp) ?_
          refine AllReadyH.cons rfl (fun K hK => ?_) AllReadyH.nil
          rw [if_pos (by rfl)]
          have HXb : Hid (Only (fun _ => False) w2 (za.setRow B6 #[.int .i64 (W1 : Int), .int .i64 (T1 : Int), .int .u8 (M1 : Int), .int .i64 (hy : Int), .int .i64 (pr : Int), .float .f64 lo])) := HXa.out.setRowNew HMa.out.2.2.2 _
          refine wp_store_row 41 _ _ rfl B6 #[.int .i64 (W1 : Int), .int .i64 (T1 : Int), .int .u8 (M1 : Int), .int .i64 (hy : Int), .int .i64 (pr : Int), .float .f64 lo] rfl rfl 41 _ HMa.out.2.2.1 (by kernel_rfl) rfl (cfg_one _ _ _ _ _ _) ?_
          have HMb : Hid (Made (za.setRow B6 #[.int .i64 (W1 : Int), .int .i64 (T1 : Int), .int .u8 (M1 : Int), .int .i64 (hy : Int), .int .i64 (pr : Int), .float .f64 lo]) L n0 k aC aO cC cO ∧ Blk w2 (za.setRow B6 #[.int .i64 (W1 : Int), .int .i64 (T1 : Int), .int .u8 (M1 : Int), .int .i64 (hy : Int), .int .i64 (pr : Int), .float .f64 lo]) B5 37 #[.slice aC k cC, .slice aO (k + 1) cO] ∧ Blk w2 (za.setRow B6 #[.int .i64 (W1 : Int), .int .i64 (T1 : Int), .int .u8 (M1 : Int), .int .i64 (hy : Int), .int .i64 (pr : Int), .float .f64 lo]) B6 41 #[.int .i64 (W1 : Int), .int .i64 (T1 : Int), .int .u8 (M1 : Int), .int .i64 (hy : Int), .int .i64 (pr : Int), .float .f64 lo]) := ⟨HMa.out.1.store HMa.out.2.2.1 (by decide) (by decide) _, HMa.out.2.1.far HMa.out.2.2 (by decide) _, HMa.out.2.2.put _⟩
          obtain ⟨zb, hzb⟩ : ∃ Y, Y = za.setRow B6 #[.int .i64 (W1 : Int), .int .i64 (T1 : Int), .int .u8 (M1 : Int), .int .i64 (hy : Int), .int .i64 (pr : Int), .float .f64 lo] := ⟨_, rfl⟩
          rw [← hzb] at HXb HMb ⊢
          clear hzb
          refine hK.out _ _ (HKS.out _ HXb.out) (fun hHeld => ?_)
          clear hK
          (try simp only [Act.put, List.setIfInBounds_toArray, List.set_cons_zero, List.set_cons_succ])
          refine wpAnyH_done (by kernel_rfl) ?_ _
          clear hHeld
          go_wp2_with fail
          go_meet
          exact ⟨k, B5, B6, aC, aO, cC, cO, _, rfl, rfl, rfl, HMb.out.1, HMb.out.2.1, HMb.out.2.2, HXb.out⟩
      · rw [if_pos (by rfl)]
        go_simp
        obtain ⟨y2, hy2⟩ : ∃ Y, Y = y1.alloc (.cells #[.int .i64 0, .int .i64 0, .int .u8 0, .int .i64 0, .int .i64 0, .float .f64 0] 41) := ⟨_, rfl⟩
        obtain ⟨B6, hB6⟩ : ∃ b, b = y1.heap.size := ⟨_, rfl⟩
        have ho : Only (fun _ => False) y1 y2 := by rw [hy2]; exact (Only.refl _ _).alloc _
        have HXy2 : Hid (Only (fun _ => False) w2 y2) := HXy1.out.trans ho
        have HB6y2 : Hid (Blk w2 y2 B6 41 #[.int .i64 0, .int .i64 0, .int .u8 0, .int .i64 0, .int .i64 0, .float .f64 0]) := by rw [hy2, hB6]; exact Blk.made HXy1.out _ _
        have HMy2 : Hid (Made y2 L n0 k aC aO cC cO) := HMy1.out.keep ho
        rw [← hy2, ← hB6]
        clear hy2 hB6 ho
        refine hK.out _ _ (HKS.out _ HXy2.out) (fun hHeld => ?_)
        clear hK
        (try simp only [Act.put, List.setIfInBounds_toArray, List.set_cons_zero, List.set_cons_succ])
        refine wpAnyH_ready (rs := [7, 8]) (by kernel_rfl) (by simp) ?_
        refine AllReadyH.cons rfl (fun K hK => ?_) (AllReadyH.cons rfl (fun K hK => ?_) AllReadyH.nil)
        · rw [if_pos (by rfl)]
          go_simp
          refine Calls.mono (HCF.out _) ?_
          rintro e y3 ⟨rfl, ho⟩
          have HMy3 : Hid (Made y3 L n0 k aC aO cC cO) := HMy2.out.keep ho
          have HXy3 : Hid (Only (fun _ => False) w2 y3) := HXy2.out.trans ho
          have HB6y3 : Hid (Blk w2 y3 B6 41 #[.int .i64 0, .int .i64 0, .int .u8 0, .int .i64 0, .int .i64 0, .float .f64 0]) := HB6y2.out.keep ho
          clear ho
          refine hK.out _ _ (HKS.out _ HXy3.out) (fun hHeld => ?_)
          clear hK
          (try simp only [Act.put, List.setIfInBounds_toArray, List.set_cons_zero, List.set_cons_succ])
          refine wpAnyH_ready (rs := [8]) (by kernel_rfl) (by simp) ?_
          refine AllReadyH.cons rfl (fun K hK => ?_) AllReadyH.nil
          rw [if_pos (by rfl)]
          go_simp
          obtain ⟨y4, hy4⟩ : ∃ Y, Y = y3.alloc (.cells #[.slice none 0 0, .slice none 0 0] 37) := ⟨_, rfl⟩
          obtain ⟨B5, hB5⟩ : ∃ b, b = y3.heap.size := ⟨_, rfl⟩
          have ho : Only (fun _ => False) y3 y4 := by rw [hy4]; exact (Only.refl _ _).alloc _
          have HXy4 : Hid (Only (fun _ => False) w2 y4) := HXy3.out.trans ho
          have HB5y4 : Hid (Blk w2 y4 B5 37 #[.slice none 0 0, .slice none 0 0]) := by rw [hy4, hB5]; exact Blk.made HXy3.out _ _
          have HB6y4 : Hid (Blk w2 y4 B6 41 #[.int .i64 0, .int .i64 0, .int .u8 0, .int .i64 0, .int .i64 0, .float .f64 0]) := HB6y3.out.keep ho
          have HMy4 : Hid (Made y4 L n0 k aC aO cC cO) := HMy3.out.keep ho
          rw [← hy4, ← hB5]
          clear hy4 hB5 ho
          refine hK.out _ _ (HKS.out _ HXy4.out) (fun hHeld => ?_)
          clear hK
          (try simp only [Act.put, List.setIfInBounds_toArray, List.set_cons_zero, List.set_cons_succ])
          refine wpAnyH_ready (rs := [10]) (by kernel_rfl) (by simp) ?_
          refine AllReadyH.cons rfl (fun K hK => ?_) AllReadyH.nil
          rw [if_pos (by rfl)]
          have HXa : Hid (Only (fun _ => False) w2 (y4.setRow B5 #[.slice aC k cC, .slice aO (k + 1) cO])) := HXy4.out.setRowNew HB5y4.out.2 _
          refine wp_store_row 37 _ _ rfl B5 #[.slice aC k cC, .slice aO (k + 1) cO] rfl rfl 37 _ HB5y4.out.1 (by kernel_rfl) rfl (two_one _ _ _ _ _ _) ?_
          have HMa : Hid (Made (y4.setRow B5 #[.slice aC k cC, .slice aO (k + 1) cO]) L n0 k aC aO cC cO ∧ Blk w2 (y4.setRow B5 #[.slice aC k cC, .slice aO (k + 1) cO]) B5 37 #[.slice aC k cC, .slice aO (k + 1) cO] ∧ Blk w2 (y4.setRow B5 #[.slice aC k cC, .slice aO (k + 1) cO]) B6 41 #[.int .i64 0, .int .i64 0, .int .u8 0, .int .i64 0, .int .i64 0, .float .f64 0]) := ⟨HMy4.out.store HB5y4.out.1 (by decide) (by decide) _, HB5y4.out.put _, HB6y4.out.far HB5y4.out (by decide) _⟩
          obtain ⟨za, hza⟩ : ∃ Y, Y = y4.setRow B5 #[.slice aC k cC, .slice aO (k + 1) cO] := ⟨_, rfl⟩
          rw [← hza] at HXa HMa ⊢
          clear hza
          refine hK.out _ _ (HKS.out _ HXa.out) (fun hHeld => ?_)
          clear hK
          (try simp only [Act.put, List.setIfInBounds_toArray, List.set_cons_zero, List.set_cons_succ])
          refine wpAnyH_ready (rs := [11]) (by kernel_rfl) (by simp) ?_
          refine AllReadyH.cons rfl (fun K hK => ?_) AllReadyH.nil
          rw [if_pos (by rfl)]
          have HXb : Hid (Only (fun _ => False) w2 (za.setRow B6 #[.int .i64 (W1 : Int), .int .i64 (T1 : Int), .int .u8 (M1 : Int), .int .i64 (hy : Int), .int .i64 (pr : Int), .float .f64 lo])) := HXa.out.setRowNew HMa.out.2.2.2 _
          refine wp_store_row 41 _ _ rfl B6 #[.int .i64 (W1 : Int), .int .i64 (T1 : Int), .int .u8 (M1 : Int), .int .i64 (hy : Int), .int .i64 (pr : Int), .float .f64 lo] rfl rfl 41 _ HMa.out.2.2.1 (by kernel_rfl) rfl (cfg_one _ _ _ _ _ _) ?_
          have HMb : Hid (Made (za.setRow B6 #[.int .i64 (W1 : Int), .int .i64 (T1 : Int), .int .u8 (M1 : Int), .int .i64 (hy : Int), .int .i64 (pr : Int), .float .f64 lo]) L n0 k aC aO cC cO ∧ Blk w2 (za.setRow B6 #[.int .i64 (W1 : Int), .int .i64 (T1 : Int), .int .u8 (M1 : Int), .int .i64 (hy : Int), .int .i64 (pr : Int), .float .f64 lo]) B5 37 #[.slice aC k cC, .slice aO (k + 1) cO] ∧ Blk w2 (za.setRow B6 #[.int .i64 (W1 : Int), .int .i64 (T1 : Int), .int .u8 (M1 : Int), .int .i64 (hy : Int), .int .i64 (pr : Int), .float .f64 lo]) B6 41 #[.int .i64 (W1 : Int), .int .i64 (T1 : Int), .int .u8 (M1 : Int), .int .i64 (hy : Int), .int .i64 (pr : Int), .float .f64 lo]) := ⟨HMa.out.1.store HMa.out.2.2.1 (by decide) (by decide) _, HMa.out.2.1.far HMa.out.2.2 (by decide) _, HMa.out.2.2.put _⟩
          obtain ⟨zb, hzb⟩ : ∃ Y, Y = za.setRow B6 #[.int .i64 (W1 : Int), .int .i64 (T1 : Int), .int .u8 (M1 : Int), .int .i64 (hy : Int), .int .i64 (pr : Int), .float .f64 lo] := ⟨_, rfl⟩
          rw [← hzb] at HXb HMb ⊢
          clear hzb
          refine hK.out _ _ (HKS.out _ HXb.out) (fun hHeld => ?_)
          clear hK
          (try simp only [Act.put, List.setIfInBounds_toArray, List.set_cons_zero, List.set_cons_succ])
          refine wpAnyH_done (by kernel_rfl) ?_ _
          clear hHeld
          go_wp2_with fail
          go_meet
          exact ⟨k, B5, B6, aC, aO, cC, cO, _, rfl, rfl, rfl, HMb.out.1, HMb.out.2.1, HMb.out.2.2, HXb.out⟩
        · rw [if_pos (by rfl)]
          go_simp
          obtain ⟨y3, hy3⟩ : ∃ Y, Y = y2.alloc (.cells #[.slice none 0 0, .slice none 0 0] 37) := ⟨_, rfl⟩
          obtain ⟨B5, hB5⟩ : ∃ b, b = y2.heap.size := ⟨_, rfl⟩
          have ho : Only (fun _ => False) y2 y3 := by rw [hy3]; exact (Only.refl _ _).alloc _
          have HXy3 : Hid (Only (fun _ => False) w2 y3) := HXy2.out.trans ho
          have HB5y3 : Hid (Blk w2 y3 B5 37 #[.slice none 0 0, .slice none 0 0]) := by rw [hy3, hB5]; exact Blk.made HXy2.out _ _
          have HB6y3 : Hid (Blk w2 y3 B6 41 #[.int .i64 0, .int .i64 0, .int .u8 0, .int .i64 0, .int .i64 0, .float .f64 0]) := HB6y2.out.keep ho
          have HMy3 : Hid (Made y3 L n0 k aC aO cC cO) := HMy2.out.keep ho
          rw [← hy3, ← hB5]
          clear hy3 hB5 ho
          refine hK.out _ _ (HKS.out _ HXy3.out) (fun hHeld => ?_)
          clear hK
          (try simp only [Act.put, List.setIfInBounds_toArray, List.set_cons_zero, List.set_cons_succ])
          refine wpAnyH_ready (rs := [7]) (by kernel_rfl) (by simp) ?_
          refine AllReadyH.cons rfl (fun K hK => ?_) AllReadyH.nil
          rw [if_pos (by rfl)]
          go_simp
          refine Calls.mono (HCF.out _) ?_
          rintro e y4 ⟨rfl, ho⟩
          have HMy4 : Hid (Made y4 L n0 k aC aO cC cO) := HMy3.out.keep ho
          have HXy4 : Hid (Only (fun _ => False) w2 y4) := HXy3.out.trans ho
          have HB5y4 : Hid (Blk w2 y4 B5 37 #[.slice none 0 0, .slice none 0 0]) := HB5y3.out.keep ho
          have HB6y4 : Hid (Blk w2 y4 B6 41 #[.int .i64 0, .int .i64 0, .int .u8 0, .int .i64 0, .int .i64 0, .float .f64 0]) := HB6y3.out.keep ho
          clear ho
          refine hK.out _ _ (HKS.out _ HXy4.out) (fun hHeld => ?_)
          clear hK
          (try simp only [Act.put, List.setIfInBounds_toArray, List.set_cons_zero, List.set_cons_succ])
          refine wpAnyH_ready (rs := [10]) (by kernel_rfl) (by simp) ?_
          refine AllReadyH.cons rfl (fun K hK => ?_) AllReadyH.nil
          rw [if_pos (by rfl)]
          have HXa : Hid (Only (fun _ => False) w2 (y4.setRow B5 #[.slice aC k cC, .slice aO (k + 1) cO])) := HXy4.out.setRowNew HB5y4.out.2 _
          refine wp_store_row 37 _ _ rfl B5 #[.slice aC k cC, .slice aO (k + 1) cO] rfl rfl 37 _ HB5y4.out.1 (by kernel_rfl) rfl (two_one _ _ _ _ _ _) ?_
          have HMa : Hid (Made (y4.setRow B5 #[.slice aC k cC, .slice aO (k + 1) cO]) L n0 k aC aO cC cO ∧ Blk w2 (y4.setRow B5 #[.slice aC k cC, .slice aO (k + 1) cO]) B5 37 #[.slice aC k cC, .slice aO (k + 1) cO] ∧ Blk w2 (y4.setRow B5 #[.slice aC k cC, .slice aO (k + 1) cO]) B6 41 #[.int .i64 0, .int .i64 0, .int .u8 0, .int .i64 0, .int .i64 0, .float .f64 0]) := ⟨HMy4.out.store HB5y4.out.1 (by decide) (by decide) _, HB5y4.out.put _, HB6y4.out.far HB5y4.out (by decide) _⟩
          obtain ⟨za, hza⟩ : ∃ Y, Y = y4.setRow B5 #[.slice aC k cC, .slice aO (k + 1) cO] := ⟨_, rfl⟩
          rw [← hza] at HXa HMa ⊢
          clear hza
          refine hK.out _ _ (HKS.out _ HXa.out) (fun hHeld => ?_)
          clear hK
          (try simp only [Act.put, List.setIfInBounds_toArray, List.set_cons_zero, List.set_cons_succ])
          refine wpAnyH_ready (rs := [11]) (by kernel_rfl) (by simp) ?_
          refine AllReadyH.cons rfl (fun K hK => ?_) AllReadyH.nil
          rw [if_pos (by rfl)]
          have HXb : Hid (Only (fun _ => False) w2 (za.setRow B6 #[.int .i64 (W1 : Int), .int .i64 (T1 : Int), .int .u8 (M1 : Int), .int .i64 (hy : Int), .int .i64 (pr : Int), .float .f64 lo])) := HXa.out.setRowNew HMa.out.2.2.2 _
          refine wp_store_row 41 _ _ rfl B6 #[.int .i64 (W1 : Int), .int .i64 (T1 : Int), .int .u8 (M1 : Int), .int .i64 (hy : Int), .int .i64 (pr : Int), .float .f64 lo] rfl rfl 41 _ HMa.out.2.2.1 (by kernel_rfl) rfl (cfg_one _ _ _ _ _ _) ?_
          have HMb : Hid (Made (za.setRow B6 #[.int .i64 (W1 : Int), .int .i64 (T1 : Int), .int .u8 (M1 : Int), .int .i64 (hy : Int), .int .i64 (pr : Int), .float .f64 lo]) L n0 k aC aO cC cO ∧ Blk w2 (za.setRow B6 #[.int .i64 (W1 : Int), .int .i64 (T1 : Int), .int .u8 (M1 : Int), .int .i64 (hy : Int), .int .i64 (pr : Int), .float .f64 lo]) B5 37 #[.slice aC k cC, .slice aO (k + 1) cO] ∧ Blk w2 (za.setRow B6 #[.int .i64 (W1 : Int), .int .i64 (T1 : Int), .int .u8 (M1 : Int), .int .i64 (hy : Int), .int .i64 (pr : Int), .float .f64 lo]) B6 41 #[.int .i64 (W1 : Int), .int .i64 (T1 : Int), .int .u8 (M1 : Int), .int .i64 (hy : Int), .int .i64 (pr : Int), .float .f64 lo]) := ⟨HMa.out.1.store HMa.out.2.2.1 (by decide) (by decide) _, HMa.out.2.1.far HMa.out.2.2 (by decide) _, HMa.out.2.2.put _⟩
          obtain ⟨zb, hzb⟩ : ∃ Y, Y = za.setRow B6 #[.int .i64 (W1 : Int), .int .i64 (T1 : Int), .int .u8 (M1 : Int), .int .i64 (hy : Int), .int .i64 (pr : Int), .float .f64 lo] := ⟨_, rfl⟩
          rw [← hzb] at HXb HMb ⊢
          clear hzb
          refine hK.out _ _ (HKS.out _ HXb.out) (fun hHeld => ?_)
          clear hK
          (try simp only [Act.put, List.setIfInBounds_toArray, List.set_cons_zero, List.set_cons_succ])
          refine wpAnyH_done (by kernel_rfl) ?_ _
          clear hHeld
          go_wp2_with fail
          go_meet
          exact ⟨k, B5, B6, aC, aO, cC, cO, _, rfl, rfl, rfl, HMb.out.1, HMb.out.2.1, HMb.out.2.2, HXb.out⟩
    · rw [if_pos (by rfl)]
      go_simp
      obtain ⟨y1, hy1⟩ : ∃ Y, Y = (w2.alloc (.cells #[.slice none 0 0, .slice none 0 0] 37)).drew := ⟨_, rfl⟩
      obtain ⟨B5, hB5⟩ : ∃ b, b = w2.heap.size := ⟨_, rfl⟩
      have ho : Only (fun _ => False) w2 y1 := by rw [hy1]; exact ((Only.refl _ _).alloc _).drew
      have HXy1 : Hid (Only (fun _ => False) w2 y1) := ho
      have HB5y1 : Hid (Blk w2 y1 B5 37 #[.slice none 0 0, .slice none 0 0]) := by rw [hy1, hB5]; exact (Blk.made (Only.refl _ _) _ _).drew
      rw [← hy1, ← hB5]
      clear hy1 hB5 ho
      refine hK.out _ _ (HKS.out _ HXy1.out) (fun hHeld => ?_)
      clear hK
      (try simp only [Act.put, List.setIfInBounds_toArray, List.set_cons_zero, List.set_cons_succ])
      refine wpAnyH_ready (rs := [5, 9]) (by kernel_rfl) (by simp) ?_
      refine AllReadyH.cons rfl (fun K hK => ?_) (AllReadyH.cons rfl (fun K hK => ?_) AllReadyH.nil)
      · rw [if_pos (by rfl)]
        go_simp
        refine Calls.mono (HPA.out _ (HW2.out.trans HXy1.out)) ?_
        rintro e y2 ⟨k, aC, aO, cC, cO, rfl, hmd, ho⟩
        have HMy2 : Hid (Made y2 L n0 k aC aO cC cO) := hmd
        clear hmd
        have HXy2 : Hid (Only (fun _ => False) w2 y2) := HXy1.out.trans ho
        have HB5y2 : Hid (Blk w2 y2 B5 37 #[.slice none 0 0, .slice none 0 0]) := HB5y1.out.keep ho
        clear ho
        refine hK.out _ _ (HKS.out _ HXy2.out) (fun hHeld => ?_)
        clear hK
        (try simp only [Act.put, List.setIfInBounds_toArray, List.set_cons_zero, List.set_cons_succ])
        refine wpAnyH_ready (rs := [7, 9]) (by kernel_rfl) (by simp) ?_
        refine AllReadyH.cons rfl (fun K hK => ?_) (AllReadyH.cons rfl (fun K hK => ?_) AllReadyH.nil)
        · rw [if_pos (by rfl)]
          go_simp
          refine Calls.mono (HCF.out _) ?_
          rintro e y3 ⟨rfl, ho⟩
          have HMy3 : Hid (Made y3 L n0 k aC aO cC cO) := HMy2.out.keep ho
          have HXy3 : Hid (Only (fun _ => False) w2 y3) := HXy2.out.trans ho
          have HB5y3 : Hid (Blk w2 y3 B5 37 #[.slice none 0 0, .slice none 0 0]) := HB5y2.out.keep ho
          clear ho
          refine hK.out _ _ (HKS.out _ HXy3.out) (fun hHeld => ?_)
          clear hK
          (try simp only [Act.put, List.setIfInBounds_toArray, List.set_cons_zero, List.set_cons_succ])
          refine wpAnyH_ready (rs := [9]) (by kernel_rfl) (by simp) ?_
          refine AllReadyH.cons rfl (fun K hK => ?_) AllReadyH.nil
          rw [if_pos (by rfl)]
          go_simp
          obtain ⟨y4, hy4⟩ : ∃ Y, Y = y3.alloc (.cells #[.int .i64 0, .int .i64 0, .int .u8 0, .int .i64 0, .int .i64 0, .float .f64 0] 41) := ⟨_, rfl⟩
          obtain ⟨B6, hB6⟩ : ∃ b, b = y3.heap.size := ⟨_, rfl⟩
          have ho : Only (fun _ => False) y3 y4 := by rw [hy4]; exact (Only.refl _ _).alloc _
          have HXy4 : Hid (Only (fun _ => False) w2 y4) := HXy3.out.trans ho
          have HB6y4 : Hid (Blk w2 y4 B6 41 #[.int .i64 0, .int .i64 0, .int .u8 0, .int .i64 0, .int .i64 0, .float .f64 0]) := by rw [hy4, hB6]; exact Blk.made HXy3.out _ _
          have HB5y4 : Hid (Blk w2 y4 B5 37 #[.slice none 0 0, .slice none 0 0]) := HB5y3.out.keep ho
          have HMy4 : Hid (Made y4 L n0 k aC aO cC cO) := HMy3.out.keep ho
          rw [← hy4, ← hB6]
          clear hy4 hB6 ho
          refine hK.out _ _ (HKS.out _ HXy4.out) (fun hHeld => ?_)
          clear hK
          (try simp only [Act.put, List.setIfInBounds_toArray, List.set_cons_zero, List.set_cons_succ])
          refine wpAnyH_ready (rs := [10]) (by kernel_rfl) (by simp) ?_
          refine AllReadyH.cons rfl (fun K hK => ?_) AllReadyH.nil
          rw [if_pos (by rfl)]
          have HXa : Hid (Only (fun _ => False) w2 (y4.setRow B5 #[.slice aC k cC, .slice aO (k + 1) cO])) := HXy4.out.setRowNew HB5y4.out.2 _
          refine wp_store_row 37 _ _ rfl B5 #[.slice aC k cC, .slice aO (k + 1) cO] rfl rfl 37 _ HB5y4.out.1 (by kernel_rfl) rfl (two_one _ _ _ _ _ _) ?_
          have HMa : Hid (Made (y4.setRow B5 #[.slice aC k cC, .slice aO (k + 1) cO]) L n0 k aC aO cC cO ∧ Blk w2 (y4.setRow B5 #[.slice aC k cC, .slice aO (k + 1) cO]) B5 37 #[.slice aC k cC, .slice aO (k + 1) cO] ∧ Blk w2 (y4.setRow B5 #[.slice aC k cC, .slice aO (k + 1) cO]) B6 41 #[.int .i64 0, .int .i64 0, .int .u8 0, .int .i64 0, .int .i64 0, .float .f64 0]) := ⟨HMy4.out.store HB5y4.out.1 (by decide) (by decide) _, HB5y4.out.put _, HB6y4.out.far HB5y4.out (by decide) _⟩
          obtain ⟨za, hza⟩ : ∃ Y, Y = y4.setRow B5 #[.slice aC k cC, .slice aO (k + 1) cO] := ⟨_, rfl⟩
          rw [← hza] at HXa HMa ⊢
          clear hza
          refine hK.out _ _ (HKS.out _ HXa.out) (fun hHeld => ?_)
          clear hK
          (try simp only [Act.put, List.setIfInBounds_toArray, List.set_cons_zero, List.set_cons_succ])
          refine wpAnyH_ready (rs := [11]) (by kernel_rfl) (by simp) ?_
          refine AllReadyH.cons rfl (fun K hK => ?_) AllReadyH.nil
          rw [if_pos (by rfl)]
          have HXb : Hid (Only (fun _ => False) w2 (za.setRow B6 #[.int .i64 (W1 : Int), .int .i64 (T1 : Int), .int .u8 (M1 : Int), .int .i64 (hy : Int), .int .i64 (pr : Int), .float .f64 lo])) := HXa.out.setRowNew HMa.out.2.2.2 _
          refine wp_store_row 41 _ _ rfl B6 #[.int .i64 (W1 : Int), .int .i64 (T1 : Int), .int .u8 (M1 : Int), .int .i64 (hy : Int), .int .i64 (pr : Int), .float .f64 lo] rfl rfl 41 _ HMa.out.2.2.1 (by kernel_rfl) rfl (cfg_one _ _ _ _ _ _) ?_
          have HMb : Hid (Made (za.setRow B6 #[.int .i64 (W1 : Int), .int .i64 (T1 : Int), .int .u8 (M1 : Int), .int .i64 (hy : Int), .int .i64 (pr : Int), .float .f64 lo]) L n0 k aC aO cC cO ∧ Blk w2 (za.setRow B6 #[.int .i64 (W1 : Int), .int .i64 (T1 : Int), .int .u8 (M1 : Int), .int .i64 (hy : Int), .int .i64 (pr : Int), .float .f64 lo]) B5 37 #[.slice aC k cC, .slice aO (k + 1) cO] ∧ Blk w2 (za.setRow B6 #[.int .i64 (W1 : Int), .int .i64 (T1 : Int), .int .u8 (M1 : Int), .int .i64 (hy : Int), .int .i64 (pr : Int), .float .f64 lo]) B6 41 #[.int .i64 (W1 : Int), .int .i64 (T1 : Int), .int .u8 (M1 : Int), .int .i64 (hy : Int), .int .i64 (pr : Int), .float .f64 lo]) := ⟨HMa.out.1.store HMa.out.2.2.1 (by decide) (by decide) _, HMa.out.2.1.far HMa.out.2.2 (by decide) _, HMa.out.2.2.put _⟩
          obtain ⟨zb, hzb⟩ : ∃ Y, Y = za.setRow B6 #[.int .i64 (W1 : Int), .int .i64 (T1 : Int), .int .u8 (M1 : Int), .int .i64 (hy : Int), .int .i64 (pr : Int), .float .f64 lo] := ⟨_, rfl⟩
          rw [← hzb] at HXb HMb ⊢
          clear hzb
          refine hK.out _ _ (HKS.out _ HXb.out) (fun hHeld => ?_)
          clear hK
          (try simp only [Act.put, List.setIfInBounds_toArray, List.set_cons_zero, List.set_cons_succ])
          refine wpAnyH_done (by kernel_rfl) ?_ _
          clear hHeld
          go_wp2_with fail
          go_meet
          exact ⟨k, B5, B6, aC, aO, cC, cO, _, rfl, rfl, rfl, HMb.out.1, HMb.out.2.1, HMb.out.2.2, HXb.out⟩
        · rw [if_pos (by rfl)]
          go_simp
          obtain ⟨y3, hy3⟩ : ∃ Y, Y = y2.alloc (.cells #[.int .i64 0, .int .i64 0, .int .u8 0, .int .i64 0, .int .i64 0, .float .f64 0] 41) := ⟨_, rfl⟩
          obtain ⟨B6, hB6⟩ : ∃ b, b = y2.heap.size := ⟨_, rfl⟩
          have ho : Only (fun _ => False) y2 y3 := by rw [hy3]; exact (Only.refl _ _).alloc _
          have HXy3 : Hid (Only (fun _ => False) w2 y3) := HXy2.out.trans ho
          have HB6y3 : Hid (Blk w2 y3 B6 41 #[.int .i64 0, .int .i64 0, .int .u8 0, .int .i64 0, .int .i64 0, .float .f64 0]) := by rw [hy3, hB6]; exact Blk.made HXy2.out _ _
          have HB5y3 : Hid (Blk w2 y3 B5 37 #[.slice none 0 0, .slice none 0 0]) := HB5y2.out.keep ho
          have HMy3 : Hid (Made y3 L n0 k aC aO cC cO) := HMy2.out.keep ho
          rw [← hy3, ← hB6]
          clear hy3 hB6 ho
          refine hK.out _ _ (HKS.out _ HXy3.out) (fun hHeld => ?_)
          clear hK
          (try simp only [Act.put, List.setIfInBounds_toArray, List.set_cons_zero, List.set_cons_succ])
          refine wpAnyH_ready (rs := [7]) (by kernel_rfl) (by simp) ?_
          refine AllReadyH.cons rfl (fun K hK => ?_) AllReadyH.nil
          rw [if_pos (by rfl)]
          go_simp
          refine Calls.mono (HCF.out _) ?_
          rintro e y4 ⟨rfl, ho⟩
          have HMy4 : Hid (Made y4 L n0 k aC aO cC cO) := HMy3.out.keep ho
          have HXy4 : Hid (Only (fun _ => False) w2 y4) := HXy3.out.trans ho
          have HB5y4 : Hid (Blk w2 y4 B5 37 #[.slice none 0 0, .slice none 0 0]) := HB5y3.out.keep ho
          have HB6y4 : Hid (Blk w2 y4 B6 41 #[.int .i64 0, .int .i64 0, .int .u8 0, .int .i64 0, .int .i64 0, .float .f64 0]) := HB6y3.out.keep ho
          clear ho
          refine hK.out _ _ (HKS.out _ HXy4.out) (fun hHeld => ?_)
          clear hK
          (try simp only [Act.put, List.setIfInBounds_toArray, List.set_cons_zero, List.set_cons_succ])
          refine wpAnyH_ready (rs := [10]) (by kernel_rfl) (by simp) ?_
          refine AllReadyH.cons rfl (fun K hK => ?_) AllReadyH.nil
          rw [if_pos (by rfl)]
          have HXa : Hid (Only (fun _ => False) w2 (y4.setRow B5 #[.slice aC k cC, .slice aO (k + 1) cO])) := HXy4.out.setRowNew HB5y4.out.2 _
          refine wp_store_row 37 _ _ rfl B5 #[.slice aC k cC, .slice aO (k + 1) cO] rfl rfl 37 _ HB5y4.out.1 (by kernel_rfl) rfl (two_one _ _ _ _ _ _) ?_
          have HMa : Hid (Made (y4.setRow B5 #[.slice aC k cC, .slice aO (k + 1) cO]) L n0 k aC aO cC cO ∧ Blk w2 (y4.setRow B5 #[.slice aC k cC, .slice aO (k + 1) cO]) B5 37 #[.slice aC k cC, .slice aO (k + 1) cO] ∧ Blk w2 (y4.setRow B5 #[.slice aC k cC, .slice aO (k + 1) cO]) B6 41 #[.int .i64 0, .int .i64 0, .int .u8 0, .int .i64 0, .int .i64 0, .float .f64 0]) := ⟨HMy4.out.store HB5y4.out.1 (by decide) (by decide) _, HB5y4.out.put _, HB6y4.out.far HB5y4.out (by decide) _⟩
          obtain ⟨za, hza⟩ : ∃ Y, Y = y4.setRow B5 #[.slice aC k cC, .slice aO (k + 1) cO] := ⟨_, rfl⟩
          rw [← hza] at HXa HMa ⊢
          clear hza
          refine hK.out _ _ (HKS.out _ HXa.out) (fun hHeld => ?_)
          clear hK
          (try simp only [Act.put, List.setIfInBounds_toArray, List.set_cons_zero, List.set_cons_succ])
          refine wpAnyH_ready (rs := [11]) (by kernel_rfl) (by simp) ?_
          refine AllReadyH.cons rfl (fun K hK => ?_) AllReadyH.nil
          rw [if_pos (by rfl)]
          have HXb : Hid (Only (fun _ => False) w2 (za.setRow B6 #[.int .i64 (W1 : Int), .int .i64 (T1 : Int), .int .u8 (M1 : Int), .int .i64 (hy : Int), .int .i64 (pr : Int), .float .f64 lo])) := HXa.out.setRowNew HMa.out.2.2.2 _
          refine wp_store_row 41 _ _ rfl B6 #[.int .i64 (W1 : Int), .int .i64 (T1 : Int), .int .u8 (M1 : Int), .int .i64 (hy : Int), .int .i64 (pr : Int), .float .f64 lo] rfl rfl 41 _ HMa.out.2.2.1 (by kernel_rfl) rfl (cfg_one _ _ _ _ _ _) ?_
          have HMb : Hid (Made (za.setRow B6 #[.int .i64 (W1 : Int), .int .i64 (T1 : Int), .int .u8 (M1 : Int), .int .i64 (hy : Int), .int .i64 (pr : Int), .float .f64 lo]) L n0 k aC aO cC cO ∧ Blk w2 (za.setRow B6 #[.int .i64 (W1 : Int), .int .i64 (T1 : Int), .int .u8 (M1 : Int), .int .i64 (hy : Int), .int .i64 (pr : Int), .float .f64 lo]) B5 37 #[.slice aC k cC, .slice aO (k + 1) cO] ∧ Blk w2 (za.setRow B6 #[.int .i64 (W1 : Int), .int .i64 (T1 : Int), .int .u8 (M1 : Int), .int .i64 (hy : Int), .int .i64 (pr : Int), .float .f64 lo]) B6 41 #[.int .i64 (W1 : Int), .int .i64 (T1 : Int), .int .u8 (M1 : Int), .int .i64 (hy : Int), .int .i64 (pr : Int), .float .f64 lo]) := ⟨HMa.out.1.store HMa.out.2.2.1 (by decide) (by decide) _, HMa.out.2.1.far HMa.out.2.2 (by decide) _, HMa.out.2.2.put _⟩
          obtain ⟨zb, hzb⟩ : ∃ Y, Y = za.setRow B6 #[.int .i64 (W1 : Int), .int .i64 (T1 : Int), .int .u8 (M1 : Int), .int .i64 (hy : Int), .int .i64 (pr : Int), .float .f64 lo] := ⟨_, rfl⟩
          rw [← hzb] at HXb HMb ⊢
          clear hzb
          refine hK.out _ _ (HKS.out _ HXb.out) (fun hHeld => ?_)
          clear hK
          (try simp only [Act.put, List.setIfInBounds_toArray, List.set_cons_zero, List.set_cons_succ])
          refine wpAnyH_done (by kernel_rfl) ?_ _
          clear hHeld
          go_wp2_with fail
          go_meet
          exact ⟨k, B5, B6, aC, aO, cC, cO, _, rfl, rfl, rfl, HMb.out.1, HMb.out.2.1, HMb.out.2.2, HXb.out⟩
      · rw [if_pos (by rfl)]
        go_simp
        obtain ⟨y2, hy2⟩ : ∃ Y, Y = y1.alloc (.cells #[.int .i64 0, .int .i64 0, .int .u8 0, .int .i64 0, .int .i64 0, .float .f64 0] 41) := ⟨_, rfl⟩
        obtain ⟨B6, hB6⟩ : ∃ b, b = y1.heap.size := ⟨_, rfl⟩
        have ho : Only (fun _ => False) y1 y2 := by rw [hy2]; exact (Only.refl _ _).alloc _
        have HXy2 : Hid (Only (fun _ => False) w2 y2) := HXy1.out.trans ho
        have HB6y2 : Hid (Blk w2 y2 B6 41 #[.int .i64 0, .int .i64 0, .int .u8 0, .int .i64 0, .int .i64 0, .float .f64 0]) := by rw [hy2, hB6]; exact Blk.made HXy1.out _ _
        have HB5y2 : Hid (Blk w2 y2 B5 37 #[.slice none 0 0, .slice none 0 0]) := HB5y1.out.keep ho
        rw [← hy2, ← hB6]
        clear hy2 hB6 ho
        refine hK.out _ _ (HKS.out _ HXy2.out) (fun hHeld => ?_)
        clear hK
        (try simp only [Act.put, List.setIfInBounds_toArray, List.set_cons_zero, List.set_cons_succ])
        refine wpAnyH_ready (rs := [5]) (by kernel_rfl) (by simp) ?_
        refine AllReadyH.cons rfl (fun K hK => ?_) AllReadyH.nil
        rw [if_pos (by rfl)]
        go_simp
        refine Calls.mono (HPA.out _ (HW2.out.trans HXy2.out)) ?_
        rintro e y3 ⟨k, aC, aO, cC, cO, rfl, hmd, ho⟩
        have HMy3 : Hid (Made y3 L n0 k aC aO cC cO) := hmd
        clear hmd
        have HXy3 : Hid (Only (fun _ => False) w2 y3) := HXy2.out.trans ho
        have HB5y3 : Hid (Blk w2 y3 B5 37 #[.slice none 0 0, .slice none 0 0]) := HB5y2.out.keep ho
        have HB6y3 : Hid (Blk w2 y3 B6 41 #[.int .i64 0, .int .i64 0, .int .u8 0, .int .i64 0, .int .i64 0, .float .f64 0]) := HB6y2.out.keep ho
        clear ho
        refine hK.out _ _ (HKS.out _ HXy3.out) (fun hHeld => ?_)
        clear hK
        (try simp only [Act.put, List.setIfInBounds_toArray, List.set_cons_zero, List.set_cons_succ])
        refine wpAnyH_ready (rs := [7]) (by kernel_rfl) (by simp) ?_
        refine AllReadyH.cons rfl (fun K hK => ?_) AllReadyH.nil
        rw [if_pos (by rfl)]
        go_simp
        refine Calls.mono (HCF.out _) ?_
        rintro e y4 ⟨rfl, ho⟩
        have HMy4 : Hid (Made y4 L n0 k aC aO cC cO) := HMy3.out.keep ho
        have HXy4 : Hid (Only (fun _ => False) w2 y4) := HXy3.out.trans ho
        have HB5y4 : Hid (Blk w2 y4 B5 37 #[.slice none 0 0, .slice none 0 0]) := HB5y3.out.keep ho
        have HB6y4 : Hid (Blk w2 y4 B6 41 #[.int .i64 0, .int .i64 0, .int .u8 0, .int .i64 0, .int .i64 0, .float .f64 0]) := HB6y3.out.keep ho
        clear ho
        refine hK.out _ _ (HKS.out _ HXy4.out) (fun hHeld => ?_)
        clear hK
        (try simp only [Act.put, List.setIfInBounds_toArray, List.set_cons_zero, List.set_cons_succ])
        refine wpAnyH_ready (rs := [10]) (by kernel_rfl) (by simp) ?_
        refine AllReadyH.cons rfl (fun K hK => ?_) AllReadyH.nil
        rw [if_pos (by rfl)]
        have HXa : Hid (Only (fun _ => False) w2 (y4.setRow B5 #[.slice aC k cC, .slice aO (k + 1) cO])) := HXy4.out.setRowNew HB5y4.out.2 _
        refine wp_store_row 37 _ _ rfl B5 #[.slice aC k cC, .slice aO (k + 1) cO] rfl rfl 37 _ HB5y4.out.1 (by kernel_rfl) rfl (two_one _ _ _ _ _ _) ?_
        have HMa : Hid (Made (y4.setRow B5 #[.slice aC k cC, .slice aO (k + 1) cO]) L n0 k aC aO cC cO ∧ Blk w2 (y4.setRow B5 #[.slice aC k cC, .slice aO (k + 1) cO]) B5 37 #[.slice aC k cC, .slice aO (k + 1) cO] ∧ Blk w2 (y4.setRow B5 #[.slice aC k cC, .slice aO (k + 1) cO]) B6 41 #[.int .i64 0, .int .i64 0, .int .u8 0, .int .i64 0, .int .i64 0, .float .f64 0]) := ⟨HMy4.out.store HB5y4.out.1 (by decide) (by decide) _, HB5y4.out.put _, HB6y4.out.far HB5y4.out (by decide) _⟩
        obtain ⟨za, hza⟩ : ∃ Y, Y = y4.setRow B5 #[.slice aC k cC, .slice aO (k + 1) cO] := ⟨_, rfl⟩
        rw [← hza] at HXa HMa ⊢
        clear hza
        refine hK.out _ _ (HKS.out _ HXa.out) (fun hHeld => ?_)
        clear hK
        (try simp only [Act.put, List.setIfInBounds_toArray, List.set_cons_zero, List.set_cons_succ])
        refine wpAnyH_ready (rs := [11]) (by kernel_rfl) (by simp) ?_
        refine AllReadyH.cons rfl (fun K hK => ?_) AllReadyH.nil
        rw [if_pos (by rfl)]
        have HXb : Hid (Only (fun _ => False) w2 (za.setRow B6 #[.int .i64 (W1 : Int), .int .i64 (T1 : Int), .int .u8 (M1 : Int), .int .i64 (hy : Int), .int .i64 (pr : Int), .float .f64 lo])) := HXa.out.setRowNew HMa.out.2.2.2 _
        refine wp_store_row 41 _ _ rfl B6 #[.int .i64 (W1 : Int), .int .i64 (T1 : Int), .int .u8 (M1 : Int), .int .i64 (hy : Int), .int .i64 (pr : Int), .float .f64 lo] rfl rfl 41 _ HMa.out.2.2.1 (by kernel_rfl) rfl (cfg_one _ _ _ _ _ _) ?_
        have HMb : Hid (Made (za.setRow B6 #[.int .i64 (W1 : Int), .int .i64 (T1 : Int), .int .u8 (M1 : Int), .int .i64 (hy : Int), .int .i64 (pr : Int), .float .f64 lo]) L n0 k aC aO cC cO ∧ Blk w2 (za.setRow B6 #[.int .i64 (W1 : Int), .int .i64 (T1 : Int), .int .u8 (M1 : Int), .int .i64 (hy : Int), .int .i64 (pr : Int), .float .f64 lo]) B5 37 #[.slice aC k cC, .slice aO (k + 1) cO] ∧ Blk w2 (za.setRow B6 #[.int .i64 (W1 : Int), .int .i64 (T1 : Int), .int .u8 (M1 : Int), .int .i64 (hy : Int), .int .i64 (pr : Int), .float .f64 lo]) B6 41 #[.int .i64 (W1 : Int), .int .i64 (T1 : Int), .int .u8 (M1 : Int), .int .i64 (hy : Int), .int .i64 (pr : Int), .float .f64 lo]) := ⟨HMa.out.1.store HMa.out.2.2.1 (by decide) (by decide) _, HMa.out.2.1.far HMa.out.2.2 (by decide) _, HMa.out.2.2.put _⟩
        obtain ⟨zb, hzb⟩ : ∃ Y, Y = za.setRow B6 #[.int .i64 (W1 : Int), .int .i64 (T1 : Int), .int .u8 (M1 : Int), .int .i64 (hy : Int), .int .i64 (pr : Int), .float .f64 lo] := ⟨_, rfl⟩
        rw [← hzb] at HXb HMb ⊢
        clear hzb
        refine hK.out _ _ (HKS.out _ HXb.out) (fun hHeld => ?_)
        clear hK
        (try simp only [Act.put, List.setIfInBounds_toArray, List.set_cons_zero, List.set_cons_succ])
        refine wpAnyH_done (by kernel_rfl) ?_ _
        clear hHeld
        go_wp2_with fail
        go_meet
        exact ⟨k, B5, B6, aC, aO, cC, cO, _, rfl, rfl, rfl, HMb.out.1, HMb.out.2.1, HMb.out.2.2, HXb.out⟩
    · rw [if_pos (by rfl)]
      go_simp
      obtain ⟨y1, hy1⟩ : ∃ Y, Y = (w2.alloc (.cells #[.int .i64 0, .int .i64 0, .int .u8 0, .int .i64 0, .int .i64 0, .float .f64 0] 41)).drew := ⟨_, rfl⟩
      obtain ⟨B6, hB6⟩ : ∃ b, b = w2.heap.size := ⟨_, rfl⟩
      have ho : Only (fun _ => False) w2 y1 := by rw [hy1]; exact ((Only.refl _ _).alloc _).drew
      have HXy1 : Hid (Only (fun _ => False) w2 y1) := ho
      have HB6y1 : Hid (Blk w2 y1 B6 41 #[.int .i64 0, .int .i64 0, .int .u8 0, .int .i64 0, .int .i64 0, .float .f64 0]) := by rw [hy1, hB6]; exact (Blk.made (Only.refl _ _) _ _).drew
      rw [← hy1, ← hB6]
      clear hy1 hB6 ho
      refine hK.out _ _ (HKS.out _ HXy1.out) (fun hHeld => ?_)
      clear hK
      (try simp only [Act.put, List.setIfInBounds_toArray, List.set_cons_zero, List.set_cons_succ])
      refine wpAnyH_ready (rs := [5, 8]) (by kernel_rfl) (by simp) ?_
      refine AllReadyH.cons rfl (fun K hK => ?_) (AllReadyH.cons rfl (fun K hK => ?_) AllReadyH.nil)
      · rw [if_pos (by rfl)]
        go_simp
        refine Calls.mono (HPA.out _ (HW2.out.trans HXy1.out)) ?_
        rintro e y2 ⟨k, aC, aO, cC, cO, rfl, hmd, ho⟩
        have HMy2 : Hid (Made y2 L n0 k aC aO cC cO) := hmd
        clear hmd
        have HXy2 : Hid (Only (fun _ => False) w2 y2) := HXy1.out.trans ho
        have HB6y2 : Hid (Blk w2 y2 B6 41 #[.int .i64 0, .int .i64 0, .int .u8 0, .int .i64 0, .int .i64 0, .float .f64 0]) := HB6y1.out.keep ho
        clear ho
        refine hK.out _ _ (HKS.out _ HXy2.out) (fun hHeld => ?_)
        clear hK
        (try simp only [Act.put, List.setIfInBounds_toArray, List.set_cons_zero, List.set_cons_succ])
        refine wpAnyH_ready (rs := [7, 8]) (by kernel_rfl) (by simp) ?_
        refine AllReadyH.cons rfl (fun K hK => ?_) (AllReadyH.cons rfl (fun K hK => ?_) AllReadyH.nil)
        · rw [if_pos (by rfl)]
          go_simp
          refine Calls.mono (HCF.out _) ?_
          rintro e y3 ⟨rfl, ho⟩
          have HMy3 : Hid (Made y3 L n0 k aC aO cC cO) := HMy2.out.keep ho
          have HXy3 : Hid (Only (fun _ => False) w2 y3) := HXy2.out.trans ho
          have HB6y3 : Hid (Blk w2 y3 B6 41 #[.int .i64 0, .int .i64 0, .int .u8 0, .int .i64 0, .int .i64 0, .float .f64 0]) := HB6y2.out.keep ho
          clear ho
          refine hK.out _ _ (HKS.out _ HXy3.out) (fun hHeld => ?_)
          clear hK
          (try simp only [Act.put, List.setIfInBounds_toArray, List.set_cons_zero, List.set_cons_succ])
          refine wpAnyH_ready (rs := [8]) (by kernel_rfl) (by simp) ?_
          refine AllReadyH.cons rfl (fun K hK => ?_) AllReadyH.nil
          rw [if_pos (by rfl)]
          go_simp
          obtain ⟨y4, hy4⟩ : ∃ Y, Y = y3.alloc (.cells #[.slice none 0 0, .slice none 0 0] 37) := ⟨_, rfl⟩
          obtain ⟨B5, hB5⟩ : ∃ b, b = y3.heap.size := ⟨_, rfl⟩
          have ho : Only (fun _ => False) y3 y4 := by rw [hy4]; exact (Only.refl _ _).alloc _
          have HXy4 : Hid (Only (fun _ => False) w2 y4) := HXy3.out.trans ho
          have HB5y4 : Hid (Blk w2 y4 B5 37 #[.slice none 0 0, .slice none 0 0]) := by rw [hy4, hB5]; exact Blk.made HXy3.out _ _
          have HB6y4 : Hid (Blk w2 y4 B6 41 #[.int .i64 0, .int .i64 0, .int .u8 0, .int .i64 0, .int .i64 0, .float .f64 0]) := HB6y3.out.keep ho
          have HMy4 : Hid (Made y4 L n0 k aC aO cC cO) := HMy3.out.keep ho
          rw [← hy4, ← hB5]
          clear hy4 hB5 ho
          refine hK.out _ _ (HKS.out _ HXy4.out) (fun hHeld => ?_)
          clear hK
          (try simp only [Act.put, List.setIfInBounds_toArray, List.set_cons_zero, List.set_cons_succ])
          refine wpAnyH_ready (rs := [10]) (by kernel_rfl) (by simp) ?_
          refine AllReadyH.cons rfl (fun K hK => ?_) AllReadyH.nil
          rw [if_pos (by rfl)]
          have HXa : Hid (Only (fun _ => False) w2 (y4.setRow B5 #[.slice aC k cC, .slice aO (k + 1) cO])) := HXy4.out.setRowNew HB5y4.out.2 _
          refine wp_store_row 37 _ _ rfl B5 #[.slice aC k cC, .slice aO (k + 1) cO] rfl rfl 37 _ HB5y4.out.1 (by kernel_rfl) rfl (two_one _ _ _ _ _ _) ?_
          have HMa : Hid (Made (y4.setRow B5 #[.slice aC k cC, .slice aO (k + 1) cO]) L n0 k aC aO cC cO ∧ Blk w2 (y4.setRow B5 #[.slice aC k cC, .slice aO (k + 1) cO]) B5 37 #[.slice aC k cC, .slice aO (k + 1) cO] ∧ Blk w2 (y4.setRow B5 #[.slice aC k cC, .slice aO (k + 1) cO]) B6 41 #[.int .i64 0, .int .i64 0, .int .u8 0, .int .i64 0, .int .i64 0, .float .f64 0]) := ⟨HMy4.out.store HB5y4.out.1 (by decide) (by decide) _, HB5y4.out.put _, HB6y4.out.far HB5y4.out (by decide) _⟩
          obtain ⟨za, hza⟩ : ∃ Y, Y = y4.setRow B5 #[.slice aC k cC, .slice aO (k + 1) cO] := ⟨_, rfl⟩
          rw [← hza] at HXa HMa ⊢
          clear hza
          refine hK.out _ _ (HKS.out _ HXa.out) (fun hHeld => ?_)
          clear hK
          (try simp only [Act.put, List.setIfInBounds_toArray, List.set_cons_zero, List.set_cons_succ])
          refine wpAnyH_ready (rs := [11]) (by kernel_rfl) (by simp) ?_
          refine AllReadyH.cons rfl (fun K hK => ?_) AllReadyH.nil
          rw [if_pos (by rfl)]
          have HXb : Hid (Only (fun _ => False) w2 (za.setRow B6 #[.int .i64 (W1 : Int), .int .i64 (T1 : Int), .int .u8 (M1 : Int), .int .i64 (hy : Int), .int .i64 (pr : Int), .float .f64 lo])) := HXa.out.setRowNew HMa.out.2.2.2 _
          refine wp_store_row 41 _ _ rfl B6 #[.int .i64 (W1 : Int), .int .i64 (T1 : Int), .int .u8 (M1 : Int), .int .i64 (hy : Int), .int .i64 (pr : Int), .float .f64 lo] rfl rfl 41 _ HMa.out.2.2.1 (by kernel_rfl) rfl (cfg_one _ _ _ _ _ _) ?_
          have HMb : Hid (Made (za.setRow B6 #[.int .i64 (W1 : Int), .int .i64 (T1 : Int), .int .u8 (M1 : Int), .int .i64 (hy : Int), .int .i64 (pr : Int), .float .f64 lo]) L n0 k aC aO cC cO ∧ Blk w2 (za.setRow B6 #[.int .i64 (W1 : Int), .int .i64 (T1 : Int), .int .u8 (M1 : Int), .int .i64 (hy : Int), .int .i64 (pr : Int), .float .f64 lo]) B5 37 #[.slice aC k cC, .slice aO (k + 1) cO] ∧ Blk w2 (za.setRow B6 #[.int .i64 (W1 : Int), .int .i64 (T1 : Int), .int .u8 (M1 : Int), .int .i64 (hy : Int), .int .i64 (pr : Int), .float .f64 lo]) B6 41 #[.int .i64 (W1 : Int), .int .i64 (T1 : Int), .int .u8 (M1 : Int), .int .i64 (hy : Int), .int .i64 (pr : Int), .float .f64 lo]) := ⟨HMa.out.1.store HMa.out.2.2.1 (by decide) (by decide) _, HMa.out.2.1.far HMa.out.2.2 (by decide) _, HMa.out.2.2.put _⟩
          obtain ⟨zb, hzb⟩ : ∃ Y, Y = za.setRow B6 #[.int .i64 (W1 : Int), .int .i64 (T1 : Int), .int .u8 (M1 : Int), .int .i64 (hy : Int), .int .i64 (pr : Int), .float .f64 lo] := ⟨_, rfl⟩
          rw [← hzb] at HXb HMb ⊢
          clear hzb
          refine hK.out _ _ (HKS.out _ HXb.out) (fun hHeld => ?_)
          clear hK
          (try simp only [Act.put, List.setIfInBounds_toArray, List.set_cons_zero, List.set_cons_succ])
          refine wpAnyH_done (by kernel_rfl) ?_ _
          clear hHeld
          go_wp2_with fail
          go_meet
          exact ⟨k, B5, B6, aC, aO, cC, cO, _, rfl, rfl, rfl, HMb.out.1, HMb.out.2.1, HMb.out.2.2, HXb.out⟩
        · rw [if_pos (by rfl)]
          go_simp
          obtain ⟨y3, hy3⟩ : ∃ Y, Y = y2.alloc (.cells #[.slice none 0 0, .slice none 0 0] 37) := ⟨_, rfl⟩
          obtain ⟨B5, hB5⟩ : ∃ b, b = y2.heap.size := ⟨_, rfl⟩
          have ho : Only (fun _ => False) y2 y3 := by rw [hy3]; exact (Only.refl _ _).alloc _
          have HXy3 : Hid (Only (fun _ => False) w2 y3) := HXy2.out.trans ho
          have HB5y3 : Hid (Blk w2 y3 B5 37 #[.slice none 0 0, .slice none 0 0]) := by rw [hy3, hB5]; exact Blk.made HXy2.out _ _
          have HB6y3 : Hid (Blk w2 y3 B6 41 #[.int .i64 0, .int .i64 0, .int .u8 0, .int .i64 0, .int .i64 0, .float .f64 0]) := HB6y2.out.keep ho
          have HMy3 : Hid (Made y3 L n0 k aC aO cC cO) := HMy2.out.keep ho
          rw [← hy3, ← hB5]
          clear hy3 hB5 ho
          refine hK.out _ _ (HKS.out _ HXy3.out) (fun hHeld => ?_)
          clear hK
          (try simp only [Act.put, List.setIfInBounds_toArray, List.set_cons_zero, List.set_cons_succ])
          refine wpAnyH_ready (rs := [7]) (by kernel_rfl) (by simp) ?_
          refine AllReadyH.cons rfl (fun K hK => ?_) AllReadyH.nil
          rw [if_pos (by rfl)]
          go_simp
          refine Calls.mono (HCF.out _) ?_
          rintro e y4 ⟨rfl, ho⟩
          have HMy4 : Hid (Made y4 L n0 k aC aO cC cO) := HMy3.out.keep ho
          have HXy4 : Hid (Only (fun _ => False) w2 y4) := HXy3.out.trans ho
          have HB5y4 : Hid (Blk w2 y4 B5 37 #[.slice none 0 0, .slice none 0 0]) := HB5y3.out.keep ho
          have HB6y4 : Hid (Blk w2 y4 B6 41 #[.int .i64 0, .int .i64 0, .int .u8 0, .int .i64 0, .int .i64 0, .float .f64 0]) := HB6y3.out.keep ho
          clear ho
          refine hK.out _ _ (HKS.out _ HXy4.out) (fun hHeld => ?_)
          clear hK
          (try simp only [Act.put, List.setIfInBounds_toArray, List.set_cons_zero, List.set_cons_succ])
          refine wpAnyH_ready (rs := [10]) (by kernel_rfl) (by simp) ?_
          refine AllReadyH.cons rfl (fun K hK => ?_) AllReadyH.nil
          rw [if_pos (by rfl)]
          have HXa : Hid (Only (fun _ => False) w2 (y4.setRow B5 #[.slice aC k cC, .slice aO (k + 1) cO])) := HXy4.out.setRowNew HB5y4.out.2 _
          refine wp_store_row 37 _ _ rfl B5 #[.slice aC k cC, .slice aO (k + 1) cO] rfl rfl 37 _ HB5y4.out.1 (by kernel_rfl) rfl (two_one _ _ _ _ _ _) ?_
          have HMa : Hid (Made (y4.setRow B5 #[.slice aC k cC, .slice aO (k + 1) cO]) L n0 k aC aO cC cO ∧ Blk w2 (y4.setRow B5 #[.slice aC k cC, .slice aO (k + 1) cO]) B5 37 #[.slice aC k cC, .slice aO (k + 1) cO] ∧ Blk w2 (y4.setRow B5 #[.slice aC k cC, .slice aO (k + 1) cO]) B6 41 #[.int .i64 0, .int .i64 0, .int .u8 0, .int .i64 0, .int .i64 0, .float .f64 0]) := ⟨HMy4.out.store HB5y4.out.1 (by decide) (by decide) _, HB5y4.out.put _, HB6y4.out.far HB5y4.out (by decide) _⟩
          obtain ⟨za, hza⟩ : ∃ Y, Y = y4.setRow B5 #[.slice aC k cC, .slice aO (k + 1) cO] := ⟨_, rfl⟩
          rw [← hza] at HXa HMa ⊢
          clear hza
          refine hK.out _ _ (HKS.out _ HXa.out) (fun hHeld => ?_)
          clear hK
          (try simp only [Act.put, List.setIfInBounds_toArray, List.set_cons_zero, List.set_cons_succ])
          refine wpAnyH_ready (rs := [11]) (by kernel_rfl) (by simp) ?_
          refine AllReadyH.cons rfl (fun K hK => ?_) AllReadyH.nil
          rw [if_pos (by rfl)]
          have HXb : Hid (Only (fun _ => False) w2 (za.setRow B6 #[.int .i64 (W1 : Int), .int .i64 (T1 : Int), .int .u8 (M1 : Int), .int .i64 (hy : Int), .int .i64 (pr : Int), .float .f64 lo])) := HXa.out.setRowNew HMa.out.2.2.2 _
          refine wp_store_row 41 _ _ rfl B6 #[.int .i64 (W1 : Int), .int .i64 (T1 : Int), .int .u8 (M1 : Int), .int .i64 (hy : Int), .int .i64 (pr : Int), .float .f64 lo] rfl rfl 41 _ HMa.out.2.2.1 (by kernel_rfl) rfl (cfg_one _ _ _ _ _ _) ?_
          have HMb : Hid (Made (za.setRow B6 #[.int .i64 (W1 : Int), .int .i64 (T1 : Int), .int .u8 (M1 : Int), .int .i64 (hy : Int), .int .i64 (pr : Int), .float .f64 lo]) L n0 k aC aO cC cO ∧ Blk w2 (za.setRow B6 #[.int .i64 (W1 : Int), .int .i64 (T1 : Int), .int .u8 (M1 : Int), .int .i64 (hy : Int), .int .i64 (pr : Int), .float .f64 lo]) B5 37 #[.slice aC k cC, .slice aO (k + 1) cO] ∧ Blk w2 (za.setRow B6 #[.int .i64 (W1 : Int), .int .i64 (T1 : Int), .int .u8 (M1 : Int), .int .i64 (hy : Int), .int .i64 (pr : Int), .float .f64 lo]) B6 41 #[.int .i64 (W1 : Int), .int .i64 (T1 : Int), .int .u8 (M1 : Int), .int .i64 (hy : Int), .int .i64 (pr : Int), .float .f64 lo]) := ⟨HMa.out.1.store HMa.out.2.2.1 (by decide) (by decide) _, HMa.out.2.1.far HMa.out.2.2 (by decide) _, HMa.out.2.2.put _⟩
          obtain ⟨zb, hzb⟩ : ∃ Y, Y = za.setRow B6 #[.int .i64 (W1 : Int), .int .i64 (T1 : Int), .int .u8 (M1 : Int), .int .i64 (hy : Int), .int .i64 (pr : Int), .float .f64 lo] := ⟨_, rfl⟩
          rw [← hzb] at HXb HMb ⊢
          clear hzb
          refine hK.out _ _ (HKS.out _ HXb.out) (fun hHeld => ?_)
          clear hK
          (try simp only [Act.put, List.setIfInBounds_toArray, List.set_cons_zero, List.set_cons_succ])
          refine wpAnyH_done (by kernel_rfl) ?_ _
          clear hHeld
          go_wp2_with fail
          go_meet
          exact ⟨k, B5, B6, aC, aO, cC, cO, _, rfl, rfl, rfl, HMb.out.1, HMb.out.2.1, HMb.out.2.2, HXb.out⟩
      · rw [if_pos (by rfl)]
        go_simp
        obtain ⟨y2, hy2⟩ : ∃ Y, Y = y1.alloc (.cells #[.slice none 0 0, .slice none 0 0] 37) := ⟨_, rfl⟩
        obtain ⟨B5, hB5⟩ : ∃ b, b = y1.heap.size := ⟨_, rfl⟩
        have ho : Only (fun _ => False) y1 y2 := by rw [hy2]; exact (Only.refl _ _).alloc _
        have HXy2 : Hid (Only (fun _ => False) w2 y2) := HXy1.out.trans ho
        have HB5y2 : Hid (Blk w2 y2 B5 37 #[.slice none 0 0, .slice none 0 0]) := by rw [hy2, hB5]; exact Blk.made HXy1.out _ _
        have HB6y2 : Hid (Blk w2 y2 B6 41 #[.int .i64 0, .int .i64 0, .int .u8 0, .int .i64 0, .int .i64 0, .float .f64 0]) := HB6y1.out.keep ho
        rw [← hy2, ← hB5]
        clear hy2 hB5 ho
        refine hK.out _ _ (HKS.out _ HXy2.out) (fun hHeld => ?_)
        clear hK
        (try simp only [Act.put, List.setIfInBounds_toArray, List.set_cons_zero, List.set_cons_succ])
        refine wpAnyH_ready (rs := [5]) (by kernel_rfl) (by simp) ?_
        refine AllReadyH.cons rfl (fun K hK => ?_) AllReadyH.nil
        rw [if_pos (by rfl)]
        go_simp
        refine Calls.mono (HPA.out _ (HW2.out.trans HXy2.out)) ?_
        rintro e y3 ⟨k, aC, aO, cC, cO, rfl, hmd, ho⟩
        have HMy3 : Hid (Made y3 L n0 k aC aO cC cO) := hmd
        clear hmd
        have HXy3 : Hid (Only (fun _ => False) w2 y3) := HXy2.out.trans ho
        have HB5y3 : Hid (Blk w2 y3 B5 37 #[.slice none 0 0, .slice none 0 0]) := HB5y2.out.keep ho
        have HB6y3 : Hid (Blk w2 y3 B6 41 #[.int .i64 0, .int .i64 0, .int .u8 0, .int .i64 0, .int .i64 0, .float .f64 0]) := HB6y2.out.keep ho
        clear ho
        refine hK.out _ _ (HKS.out _ HXy3.out) (fun hHeld => ?_)
        clear hK
        (try simp only [Act.put, List.setIfInBounds_toArray, List.set_cons_zero, List.set_cons_succ])
        refine wpAnyH_ready (rs := [7]) (by kernel_rfl) (by simp) ?_
        refine AllReadyH.cons rfl (fun K hK => ?_) AllReadyH.nil
        rw [if_pos (by rfl)]
        go_simp
        refine Calls.mono (HCF.out _) ?_
        rintro e y4 ⟨rfl, ho⟩
        have HMy4 : Hid (Made y4 L n0 k aC aO cC cO) := HMy3.out.keep ho
        have HXy4 : Hid (Only (fun _ => False) w2 y4) := HXy3.out.trans ho
        have HB5y4 : Hid (Blk w2 y4 B5 37 #[.slice none 0 0, .slice none 0 0]) := HB5y3.out.keep ho
        have HB6y4 : Hid (Blk w2 y4 B6 41 #[.int .i64 0, .int .i64 0, .int .u8 0, .int .i64 0, .int .i64 0, .float .f64 0]) := HB6y3.out.keep ho
        clear ho
        refine hK.out _ _ (HKS.out _ HXy4.out) (fun hHeld => ?_)
        clear hK
        (try simp only [Act.put, List.setIfInBounds_toArray, List.set_cons_zero, List.set_cons_succ])
        refine wpAnyH_ready (rs := [10]) (by kernel_rfl) (by simp) ?_
        refine AllReadyH.cons rfl (fun K hK => ?_) AllReadyH.nil
        rw [if_pos (by rfl)]
        have HXa : Hid (Only (fun _ => False) w2 (y4.setRow B5 #[.slice aC k cC, .slice aO (k + 1) cO])) := HXy4.out.setRowNew HB5y4.out.2 _
        refine wp_store_row 37 _ _ rfl B5 #[.slice aC k cC, .slice aO (k + 1) cO] rfl rfl 37 _ HB5y4.out.1 (by kernel_rfl) rfl (two_one _ _ _ _ _ _) ?_
        have HMa : Hid (Made (y4.setRow B5 #[.slice aC k cC, .slice aO (k + 1) cO]) L n0 k aC aO cC cO ∧ Blk w2 (y4.setRow B5 #[.slice aC k cC, .slice aO (k + 1) cO]) B5 37 #[.slice aC k cC, .slice aO (k + 1) cO] ∧ Blk w2 (y4.setRow B5 #[.slice aC k cC, .slice aO (k + 1) cO]) B6 41 #[.int .i64 0, .int .i64 0, .int .u8 0, .int .i64 0, .int .i64 0, .float .f64 0]) := ⟨HMy4.out.store HB5y4.out.1 (by decide) (by decide) _, HB5y4.out.put _, HB6y4.out.far HB5y4.out (by decide) _⟩
        obtain ⟨za, hza⟩ : ∃ Y, Y = y4.setRow B5 #[.slice aC k cC, .slice aO (k + 1) cO] := ⟨_, rfl⟩
        rw [← hza] at HXa HMa ⊢
        clear hza
        refine hK.out _ _ (HKS.out _ HXa.out) (fun hHeld => ?_)
        clear hK
        (try simp only [Act.put, List.setIfInBounds_toArray, List.set_cons_zero, List.set_cons_succ])
        refine wpAnyH_ready (rs := [11]) (by kernel_rfl) (by simp) ?_
        refine AllReadyH.cons rfl (fun K hK => ?_) AllReadyH.nil
        rw [if_pos (by rfl)]
        have HXb : Hid (Only (fun _ => False) w2 (za.setRow B6 #[.int .i64 (W1 : Int), .int .i64 (T1 : Int), .int .u8 (M1 : Int), .int .i64 (hy : Int), .int .i64 (pr : Int), .float .f64 lo])) := HXa.out.setRowNew HMa.out.2.2.2 _
        refine wp_store_row 41 _ _ rfl B6 #[.int .i64 (W1 : Int), .int .i64 (T1 : Int), .int .u8 (M1 : Int), .int .i64 (hy : Int), .int .i64 (pr : Int), .float .f64 lo] rfl rfl 41 _ HMa.out.2.2.1 (by kernel_rfl) rfl (cfg_one _ _ _ _ _ _) ?_
        have HMb : Hid (Made (za.setRow B6 #[.int .i64 (W1 : Int), .int .i64 (T1 : Int), .int .u8 (M1 : Int), .int .i64 (hy : Int), .int .i64 (pr : Int), .float .f64 lo]) L n0 k aC aO cC cO ∧ Blk w2 (za.setRow B6 #[.int .i64 (W1 : Int), .int .i64 (T1 : Int), .int .u8 (M1 : Int), .int .i64 (hy : Int), .int .i64 (pr : Int), .float .f64 lo]) B5 37 #[.slice aC k cC, .slice aO (k + 1) cO] ∧ Blk w2 (za.setRow B6 #[.int .i64 (W1 : Int), .int .i64 (T1 : Int), .int .u8 (M1 : Int), .int .i64 (hy : Int), .int .i64 (pr : Int), .float .f64 lo]) B6 41 #[.int .i64 (W1 : Int), .int .i64 (T1 : Int), .int .u8 (M1 : Int), .int .i64 (hy : Int), .int .i64 (pr : Int), .float .f64 lo]) := ⟨HMa.out.1.store HMa.out.2.2.1 (by decide) (by decide) _, HMa.out.2.1.far HMa.out.2.2 (by decide) _, HMa.out.2.2.put _⟩
        obtain ⟨zb, hzb⟩ : ∃ Y, Y = za.setRow B6 #[.int .i64 (W1 : Int), .int .i64 (T1 : Int), .int .u8 (M1 : Int), .int .i64 (hy : Int), .int .i64 (pr : Int), .float .f64 lo] := ⟨_, rfl⟩
        rw [← hzb] at HXb HMb ⊢
        clear hzb
        refine hK.out _ _ (HKS.out _ HXb.out) (fun hHeld => ?_)
        clear hK
        (try simp only [Act.put, List.setIfInBounds_toArray, List.set_cons_zero, List.set_cons_succ])
        refine wpAnyH_done (by kernel_rfl) ?_ _
        clear hHeld
        go_wp2_with fail
        go_meet
        exact ⟨k, B5, B6, aC, aO, cC, cO, _, rfl, rfl, rfl, HMb.out.1, HMb.out.2.1, HMb.out.2.2, HXb.out⟩
  case rest =>
    obtain ⟨k, B5, B6, aC, aO, cC, cO, X, hX, rfl, rfl, hmd, hb5, hb6, hoX⟩ := hcut
    subst hX
    have hk0 := hmd.le
    obtain ⟨q0, q1, q2, q3, q4, q5⟩ := blk_six hb6.1
    have fz : X.frozen? ⟨B6, 2, none⟩ = false := fz_blk hb6.1 2
    have lq : B6 < X.heap.size := (Array.getElem?_eq_some_iff.1 hb6.1).1
    have HQ : Hid (Made X L n0 k aC aO cC cO ∧ Blk w2 X B5 37 #[.slice aC k cC, .slice aO (k + 1) cO] ∧ Blk w2 X B6 41 #[.int .i64 (W1 : Int), .int .i64 (T1 : Int), .int .u8 (M1 : Int), .int .i64 (hy : Int), .int .i64 (pr : Int), .float .f64 lo] ∧ Only (fun _ => False) w2 X) := ⟨hmd, hb5, hb6, hoX⟩
    clear hmd hb5 hb6 hoX
    go_upto_region 3 with fail
    obtain ⟨Y, hY⟩ : ∃ Y, Y = X.setCell ⟨B6, 2, none⟩ (.int .u8 0) := ⟨_, rfl⟩
    rw [← hY]
    have e1 : Y = X.setRow B6 #[.int .i64 (W1 : Int), .int .i64 (T1 : Int), .int .u8 0, .int .i64 (hy : Int), .int .i64 (pr : Int), .float .f64 lo] := by rw [hY, setCell_eq_setRow _ _ _ _ _ _ _ HQ.out.2.2.1.1]; rfl
    have HY : Hid (Made Y L n0 k aC aO cC cO ∧ Blk w2 Y B5 37 #[.slice aC k cC, .slice aO (k + 1) cO] ∧ Blk w2 Y B6 41 #[.int .i64 (W1 : Int), .int .i64 (T1 : Int), .int .u8 0, .int .i64 (hy : Int), .int .i64 (pr : Int), .float .f64 lo] ∧ Only (fun _ => False) w2 Y) := by
      rw [e1]
      exact ⟨HQ.out.1.store HQ.out.2.2.1.1 (by decide) (by decide) _, HQ.out.2.1.far HQ.out.2.2.1 (by decide) _, HQ.out.2.2.1.put _, HQ.out.2.2.2.setRowNew HQ.out.2.2.1.2 _⟩
    clear hY e1 q0 q1 q2 q3 q4 q5 fz lq HQ
    obtain ⟨C, hC⟩ : ∃ x, x = Pa.cts (L.take k) 0 := ⟨_, rfl⟩
    obtain ⟨O, hO⟩ : ∃ x, x = Pa.ops L k ++ [2] := ⟨_, rfl⟩
    have HPv : Hid (∀ W', Only (fun _ => False) Y W' → Pv W' C O k (k + 1) aC aO cC cO) := fun W' ho => by
      rw [hC, hO]
      exact (HY.out.1.keep ho).pv (by omega) HN.out
    have HST : Hid (∀ W', Made W' L n0 k aC aO cC cO → Pv W' C O k (k + 1) aC aO cC cO) := fun W' hm => by
      rw [hC, hO]
      exact hm.pv (by omega) HN.out
    have HOK : Hid (Lv.Opk O k) := by rw [hO]; exact opk_pa L k
    clear hC hO
    obtain ⟨A, hA⟩ : ∃ x, x = Lv.fof C O T1 W1 (It.parts O (k + 1)) (It.parts O (k + 1)).length := ⟨_, rfl⟩
    obtain ⟨nA, hnA⟩ : ∃ x, x = A.length := ⟨_, rfl⟩
    have HCH : Hid (Lv.Chn 0 k A ∧ nA = A.length ∧ ∀ l ∈ A, Lv.Lnk C T1 l) := ⟨by rw [hA]; exact Lv.all_chn HOK.out, hnA, by rw [hA]; exact Lv.fof_lnk (HPv.out Y (Only.refl _ _)).oO T1 W1 _ _⟩
    have HBR : Hid (∀ W', Only (fun _ => False) Y W' → Calls Try.prog 17 #[.agg #[.slice aC k cC, .slice aO (k + 1) cO], .agg #[.int .i64 (W1 : Int), .int .i64 (T1 : Int), .int .u8 0, .int .i64 (hy : Int), .int .i64 (pr : Int), .float .f64 lo]] W' fun e w' => ∃ (a : Option Addr) (c : Nat), e = .returned (.tuple #[.slice a nA c, .bool false]) ∧ w'.ownsRow W'.heap.size 46 4 (.slice a nA c) nA (lnC A) ∧ Only (fun _ => False) W' w') := fun W' ho => by
      refine (refBreakF_any C O k (k + 1) aC aO cC cO W1 T1 hy pr lo W' (HPv.out W' ho) rfl (by omega) (by omega) ht0 (by omega)).mono ?_
      rintro e w' ⟨n, a, c, hn, he, hown, ho'⟩
      rw [← hA] at hn he hown
      have e2 : n = nA := hn.trans hnA.symm
      subst e2
      exact ⟨a, c, he, hown, ho'⟩
    have hnAk : nA ≤ k := by have := HCH.out.1.len; have := HCH.out.2.1; omega
    clear hA hnA
    have HS : Hid (∀ W', Only (fun _ => False) Y W' → ((W'.cell? ⟨B5, 0, none⟩ = some (.slice aC k cC) ∧ W'.cell? ⟨B5, 1, none⟩ = some (.slice aO (k + 1) cO)) ∧ (W'.cell? ⟨B6, 0, none⟩ = some (.int .i64 (W1 : Int)) ∧ W'.cell? ⟨B6, 1, none⟩ = some (.int .i64 (T1 : Int)) ∧ W'.cell? ⟨B6, 2, none⟩ = some (.int .u8 0) ∧ W'.cell? ⟨B6, 3, none⟩ = some (.int .i64 (hy : Int)) ∧ W'.cell? ⟨B6, 4, none⟩ = some (.int .i64 (pr : Int)) ∧ W'.cell? ⟨B6, 5, none⟩ = some (.float .f64 lo))) ∧ B5 < W'.heap.size ∧ B6 < W'.heap.size ∧ Only (fun _ => False) w W') := fun W' ho => by
      have e5 := blk_keep ho HY.out.2.1.1
      have e6 := blk_keep ho HY.out.2.2.1.1
      exact ⟨⟨⟨(blk_two e5).1, (blk_two e5).2.1⟩, blk_six e6⟩, (blk_two e5).2.2, (Array.getElem?_eq_some_iff.1 e6).1, HW2.out.trans (HY.out.2.2.2.trans ho)⟩
    obtain ⟨⟨⟨r0, r1⟩, k0, k1, k2, k3, k4, k5⟩, l5, l6, -⟩ := HS.out Y (Only.refl _ _)
    go_wp2_with fail
    refine Calls.mono (HBR.out _ (Only.refl _ _)) ?_
    rintro e Z ⟨aA, cA, rfl, hownA, hoZ⟩
    have HZ : Hid (Z.ownsRow Y.heap.size 46 4 (.slice aA nA cA) nA (lnC A) ∧ Only (fun _ => False) Y Z) := ⟨hownA, hoZ⟩
    clear hownA hoZ r0 r1 k0 k1 k2 k3 k4 k5 l5 l6
    obtain ⟨⟨⟨r0, r1⟩, k0, k1, k2, k3, k4, k5⟩, l5, l6, -⟩ := HS.out Z HZ.out.2
    have HB4 : Hid (∀ W', Only (fun _ => False) Z W' → W'.heap[B4]? = some (.cells #[.slice none 0 0, .slice none 0 0] 37 (0, 0)) ∧ W'.heap[B7]? = some (.cells #[.int .i64 0, .int .i64 0, .int .u8 0, .int .i64 0, .int .i64 0, .float .f64 0] 41 (0, 0))) := fun W' ho => ⟨blk_keep (HY.out.2.2.2.trans (HZ.out.2.trans ho)) H0.out.2.1, blk_keep (HY.out.2.2.2.trans (HZ.out.2.trans ho)) H0.out.2.2.1⟩
    have HN5 : Hid (B5 ≠ B4 ∧ B6 ≠ B4 ∧ B5 ≠ B7 ∧ B6 ≠ B7 ∧ B4 ≠ B7) := by
      have h5' := HY.out.2.1.2
      have h6' := HY.out.2.2.1.2
      have q4 : B4 < w2.heap.size := (Array.getElem?_eq_some_iff.1 H0.out.2.1).1
      have q7 : B7 < w2.heap.size := (Array.getElem?_eq_some_iff.1 H0.out.2.2.1).1
      exact ⟨fun e => by omega, fun e => by omega, fun e => by omega, fun e => by omega, H0.out.2.2.2.2.2.2⟩
    have HK : Hid (∀ W', Only (fun g => g = B4 ∨ g = B7) Z W' → ((W'.cell? ⟨B5, 0, none⟩ = some (.slice aC k cC) ∧ W'.cell? ⟨B5, 1, none⟩ = some (.slice aO (k + 1) cO)) ∧ (W'.cell? ⟨B6, 0, none⟩ = some (.int .i64 (W1 : Int)) ∧ W'.cell? ⟨B6, 1, none⟩ = some (.int .i64 (T1 : Int)) ∧ W'.cell? ⟨B6, 2, none⟩ = some (.int .u8 0) ∧ W'.cell? ⟨B6, 3, none⟩ = some (.int .i64 (hy : Int)) ∧ W'.cell? ⟨B6, 4, none⟩ = some (.int .i64 (pr : Int)) ∧ W'.cell? ⟨B6, 5, none⟩ = some (.float .f64 lo)))) := fun W' ho => by
      have h := (HS.out Z HZ.out.2).1
      have n5 : ¬ (B5 = B4 ∨ B5 = B7) := fun e => e.elim HN5.out.1 HN5.out.2.2.1
      have n6 : ¬ (B6 = B4 ∨ B6 = B7) := fun e => e.elim HN5.out.2.1 HN5.out.2.2.2.1
      exact ⟨⟨keepS ho h.1.1 n5, keepS ho h.1.2 n5⟩, keepS ho h.2.1 n6, keepS ho h.2.2.1 n6, keepS ho h.2.2.2.1 n6, keepS ho h.2.2.2.2.1 n6, keepS ho h.2.2.2.2.2.1 n6, keepS ho h.2.2.2.2.2.2 n6⟩
    have HD : Hid (Only (fun _ => False) Z Z.drew) := (Only.refl _ _).drew
    have hd4 := (HB4.out Z.drew HD.out).1
    have hd7 := (HB4.out Z.drew HD.out).2
    go_upto_region 4 with fail
    refine wp_region_held_drew (S := fun W' => ((W'.cell? ⟨B5, 0, none⟩ = some (.slice aC k cC) ∧ W'.cell? ⟨B5, 1, none⟩ = some (.slice aO (k + 1) cO)) ∧ (W'.cell? ⟨B6, 0, none⟩ = some (.int .i64 (W1 : Int)) ∧ W'.cell? ⟨B6, 1, none⟩ = some (.int .i64 (T1 : Int)) ∧ W'.cell? ⟨B6, 2, none⟩ = some (.int .u8 0) ∧ W'.cell? ⟨B6, 3, none⟩ = some (.int .i64 (hy : Int)) ∧ W'.cell? ⟨B6, 4, none⟩ = some (.int .i64 (pr : Int)) ∧ W'.cell? ⟨B6, 5, none⟩ = some (.float .f64 lo)))) (by kernel_rfl) (HK.out _ ((Only.refl _ _).drew)) (fun hHeld => ?_)
    refine wpAnyH_take (i := 0) (oi := { dst := some 26, op := _, type := _, pos := _, after := _, guard := _ }) (v := .agg #[.slice aC k cC, .slice aO (k + 1) cO]) rfl (by kernel_rfl) (by kernel_rfl) (by kernel_rfl) (fun _ _ _ h => h) (Or.inl ⟨by rfl, fun w hSw => by obtain ⟨⟨x0, x1⟩, y0, y1, y2, y3, y4, y5⟩ := hSw; first | (go_simp; done) | go_simp⟩) (by assumption) ?_
    (try simp only [Act.put, List.setIfInBounds_toArray, List.set_cons_zero, List.set_cons_succ])
    refine wpAnyH_take (i := 1) (oi := { dst := some 27, op := _, type := _, pos := _, after := _, guard := _ }) (v := .slice aA nA cA) rfl (by kernel_rfl) (by kernel_rfl) (by kernel_rfl) (fun _ _ _ h => h) (Or.inl ⟨by rfl, fun w hSw => by obtain ⟨⟨x0, x1⟩, y0, y1, y2, y3, y4, y5⟩ := hSw; first | (go_simp; done) | go_simp⟩) (by assumption) ?_
    (try simp only [Act.put, List.setIfInBounds_toArray, List.set_cons_zero, List.set_cons_succ])
    refine wpAnyH_take (i := 2) (oi := { dst := some 28, op := _, type := _, pos := _, after := _, guard := _ }) (v := .agg #[.int .i64 (W1 : Int), .int .i64 (T1 : Int), .int .u8 0, .int .i64 (hy : Int), .int .i64 (pr : Int), .float .f64 lo]) rfl (by kernel_rfl) (by kernel_rfl) (by kernel_rfl) (fun _ _ _ h => h) (Or.inl ⟨by rfl, fun w hSw => by obtain ⟨⟨x0, x1⟩, y0, y1, y2, y3, y4, y5⟩ := hSw; first | (go_simp; done) | go_simp⟩) (by assumption) ?_
    (try simp only [Act.put, List.setIfInBounds_toArray, List.set_cons_zero, List.set_cons_succ])
    refine wpAnyH_ready (rs := [3]) (by kernel_rfl) (by simp) ?_
    refine AllReadyH.cons rfl (fun K hK => ?_) AllReadyH.nil
    rw [if_pos (by rfl)]
    refine wp_store_row 37 _ _ rfl B4 #[.slice aC k cC, .slice aO (k + 1) cO] rfl rfl 37 _ hd4 (by kernel_rfl) rfl (two_one _ _ _ _ _ _) ?_
    obtain ⟨za, hza⟩ : ∃ Y, Y = Z.drew.setRow B4 #[.slice aC k cC, .slice aO (k + 1) cO] := ⟨_, rfl⟩
    have HA1 : Hid (Only (fun g => g = B4) Z za ∧ za.heap[B4]? = some (.cells #[.slice aC k cC, .slice aO (k + 1) cO] 37 (0, 0)) ∧ za.heap[B7]? = some (.cells #[.int .i64 0, .int .i64 0, .int .u8 0, .int .i64 0, .int .i64 0, .float .f64 0] 41 (0, 0))) := by
      rw [hza]
      exact ⟨((Only.refl _ _).drew).trans (Only.setRow _ _ _), setRow_heap _ _ _ _ _ _ hd4, far_blk (Only.setRow _ _ _) hd7 (fun e => HN5.out.2.2.2.2 e.symm)⟩
    have HA2 : Hid (Made za L n0 k aC aO cC cO ∧ za.ownsRow Y.heap.size 46 4 (.slice aA nA cA) nA (lnC A)) := by
      rw [hza]
      have h3 := own_only HZ.out.1 HD.out (fun _ _ h => h)
      exact ⟨(HY.out.1.keep (HZ.out.2.trans HD.out)).store hd4 (by decide) (by decide) _, own_stay h3 (Only.setRow _ _ _) (fun g hg he => own_ne h3 hd4 (by decide) (by rw [← he]; exact hg))⟩
    rw [← hza]
    clear hza hd4 hd7
    refine hK.out _ _ (HK.out _ (HA1.out.1.mono (fun _ h => Or.inl h))) (fun hHeld => ?_)
    clear hK
    (try simp only [Act.put, List.setIfInBounds_toArray, List.set_cons_zero, List.set_cons_succ])
    refine wpAnyH_take (i := 4) (oi := { dst := some 5, op := _, type := _, pos := _, after := _, guard := _ }) (v := .slice aA nA cA) rfl (by kernel_rfl) (by kernel_rfl) (by kernel_rfl) (fun _ _ _ h => h) (Or.inl ⟨by rfl, fun w hSw => by obtain ⟨⟨x0, x1⟩, y0, y1, y2, y3, y4, y5⟩ := hSw; first | (go_simp; done) | go_simp⟩) (by assumption) ?_
    (try simp only [Act.put, List.setIfInBounds_toArray, List.set_cons_zero, List.set_cons_succ])
    refine wpAnyH_ready (rs := [5]) (by kernel_rfl) (by simp) ?_
    refine AllReadyH.cons rfl (fun K hK => ?_) AllReadyH.nil
    rw [if_pos (by rfl)]
    refine wp_store_row 41 _ _ rfl B7 #[.int .i64 (W1 : Int), .int .i64 (T1 : Int), .int .u8 0, .int .i64 (hy : Int), .int .i64 (pr : Int), .float .f64 lo] rfl rfl 41 _ HA1.out.2.2 (by kernel_rfl) rfl (cfg_one _ _ _ _ _ _) ?_
    obtain ⟨zb, hzb⟩ : ∃ Y, Y = za.setRow B7 #[.int .i64 (W1 : Int), .int .i64 (T1 : Int), .int .u8 0, .int .i64 (hy : Int), .int .i64 (pr : Int), .float .f64 lo] := ⟨_, rfl⟩
    have HB1 : Hid (Only (fun g => g = B4 ∨ g = B7) Z zb ∧ zb.heap[B4]? = some (.cells #[.slice aC k cC, .slice aO (k + 1) cO] 37 (0, 0)) ∧ zb.heap[B7]? = some (.cells #[.int .i64 (W1 : Int), .int .i64 (T1 : Int), .int .u8 0, .int .i64 (hy : Int), .int .i64 (pr : Int), .float .f64 lo] 41 (0, 0))) := by
      rw [hzb]
      exact ⟨(HA1.out.1.mono (fun _ h => Or.inl h)).trans ((Only.setRow _ _ _).mono (fun _ h => Or.inr h)), far_blk (Only.setRow _ _ _) HA1.out.2.1 HN5.out.2.2.2.2, setRow_heap _ _ _ _ _ _ HA1.out.2.2⟩
    have HB2 : Hid (Made zb L n0 k aC aO cC cO ∧ zb.ownsRow Y.heap.size 46 4 (.slice aA nA cA) nA (lnC A)) := by
      rw [hzb]
      exact ⟨HA2.out.1.store HA1.out.2.2 (by decide) (by decide) _, own_stay HA2.out.2 (Only.setRow _ _ _) (fun g hg he => own_ne HA2.out.2 HA1.out.2.2 (by decide) (by rw [← he]; exact hg))⟩
    rw [← hzb]
    clear hzb
    refine hK.out _ _ (HK.out _ HB1.out.1) (fun hHeld => ?_)
    clear hK
    (try simp only [Act.put, List.setIfInBounds_toArray, List.set_cons_zero, List.set_cons_succ])
    refine wpAnyH_done (by kernel_rfl) ?_ _
    clear hHeld
    go_wp2_with fail
    refine bodyPost_ret (v := .tuple #[.agg #[.slice aC k cC, .slice aO (k + 1) cO], .slice aA nA cA, .agg #[.int .i64 (W1 : Int), .int .i64 (T1 : Int), .int .u8 0, .int .i64 (hy : Int), .int .i64 (pr : Int), .float .f64 lo]]) (results_cell3 rfl _ _ B4 37 #[.slice aC k cC, .slice aO (k + 1) cO] (0, 0) _ rfl HB1.out.2.1 Try.underlying37 rfl (by kernel_rfl) (.slice aA nA cA) (by rfl) B7 41 #[.int .i64 (W1 : Int), .int .i64 (T1 : Int), .int .u8 0, .int .i64 (hy : Int), .int .i64 (pr : Int), .float .f64 lo] (0, 0) _ rfl HB1.out.2.2 Try.underlying41 rfl (by kernel_rfl)) rfl ⟨C, O, k, aC, aO, cC, cO, A, nA, aA, cA, W1, T1, ⟨hy, pr, lo, rfl⟩, ⟨HST.out _ HB2.out.1, by omega, HCH.out.1, HCH.out.2.2, own_vw HB2.out.2, HCH.out.2.1, hw1, ht0, ht1⟩, ?_⟩
    have hz := (HS.out Z HZ.out.2).2.2.2
    have h4 := H0.out.2.2.2
    exact (hz.mono (fun _ h => h.elim)).trans HB1.out.1 |>.old (fun g hg => Or.inl (by rcases hg with q | q <;> omega))
end Go.Proofs.Ytngaihkgndlkhaa
