/-
  cells.Make.
-/
import Derived.Test.YtlcpfheocenjfaaCe2
import Derived.Deep.OwnRows
namespace Go.Proofs.Ytlcpfheocenjfaa
open Go.RowKit Go.Maps
set_option linter.unusedVariables false
set_option linter.unusedSimpArgs false
/-- clusters as cells. -/
def ctC (C : List Ct) : List Value := C.flatMap fun c => [.int .i64 (c.pl : Int), .int .i64 (c.len : Int), .int .i64 c.cells, .int .u8 (c.kind : Int)]
theorem ctC_len : ∀ S : List Ct, (ctC S).length = S.length * 4
  | [] => rfl
  | x :: L => by
    show ([Value.int .i64 (x.pl : Int), Value.int .i64 (x.len : Int), Value.int .i64 x.cells, Value.int .u8 (x.kind : Int)] ++ ctC L).length = _
    rw [List.length_append, ctC_len L]
    simp
    omega
theorem ctC_append (L M : List Ct) : ctC (L ++ M) = ctC L ++ ctC M := by unfold ctC; rw [List.flatMap_append]
theorem ctC_at : ∀ (L : List Ct) (k : Nat) (x : Ct), L[k]? = some x → (ctC L)[k * 4]? = some (.int .i64 (x.pl : Int)) ∧ (ctC L)[k * 4 + 1]? = some (.int .i64 (x.len : Int)) ∧ (ctC L)[k * 4 + 2]? = some (.int .i64 x.cells) ∧ (ctC L)[k * 4 + 3]? = some (.int .u8 (x.kind : Int)) := by
  intro L
  induction L with
  | nil => intro k x h; simp at h
  | cons y L ih =>
    intro k x h
    have e : ctC (y :: L) = [.int .i64 (y.pl : Int), .int .i64 (y.len : Int), .int .i64 y.cells, .int .u8 (y.kind : Int)] ++ ctC L := rfl
    rw [e]
    cases k with
    | zero => simp at h; subst h; exact ⟨rfl, rfl, rfl, rfl⟩
    | succ k =>
      have := ih k x (by simpa using h)
      rw [show (k + 1) * 4 = k * 4 + 4 by omega]
      exact ⟨this.1, this.2.1, this.2.2.1, this.2.2.2⟩
def zc : Ct := ⟨0, 0, 0, 0⟩
theorem ctC_get (L : List Ct) (j : Nat) (x : Ct) (h : L[j / 4]? = some x) : (ctC L)[j]? = (ctC [x])[j % 4]? := by
  obtain ⟨h0, h1, h2, h3⟩ := ctC_at L (j / 4) x h
  obtain ⟨z0, z1, z2, z3⟩ := ctC_at [x] 0 x rfl
  have hm : j % 4 = 0 ∨ j % 4 = 1 ∨ j % 4 = 2 ∨ j % 4 = 3 := by omega
  have e : j = j / 4 * 4 + j % 4 := by omega
  rcases hm with e' | e' | e' | e'
  · rw [e'] at e ⊢; rw [e]; exact h0.trans z0.symm
  · rw [e'] at e ⊢; rw [e]; exact h1.trans z1.symm
  · rw [e'] at e ⊢; rw [e]; exact h2.trans z2.symm
  · rw [e'] at e ⊢; rw [e]; exact h3.trans z3.symm
theorem ctC_set {L : List Ct} {k : Nat} (x : Ct) (hk : k < L.length) : (((((ctC L).toArray.setIfInBounds (k * 4) (.int .i64 (x.pl : Int))).setIfInBounds (k * 4 + 1) (.int .i64 (x.len : Int))).setIfInBounds (k * 4 + 2) (.int .i64 x.cells)).setIfInBounds (k * 4 + 3) (.int .u8 (x.kind : Int))) = (ctC (L.set k x)).toArray := by
  apply Array.ext_getElem?
  intro j
  have hl := ctC_len L
  have hl2 := ctC_len (L.set k x)
  rw [List.length_set] at hl2
  simp only [Array.getElem?_setIfInBounds, Array.size_setIfInBounds, List.size_toArray, List.getElem?_toArray]
  by_cases hj : j < L.length * 4
  · by_cases hq : j / 4 = k
    · have hx : (L.set k x)[j / 4]? = some x := by rw [hq, List.getElem?_set, if_pos rfl, if_pos hk]
      rw [ctC_get _ j x hx]
      obtain ⟨z0, z1, z2, z3⟩ := ctC_at [x] 0 x rfl
      have hm : j % 4 = 0 ∨ j % 4 = 1 ∨ j % 4 = 2 ∨ j % 4 = 3 := by omega
      rcases hm with e' | e' | e' | e'
      · rw [if_neg (by omega), if_neg (by omega), if_neg (by omega), if_pos (by omega), if_pos (by omega), e']; exact z0.symm
      · rw [if_neg (by omega), if_neg (by omega), if_pos (by omega), if_pos (by omega), e']; exact z1.symm
      · rw [if_neg (by omega), if_pos (by omega), if_pos (by omega), e']; exact z2.symm
      · rw [if_pos (by omega), if_pos (by omega), e']; exact z3.symm
    · have hy : L[j / 4]? = some (L[j / 4]'(by omega)) := List.getElem?_eq_getElem (by omega)
      have hx : (L.set k x)[j / 4]? = some (L[j / 4]'(by omega)) := by rw [List.getElem?_set, if_neg (fun e => hq e.symm)]; exact hy
      rw [ctC_get _ j _ hx, ← ctC_get _ j _ hy, if_neg (by omega), if_neg (by omega), if_neg (by omega), if_neg (by omega)]
  · rw [if_neg (by omega), if_neg (by omega), if_neg (by omega), if_neg (by omega), List.getElem?_eq_none (by omega), List.getElem?_eq_none (by omega)]
/-- the first i clusters are laid, zeros behind them. -/
def laid (C : List Ct) (i n : Nat) : List Ct := C.take i ++ List.replicate (n - i) zc
theorem laid_zero (C : List Ct) (n : Nat) : laid C 0 n = List.replicate n zc := by simp [laid]
theorem laid_full {C : List Ct} {n : Nat} (h : C.length = n) : laid C n n = C := by
  unfold laid
  rw [Nat.sub_self, List.take_of_length_le (by omega)]
  simp
theorem laid_len {C : List Ct} {i n : Nat} (h : C.length = n) (hi : i ≤ n) : (laid C i n).length = n := by
  unfold laid
  rw [List.length_append, List.length_take, List.length_replicate]
  omega
theorem laid_set {C : List Ct} {i n : Nat} {x : Ct} (h : C.length = n) (hi : i < n) (hx : C[i]? = some x) : (laid C i n).set i x = laid C (i + 1) n := by
  apply List.ext_getElem?
  intro j
  unfold laid
  have e1 : (C.take i).length = i := by rw [List.length_take]; omega
  have e2 : (C.take (i + 1)).length = i + 1 := by rw [List.length_take]; omega
  rw [List.getElem?_set]
  by_cases hj : i = j
  · subst hj
    rw [if_pos rfl, if_pos (by rw [List.length_append, e1, List.length_replicate]; omega), List.getElem?_append_left (by omega), List.getElem?_take, if_pos (by omega), hx]
  · rw [if_neg hj]
    by_cases hlt : j < i
    · rw [List.getElem?_append_left (by omega), List.getElem?_append_left (by omega), List.getElem?_take, List.getElem?_take, if_pos hlt, if_pos (by omega)]
    · rw [List.getElem?_append_right (by omega), List.getElem?_append_right (by omega), e1, e2, List.getElem?_replicate, List.getElem?_replicate]
      by_cases hn : j < n
      · rw [if_pos (by omega), if_pos (by omega)]
      · rw [if_neg (by omega), if_neg (by omega)]
theorem made4 (n : Nat) : madeCells #[.int .i64 0, .int .i64 0, .int .i64 0, .int .u8 0] (n * 4) = (ctC (List.replicate n zc)).toArray := by
  apply Array.ext_getElem?
  intro j
  by_cases hj : j < n * 4
  · have hx : (List.replicate n zc)[j / 4]? = some zc := by rw [List.getElem?_replicate, if_pos (by omega)]
    have e0 : (ctC (List.replicate n zc)).toArray[j]? = (ctC (List.replicate n zc))[j]? := by simp
    rw [e0, ctC_get _ j _ hx, Array.getElem?_eq_getElem (by rw [size_madeCells]; exact hj)]
    have hm : j % 4 = 0 ∨ j % 4 = 1 ∨ j % 4 = 2 ∨ j % 4 = 3 := by omega
    rcases hm with e' | e' | e' | e' <;> simp [madeCells, e', ctC, zc]
  · rw [Array.getElem?_eq_none (by rw [size_madeCells]; omega), List.getElem?_toArray, List.getElem?_eq_none (by rw [ctC_len, List.length_replicate]; omega)]
theorem run_make4 (n : Nat) (hn : n ≤ 10000000) (w : World) : (Instr.makeSlice 34 (.int .i64 (n : Int)) (.int .i64 (n : Int))).run Try.prog w = .ok (.slice (some ⟨w.heap.size, 0, none⟩) n n) (w.alloc (.cells (ctC (List.replicate n zc)).toArray 48)) := by
  obtain ⟨i, hi, hz, hs, hb⟩ := info_parts info48
  have hr := run_make (P := Try.prog) w 34 48 i _ Try.underlying34 hi hz .i64 .i64 n n (by omega) (Int.le_refl _) (by rw [hb]; omega) (by omega)
  simp only [Int.toNat_natCast, hs] at hr
  rw [← made4]
  exact hr
theorem snC_drop : ∀ (S : List Sn) (x : Nat), snC (S.drop x) = (snC S).drop (x * 3)
  | [], x => by simp [snC]
  | s :: S, 0 => by simp
  | s :: S, x + 1 => by
    have e : snC (s :: S) = [.int .i32 s.r, .int .i64 (s.pl : Int), .int .i64 (s.len : Int)] ++ snC S := rfl
    rw [List.drop_succ_cons, snC_drop S x, e, show (x + 1) * 3 = 3 + x * 3 by omega, ← List.drop_drop]
    rfl
theorem snC_take : ∀ (S : List Sn) (x : Nat), snC (S.take x) = (snC S).take (x * 3)
  | [], x => by simp [snC]
  | s :: S, 0 => by simp [snC]
  | s :: S, x + 1 => by
    have e : snC (s :: S) = [.int .i32 s.r, .int .i64 (s.pl : Int), .int .i64 (s.len : Int)] ++ snC S := rfl
    have e2 : snC (s :: S.take x) = [.int .i32 s.r, .int .i64 (s.pl : Int), .int .i64 (s.len : Int)] ++ snC (S.take x) := rfl
    have e3 : List.take (3 + x * 3) [Value.int .i32 s.r, Value.int .i64 (s.pl : Int), Value.int .i64 (s.len : Int)] = [Value.int .i32 s.r, Value.int .i64 (s.pl : Int), Value.int .i64 (s.len : Int)] := List.take_of_length_le (by simp)
    rw [List.take_succ_cons, e2, snC_take S x, e, show (x + 1) * 3 = 3 + x * 3 by omega, List.take_append, e3]
    simp
theorem Vw.seg {w : World} {b off : Nat} {S : List Sn} (h : Vw w (some ⟨b, off, none⟩) (snC S)) (x y : Nat) : Vw w (some ⟨b, off + x * 3, none⟩) (snC (Ce.seg S x y)) := by
  rcases h with h | ⟨b', off', e, hc⟩
  · refine Or.inl ?_
    unfold Ce.seg
    rw [snC_take, snC_drop, h]
    simp
  · injection e with e
    injection e with e1 e2
    subst e1 e2
    refine Or.inr ⟨b, off + x * 3, rfl, fun j u hj => ?_⟩
    unfold Ce.seg at hj
    rw [snC_take, snC_drop, List.getElem?_take] at hj
    split at hj
    · rw [List.getElem?_drop] at hj
      rw [Nat.add_assoc]
      exact hc _ _ hj
    · cases hj
theorem Fits.seg {S : List Sn} (h : Fits S) (x y : Nat) : Fits (Ce.seg S x y) := fun s hs => h s (List.mem_of_mem_drop (List.mem_of_mem_take hs))
def ceP (of : Int → Int) (S : List Sn) (M : List Nat) (w : World) (e : Ending) (w' : World) : Prop := ∃ (aC aP : Option Addr) (cC cP : Nat), e = .returned (.tuple #[.slice aC (Ce.cls of S M).length cC, .slice aP (Ce.starts M S.length).length cP]) ∧ w'.ownsRow w.heap.size 48 4 (.slice aC (Ce.cls of S M).length cC) (Ce.cls of S M).length (ctC (Ce.cls of S M)) ∧ w'.ownsRow w.heap.size 3 1 (.slice aP (Ce.starts M S.length).length cP) (Ce.starts M S.length).length (natI (Ce.starts M S.length)) ∧ Only (fun _ => False) w w'
set_option maxRecDepth 100000 in
set_option maxHeartbeats 4000000 in
theorem cells_any (most : Int) (L : List Rg) (base T : Nat) (S : List Sn) (M : List Nat) (a0 aM : Option Addr) (c0 cM : Nat) (w : World) (hT : Tab w base T L) (hok : Pr.okFrom most (-1) L = true) (hV : Vw w a0 (snC S)) (hF : Fits S) (hVM : Vw w aM (u8s M)) (hB : ∀ x ∈ M, x < 256) (hm : S.length ≤ 1000000) (hmM : M.length ≤ maxLen) (hc : S.length ≤ c0) (hcm : c0 ≤ maxLen) :
    Calls Try.prog 18 #[.slice a0 S.length c0, .slice aM M.length cM, .pointer (some ⟨T, 0, none⟩)] w (ceP (Pr.of L) S M w) := by
  have HB : Hid (∀ W, Only (fun _ => False) w W → Calls Try.prog 41 #[.int .i64 (S.length : Int), .slice aM M.length cM] W (bgP M S.length W)) := fun W ho => begins_cuts S.length M aM cM W (hVM.keep ho) hB hm hmM
  have HT : Hid (Tab w base T L ∧ Pr.okFrom most (-1) L = true ∧ Vw w a0 (snC S) ∧ Fits S) := ⟨hT, hok, hV, hF⟩
  obtain ⟨n, hn⟩ : ∃ n, n = S.length := ⟨_, rfl⟩
  obtain ⟨q, hq⟩ : ∃ q, q = (Ce.st M S.length).length := ⟨_, rfl⟩
  obtain ⟨q1, hq1⟩ : ∃ q1, q1 = (Ce.starts M S.length).length := ⟨_, rfl⟩
  have hq1q : q1 = q + 1 := by rw [hq1, hq, Ce.starts_len]
  have hqn : q ≤ n := by rw [hq, hn]; exact Ce.st_len M _
  have HN : Hid (n = S.length ∧ q = (Ce.st M S.length).length ∧ q1 = (Ce.starts M S.length).length ∧ (Ce.cls (Pr.of L) S M).length = q) := ⟨hn, hq, hq1, by rw [hq]; exact Ce.cls_len _ _ _⟩
  unfold bgP at HB
  unfold ceP
  rw [HN.out.2.2.2]
  rw [← hq1, ← hn] at HB
  rw [← hq1, ← hn]
  rw [← hn] at hm hc
  unfold maxLen at hcm
  have t0 : wrap64 ((q1 : Int) - 1) = (q : Int) := by unfold wrap64; omega
  have hmk := run_make4 q (by omega)
  clear hT hok hV hF hVM hB hmM hn hq hq1
  have HQ1 : Hid (q1 = q + 1) := hq1q
  clear hq1q
  go_enter Try.func18, Try.ntmps18
  go_wp2_with (go_at_call 41; refine Calls.mono (HB.out _ (Only.refl _ _)) ?_; rintro e w1 ⟨a1, c1, rfl, hown1, ho1⟩; have H1 : Hid (w1.ownsRow w.heap.size 3 1 (.slice a1 q1 c1) q1 (natI (Ce.starts M n)) ∧ Only (fun _ => False) w w1) := ⟨hown1, ho1⟩; clear hown1 ho1)
  obtain ⟨g, cap1, ev, lg, _, hcell⟩ := own_cells H1.out.1 (by have := HQ1.out; omega)
  have ea : a1 = some ⟨g, 0, none⟩ := by injection ev
  subst ea
  have HP : Hid (∀ W, Only (fun _ => False) w1 W → ∀ (j x : Nat), (Ce.starts M n)[j]? = some x → W.cell? ⟨g, j, none⟩ = some (.int .i64 (x : Int))) := fun W ho j x hj => keep0 ho (hcell j _ (natI_get hj))
  clear hcell ev
  obtain ⟨W0, hW0⟩ : ∃ Z, Z = w1.alloc (.cells (ctC (List.replicate q zc)).toArray 48) := ⟨_, rfl⟩
  rw [← hW0]
  obtain ⟨B, hB⟩ : ∃ l, l = w1.heap.size := ⟨_, rfl⟩
  rw [← hB]
  have HW0 : Hid (W0.heap[B]? = some (.cells (ctC (laid (Ce.cls (Pr.of L) S M) 0 q)).toArray 48 (0, 0)) ∧ Only (fun b => B ≤ b) w1 W0 ∧ B = w1.heap.size) := by
    rw [laid_zero, hW0, hB]
    exact ⟨heap_alloc_new w1 _, (Only.refl _ _).alloc _, rfl⟩
  have lgB : g < B := by omega
  clear hW0 hB hmk
  rw [t0]
  go_loopg [21] q (fun gh v wr => ∃ (i : Nat) (W : World), W = wr ∧ gh = q - i ∧ i ≤ q ∧ v = .int .i64 (i : Int) ∧ W.heap[B]? = some (.cells (ctC (laid (Ce.cls (Pr.of L) S M) i q)).toArray 48 (0, 0)) ∧ Only (fun b => B ≤ b) w1 W)
  case atStart => exact ⟨0, _, rfl, rfl, Nat.zero_le _, rfl, HW0.out.1, HW0.out.2.1⟩
  case round =>
    obtain ⟨i, W, hW, rfl, hi, rfl, hbB, hoW⟩ := hrel
    subst hW
    have HG : Hid (W.heap[B]? = some (.cells (ctC (laid (Ce.cls (Pr.of L) S M) i q)).toArray 48 (0, 0)) ∧ Only (fun b => B ≤ b) w1 W ∧ Only (fun _ => False) w1 W) := ⟨hbB, hoW, hoW.old (fun b hb => Or.inl (by have := HW0.out.2.2; omega))⟩
    have lB : B < W.heap.size := (Array.getElem?_eq_some_iff.1 hbB).1
    clear hbB hoW
    by_cases hlt : i < q
    · have t1 : (i : Int) < (q : Int) := by omega
      obtain ⟨x, hx⟩ := Ce.starts_at (M := M) (n := n) (i := i) (by rw [HN.out.1, ← HN.out.2.1]; omega)
      obtain ⟨y, hy⟩ := Ce.starts_at (M := M) (n := n) (i := i + 1) (by rw [HN.out.1, ← HN.out.2.1]; omega)
      have hxy : x < y := Ce.starts_lt hx hy (by omega)
      have hyn : y ≤ n := Ce.starts_le hy
      have HX : Hid ((Ce.cls (Pr.of L) S M)[i]? = some (Ce.tog (Pr.of L) (Ce.seg S x y)) ∧ (Ce.seg S x y).length = y - x) := ⟨Ce.cls_at (by rw [← HN.out.2.1]; exact hlt) (by rw [← HN.out.1]; exact hx) (by rw [← HN.out.1]; exact hy), Ce.seg_len (by rw [← HN.out.1]; exact hyn)⟩
      obtain ⟨s0, hs0⟩ : ∃ s0, S[0]? = some s0 := ⟨_, List.getElem?_eq_getElem (by rw [← HN.out.1]; omega)⟩
      obtain ⟨b, off, e0, hb0, _⟩ := HT.out.2.2.1.sign hs0
      subst e0
      have p1 := HP.out W HG.out.2.2 i x hx
      have p2 := HP.out W HG.out.2.2 (i + 1) y hy
      have HS : Hid (∀ W', Only (fun b => B ≤ b) W W' → W'.cell? ⟨g, i, none⟩ = some (.int .i64 (x : Int)) ∧ W'.cell? ⟨g, i + 1, none⟩ = some (.int .i64 (y : Int))) := fun W' ho => ⟨keepS ho p1 (by omega), keepS ho p2 (by omega)⟩
      obtain ⟨c, hc'⟩ : ∃ c, c = Ce.tog (Pr.of L) (Ce.seg S x y) := ⟨_, rfl⟩
      have HC : Hid (∀ W', Only (fun _ => False) W W' → Calls Try.prog 42 #[.slice (some ⟨b, off + x * 3, none⟩) (y - x) (c0 - x), .pointer (some ⟨T, 0, none⟩)] W' fun e w' => e = .returned (.agg #[.int .i64 (c.pl : Int), .int .i64 (c.len : Int), .int .i64 c.cells, .int .u8 (c.kind : Int)]) ∧ Only (fun _ => False) W' w') := fun W' ho => by
        have ho2 : Only (fun _ => False) w W' := H1.out.2.trans (HG.out.2.2.trans ho)
        have := together_any most L base T (Ce.seg S x y) (some ⟨b, off + x * 3, none⟩) (c0 - x) W' (HT.out.1.kept (ho2.below (Nat.le_refl _) (fun _ h => h.elim))) HT.out.2.1 ((HT.out.2.2.1.keep ho2).seg x y) (HT.out.2.2.2.seg x y) (by rw [HX.out.2]; omega) (by rw [HX.out.2]; omega)
        rw [HX.out.2] at this
        rw [hc']
        exact this
      have HCC : Hid (c = Ce.tog (Pr.of L) (Ce.seg S x y)) := hc'
      obtain ⟨cp, cl, cc, ck⟩ := c
      have HBW : Hid (∀ W', Only (fun _ => False) W W' → W'.heap[B]? = some (.cells (ctC (laid (Ce.cls (Pr.of L) S M) i q)).toArray 48 (0, 0))) := fun W' ho => (ho.block B lB (fun h => h)).trans HG.out.1
      obtain ⟨z, hz⟩ : ∃ z, (laid (Ce.cls (Pr.of L) S M) i q)[i]? = some z := ⟨_, List.getElem?_eq_getElem (by rw [laid_len HN.out.2.2.2 (by omega)]; exact hlt)⟩
      obtain ⟨zp, zl, zz, zk⟩ := z
      have HZ : Hid (∀ W', Only (fun _ => False) W W' → W'.cell? ⟨B, i * 4, none⟩ = some (.int .i64 (zp : Int)) ∧ W'.cell? ⟨B, i * 4 + 1, none⟩ = some (.int .i64 (zl : Int)) ∧ W'.cell? ⟨B, i * 4 + 2, none⟩ = some (.int .i64 zz) ∧ W'.cell? ⟨B, i * 4 + 3, none⟩ = some (.int .u8 (zk : Int)) ∧ ∀ x, W'.frozen? ⟨B, x, none⟩ = false) := fun W' ho => by
        have hh := HBW.out W' ho
        obtain ⟨h0, h1, h2, h3⟩ := ctC_at _ _ _ hz
        exact ⟨(cell_blk hh).trans (by simpa using h0), (cell_blk hh).trans (by simpa using h1), (cell_blk hh).trans (by simpa using h2), (cell_blk hh).trans (by simpa using h3), fun x => fz_blk hh x⟩
      clear hz
      simp only at HC
      obtain ⟨i1, hi1⟩ : ∃ i1, i1 = i + 1 := ⟨_, rfl⟩
      have t2 : IntKind.i64.wrap ((i : Int) + 1) = (i1 : Int) := by rw [IntKind.wrap_i64]; omega
      have t3 : (i1 : Int) < (q1 : Int) := by have := HQ1.out; omega
      have t4 : (i : Int) < (q1 : Int) := by have := HQ1.out; omega
      have t5 : (x : Int) ≤ (y : Int) := by omega
      have t6 : (y : Int) ≤ (c0 : Int) := by omega
      have t7 : x ≤ y := by omega
      have t8 : y ≤ c0 := by omega
      have t9 : ¬ c0 = x := by omega
      rw [← hi1] at p2 HS
      have HI : Hid (i1 = i + 1) := hi1
      clear hx hy hs0 hc' hi1 p1 p2
      go_wp2_with fail
      go_region_held3 (fun W' => W'.cell? ⟨g, i, none⟩ = some (.int .i64 (x : Int)) ∧ W'.cell? ⟨g, i1, none⟩ = some (.int .i64 (y : Int))) ((first | exact HS.out _ (Only.refl _ _).drew | exact HS.out _ (HO2.out.mono (fun _ h => h.elim)) | exact HS.out _ (((((HO2.out.mono (S' := fun b => B ≤ b) (fun _ h => h.elim)).setCell (p := ⟨B, i * 4, none⟩) (Nat.le_refl B) _).setCell (p := ⟨B, i * 4 + 1, none⟩) (Nat.le_refl B) _).setCell (p := ⟨B, i * 4 + 2, none⟩) (Nat.le_refl B) _).setCell (p := ⟨B, i * 4 + 3, none⟩) (Nat.le_refl B) _))) ((go_at_call 42; refine Calls.mono (HC.out _ (Only.refl _ _).drew) ?_; rintro e w2 ⟨rfl, ho2⟩; have HO2 : Hid (Only (fun _ => False) W w2) := ((Only.refl _ _).drew).trans ho2; obtain ⟨z0, z1, z2, z3, z4⟩ := HZ.out w2 HO2.out; have lB2 : B < w2.heap.size := Nat.lt_of_lt_of_le lB HO2.out.size; clear ho2))
      go_wp2_with fail
      go_roundg (q - (i + 1))
      case measure => omega
      case rel =>
        refine ⟨i + 1, _, rfl, rfl, by omega, by rw [HI.out], ?_, ?_⟩
        · have h1 := heap_setCell_at (k := i * 4 + 3) (heap_setCell_at (k := i * 4 + 2) (heap_setCell_at (k := i * 4 + 1) (heap_setCell_at (k := i * 4) (HBW.out w2 HO2.out) (.int .i64 (cp : Int))) (.int .i64 (cl : Int))) (.int .i64 cc)) (.int .u8 (ck : Int))
          have h2 := ctC_set (L := laid (Ce.cls (Pr.of L) S M) i q) (k := i) ⟨cp, cl, cc, ck⟩ (by rw [laid_len HN.out.2.2.2 (by omega)]; exact hlt)
          rw [laid_set HN.out.2.2.2 hlt (by rw [HCC.out]; exact HX.out.1)] at h2
          rw [← h2]
          exact h1
        · exact HG.out.2.1.trans (((((HO2.out.mono (S' := fun b => B ≤ b) (fun _ h => h.elim)).setCell (p := ⟨B, i * 4, none⟩) (Nat.le_refl B) _).setCell (p := ⟨B, i * 4 + 1, none⟩) (Nat.le_refl B) _).setCell (p := ⟨B, i * 4 + 2, none⟩) (Nat.le_refl B) _).setCell (p := ⟨B, i * 4 + 3, none⟩) (Nat.le_refl B) _)
    · have t1 : decide ((i : Int) < (q : Int)) = false := decide_eq_false (by omega)
      have hiq : i = q := by omega
      subst hiq
      go_wp2_with fail
      go_ret2
      have hw1 := H1.out.2.size
      have hB1 := HW0.out.2.2
      refine ⟨_, _, _, _, rfl, ?_, own_only H1.out.1 HG.out.2.2 (fun _ _ h => h), H1.out.2.trans HG.out.2.2⟩
      have hh := HG.out.1
      rw [laid_full HN.out.2.2.2] at hh
      have hl := ctC_len (Ce.cls (Pr.of L) S M)
      rw [HN.out.2.2.2] at hl
      exact ⟨hl, Or.inr ⟨B, i, _, rfl, by omega, hh, Nat.le_refl _, by unfold maxLen; omega, by simpa using hl, by rw [List.take_of_length_le (by simp; omega)]⟩⟩
end Go.Proofs.Ytlcpfheocenjfaa
