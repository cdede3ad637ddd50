/-
  cells.kindOf, together.
-/
import Derived.Test.YtlcpfheocenjfaaCe1
import Derived.Test.YtlcpfheocenjfaaUse
import Derived.Deep.CutBlock
import Derived.Deep.DeepCutAuto
namespace Go.Proofs.Ytlcpfheocenjfaa
open Go.RowKit Go.Maps
set_option linter.unusedVariables false
set_option linter.unusedSimpArgs false
/-- signs as cells. -/
def snC (S : List Sn) : List Value := S.flatMap fun s => [.int .i32 s.r, .int .i64 (s.pl : Int), .int .i64 (s.len : Int)]
theorem snC_len : ∀ S : List Sn, (snC S).length = S.length * 3
  | [] => rfl
  | x :: L => by
    show ([Value.int .i32 x.r, Value.int .i64 (x.pl : Int), Value.int .i64 (x.len : Int)] ++ snC L).length = _
    rw [List.length_append, snC_len L]
    simp
    omega
theorem snC_at : ∀ (L : List Sn) (k : Nat) (x : Sn), L[k]? = some x → (snC L)[k * 3]? = some (.int .i32 x.r) ∧ (snC L)[k * 3 + 1]? = some (.int .i64 (x.pl : Int)) ∧ (snC L)[k * 3 + 2]? = some (.int .i64 (x.len : Int)) := by
  intro L
  induction L with
  | nil => intro k x h; simp at h
  | cons y L ih =>
    intro k x h
    have e : snC (y :: L) = [.int .i32 y.r, .int .i64 (y.pl : Int), .int .i64 (y.len : Int)] ++ snC L := rfl
    rw [e]
    cases k with
    | zero => simp at h; subst h; exact ⟨rfl, rfl, rfl⟩
    | succ k =>
      have := ih k x (by simpa using h)
      rw [show (k + 1) * 3 = k * 3 + 3 by omega]
      exact ⟨this.1, this.2.1, this.2.2⟩
/-- signs whose numbers are numbers of their kinds, and small. -/
def Fits (S : List Sn) : Prop := ∀ s ∈ S, -2147483648 ≤ s.r ∧ s.r ≤ 2147483647 ∧ s.pl ≤ 1000000000 ∧ s.len ≤ 4
theorem Vw.sign {w : World} {a : Option Addr} {S : List Sn} {k : Nat} {s : Sn} (h : Vw w a (snC S)) (hk : S[k]? = some s) : ∃ b off, a = some ⟨b, off, none⟩ ∧ b < w.heap.size ∧ w.cell? ⟨b, off + k * 3, none⟩ = some (.int .i32 s.r) ∧ w.cell? ⟨b, off + k * 3 + 1, none⟩ = some (.int .i64 (s.pl : Int)) ∧ w.cell? ⟨b, off + k * 3 + 2, none⟩ = some (.int .i64 (s.len : Int)) := by
  have hl := (List.getElem?_eq_some_iff.1 hk).1
  obtain ⟨b, off, e, hb, hc⟩ := h.cells (by rw [snC_len]; omega)
  obtain ⟨q0, q1, q2⟩ := snC_at S k s hk
  exact ⟨b, off, e, hb, hc _ _ q0, hc _ _ q1, hc _ _ q2⟩
theorem ret_u8 {a b : Int} (h : a = b) : Ending.returned (.int .u8 a) = .returned (.int .u8 b) := by rw [h]
theorem kind_two {S : List Sn} (h : 1 < S.length) : Ce.kind S = 0 := by
  match S, h with
  | _ :: _ :: _, _ => rfl
theorem kind_one {S : List Sn} {s : Sn} (h : S.length = 1) (hs : S[0]? = some s) : Ce.kind S = if s.r = 32 then 1 else if s.r = 9 then 2 else 0 := by
  match S, h with
  | [x], _ => simp at hs; subst hs; rfl
set_option maxRecDepth 100000 in
set_option maxHeartbeats 4000000 in
theorem kindOf_any (S : List Sn) (a0 : Option Addr) (c0 : Nat) (w : World) (hV : Vw w a0 (snC S)) (hS : 0 < S.length) (hm : S.length ≤ 1000000) : Calls Try.prog 49 #[.slice a0 S.length c0] w fun e w' => e = .returned (.int .u8 (Ce.kind S : Int)) ∧ w' = w := by
  obtain ⟨s, hs⟩ : ∃ s, S[0]? = some s := ⟨_, List.getElem?_eq_getElem hS⟩
  obtain ⟨b, off, rfl, hb, c1, c2, c3⟩ := hV.sign hs
  have c1' : w.cell? ⟨b, off, none⟩ = some (.int .i32 s.r) := c1
  obtain ⟨r, hr⟩ : ∃ r, r = s.r := ⟨_, rfl⟩
  by_cases h1 : 1 < S.length
  · have HE : Hid ((0 : Int) = (Ce.kind S : Int)) := (by rw [kind_two h1]; rfl : (0 : Int) = (Ce.kind S : Int))
    obtain ⟨n, hn⟩ : ∃ n, n = S.length := ⟨_, rfl⟩
    rw [← hn] at h1 ⊢
    have t1 : (1 : Int) < (n : Int) := by omega
    clear hn hs hV c1 c2 c3 c1' hr hS hm
    go_enter Try.func49, Try.ntmps49
    go_wp2_with fail
    go_ret
    exact ⟨ret_u8 HE.out, rfl⟩
  · have h2 : S.length = 1 := by omega
    have HE : Hid (Ce.kind S = if r = 32 then 1 else if r = 9 then 2 else 0) := by rw [hr]; exact kind_one h2 hs
    rw [← hr] at c1'
    rw [h2]
    clear hs hV c1 c2 c3 hr hS hm h1 h2
    by_cases e1 : r = 32
    · have HF : Hid ((1 : Int) = (Ce.kind S : Int)) := (by rw [HE.out, if_pos e1]; rfl : (1 : Int) = (Ce.kind S : Int))
      have t1 : (r == 32) = true := by rw [beq_iff_eq]; exact e1
      clear e1
      go_enter Try.func49, Try.ntmps49
      go_wp2_with fail
      go_ret
      exact ⟨ret_u8 HF.out, rfl⟩
    · have t1 : (r == 32) = false := by rw [beq_eq_false_iff_ne]; exact e1
      by_cases e2 : r = 9
      · have HF : Hid ((2 : Int) = (Ce.kind S : Int)) := (by rw [HE.out, if_neg e1, if_pos e2]; rfl : (2 : Int) = (Ce.kind S : Int))
        have t2 : (r == 9) = true := by rw [beq_iff_eq]; exact e2
        clear e1 e2
        go_enter Try.func49, Try.ntmps49
        go_wp2_with fail
        go_ret
        exact ⟨ret_u8 HF.out, rfl⟩
      · have HF : Hid ((0 : Int) = (Ce.kind S : Int)) := (by rw [HE.out, if_neg e1, if_neg e2]; rfl : (0 : Int) = (Ce.kind S : Int))
        have t2 : (r == 9) = false := by rw [beq_eq_false_iff_ne]; exact e2
        go_enter Try.func49, Try.ntmps49
        go_wp2_with fail
        go_ret
        exact ⟨ret_u8 HF.out, rfl⟩
theorem lens_small : ∀ {S : List Sn} {k : Nat}, (∀ x ∈ S, x.len ≤ 4) → S.length ≤ k → Ce.lens S ≤ 4 * k
  | [], k, _, _ => by simp [Ce.lens]
  | s :: S, k, h, hk => by
    have h1 := h s (by simp)
    have h2 := lens_small (S := S) (k := k - 1) (fun x hx => h x (by simp [hx])) (by simp at hk; omega)
    simp at hk
    simp only [Ce.lens]
    omega
def ctV (c : Ct) : Array Value := #[.int .i64 (c.pl : Int), .int .i64 (c.len : Int), .int .i64 c.cells, .int .u8 (c.kind : Int)]
set_option maxRecDepth 100000 in
set_option maxHeartbeats 4000000 in
theorem together_any (most : Int) (L : List Rg) (base T : Nat) (S : List Sn) (a0 : Option Addr) (c0 : Nat) (w : World) (hT : Tab w base T L) (hok : Pr.okFrom most (-1) L = true) (hV : Vw w a0 (snC S)) (hF : Fits S) (hS : 0 < S.length) (hm : S.length ≤ 1000000) :
    Calls Try.prog 42 #[.slice a0 S.length c0, .pointer (some ⟨T, 0, none⟩)] w fun e w' => e = .returned (.agg (ctV (Ce.tog (Pr.of L) S))) ∧ Only (fun _ => False) w w' := by
  obtain ⟨s, hs⟩ : ∃ s, S[0]? = some s := ⟨_, List.getElem?_eq_getElem hS⟩
  have HT : Hid (Tab w base T L ∧ Pr.okFrom most (-1) L = true) := ⟨hT, hok⟩
  have HV : Hid (Vw w a0 (snC S) ∧ Fits S ∧ S[0]? = some s) := ⟨hV, hF, hs⟩
  have HK : Hid (∀ W, Only (fun _ => False) w W → Calls Try.prog 49 #[.slice a0 S.length c0] W fun e w' => e = .returned (.int .u8 (Ce.kind S : Int)) ∧ w' = W) := fun W ho => kindOf_any S a0 c0 W (hV.keep ho) hS hm
  obtain ⟨b, off, rfl, hb, c1, c2, c3⟩ := hV.sign hs
  have c2' : w.cell? ⟨b, off + 1, none⟩ = some (.int .i64 (s.pl : Int)) := c2
  obtain ⟨p0, hp0⟩ : ∃ p0, p0 = s.pl := ⟨_, rfl⟩
  rw [← hp0] at c2'
  obtain ⟨n, hn⟩ : ∃ n, n = S.length := ⟨_, rfl⟩
  rw [← hn] at HK hS hm ⊢
  have HN : Hid (n = S.length ∧ p0 = s.pl) := ⟨hn, hp0⟩
  clear hT hok hV hF hs c1 c2 c3 hp0 hn
  obtain ⟨kd, hkd⟩ : ∃ kd, kd = Ce.kind S := ⟨_, rfl⟩
  rw [← hkd] at HK
  have HKD : Hid (kd = Ce.kind S ∧ kd < 256) := ⟨hkd, by rw [hkd]; exact Ce.kind_lt S⟩
  clear hkd
  go_enter Try.func42, Try.ntmps42
  go_wp2_with fail
  have HKC : Hid (∀ W, Only (fun _ => False) w W → W.cell? ⟨b, off + 1, none⟩ = some (.int .i64 (p0 : Int))) := fun W ho => keep0 ho c2'
  have hl1 : (0 : Int) < (n : Int) := by omega
  obtain ⟨R, hR⟩ : ∃ l, l = w.heap.size := ⟨_, rfl⟩
  obtain ⟨C, hC⟩ : ∃ l, l = w.heap.size + 1 := ⟨_, rfl⟩
  go_cut [5] (fun v5 wr => v5 = .pointer (some ⟨C, 0, none⟩) ∧ ∃ W0, W0 = wr ∧ W0.heap[R]? = some (.cells #[.int .i64 0, .int .i64 0, .int .i64 0, .int .u8 0] 48 (0, 0)) ∧ W0.heap[C]? = some (.cells #[.int .i64 (p0 : Int), .int .i64 0, .int .i64 0, .int .u8 (kd : Int)] 48 (0, 0)) ∧ Only (fun b => R ≤ b) w W0)
  case first =>
    have HE : Hid (R = w.heap.size ∧ C = w.heap.size + 1) := ⟨hR, hC⟩
    clear hR hC
    go_region_held3 (fun W' => W'.cell? ⟨b, off + 1, none⟩ = some (.int .i64 (p0 : Int))) ((first | exact HKC.out _ ((Only.refl _ _).alloc _).drew | exact HKC.out _ (((Only.refl _ _).alloc _).drew.alloc _))) ((go_at_call 49; refine Calls.mono (HK.out _ (by first | exact ((Only.refl _ _).alloc _).drew | exact ((Only.refl _ _).alloc _).drew.alloc _)) ?_; rintro e w1 ⟨rfl, rfl⟩))
    all_goals
      go_wp2_with fail
      go_meet
      exact ⟨by rw [HE.out.2], _, rfl, by rw [HE.out.1]; exact bx_made w _ _, by rw [HE.out.2]; exact heap_alloc2_new w _ _, (((Only.refl _ w).alloc _).alloc _).drew⟩
  case rest =>
    obtain ⟨rfl, W0, hW0, hb1, hb2, hb3⟩ := hcut
    subst hW0
    rw [← hR]
    have HW0 : Hid (W0.heap[R]? = some (.cells #[.int .i64 0, .int .i64 0, .int .i64 0, .int .u8 0] 48 (0, 0)) ∧ W0.heap[C]? = some (.cells #[.int .i64 (p0 : Int), .int .i64 0, .int .i64 0, .int .u8 (kd : Int)] 48 (0, 0)) ∧ Only (fun b => R ≤ b) w W0 ∧ R = w.heap.size ∧ C = w.heap.size + 1) := ⟨hb1, hb2, hb3, hR, hC⟩
    have hRC : R < C := by omega
    clear hb1 hb2 hb3 hR hC c2'
    go_wp2_with fail
    go_loopg [17] n (fun gh v wr => ∃ (k : Nat) (W : World), W = wr ∧ gh = n - k ∧ k ≤ n ∧ v = .int .i64 (k : Int) ∧ W.heap[R]? = some (.cells #[.int .i64 0, .int .i64 0, .int .i64 0, .int .u8 0] 48 (0, 0)) ∧ W.heap[C]? = some (.cells #[.int .i64 (p0 : Int), .int .i64 (Ce.lens (S.take k) : Int), .int .i64 (Ce.wide (Pr.of L) (S.take k)), .int .u8 (kd : Int)] 48 (0, 0)) ∧ Only (fun b => R ≤ b) w W)
    case atStart => exact ⟨0, _, rfl, rfl, Nat.zero_le _, rfl, HW0.out.1, HW0.out.2.1, HW0.out.2.2.1⟩
    case round =>
      obtain ⟨k, W, hW, rfl, hk, rfl, hbR, hbC, hoW⟩ := hrel
      subst hW
      have HG : Hid (W.heap[R]? = some (.cells #[.int .i64 0, .int .i64 0, .int .i64 0, .int .u8 0] 48 (0, 0)) ∧ W.heap[C]? = some (.cells #[.int .i64 (p0 : Int), .int .i64 (Ce.lens (S.take k) : Int), .int .i64 (Ce.wide (Pr.of L) (S.take k)), .int .u8 (kd : Int)] 48 (0, 0)) ∧ Only (fun b => R ≤ b) w W) := ⟨hbR, hbC, hoW⟩
      have lR : R < W.heap.size := (Array.getElem?_eq_some_iff.1 hbR).1
      have lC : C < W.heap.size := (Array.getElem?_eq_some_iff.1 hbC).1
      have hOF : Only (fun _ => False) w W := hoW.old (fun b hb => Or.inl (by have := HW0.out.2.2.2.1; omega))
      obtain ⟨le, hle⟩ : ∃ x, x = Ce.lens (S.take k) := ⟨_, rfl⟩
      obtain ⟨wi, hwi⟩ : ∃ x, x = Ce.wide (Pr.of L) (S.take k) := ⟨_, rfl⟩
      rw [← hle, ← hwi] at hbC
      have hw0 : 0 ≤ wi := by rw [hwi]; exact Ce.wide_nn _ _
      have hw2 : wi ≤ 2 := by rw [hwi]; exact Ce.wide_le _ _
      have hle4 : le ≤ 4 * k := by rw [hle]; exact lens_small (fun x hx => (HV.out.2.1 x (List.mem_of_mem_take hx)).2.2.2) (List.length_take_le _ _)
      have d0 : W.cell? ⟨C, 0, none⟩ = some (.int .i64 (p0 : Int)) := cell_blk hbC
      have d1 : W.cell? ⟨C, 1, none⟩ = some (.int .i64 (le : Int)) := cell_blk hbC
      have d2 : W.cell? ⟨C, 2, none⟩ = some (.int .i64 wi) := cell_blk hbC
      have d3 : W.cell? ⟨C, 3, none⟩ = some (.int .u8 (kd : Int)) := cell_blk hbC
      have HLW : Hid (le = Ce.lens (S.take k) ∧ wi = Ce.wide (Pr.of L) (S.take k)) := ⟨hle, hwi⟩
      have fC : ∀ x, W.frozen? ⟨C, x, none⟩ = false := fun x => fz_blk hbC x
      clear hle hwi
      by_cases hlt : k < n
      · have t1 : (k : Int) < (n : Int) := by omega
        obtain ⟨q, hq⟩ : ∃ q, S[k]? = some q := ⟨_, List.getElem?_eq_getElem (by rw [← HN.out.1]; exact hlt)⟩
        obtain ⟨b', off', e', hb', c1, c2, c3⟩ := (HV.out.1.keep hOF).sign hq
        have e1 : b = b' := by injection e' with e'; injection e'
        have e2 : off = off' := by injection e' with e'; injection e'
        subst e1 e2
        obtain ⟨f1, f2, f3, f4⟩ := HV.out.2.1 q (List.mem_of_getElem? hq)
        have HQ : Hid (S.take (k + 1) = S.take k ++ [q]) := take_snoc hq
        obtain ⟨qr, qp, ql⟩ := q
        simp only at c1 c2 c3 f1 f2 f3 f4
        have HOF : Hid (∀ W', Only (fun b => R ≤ b) W W' → Calls Try.prog 23 #[.pointer (some ⟨T, 0, none⟩), .int .i32 qr] W' fun e w' => e = .returned (.int .i64 (Pr.of L qr)) ∧ w' = W') := fun W' ho => of_any most L qr base T W' (HT.out.1.kept ((hoW.trans ho).below (Nat.le_refl _) (fun g hg => by have := HW0.out.2.2.2.1; omega))) HT.out.2 f1 f2
        obtain ⟨y, hy⟩ : ∃ y, y = Pr.of L qr := ⟨_, rfl⟩
        have hy0 : 0 ≤ y ∧ y ≤ 255 := by rw [hy]; exact Pr.of_range HT.out.2
        rw [← hy] at HOF
        have HY : Hid (y = Pr.of L qr) := hy
        obtain ⟨hy1, hy2⟩ := hy0
        clear hbR hbC hoW hOF hq hy e'
        go_wp2_with fail
        obtain ⟨X, hX⟩ : ∃ Z, Z = (W.setCell ⟨C, 1, none⟩ (.int .i64 ((le : Int) + (ql : Int)))).alloc (.cells #[.int .i32 qr, .int .i64 (qp : Int), .int .i64 (ql : Int)] 50) := ⟨_, rfl⟩
        rw [← hX]
        obtain ⟨D, hD⟩ : ∃ l, l = W.heap.size := ⟨_, rfl⟩
        rw [← hD]
        have hXC : X.heap[C]? = some (.cells #[.int .i64 (p0 : Int), .int .i64 ((le : Int) + (ql : Int)), .int .i64 wi, .int .u8 (kd : Int)] 48 (0, 0)) := by
          rw [hX]
          refine (Below.heap_alloc _ _ _ (by simp; omega)).trans ?_
          have := heap_setCell_at (k := 1) HG.out.2.1 (.int .i64 ((le : Int) + (ql : Int)))
          rw [← HLW.out.1, ← HLW.out.2] at this
          exact this
        have hXD : X.heap[D]? = some (.cells #[.int .i32 qr, .int .i64 (qp : Int), .int .i64 (ql : Int)] 50 (0, 0)) := by
          rw [hX, hD]
          have := heap_alloc_new (W.setCell ⟨C, 1, none⟩ (.int .i64 ((le : Int) + (ql : Int)))) (.cells #[.int .i32 qr, .int .i64 (qp : Int), .int .i64 (ql : Int)] 50)
          simpa using this
        have hXR : X.heap[R]? = some (.cells #[.int .i64 0, .int .i64 0, .int .i64 0, .int .u8 0] 48 (0, 0)) := by
          rw [hX]
          exact ((((Only.refl (fun b => b = C) W).setCell (p := ⟨C, 1, none⟩) rfl _).alloc _).block R lR (by omega)).trans HG.out.1
        have hoX : Only (fun b => R ≤ b) W X := by
          rw [hX]
          exact ((Only.refl _ W).setCell (p := ⟨C, 1, none⟩) (by show R ≤ C; omega) _).alloc _
        have HX : Hid (X.heap[C]? = some (.cells #[.int .i64 (p0 : Int), .int .i64 ((le : Int) + (ql : Int)), .int .i64 wi, .int .u8 (kd : Int)] 48 (0, 0)) ∧ Only (fun b => R ≤ b) W X ∧ X.heap[R]? = some (.cells #[.int .i64 0, .int .i64 0, .int .i64 0, .int .u8 0] 48 (0, 0))) := ⟨hXC, hoX, hXR⟩
        have x2 : X.cell? ⟨C, 2, none⟩ = some (.int .i64 wi) := cell_blk hXC
        have x0 : X.cell? ⟨D, 0, none⟩ = some (.int .i32 qr) := cell_blk hXD
        have fX : ∀ x, X.frozen? ⟨C, x, none⟩ = false := fun x => fz_blk hXC x
        clear hX hD hXC hXD hXR hoX d0 d1 d2 d3 fC c1 c2 c3
        go_region_with (go_at_call 23; refine Calls.mono (HOF.out _ (by first | exact HX.out.2.1 | exact HX.out.2.1.drew)) ?_; rintro e w1 ⟨rfl, rfl⟩)
        all_goals
          go_wp2_with fail
          go_roundg (n - (k + 1))
          case measure => omega
          case rel =>
            refine ⟨k + 1, _, rfl, rfl, by omega, by go_num, ?_, ?_, ?_⟩
            · exact ((((Only.refl (fun b => b = C) X).setCell (p := ⟨C, 2, none⟩) rfl _).drew).block R (Nat.lt_of_lt_of_le lR HX.out.2.1.size) (by omega)).trans HX.out.2.2
            · have := heap_setCell_at (k := 2) HX.out.1 (.int .i64 (max wi (min y 2)))
              rw [HQ.out, Ce.lens_snoc, Ce.wide_snoc, ← HLW.out.1, ← HLW.out.2, ← HY.out]
              exact this
            · exact ((HG.out.2.2.trans HX.out.2.1).setCell (p := ⟨C, 2, none⟩) (by show R ≤ C; omega) _).drew
      · have t1 : decide ((k : Int) < (n : Int)) = false := decide_eq_false (by omega)
        have hkn : k = n := by omega
        subst hkn
        have HE : Hid (S.take k = S) := (by rw [HN.out.1]; exact List.take_length : S.take k = S)
        have r0 : W.cell? ⟨R, 0, none⟩ = some (.int .i64 0) := cell_blk hbR
        have r1 : W.cell? ⟨R, 1, none⟩ = some (.int .i64 0) := cell_blk hbR
        have r2 : W.cell? ⟨R, 2, none⟩ = some (.int .i64 0) := cell_blk hbR
        have r3 : W.cell? ⟨R, 3, none⟩ = some (.int .u8 0) := cell_blk hbR
        have fR : ∀ x, W.frozen? ⟨R, x, none⟩ = false := fun x => fz_blk hbR x
        have HRR : Hid (((((W.setCell ⟨R, 0, none⟩ (.int .i64 (p0 : Int))).setCell ⟨R, 1, none⟩ (.int .i64 (le : Int))).setCell ⟨R, 2, none⟩ (.int .i64 wi)).setCell ⟨R, 3, none⟩ (.int .u8 (kd : Int))).heap[R]? = some (.cells #[.int .i64 (p0 : Int), .int .i64 (le : Int), .int .i64 wi, .int .u8 (kd : Int)] 48 (0, 0))) := heap_setCell_at (heap_setCell_at (heap_setCell_at (heap_setCell_at hbR _) _) _) _
        have HP : Hid (ctV (Ce.tog (Pr.of L) S) = #[.int .i64 (p0 : Int), .int .i64 (le : Int), .int .i64 wi, .int .u8 (kd : Int)]) := by
          have h1 := HLW.out.1
          have h2 := HLW.out.2
          rw [HE.out] at h1 h2
          unfold ctV Ce.tog
          rw [h1, h2, HN.out.2, HKD.out.1, HV.out.2.2]
          rfl
        clear hbR hbC hoW
        go_wp2_with fail
        refine bodyPost_ret (v := .agg #[.int .i64 (p0 : Int), .int .i64 (le : Int), .int .i64 wi, .int .u8 (kd : Int)]) (results_cell_row rfl _ _ R 48 #[.int .i64 (p0 : Int), .int .i64 (le : Int), .int .i64 wi, .int .u8 (kd : Int)] (0, 0) _ rfl HRR.out Try.underlying48 rfl (by kernel_rfl)) rfl ?_
        rw [HP.out]
        refine ⟨rfl, ?_⟩
        have hb : R = w.heap.size := HW0.out.2.2.2.1
        exact ((((HG.out.2.2.setCell (p := ⟨R, 0, none⟩) (Nat.le_refl R) _).setCell (p := ⟨R, 1, none⟩) (Nat.le_refl R) _).setCell (p := ⟨R, 2, none⟩) (Nat.le_refl R) _).setCell (p := ⟨R, 3, none⟩) (Nat.le_refl R) _).old (fun b hb' => Or.inl (by omega))
end Go.Proofs.Ytlcpfheocenjfaa
