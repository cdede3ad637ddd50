/-
  stanzahand03.Para.
-/
import Derived.Test.YtegoadhnilmchaaVg
namespace Go.Proofs.Ytegoadhnilmchaa
open Go.RowKit Go.Maps
set_option linter.unusedVariables false
set_option linter.unusedSimpArgs false
namespace Pa
/-- the clusters of bits, from a place on. -/
def cts : List Bt → Nat → List Ct
  | [], _ => []
  | b :: L, p => ⟨p, 1 + b.len % 4, ((b.cells % 3 : Nat) : Int), b.kind % 3⟩ :: cts L (p + (1 + b.len % 4))
end Pa
namespace Pa
theorem cts_len : ∀ (L : List Bt) (p : Nat), (cts L p).length = L.length
  | [], _ => rfl
  | b :: L, p => by simp [cts, cts_len L]
end Pa
namespace Pa
theorem cts_snoc : ∀ (L : List Bt) (b : Bt) (p : Nat), cts (L ++ [b]) p = cts L p ++ [⟨p + It.sum (cts L p), 1 + b.len % 4, ((b.cells % 3 : Nat) : Int), b.kind % 3⟩]
  | [], b, p => rfl
  | c :: L, b, p => by
    simp only [cts, List.cons_append, cts_snoc L b, It.sum]
    rw [Nat.add_assoc]
end Pa
namespace Pa
/-- what may be done ahead of each. -/
def op (L : List Bt) (i : Nat) : Nat := if i = 0 then 0 else ((L[i - 1]?.map Bt.opp).getD 0) % 4
end Pa
namespace Pa
def ops (L : List Bt) (m : Nat) : List Nat := (List.range m).map (op L)
end Pa
namespace Pa
theorem ops_len (L : List Bt) (m : Nat) : (ops L m).length = m := by simp [ops]
end Pa
namespace Pa
theorem ops_snoc (L : List Bt) (m : Nat) : ops L (m + 1) = ops L m ++ [op L m] := by simp [ops, List.range_succ]
end Pa
theorem btC_at (L : List Bt) (k : Nat) (x : Bt) (h : L[k]? = some x) : (btC L)[k * 4]? = some (.int .u8 (x.cells : Int)) ∧ (btC L)[k * 4 + 1]? = some (.int .u8 (x.kind : Int)) ∧ (btC L)[k * 4 + 2]? = some (.int .u8 (x.len : Int)) ∧ (btC L)[k * 4 + 3]? = some (.int .u8 (x.opp : Int)) := by
  induction L generalizing k with
  | nil => simp at h
  | cons y L ih =>
    cases k with
    | zero => injection h with h; subst h; exact ⟨rfl, rfl, rfl, rfl⟩
    | succ k =>
      have := ih k h
      rw [show (k + 1) * 4 = k * 4 + 4 by omega]
      exact this
theorem Vw.bt {w : World} {a : Option Addr} {S : List Bt} {k : Nat} {s : Bt} (h : Vw w a (btC S)) (hk : S[k]? = some s) : ∃ b off, a = some ⟨b, off, none⟩ ∧ b < w.heap.size ∧ w.cell? ⟨b, off + k * 4, none⟩ = some (.int .u8 (s.cells : Int)) ∧ w.cell? ⟨b, off + k * 4 + 1, none⟩ = some (.int .u8 (s.kind : Int)) ∧ w.cell? ⟨b, off + k * 4 + 2, none⟩ = some (.int .u8 (s.len : Int)) ∧ w.cell? ⟨b, off + k * 4 + 3, none⟩ = some (.int .u8 (s.opp : Int)) := by
  obtain ⟨h0, h1, h2, h3⟩ := btC_at S k s hk
  have hl := (List.getElem?_eq_some_iff.1 h0).1
  obtain ⟨b, off, rfl, hb, hc⟩ := h.cells (by omega)
  exact ⟨b, off, rfl, hb, hc _ _ h0, hc _ _ h1, hc _ _ h2, hc _ _ h3⟩
set_option maxRecDepth 100000 in
set_option maxHeartbeats 4000000 in
theorem para_any (L : List Bt) (a0 : Option Addr) (c0 : Nat) (w : World) (hV : Vw w a0 (btC L)) (hB : ∀ b ∈ L, b.cells < 256 ∧ b.kind < 256 ∧ b.len < 256 ∧ b.opp < 256) (hn : L.length ≤ 1000) :
    Calls Try.prog 14 #[.slice a0 L.length c0] w fun e w' => ∃ m, m ≤ L.length ∧ (It.sum (Pa.cts (L.take m) 0) ≤ 4003 ∧ (m = L.length ∨ 4000 ≤ It.sum (Pa.cts (L.take m) 0))) ∧ paP (Pa.cts (L.take m) 0) (Pa.ops L m ++ [2]) w e w' := by
  obtain ⟨n, hn'⟩ : ∃ n, n = L.length := ⟨_, rfl⟩
  have HN : Hid (n = L.length) := hn'
  have HV : Hid (Vw w a0 (btC L) ∧ ∀ b ∈ L, b.cells < 256 ∧ b.kind < 256 ∧ b.len < 256 ∧ b.opp < 256) := ⟨hV, hB⟩
  rw [← hn'] at hn ⊢
  clear hV hB hn'
  obtain ⟨i3, g3, g30, g31, g32⟩ := info_parts infoClu
  obtain ⟨j3, h3, h30, h31, h32⟩ := info_parts infoOpp
  go_enter Try.func14, Try.ntmps14
  go_wp2_with fail
  obtain ⟨R0, hR0⟩ : ∃ b, b = w.heap.size := ⟨_, rfl⟩
  obtain ⟨R, hR⟩ : ∃ b, b = R0 + 1 := ⟨_, rfl⟩
  obtain ⟨w0, hw0⟩ : ∃ Z, Z = (w.alloc (.cells #[.slice none 0 0, .slice none 0 0] 31)).alloc (.cells #[.slice none 0 0, .slice none 0 0] 31) := ⟨_, rfl⟩
  have H0 : Hid (w0.heap[R]? = some (.cells #[.slice none 0 0, .slice none 0 0] 31 (0, 0)) ∧ Only (fun _ => False) w w0 ∧ w0.heap.size = R + 1 ∧ R = R0 + 1 ∧ R0 = w.heap.size ∧ w0.heap[R0]? = some (.cells #[.slice none 0 0, .slice none 0 0] 31 (0, 0))) := by
    rw [hw0, hR, hR0]
    refine ⟨heap_alloc2_new w _ _, ((Only.refl _ _).alloc _).alloc _, ?_, rfl, rfl, bx_made w _ _⟩
    show (Array.push _ _).size = _
    rw [Array.size_push]
    show (Array.push _ _).size + 1 = _
    rw [Array.size_push]
  rw [← hw0, ← hR0, ← hR]
  have hsz0 := H0.out.2.2.1
  clear hw0 hR hR0
  go_loopg [4, 5] n (fun gh v4 v5 wr => ∃ (k at0 : Nat) (a : Option Addr) (c : Nat) (W : World), W = wr ∧ gh = n - k ∧ k ≤ n ∧ v4 = .int .i64 (at0 : Int) ∧ v5 = .int .i64 (k : Int) ∧ at0 = It.sum (Pa.cts (L.take k) 0) ∧ at0 ≤ 4003 ∧ W.heap[R]? = some (.cells #[.slice a k c, .slice none 0 0] 31 (0, 0)) ∧ W.ownsRow w0.heap.size 53 4 (.slice a k c) k (ctC (Pa.cts (L.take k) 0)) ∧ Only (fun b => R ≤ b) w0 W)
  case atStart => exact ⟨0, 0, none, 0, _, rfl, rfl, Nat.zero_le _, rfl, rfl, rfl, Nat.zero_le _, H0.out.1, ⟨rfl, Or.inl ⟨rfl, rfl⟩⟩, Only.refl _ _⟩
  case round =>
    obtain ⟨k, at0, a, c, W, hW, rfl, hk, rfl, rfl, hat, hat2, hbR, hown, hoW⟩ := hrel
    subst hW
    have HG : Hid (W.ownsRow w0.heap.size 53 4 (.slice a k c) k (ctC (Pa.cts (L.take k) 0)) ∧ Only (fun b => R ≤ b) w0 W ∧ at0 = It.sum (Pa.cts (L.take k) 0) ∧ W.heap[R]? = some (.cells #[.slice a k c, .slice none 0 0] 31 (0, 0)) ∧ Only (fun _ => False) w W) := ⟨hown, hoW, hat, hbR, ((H0.out.2.1.mono (fun _ h => h.elim)).trans hoW).old (fun b hb => Or.inl (by have := H0.out.2.2; omega))⟩
    have hsz := hoW.size
    obtain ⟨r0, r1, lR⟩ := blk_two hbR
    have fR : ∀ x, W.frozen? ⟨R, x, none⟩ = false := fun x => fz_blk hbR x
    clear hown hoW hat hbR
    by_cases hlt : k < n
    · have t1 : (k : Int) < (n : Int) := by omega
      by_cases h4 : at0 < 4000
      · have t2 : (at0 : Int) < 4000 := by omega
        obtain ⟨x, hx⟩ : ∃ x, L[k]? = some x := ⟨_, List.getElem?_eq_getElem (by rw [← HN.out]; exact hlt)⟩
        have hx8 := HV.out.2 x (List.mem_of_getElem? hx)
        obtain ⟨b, off, rfl, hb, x0, x1, x2, x3⟩ := (HV.out.1.keep HG.out.2.2.2.2).bt hx
        have HX : Hid (L[k]? = some x) := hx
        obtain ⟨xc, xk, xl, xo⟩ := x
        simp only at x0 x1 x2 x3 hx8
        obtain ⟨y1, hy1⟩ : ∃ y, y = xl % 4 := ⟨_, rfl⟩
        obtain ⟨y2, hy2⟩ : ∃ y, y = xc % 3 := ⟨_, rfl⟩
        obtain ⟨y3, hy3⟩ : ∃ y, y = xk % 3 := ⟨_, rfl⟩
        have p1 : (xl : Int).tmod 4 = (y1 : Int) := by rw [Int.tmod_eq_emod_of_nonneg (by omega)]; omega
        have p2 : (xc : Int).tmod 3 = (y2 : Int) := by rw [Int.tmod_eq_emod_of_nonneg (by omega)]; omega
        have p3 : (xk : Int).tmod 3 = (y3 : Int) := by rw [Int.tmod_eq_emod_of_nonneg (by omega)]; omega
        have HY : Hid (Pa.cts (L.take (k + 1)) 0 = Pa.cts (L.take k) 0 ++ [⟨at0, 1 + y1, (y2 : Int), y3⟩]) := by
          rw [take_snoc HX.out, Pa.cts_snoc, ← HG.out.2.2.1, hy1, hy2, hy3, Nat.zero_add]
          exact rfl
        have hy1' : y1 < 4 := by omega
        have hy2' : y2 < 3 := by omega
        have hy3' : y3 < 3 := by omega
        clear hx hy1 hy2 hy3
        have HCT : Hid (ctC (Pa.cts (L.take (k + 1)) 0) = ctC (Pa.cts (L.take k) 0) ++ [.int .i64 (at0 : Int), .int .i64 (1 + (y1 : Int)), .int .i64 (y2 : Int), .int .u8 (y3 : Int)]) := by
          rw [HY.out, ctC_append]
          exact rfl
        have HVA : Hid ((((W.alloc (.cells #[.int .u8 (xc : Int), .int .u8 (xk : Int), .int .u8 (xl : Int), .int .u8 (xo : Int)] 48)).alloc (.cells #[.int .i64 (at0 : Int), .int .i64 (1 + (y1 : Int)), .int .i64 (y2 : Int), .int .u8 (y3 : Int)] 53)).alloc (.cells #[.int .i64 (at0 : Int), .int .i64 (1 + (y1 : Int)), .int .i64 (y2 : Int), .int .u8 (y3 : Int)] 53)).heap[W.heap.size + 2]? = some (.cells #[.int .i64 (at0 : Int), .int .i64 (1 + (y1 : Int)), .int .i64 (y2 : Int), .int .u8 (y3 : Int)] 53 (0, 0)) ∧ (((W.alloc (.cells #[.int .u8 (xc : Int), .int .u8 (xk : Int), .int .u8 (xl : Int), .int .u8 (xo : Int)] 48)).alloc (.cells #[.int .i64 (at0 : Int), .int .i64 (1 + (y1 : Int)), .int .i64 (y2 : Int), .int .u8 (y3 : Int)] 53)).alloc (.cells #[.int .i64 (at0 : Int), .int .i64 (1 + (y1 : Int)), .int .i64 (y2 : Int), .int .u8 (y3 : Int)] 53)).heap.size = W.heap.size + 3) := blk3 W _ _ _
        go_wp2_with (at_builtin; (refine wpList_append_lies _ rfl _ _ 28 rfl w0.heap.size 53 i3 (.agg #[.int .i64 0, .int .i64 0, .int .i64 0, .int .u8 0]) 4 32 Try.underlying28 g3 g30 g31 g32 rfl (by decide) (.slice a k c) k (ctC (Pa.cts (L.take k) 0)) rfl (((HG.out.1.alloc _).alloc _).alloc _) ⟨W.heap.size + 2, 0, none⟩ 1 1 [.int .i64 (at0 : Int), .int .i64 (1 + (y1 : Int)), .int .i64 (y2 : Int), .int .u8 (y3 : Int)] rfl rfl (World.news_of_block (cs := #[.int .i64 (at0 : Int), .int .i64 (1 + (y1 : Int)), .int .i64 (y2 : Int), .int .u8 (y3 : Int)]) HVA.out.1) (fun u hu => by simp at hu; rcases hu with rfl | rfl | rfl | rfl <;> rfl) (by decide) (by unfold maxLen; omega) (by omega) (by rw [HVA.out.2]; omega) (W.heap.size + 3) HVA.out.2 ?_; intro g5 cap5 w5 hown5 hgrow5 hat5 hlt5; have hoo : Only (fun b => (Value.slice a k c).ownBlock = some b) W w5 := ((((Only.refl (fun b => (Value.slice a k c).ownBlock = some b) W).alloc _).alloc _).alloc _).grown hgrow5 (fun k hk => hk); have hbR5 : w5.heap[R]? = some (.cells #[.slice a k c, .slice none 0 0] 31 (0, 0)) := (hoo.block R lR (fun h => by have := (own_own HG.out.1 h).1; omega)).trans HG.out.2.2.2.1; obtain ⟨q0, q1, lR5⟩ := blk_two hbR5; have fR5 : ∀ x, w5.frozen? ⟨R, x, none⟩ = false := fun x => fz_blk hbR5 x; have H5 : Hid (w5.ownsRow w0.heap.size 53 4 (.slice (some ⟨g5, 0, none⟩) (k + 1) cap5) (k + 1) (ctC (Pa.cts (L.take (k + 1)) 0)) ∧ Only (fun b => R ≤ b) w0 w5 ∧ w5.heap[R]? = some (.cells #[.slice a k c, .slice none 0 0] 31 (0, 0))) := ⟨by rw [HCT.out]; exact hown5, HG.out.2.1.trans (hoo.mono (fun b hb => by have := (own_own HG.out.1 hb).1; omega)), hbR5⟩; clear hown5 hgrow5 hat5 hoo hbR5))
        go_roundg (n - (k + 1))
        case measure => omega
        case rel =>
          refine ⟨k + 1, at0 + (1 + y1), some ⟨g5, 0, none⟩, cap5, _, rfl, rfl, by omega, by go_num, by go_num, ?_, by omega, heap_setCell_at H5.out.2.2 _, own_only H5.out.1 ((Only.refl (fun b => b = R) w5).setCell (p := ⟨R, 0, none⟩) rfl _) (fun g hg he => by omega), H5.out.2.1.setCell (p := ⟨R, 0, none⟩) (Nat.le_refl R) _⟩
          rw [HY.out, It.sum_append, ← HG.out.2.2.1]
          exact rfl
      · have t2 : decide ((at0 : Int) < 4000) = false := decide_eq_false (by omega)
        have HSM : Hid (It.sum (Pa.cts (L.take k) 0) ≤ 4003 ∧ (k = n ∨ 4000 ≤ It.sum (Pa.cts (L.take k) 0))) := by rw [← HG.out.2.2.1]; exact ⟨hat2, Or.inr (by omega)⟩
        go_wp2_with fail
        go_loopg [8] k (fun gh v8 wr => ∃ (j : Nat) (aO : Option Addr) (cO : Nat) (W2 : World), W2 = wr ∧ gh = k - j ∧ j ≤ k ∧ v8 = .int .i64 (j : Int) ∧ W2.heap[R]? = some (.cells #[.slice a k c, .slice aO j cO] 31 (0, 0)) ∧ W2.ownsRow W.heap.size 41 1 (.slice aO j cO) j (u8s (Pa.ops L j)) ∧ Only (fun b => b = R ∨ W.heap.size ≤ b) W W2)
        case atStart => exact ⟨0, none, 0, _, rfl, rfl, Nat.zero_le _, rfl, HG.out.2.2.2.1, ⟨rfl, Or.inl ⟨rfl, rfl⟩⟩, Only.refl _ _⟩
        case round =>
          obtain ⟨j, aO, cO, W2, hW2, rfl, hj, rfl, hbR, hown, hoW⟩ := hrel
          subst hW2
          have HG2 : Hid (W2.ownsRow W.heap.size 41 1 (.slice aO j cO) j (u8s (Pa.ops L j)) ∧ Only (fun b => b = R ∨ W.heap.size ≤ b) W W2 ∧ W2.heap[R]? = some (.cells #[.slice a k c, .slice aO j cO] 31 (0, 0)) ∧ Only (fun _ => False) w W2) := ⟨hown, hoW, hbR, ((HG.out.2.2.2.2.mono (S' := fun b => R ≤ b) (fun _ h => h.elim)).trans (hoW.mono (fun b hb => by rcases hb with hb | hb <;> omega))).old (fun b hb => Or.inl (by have := H0.out.2.2; omega))⟩
          have hsz2 := hoW.size
          obtain ⟨e0, e1, lR2⟩ := blk_two hbR
          have fR2 : ∀ x, W2.frozen? ⟨R, x, none⟩ = false := fun x => fz_blk hbR x
          clear hown hoW hbR
          by_cases hlj : j < k
          · have t3 : (j : Int) < (k : Int) := by omega
            by_cases hj0 : j = 0
            · subst hj0
              have HO : Hid (Pa.ops L (0 + 1) = Pa.ops L 0 ++ [0]) := Pa.ops_snoc L 0
              have HVA : Hid _ := blk1 W2 (.cells #[.int .u8 (0 : Int)] 41)
              go_wp2_with (at_builtin; (refine wpList_append_lies _ rfl _ _ 29 rfl W.heap.size 41 j3 (.int .u8 0) 1 1 Try.underlying29 h3 h30 h31 h32 rfl (by decide) (.slice aO 0 cO) 0 (u8s (Pa.ops L 0)) rfl (HG2.out.1.alloc _) ⟨W2.heap.size, 0, none⟩ 1 1 [.int .u8 (0 : Int)] rfl rfl (World.news_of_block (cs := #[.int .u8 (0 : Int)]) HVA.out.1) (fun u hu => by simp at hu; rcases hu with rfl; rfl) (by decide) (by unfold maxLen; omega) (by omega) (by rw [HVA.out.2]; omega) (W2.heap.size + 1) HVA.out.2 ?_; intro g5 cap5 w5 hown5 hgrow5 hat5 hlt5; have hoo : Only (fun b => (Value.slice aO 0 cO).ownBlock = some b) W2 w5 := ((Only.refl (fun b => (Value.slice aO 0 cO).ownBlock = some b) W2).alloc _).grown hgrow5 (fun k hk => hk); have hbR5 : w5.heap[R]? = some (.cells #[.slice a k c, .slice aO 0 cO] 31 (0, 0)) := (hoo.block R lR2 (fun h => by have := (own_own HG2.out.1 h).1; omega)).trans HG2.out.2.2.1; obtain ⟨q0, q1, lR5⟩ := blk_two hbR5; have fR5 : ∀ x, w5.frozen? ⟨R, x, none⟩ = false := fun x => fz_blk hbR5 x; have H5 : Hid (w5.ownsRow W.heap.size 41 1 (.slice (some ⟨g5, 0, none⟩) (0 + 1) cap5) (0 + 1) (u8s (Pa.ops L (0 + 1))) ∧ Only (fun b => b = R ∨ W.heap.size ≤ b) W w5 ∧ w5.heap[R]? = some (.cells #[.slice a k c, .slice aO 0 cO] 31 (0, 0))) := ⟨by rw [HO.out, u8s_snoc]; exact hown5, HG2.out.2.1.trans (hoo.mono (fun b hb => Or.inr (own_own HG2.out.1 hb).1)), hbR5⟩; clear hown5 hgrow5 hat5 hoo hbR5))
              go_roundg (k - (0 + 1))
              case measure => omega
              case rel => exact ⟨0 + 1, some ⟨g5, 0, none⟩, cap5, _, rfl, rfl, by omega, by go_num, heap_setCell_at H5.out.2.2 _, own_only H5.out.1 ((Only.refl (fun b => b = R) w5).setCell (p := ⟨R, 1, none⟩) rfl _) (fun g hg he => by omega), H5.out.2.1.setCell (p := ⟨R, 1, none⟩) (Or.inl rfl) _⟩
            · have t4 : (0 : Int) < (j : Int) := by omega
              obtain ⟨j1, hj1⟩ : ∃ j1, j = j1 + 1 := ⟨j - 1, by omega⟩
              subst hj1
              obtain ⟨x, hx⟩ : ∃ x, L[j1]? = some x := ⟨_, List.getElem?_eq_getElem (by rw [← HN.out]; omega)⟩
              have hx8 := (HV.out.2 x (List.mem_of_getElem? hx)).2.2.2
              obtain ⟨b, off, e0', hb, x0, x1, x2, x3⟩ := (HV.out.1.keep HG2.out.2.2.2).bt hx
              subst e0'
              have t5 : (j1 : Int) < (n : Int) := by omega
              obtain ⟨y, hy⟩ : ∃ y, y = x.opp % 4 := ⟨_, rfl⟩
              have p1 : (x.opp : Int).tmod 4 = (y : Int) := by rw [Int.tmod_eq_emod_of_nonneg (by omega)]; omega
              have HO : Hid (Pa.ops L (j1 + 1 + 1) = Pa.ops L (j1 + 1) ++ [y]) := by
                rw [Pa.ops_snoc]
                unfold Pa.op
                rw [if_neg (by omega), Nat.add_sub_cancel, hx, hy]
                exact rfl
              have hy4 : y < 4 := by omega
              obtain ⟨xo, hxo⟩ : ∃ xo, xo = x.opp := ⟨_, rfl⟩
              rw [← hxo] at hx8 x3 p1
              clear hx x0 x1 x2 hy hxo
              have HVA : Hid _ := blk1 W2 (.cells #[.int .u8 (y : Int)] 41)
              go_wp2_with (at_builtin; (refine wpList_append_lies _ rfl _ _ 29 rfl W.heap.size 41 j3 (.int .u8 0) 1 1 Try.underlying29 h3 h30 h31 h32 rfl (by decide) (.slice aO (j1 + 1) cO) (j1 + 1) (u8s (Pa.ops L (j1 + 1))) rfl (HG2.out.1.alloc _) ⟨W2.heap.size, 0, none⟩ 1 1 [.int .u8 (y : Int)] rfl rfl (World.news_of_block (cs := #[.int .u8 (y : Int)]) HVA.out.1) (fun u hu => by simp at hu; rcases hu with rfl; rfl) (by decide) (by unfold maxLen; omega) (by omega) (by rw [HVA.out.2]; omega) (W2.heap.size + 1) HVA.out.2 ?_; intro g5 cap5 w5 hown5 hgrow5 hat5 hlt5; have hoo : Only (fun b => (Value.slice aO (j1 + 1) cO).ownBlock = some b) W2 w5 := ((Only.refl (fun b => (Value.slice aO (j1 + 1) cO).ownBlock = some b) W2).alloc _).grown hgrow5 (fun k hk => hk); have hbR5 : w5.heap[R]? = some (.cells #[.slice a k c, .slice aO (j1 + 1) cO] 31 (0, 0)) := (hoo.block R lR2 (fun h => by have := (own_own HG2.out.1 h).1; omega)).trans HG2.out.2.2.1; obtain ⟨q0, q1, lR5⟩ := blk_two hbR5; have fR5 : ∀ x, w5.frozen? ⟨R, x, none⟩ = false := fun x => fz_blk hbR5 x; have H5 : Hid (w5.ownsRow W.heap.size 41 1 (.slice (some ⟨g5, 0, none⟩) ((j1 + 1) + 1) cap5) ((j1 + 1) + 1) (u8s (Pa.ops L (j1 + 1 + 1))) ∧ Only (fun b => b = R ∨ W.heap.size ≤ b) W w5 ∧ w5.heap[R]? = some (.cells #[.slice a k c, .slice aO (j1 + 1) cO] 31 (0, 0))) := ⟨by rw [HO.out, u8s_snoc]; exact hown5, HG2.out.2.1.trans (hoo.mono (fun b hb => Or.inr (own_own HG2.out.1 hb).1)), hbR5⟩; clear hown5 hgrow5 hat5 hoo hbR5))
              go_roundg (k - (j1 + 1 + 1))
              case measure => omega
              case rel => exact ⟨j1 + 1 + 1, some ⟨g5, 0, none⟩, cap5, _, rfl, rfl, by omega, by go_num, heap_setCell_at H5.out.2.2 _, own_only H5.out.1 ((Only.refl (fun b => b = R) w5).setCell (p := ⟨R, 1, none⟩) rfl _) (fun g hg he => by omega), H5.out.2.1.setCell (p := ⟨R, 1, none⟩) (Or.inl rfl) _⟩
          · have t3 : decide ((j : Int) < (k : Int)) = false := decide_eq_false (by omega)
            have hjk : k = j := by omega
            subst hjk
            have HVA : Hid _ := blk1 W2 (.cells #[.int .u8 (2 : Int)] 41)
            go_wp2_with (at_builtin; (refine wpList_append_lies _ rfl _ _ 29 rfl W.heap.size 41 j3 (.int .u8 0) 1 1 Try.underlying29 h3 h30 h31 h32 rfl (by decide) (.slice aO k cO) k (u8s (Pa.ops L k)) rfl (HG2.out.1.alloc _) ⟨W2.heap.size, 0, none⟩ 1 1 [.int .u8 (2 : Int)] rfl rfl (World.news_of_block (cs := #[.int .u8 (2 : Int)]) HVA.out.1) (fun u hu => by simp at hu; rcases hu with rfl; rfl) (by decide) (by unfold maxLen; omega) (by omega) (by rw [HVA.out.2]; omega) (W2.heap.size + 1) HVA.out.2 ?_; intro g5 cap5 w5 hown5 hgrow5 hat5 hlt5; have hoo : Only (fun b => (Value.slice aO k cO).ownBlock = some b) W2 w5 := ((Only.refl (fun b => (Value.slice aO k cO).ownBlock = some b) W2).alloc _).grown hgrow5 (fun k hk => hk); have hbR5 : w5.heap[R]? = some (.cells #[.slice a k c, .slice aO k cO] 31 (0, 0)) := (hoo.block R lR2 (fun h => by have := (own_own HG2.out.1 h).1; omega)).trans HG2.out.2.2.1; obtain ⟨q0, q1, lR5⟩ := blk_two hbR5; have fR5 : ∀ x, w5.frozen? ⟨R, x, none⟩ = false := fun x => fz_blk hbR5 x; have H5 : Hid (w5.ownsRow W.heap.size 41 1 (.slice (some ⟨g5, 0, none⟩) (k + 1) cap5) (k + 1) (u8s (Pa.ops L k ++ [2])) ∧ Only (fun b => b = R ∨ W.heap.size ≤ b) W w5 ∧ w5.heap[R]? = some (.cells #[.slice a k c, .slice aO k cO] 31 (0, 0))) := ⟨by rw [u8s_snoc]; exact hown5, HG2.out.2.1.trans (hoo.mono (fun b hb => Or.inr (own_own HG2.out.1 hb).1)), hbR5⟩; clear hown5 hgrow5 hat5 hoo hbR5; have hb0 : w5.heap[R0]? = some (.cells #[.slice none 0 0, .slice none 0 0] 31 (0, 0)) := (H5.out.2.1.block R0 (by have := H0.out.2.2; omega) (fun h => by rcases h with h | h <;> (have := H0.out.2.2; omega))).trans ((HG.out.2.1.block R0 (by have := H0.out.2.2; omega) (fun h => by have := H0.out.2.2; omega)).trans H0.out.2.2.2.2.2); obtain ⟨u0, u1, lu⟩ := blk_two hb0; have fu : ∀ x, w5.frozen? ⟨R0, x, none⟩ = false := fun x => fz_blk hb0 x; have ne1 : ¬ R0 = R := (by have := H0.out.2.2; omega); have ne2 : ¬ R = R0 := (by have := H0.out.2.2; omega); have HB0 : Hid (w5.heap[R0]? = some (.cells #[.slice none 0 0, .slice none 0 0] 31 (0, 0))) := hb0; clear hb0))
            have hl1 : (Pa.cts (L.take k) 0).length = k := by rw [Pa.cts_len, List.length_take, ← HN.out]; omega
            have hl2 : (Pa.ops L k ++ [2]).length = k + 1 := by rw [List.length_append, Pa.ops_len]; rfl
            refine bodyPost_ret (v := .agg #[.slice a k c, .slice (some ⟨g5, 0, none⟩) (k + 1) cap5]) (results_cell_row rfl _ _ R0 31 #[.slice a k c, .slice (some ⟨g5, 0, none⟩) (k + 1) cap5] (0, 0) _ rfl (heap_setCell_at (k := 1) (heap_setCell_at (k := 0) ((Below.heap_setCell _ _ _ _ (by first | exact ne1 | exact ne2)).trans HB0.out) _) _) Try.underlying31 rfl (by kernel_rfl)) rfl ?_
            have oz : Only (fun b => b = R ∨ b = R0) w5 (((w5.setCell ⟨R, 1, none⟩ (.slice (some ⟨g5, 0, none⟩) (k + 1) cap5)).setCell ⟨R0, 0, none⟩ (.slice a k c)).setCell ⟨R0, 1, none⟩ (.slice (some ⟨g5, 0, none⟩) (k + 1) cap5)) := (((Only.refl (fun b => b = R ∨ b = R0) w5).setCell (p := ⟨R, 1, none⟩) (Or.inl rfl) _).setCell (p := ⟨R0, 0, none⟩) (Or.inr rfl) _).setCell (p := ⟨R0, 1, none⟩) (Or.inr rfl) _
            have h02 := H0.out.2.2
            have oy := (H5.out.2.1.mono (S' := fun b => b = R ∨ b = R0 ∨ W.heap.size ≤ b) (fun b hb => hb.elim Or.inl (fun h => Or.inr (Or.inr h)))).trans (oz.mono (fun b hb => hb.elim Or.inl (fun h => Or.inr (Or.inl h))))
            refine ⟨k, hk, HSM.out, a, some ⟨g5, 0, none⟩, c, cap5, by rw [hl1, hl2], ?_, ?_, ?_⟩
            · rw [hl1]
              exact own_base2 (own_stay HG.out.1 oy (fun q hq hP => by have := own_lt HG.out.1 hq; have := (own_own HG.out.1 hq).1; rcases hP with h | h | h <;> omega)) (by omega)
            · rw [hl2]
              exact own_base2 (own_only H5.out.1 oz (fun g hg hP => by rcases hP with h | h <;> omega)) (by omega)
            · exact ((HG.out.2.2.2.2.mono (S' := fun b => R0 ≤ b) (fun _ h => h.elim)).trans (oy.mono (fun b hb => by rcases hb with h | h | h <;> omega))).old (fun b hb => Or.inl (by omega))
    · have t1 : decide ((k : Int) < (n : Int)) = false := decide_eq_false (by omega)
      have HSM : Hid (It.sum (Pa.cts (L.take k) 0) ≤ 4003 ∧ (k = n ∨ 4000 ≤ It.sum (Pa.cts (L.take k) 0))) := by rw [← HG.out.2.2.1]; exact ⟨hat2, Or.inl (by omega)⟩
      go_wp2_with fail
      go_loopg [8] k (fun gh v8 wr => ∃ (j : Nat) (aO : Option Addr) (cO : Nat) (W2 : World), W2 = wr ∧ gh = k - j ∧ j ≤ k ∧ v8 = .int .i64 (j : Int) ∧ W2.heap[R]? = some (.cells #[.slice a k c, .slice aO j cO] 31 (0, 0)) ∧ W2.ownsRow W.heap.size 41 1 (.slice aO j cO) j (u8s (Pa.ops L j)) ∧ Only (fun b => b = R ∨ W.heap.size ≤ b) W W2)
      case atStart => exact ⟨0, none, 0, _, rfl, rfl, Nat.zero_le _, rfl, HG.out.2.2.2.1, ⟨rfl, Or.inl ⟨rfl, rfl⟩⟩, Only.refl _ _⟩
      case round =>
        obtain ⟨j, aO, cO, W2, hW2, rfl, hj, rfl, hbR, hown, hoW⟩ := hrel
        subst hW2
        have HG2 : Hid (W2.ownsRow W.heap.size 41 1 (.slice aO j cO) j (u8s (Pa.ops L j)) ∧ Only (fun b => b = R ∨ W.heap.size ≤ b) W W2 ∧ W2.heap[R]? = some (.cells #[.slice a k c, .slice aO j cO] 31 (0, 0)) ∧ Only (fun _ => False) w W2) := ⟨hown, hoW, hbR, ((HG.out.2.2.2.2.mono (S' := fun b => R ≤ b) (fun _ h => h.elim)).trans (hoW.mono (fun b hb => by rcases hb with hb | hb <;> omega))).old (fun b hb => Or.inl (by have := H0.out.2.2; omega))⟩
        have hsz2 := hoW.size
        obtain ⟨e0, e1, lR2⟩ := blk_two hbR
        have fR2 : ∀ x, W2.frozen? ⟨R, x, none⟩ = false := fun x => fz_blk hbR x
        clear hown hoW hbR
        by_cases hlj : j < k
        · have t3 : (j : Int) < (k : Int) := by omega
          by_cases hj0 : j = 0
          · subst hj0
            have HO : Hid (Pa.ops L (0 + 1) = Pa.ops L 0 ++ [0]) := Pa.ops_snoc L 0
            have HVA : Hid _ := blk1 W2 (.cells #[.int .u8 (0 : Int)] 41)
            go_wp2_with (at_builtin; (refine wpList_append_lies _ rfl _ _ 29 rfl W.heap.size 41 j3 (.int .u8 0) 1 1 Try.underlying29 h3 h30 h31 h32 rfl (by decide) (.slice aO 0 cO) 0 (u8s (Pa.ops L 0)) rfl (HG2.out.1.alloc _) ⟨W2.heap.size, 0, none⟩ 1 1 [.int .u8 (0 : Int)] rfl rfl (World.news_of_block (cs := #[.int .u8 (0 : Int)]) HVA.out.1) (fun u hu => by simp at hu; rcases hu with rfl; rfl) (by decide) (by unfold maxLen; omega) (by omega) (by rw [HVA.out.2]; omega) (W2.heap.size + 1) HVA.out.2 ?_; intro g5 cap5 w5 hown5 hgrow5 hat5 hlt5; have hoo : Only (fun b => (Value.slice aO 0 cO).ownBlock = some b) W2 w5 := ((Only.refl (fun b => (Value.slice aO 0 cO).ownBlock = some b) W2).alloc _).grown hgrow5 (fun k hk => hk); have hbR5 : w5.heap[R]? = some (.cells #[.slice a k c, .slice aO 0 cO] 31 (0, 0)) := (hoo.block R lR2 (fun h => by have := (own_own HG2.out.1 h).1; omega)).trans HG2.out.2.2.1; obtain ⟨q0, q1, lR5⟩ := blk_two hbR5; have fR5 : ∀ x, w5.frozen? ⟨R, x, none⟩ = false := fun x => fz_blk hbR5 x; have H5 : Hid (w5.ownsRow W.heap.size 41 1 (.slice (some ⟨g5, 0, none⟩) (0 + 1) cap5) (0 + 1) (u8s (Pa.ops L (0 + 1))) ∧ Only (fun b => b = R ∨ W.heap.size ≤ b) W w5 ∧ w5.heap[R]? = some (.cells #[.slice a k c, .slice aO 0 cO] 31 (0, 0))) := ⟨by rw [HO.out, u8s_snoc]; exact hown5, HG2.out.2.1.trans (hoo.mono (fun b hb => Or.inr (own_own HG2.out.1 hb).1)), hbR5⟩; clear hown5 hgrow5 hat5 hoo hbR5))
            go_roundg (k - (0 + 1))
            case measure => omega
            case rel => exact ⟨0 + 1, some ⟨g5, 0, none⟩, cap5, _, rfl, rfl, by omega, by go_num, heap_setCell_at H5.out.2.2 _, own_only H5.out.1 ((Only.refl (fun b => b = R) w5).setCell (p := ⟨R, 1, none⟩) rfl _) (fun g hg he => by omega), H5.out.2.1.setCell (p := ⟨R, 1, none⟩) (Or.inl rfl) _⟩
          · have t4 : (0 : Int) < (j : Int) := by omega
            obtain ⟨j1, hj1⟩ : ∃ j1, j = j1 + 1 := ⟨j - 1, by omega⟩
            subst hj1
            obtain ⟨x, hx⟩ : ∃ x, L[j1]? = some x := ⟨_, List.getElem?_eq_getElem (by rw [← HN.out]; omega)⟩
            have hx8 := (HV.out.2 x (List.mem_of_getElem? hx)).2.2.2
            obtain ⟨b, off, e0', hb, x0, x1, x2, x3⟩ := (HV.out.1.keep HG2.out.2.2.2).bt hx
            subst e0'
            have t5 : (j1 : Int) < (n : Int) := by omega
            obtain ⟨y, hy⟩ : ∃ y, y = x.opp % 4 := ⟨_, rfl⟩
            have p1 : (x.opp : Int).tmod 4 = (y : Int) := by rw [Int.tmod_eq_emod_of_nonneg (by omega)]; omega
            have HO : Hid (Pa.ops L (j1 + 1 + 1) = Pa.ops L (j1 + 1) ++ [y]) := by
              rw [Pa.ops_snoc]
              unfold Pa.op
              rw [if_neg (by omega), Nat.add_sub_cancel, hx, hy]
              exact rfl
            have hy4 : y < 4 := by omega
            obtain ⟨xo, hxo⟩ : ∃ xo, xo = x.opp := ⟨_, rfl⟩
            rw [← hxo] at hx8 x3 p1
            clear hx x0 x1 x2 hy hxo
            have HVA : Hid _ := blk1 W2 (.cells #[.int .u8 (y : Int)] 41)
            go_wp2_with (at_builtin; (refine wpList_append_lies _ rfl _ _ 29 rfl W.heap.size 41 j3 (.int .u8 0) 1 1 Try.underlying29 h3 h30 h31 h32 rfl (by decide) (.slice aO (j1 + 1) cO) (j1 + 1) (u8s (Pa.ops L (j1 + 1))) rfl (HG2.out.1.alloc _) ⟨W2.heap.size, 0, none⟩ 1 1 [.int .u8 (y : Int)] rfl rfl (World.news_of_block (cs := #[.int .u8 (y : Int)]) HVA.out.1) (fun u hu => by simp at hu; rcases hu with rfl; rfl) (by decide) (by unfold maxLen; omega) (by omega) (by rw [HVA.out.2]; omega) (W2.heap.size + 1) HVA.out.2 ?_; intro g5 cap5 w5 hown5 hgrow5 hat5 hlt5; have hoo : Only (fun b => (Value.slice aO (j1 + 1) cO).ownBlock = some b) W2 w5 := ((Only.refl (fun b => (Value.slice aO (j1 + 1) cO).ownBlock = some b) W2).alloc _).grown hgrow5 (fun k hk => hk); have hbR5 : w5.heap[R]? = some (.cells #[.slice a k c, .slice aO (j1 + 1) cO] 31 (0, 0)) := (hoo.block R lR2 (fun h => by have := (own_own HG2.out.1 h).1; omega)).trans HG2.out.2.2.1; obtain ⟨q0, q1, lR5⟩ := blk_two hbR5; have fR5 : ∀ x, w5.frozen? ⟨R, x, none⟩ = false := fun x => fz_blk hbR5 x; have H5 : Hid (w5.ownsRow W.heap.size 41 1 (.slice (some ⟨g5, 0, none⟩) ((j1 + 1) + 1) cap5) ((j1 + 1) + 1) (u8s (Pa.ops L (j1 + 1 + 1))) ∧ Only (fun b => b = R ∨ W.heap.size ≤ b) W w5 ∧ w5.heap[R]? = some (.cells #[.slice a k c, .slice aO (j1 + 1) cO] 31 (0, 0))) := ⟨by rw [HO.out, u8s_snoc]; exact hown5, HG2.out.2.1.trans (hoo.mono (fun b hb => Or.inr (own_own HG2.out.1 hb).1)), hbR5⟩; clear hown5 hgrow5 hat5 hoo hbR5))
            go_roundg (k - (j1 + 1 + 1))
            case measure => omega
            case rel => exact ⟨j1 + 1 + 1, some ⟨g5, 0, none⟩, cap5, _, rfl, rfl, by omega, by go_num, heap_setCell_at H5.out.2.2 _, own_only H5.out.1 ((Only.refl (fun b => b = R) w5).setCell (p := ⟨R, 1, none⟩) rfl _) (fun g hg he => by omega), H5.out.2.1.setCell (p := ⟨R, 1, none⟩) (Or.inl rfl) _⟩
        · have t3 : decide ((j : Int) < (k : Int)) = false := decide_eq_false (by omega)
          have hjk : k = j := by omega
          subst hjk
          have HVA : Hid _ := blk1 W2 (.cells #[.int .u8 (2 : Int)] 41)
          go_wp2_with (at_builtin; (refine wpList_append_lies _ rfl _ _ 29 rfl W.heap.size 41 j3 (.int .u8 0) 1 1 Try.underlying29 h3 h30 h31 h32 rfl (by decide) (.slice aO k cO) k (u8s (Pa.ops L k)) rfl (HG2.out.1.alloc _) ⟨W2.heap.size, 0, none⟩ 1 1 [.int .u8 (2 : Int)] rfl rfl (World.news_of_block (cs := #[.int .u8 (2 : Int)]) HVA.out.1) (fun u hu => by simp at hu; rcases hu with rfl; rfl) (by decide) (by unfold maxLen; omega) (by omega) (by rw [HVA.out.2]; omega) (W2.heap.size + 1) HVA.out.2 ?_; intro g5 cap5 w5 hown5 hgrow5 hat5 hlt5; have hoo : Only (fun b => (Value.slice aO k cO).ownBlock = some b) W2 w5 := ((Only.refl (fun b => (Value.slice aO k cO).ownBlock = some b) W2).alloc _).grown hgrow5 (fun k hk => hk); have hbR5 : w5.heap[R]? = some (.cells #[.slice a k c, .slice aO k cO] 31 (0, 0)) := (hoo.block R lR2 (fun h => by have := (own_own HG2.out.1 h).1; omega)).trans HG2.out.2.2.1; obtain ⟨q0, q1, lR5⟩ := blk_two hbR5; have fR5 : ∀ x, w5.frozen? ⟨R, x, none⟩ = false := fun x => fz_blk hbR5 x; have H5 : Hid (w5.ownsRow W.heap.size 41 1 (.slice (some ⟨g5, 0, none⟩) (k + 1) cap5) (k + 1) (u8s (Pa.ops L k ++ [2])) ∧ Only (fun b => b = R ∨ W.heap.size ≤ b) W w5 ∧ w5.heap[R]? = some (.cells #[.slice a k c, .slice aO k cO] 31 (0, 0))) := ⟨by rw [u8s_snoc]; exact hown5, HG2.out.2.1.trans (hoo.mono (fun b hb => Or.inr (own_own HG2.out.1 hb).1)), hbR5⟩; clear hown5 hgrow5 hat5 hoo hbR5; have hb0 : w5.heap[R0]? = some (.cells #[.slice none 0 0, .slice none 0 0] 31 (0, 0)) := (H5.out.2.1.block R0 (by have := H0.out.2.2; omega) (fun h => by rcases h with h | h <;> (have := H0.out.2.2; omega))).trans ((HG.out.2.1.block R0 (by have := H0.out.2.2; omega) (fun h => by have := H0.out.2.2; omega)).trans H0.out.2.2.2.2.2); obtain ⟨u0, u1, lu⟩ := blk_two hb0; have fu : ∀ x, w5.frozen? ⟨R0, x, none⟩ = false := fun x => fz_blk hb0 x; have ne1 : ¬ R0 = R := (by have := H0.out.2.2; omega); have ne2 : ¬ R = R0 := (by have := H0.out.2.2; omega); have HB0 : Hid (w5.heap[R0]? = some (.cells #[.slice none 0 0, .slice none 0 0] 31 (0, 0))) := hb0; clear hb0))
          have hl1 : (Pa.cts (L.take k) 0).length = k := by rw [Pa.cts_len, List.length_take, ← HN.out]; omega
          have hl2 : (Pa.ops L k ++ [2]).length = k + 1 := by rw [List.length_append, Pa.ops_len]; rfl
          refine bodyPost_ret (v := .agg #[.slice a k c, .slice (some ⟨g5, 0, none⟩) (k + 1) cap5]) (results_cell_row rfl _ _ R0 31 #[.slice a k c, .slice (some ⟨g5, 0, none⟩) (k + 1) cap5] (0, 0) _ rfl (heap_setCell_at (k := 1) (heap_setCell_at (k := 0) ((Below.heap_setCell _ _ _ _ (by first | exact ne1 | exact ne2)).trans HB0.out) _) _) Try.underlying31 rfl (by kernel_rfl)) rfl ?_
          have oz : Only (fun b => b = R ∨ b = R0) w5 (((w5.setCell ⟨R, 1, none⟩ (.slice (some ⟨g5, 0, none⟩) (k + 1) cap5)).setCell ⟨R0, 0, none⟩ (.slice a k c)).setCell ⟨R0, 1, none⟩ (.slice (some ⟨g5, 0, none⟩) (k + 1) cap5)) := (((Only.refl (fun b => b = R ∨ b = R0) w5).setCell (p := ⟨R, 1, none⟩) (Or.inl rfl) _).setCell (p := ⟨R0, 0, none⟩) (Or.inr rfl) _).setCell (p := ⟨R0, 1, none⟩) (Or.inr rfl) _
          have h02 := H0.out.2.2
          have oy := (H5.out.2.1.mono (S' := fun b => b = R ∨ b = R0 ∨ W.heap.size ≤ b) (fun b hb => hb.elim Or.inl (fun h => Or.inr (Or.inr h)))).trans (oz.mono (fun b hb => hb.elim Or.inl (fun h => Or.inr (Or.inl h))))
          refine ⟨k, hk, HSM.out, a, some ⟨g5, 0, none⟩, c, cap5, by rw [hl1, hl2], ?_, ?_, ?_⟩
          · rw [hl1]
            exact own_base2 (own_stay HG.out.1 oy (fun q hq hP => by have := own_lt HG.out.1 hq; have := (own_own HG.out.1 hq).1; rcases hP with h | h | h <;> omega)) (by omega)
          · rw [hl2]
            exact own_base2 (own_only H5.out.1 oz (fun g hg hP => by rcases hP with h | h <;> omega)) (by omega)
          · exact ((HG.out.2.2.2.2.mono (S' := fun b => R0 ≤ b) (fun _ h => h.elim)).trans (oy.mono (fun b hb => by rcases hb with h | h | h <;> omega))).old (fun b hb => Or.inl (by omega))
end Go.Proofs.Ytegoadhnilmchaa
