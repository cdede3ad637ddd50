/-
  SameRules: of two sets of rules that are the same it says so.
-/
import Derived.Test.YtahoepmnekconaaS1
namespace Go.Proofs.Ytahoepmnekconaa
open Go.RowKit Go.Maps
set_option linter.unusedVariables false
set_option linter.unusedSimpArgs false
theorem Rcs.get {w : World} {F : Nat → Prop} : ∀ (rs : List Rl.Rule) (c : Nat → Option Value) (i : Nat) (r : Rl.Rule), Rcs w F rs c → rs[i]? = some r → ∃ op st a n cap op' st' a' n' cap', c (7 * i) = some (.int .u8 r.does) ∧ c (7 * i + 1) = some (.int .u8 op) ∧ c (7 * i + 2) = some (.int .u32 st) ∧ c (7 * i + 3) = some (.slice a n cap) ∧ Tr w F r.left (.agg #[.int .u8 op, .int .u32 st, .slice a n cap]) ∧ c (7 * i + 4) = some (.int .u8 op') ∧ c (7 * i + 5) = some (.int .u32 st') ∧ c (7 * i + 6) = some (.slice a' n' cap') ∧ Tr w F r.right (.agg #[.int .u8 op', .int .u32 st', .slice a' n' cap'])
  | [], _, i, _, _, h => by simp at h
  | r0 :: rs, c, 0, r, ht, h => by
    simp at h
    subst h
    obtain ⟨⟨h0, ⟨o, s, k, h1, h2, h3, h4⟩, ⟨o', s', k', h5, h6, h7, h8⟩⟩, _⟩ := ht
    obtain ⟨op, st, a, n, cap, hf⟩ := h4.form
    obtain ⟨op', st', a', n', cap', hf'⟩ := h8.form
    simp only [Value.agg.injEq, Array.mk.injEq, List.cons.injEq, and_true] at hf hf'
    obtain ⟨rfl, rfl, rfl⟩ := hf
    obtain ⟨rfl, rfl, rfl⟩ := hf'
    exact ⟨op, st, a, n, cap, op', st', a', n', cap', h0, h1, h2, h3, h4, h5, h6, h7, h8⟩
  | r0 :: rs, c, i + 1, r, ht, h => Rcs.get rs _ i r ht.2 (by simpa using h)
theorem Rls.get {w : World} {B : Nat} {a : Option Addr} {c : Nat} {l : List Rl.Rule} (h : Rls w B (.slice a l.length c) l) {i : Nat} {r : Rl.Rule} (hi : l[i]? = some r) : ∃ g op st a1 n cap op' st' a1' n' cap', a = some ⟨g, 0, none⟩ ∧ g < w.heap.size ∧ w.cell? ⟨g, i * 7, none⟩ = some (.int .u8 r.does) ∧ w.cell? ⟨g, i * 7 + 1, none⟩ = some (.int .u8 op) ∧ w.cell? ⟨g, i * 7 + 2, none⟩ = some (.int .u32 st) ∧ w.cell? ⟨g, i * 7 + 3, none⟩ = some (.slice a1 n cap) ∧ Tr w (fun b => B ≤ b) r.left (.agg #[.int .u8 op, .int .u32 st, .slice a1 n cap]) ∧ w.cell? ⟨g, i * 7 + 4, none⟩ = some (.int .u8 op') ∧ w.cell? ⟨g, i * 7 + 5, none⟩ = some (.int .u32 st') ∧ w.cell? ⟨g, i * 7 + 6, none⟩ = some (.slice a1' n' cap') ∧ Tr w (fun b => B ≤ b) r.right (.agg #[.int .u8 op', .int .u32 st', .slice a1' n' cap']) := by
  obtain ⟨xs, h1, h2⟩ := h
  have hlt : i < l.length := (List.getElem?_eq_some_iff.1 hi).1
  obtain ⟨g, cap0, hv, _, hg, _, hc⟩ := row_form h1 (by omega)
  obtain ⟨op, st, a1, n, cap, op', st', a1', n', cap', e0, e1, e2, e3, e4, e5, e6, e7, e8⟩ := Rcs.get l _ i r h2 hi
  have ha : a = some ⟨g, 0, none⟩ := by injection hv
  rw [Nat.mul_comm] at e0 e1 e2 e3 e5 e6 e7
  exact ⟨g, op, st, a1, n, cap, op', st', a1', n', cap', ha, hg, (hc _ (by omega)).trans e0, (hc _ (by omega)).trans e1, (hc _ (by omega)).trans e2, (hc _ (by omega)).trans e3, e4, (hc _ (by omega)).trans e5, (hc _ (by omega)).trans e6, (hc _ (by omega)).trans e7, e8⟩
theorem Rls.only0 {w w' : World} {B : Nat} {v : Value} {l : List Rl.Rule} (h : Rls w B v l) (ho : Only (fun _ => False) w w') : Rls w' B v l := h.only ho (fun g _ h => h)
theorem strs_at {w : World} {base : Nat} {a : Option Addr} {c : Nat} {l : List Rl.Str} (h : w.ownsRow base 9 1 (.slice a l.length c) l.length (strs l)) {k : Nat} {x : Rl.Str} (hk : l[k]? = some x) : ∃ g, a = some ⟨g, 0, none⟩ ∧ w.cell? ⟨g, k, none⟩ = some (.string (bs x)) := by
  have hlt : k < l.length := (List.getElem?_eq_some_iff.1 hk).1
  obtain ⟨g, cap, hv, _, _, _, hc⟩ := row_form h (by omega)
  refine ⟨g, by injection hv, ?_⟩
  rw [hc k (by omega)]
  unfold strs
  rw [List.getElem?_map, hk]; rfl
/-- a set of rules in a variable of its own. -/
def Xr (w : World) (b : Nat) (v0 v1 v2 v3 v4 : Value) : Prop := w.heap[b]? = some (.cells #[v0, v1, v2, v3, v4] 37 (0, 0))
section
variable {w w' : World} {b : Nat} {v0 v1 v2 v3 v4 : Value}
theorem Xr.only {P : Nat → Prop} (h : Xr w b v0 v1 v2 v3 v4) (ho : Only P w w') (hn : ¬ P b) : Xr w' b v0 v1 v2 v3 v4 := (ho.block b (Array.getElem?_eq_some_iff.1 h).1 hn).trans h
theorem Xr.new (w : World) (v0 v1 v2 v3 v4 : Value) : Xr (w.alloc (.cells #[v0, v1, v2, v3, v4] 37)) w.heap.size v0 v1 v2 v3 v4 := heap_alloc_new _ _
theorem Xr.alloc (h : Xr w b v0 v1 v2 v3 v4) (o : Obj) : Xr (w.alloc o) b v0 v1 v2 v3 v4 := (Below.heap_alloc _ _ _ (Array.getElem?_eq_some_iff.1 h).1).trans h
theorem Xr.c0 (h : Xr w b v0 v1 v2 v3 v4) : w.cell? ⟨b, 0, none⟩ = some v0 := (cell_of_row _ _ _ _ _ _ h).trans rfl
theorem Xr.c1 (h : Xr w b v0 v1 v2 v3 v4) : w.cell? ⟨b, 1, none⟩ = some v1 := (cell_of_row _ _ _ _ _ _ h).trans rfl
theorem Xr.c2 (h : Xr w b v0 v1 v2 v3 v4) : w.cell? ⟨b, 2, none⟩ = some v2 := (cell_of_row _ _ _ _ _ _ h).trans rfl
theorem Xr.c3 (h : Xr w b v0 v1 v2 v3 v4) : w.cell? ⟨b, 3, none⟩ = some v3 := (cell_of_row _ _ _ _ _ _ h).trans rfl
theorem Xr.c4 (h : Xr w b v0 v1 v2 v3 v4) : w.cell? ⟨b, 4, none⟩ = some v4 := (cell_of_row _ _ _ _ _ _ h).trans rfl
end
set_option maxRecDepth 100000 in
set_option maxHeartbeats 16000000 in
theorem sameRules_any (s : Rl.St) (B B' : Nat) (v v' : Value) (w : World) (h1 : Rv w B v s) (h2 : Rv w B' v' s) (hs : Rl.SmallS s) :
    Calls Try.prog 13 #[v, v'] w fun e w' => e = .returned (.bool true) ∧ Only (fun _ => False) w w' := by
  obtain ⟨aC, aT, aL, cC, cT, cL, rfl, r1, r2, r3, htl, hc24, hl24⟩ := h1
  obtain ⟨aC', aT', aL', cC', cT', cL', rfl, r1', r2', r3', htl', _, _⟩ := h2
  clear htl'
  have R1 : Hid (w.ownsRow B 9 1 (.slice aC s.cls.length cC) s.cls.length (strs s.cls)) := r1
  have R2 : Hid (w.ownsRow B 3 1 (.slice aT s.treat.length cT) s.treat.length (ints s.treat)) := r2
  have R3 : Hid (Rls w B (.slice aL s.list.length cL) s.list) := r3
  have R1' : Hid (w.ownsRow B' 9 1 (.slice aC' s.cls.length cC') s.cls.length (strs s.cls)) := r1'
  have R2' : Hid (w.ownsRow B' 3 1 (.slice aT' s.treat.length cT') s.treat.length (ints s.treat)) := r2'
  have R3' : Hid (Rls w B' (.slice aL' s.list.length cL') s.list) := r3'
  have ht24 : s.treat.length ≤ 24 := by omega
  have HS : Hid (Rl.SmallS s) := hs
  obtain ⟨n, hn⟩ : ∃ n, n = s.cls.length := ⟨_, rfl⟩
  have Hn : Hid (n = s.cls.length) := hn
  obtain ⟨m, hm⟩ : ∃ m, m = s.list.length := ⟨_, rfl⟩
  have Hm : Hid (m = s.list.length) := hm
  clear r1 r2 r3 r1' r2' r3' hs htl
  rw [← hn, ← hm]
  rw [← hn] at hc24
  rw [← hm] at hl24
  clear hn hm
  have X0 : Hid (Xr ((w.alloc (.cells #[.slice aC n cC, .int .u32 s.join, .int .u32 s.after, .slice aT s.treat.length cT, .slice aL m cL] 37)).alloc (.cells #[.slice aC' n cC', .int .u32 s.join, .int .u32 s.after, .slice aT' s.treat.length cT', .slice aL' m cL'] 37)) w.heap.size (.slice aC n cC) (.int .u32 s.join) (.int .u32 s.after) (.slice aT s.treat.length cT) (.slice aL m cL)) := (Xr.new w _ _ _ _ _).alloc _
  have Y0 : Hid (Xr ((w.alloc (.cells #[.slice aC n cC, .int .u32 s.join, .int .u32 s.after, .slice aT s.treat.length cT, .slice aL m cL] 37)).alloc (.cells #[.slice aC' n cC', .int .u32 s.join, .int .u32 s.after, .slice aT' s.treat.length cT', .slice aL' m cL'] 37)) (w.heap.size + 1) (.slice aC' n cC') (.int .u32 s.join) (.int .u32 s.after) (.slice aT' s.treat.length cT') (.slice aL' m cL')) := heap_alloc2_new _ _ _
  have HO0 : Hid (Only (fun _ => False) w ((w.alloc (.cells #[.slice aC n cC, .int .u32 s.join, .int .u32 s.after, .slice aT s.treat.length cT, .slice aL m cL] 37)).alloc (.cells #[.slice aC' n cC', .int .u32 s.join, .int .u32 s.after, .slice aT' s.treat.length cT', .slice aL' m cL'] 37))) := ((Only.refl (fun _ => False) w).alloc _).alloc _
  go_enter Try.func13, Try.ntmps13
  go_wp2_with (go_at_call 21; refine (sameInts_any s.treat B B' aT aT' cT cT' _ (own_only R2.out HO0.out (fun _ _ h => h)) (own_only R2'.out HO0.out (fun _ _ h => h)) ht24).mono ?_; rintro e w1 ⟨rfl, ho1⟩; have X1 : Hid (Xr w1 w.heap.size (.slice aC n cC) (.int .u32 s.join) (.int .u32 s.after) (.slice aT s.treat.length cT) (.slice aL m cL)) := X0.out.only ho1 (fun h => h); have Y1 : Hid (Xr w1 (w.heap.size + 1) (.slice aC' n cC') (.int .u32 s.join) (.int .u32 s.after) (.slice aT' s.treat.length cT') (.slice aL' m cL')) := Y0.out.only ho1 (fun h => h); have HO1 : Hid (Only (fun _ => False) w w1) := HO0.out.trans ho1; clear ho1; have x4 := X1.out.c4; have y4 := Y1.out.c4)
  go_loopg [5] n (fun g u wr => ∃ (k q : Nat), g = n - k ∧ k ≤ n ∧ u = .int .i64 (k : Int) ∧ wr = w1.drewN q)
  case atStart => exact ⟨0, 0, rfl, Nat.zero_le _, rfl, rfl⟩
  case round =>
    obtain ⟨k, q, rfl, hk, rfl, rfl⟩ := hrel
    have x0 := X1.out.c0
    have y0 := Y1.out.c0
    by_cases hlt : k < n
    · have t1 : (k : Int) < (n : Int) := by omega
      obtain ⟨c, hc⟩ : ∃ c, s.cls[k]? = some c := ⟨s.cls[k]'(by rw [← Hn.out]; omega), List.getElem?_eq_getElem _⟩
      obtain ⟨g, e0, p0⟩ := strs_at (own_only R1.out HO1.out (fun _ _ h => h)) hc
      obtain ⟨g', e0', p0'⟩ := strs_at (own_only R1'.out HO1.out (fun _ _ h => h)) hc
      subst e0 e0'
      have htc := bs_toList c
      clear hc
      go_wp2_with fail
      go_quiet (fail)
      go_wp2_with fail
      go_roundg (n - (k + 1))
      case measure => omega
      case rel => exact ⟨k + 1, _, rfl, by omega, by go_num, rfl⟩
    · have t2 : decide ((k : Int) < (n : Int)) = false := decide_eq_false (by omega)
      go_wp2_with fail
      go_loopg [6] m (fun g u wr => ∃ (j : Nat) (W : World), W = wr ∧ g = m - j ∧ j ≤ m ∧ u = .int .i64 (j : Int) ∧ Only (fun _ => False) w1 W)
      case atStart => exact ⟨0, _, rfl, rfl, Nat.zero_le _, rfl, (Only.refl _ w1).drewN _⟩
      case round =>
        obtain ⟨j, W, hW, rfl, hj, rfl, hOr⟩ := hrel
        subst hW
        have HOr : Hid (Only (fun _ => False) w1 W) := hOr
        have u4 := (X1.out.only HOr.out (fun h => h)).c4
        have v4 := (Y1.out.only HOr.out (fun h => h)).c4
        clear hOr
        by_cases hjm : j < m
        · have t3 : (j : Int) < (m : Int) := by omega
          obtain ⟨r, hr⟩ : ∃ r, s.list[j]? = some r := ⟨s.list[j]'(by rw [← Hm.out]; omega), List.getElem?_eq_getElem _⟩
          obtain ⟨sl, sr⟩ := HS.out.2 r (List.mem_of_getElem? hr)
          have KL : Hid (SameOk r.left) := same_any _ sl
          have KR : Hid (SameOk r.right) := same_any _ sr
          obtain ⟨g, op, st, a1, n1, cap, op', st', a1', n1', cap', e0, hg, p0, p1, p2, p3, hTl, p4, p5, p6, hTr⟩ := Rls.get (R3.out.only0 (HO1.out.trans HOr.out)) hr
          obtain ⟨g', bop, bst, b1, bn1, bcap, bop', bst', b1', bn1', bcap', e0', hg', q0, q1, q2, q3, hUl, q4, q5, q6, hUr⟩ := Rls.get (R3'.out.only0 (HO1.out.trans HOr.out)) hr
          subst e0 e0'
          have HTl : Hid _ := hTl
          have HTr : Hid _ := hTr
          have HUl : Hid _ := hUl
          have HUr : Hid _ := hUr
          clear hTl hTr hUl hUr hr sl sr
          have hgA := (Array.getElem?_eq_some_iff.1 (X1.out.only HOr.out (fun h => h))).1
          have hgB := (Array.getElem?_eq_some_iff.1 (Y1.out.only HOr.out (fun h => h))).1
          have hKp : ∀ w' : World, Only (fun _ => False) W w' → (w'.cell? ⟨w.heap.size, 4, none⟩ = some (.slice (some ⟨g, 0, none⟩) m cL) ∧ w'.cell? ⟨w.heap.size + 1, 4, none⟩ = some (.slice (some ⟨g', 0, none⟩) m cL') ∧ w'.cell? ⟨g, j * 7, none⟩ = some (.int .u8 r.does) ∧ w'.cell? ⟨g, j * 7 + 1, none⟩ = some (.int .u8 op) ∧ w'.cell? ⟨g, j * 7 + 2, none⟩ = some (.int .u32 st) ∧ w'.cell? ⟨g, j * 7 + 3, none⟩ = some (.slice a1 n1 cap) ∧ w'.cell? ⟨g, j * 7 + 4, none⟩ = some (.int .u8 op') ∧ w'.cell? ⟨g, j * 7 + 5, none⟩ = some (.int .u32 st') ∧ w'.cell? ⟨g, j * 7 + 6, none⟩ = some (.slice a1' n1' cap') ∧ w'.cell? ⟨g', j * 7, none⟩ = some (.int .u8 r.does) ∧ w'.cell? ⟨g', j * 7 + 1, none⟩ = some (.int .u8 bop) ∧ w'.cell? ⟨g', j * 7 + 2, none⟩ = some (.int .u32 bst) ∧ w'.cell? ⟨g', j * 7 + 3, none⟩ = some (.slice b1 bn1 bcap) ∧ w'.cell? ⟨g', j * 7 + 4, none⟩ = some (.int .u8 bop') ∧ w'.cell? ⟨g', j * 7 + 5, none⟩ = some (.int .u32 bst') ∧ w'.cell? ⟨g', j * 7 + 6, none⟩ = some (.slice b1' bn1' bcap')) := fun w' ho => ⟨(World.cell?_of_block (a := ⟨w.heap.size, 4, none⟩) (ho.block _ hgA (fun h => h))).trans u4, (World.cell?_of_block (a := ⟨w.heap.size + 1, 4, none⟩) (ho.block _ hgB (fun h => h))).trans v4, (World.cell?_of_block (a := ⟨g, j * 7, none⟩) (ho.block _ hg (fun h => h))).trans p0, (World.cell?_of_block (a := ⟨g, j * 7 + 1, none⟩) (ho.block _ hg (fun h => h))).trans p1, (World.cell?_of_block (a := ⟨g, j * 7 + 2, none⟩) (ho.block _ hg (fun h => h))).trans p2, (World.cell?_of_block (a := ⟨g, j * 7 + 3, none⟩) (ho.block _ hg (fun h => h))).trans p3, (World.cell?_of_block (a := ⟨g, j * 7 + 4, none⟩) (ho.block _ hg (fun h => h))).trans p4, (World.cell?_of_block (a := ⟨g, j * 7 + 5, none⟩) (ho.block _ hg (fun h => h))).trans p5, (World.cell?_of_block (a := ⟨g, j * 7 + 6, none⟩) (ho.block _ hg (fun h => h))).trans p6, (World.cell?_of_block (a := ⟨g', j * 7, none⟩) (ho.block _ hg' (fun h => h))).trans q0, (World.cell?_of_block (a := ⟨g', j * 7 + 1, none⟩) (ho.block _ hg' (fun h => h))).trans q1, (World.cell?_of_block (a := ⟨g', j * 7 + 2, none⟩) (ho.block _ hg' (fun h => h))).trans q2, (World.cell?_of_block (a := ⟨g', j * 7 + 3, none⟩) (ho.block _ hg' (fun h => h))).trans q3, (World.cell?_of_block (a := ⟨g', j * 7 + 4, none⟩) (ho.block _ hg' (fun h => h))).trans q4, (World.cell?_of_block (a := ⟨g', j * 7 + 5, none⟩) (ho.block _ hg' (fun h => h))).trans q5, (World.cell?_of_block (a := ⟨g', j * 7 + 6, none⟩) (ho.block _ hg' (fun h => h))).trans q6⟩
          have HKp : Hid (∀ w' : World, Only (fun _ => False) W w' → (w'.cell? ⟨w.heap.size, 4, none⟩ = some (.slice (some ⟨g, 0, none⟩) m cL) ∧ w'.cell? ⟨w.heap.size + 1, 4, none⟩ = some (.slice (some ⟨g', 0, none⟩) m cL') ∧ w'.cell? ⟨g, j * 7, none⟩ = some (.int .u8 r.does) ∧ w'.cell? ⟨g, j * 7 + 1, none⟩ = some (.int .u8 op) ∧ w'.cell? ⟨g, j * 7 + 2, none⟩ = some (.int .u32 st) ∧ w'.cell? ⟨g, j * 7 + 3, none⟩ = some (.slice a1 n1 cap) ∧ w'.cell? ⟨g, j * 7 + 4, none⟩ = some (.int .u8 op') ∧ w'.cell? ⟨g, j * 7 + 5, none⟩ = some (.int .u32 st') ∧ w'.cell? ⟨g, j * 7 + 6, none⟩ = some (.slice a1' n1' cap') ∧ w'.cell? ⟨g', j * 7, none⟩ = some (.int .u8 r.does) ∧ w'.cell? ⟨g', j * 7 + 1, none⟩ = some (.int .u8 bop) ∧ w'.cell? ⟨g', j * 7 + 2, none⟩ = some (.int .u32 bst) ∧ w'.cell? ⟨g', j * 7 + 3, none⟩ = some (.slice b1 bn1 bcap) ∧ w'.cell? ⟨g', j * 7 + 4, none⟩ = some (.int .u8 bop') ∧ w'.cell? ⟨g', j * 7 + 5, none⟩ = some (.int .u32 bst') ∧ w'.cell? ⟨g', j * 7 + 6, none⟩ = some (.slice b1' bn1' bcap'))) := hKp
          clear hKp
          go_wp2_with fail
          go_region_held3 (fun w' => w'.cell? ⟨w.heap.size, 4, none⟩ = some (.slice (some ⟨g, 0, none⟩) m cL) ∧ w'.cell? ⟨w.heap.size + 1, 4, none⟩ = some (.slice (some ⟨g', 0, none⟩) m cL') ∧ w'.cell? ⟨g, j * 7, none⟩ = some (.int .u8 r.does) ∧ w'.cell? ⟨g, j * 7 + 1, none⟩ = some (.int .u8 op) ∧ w'.cell? ⟨g, j * 7 + 2, none⟩ = some (.int .u32 st) ∧ w'.cell? ⟨g, j * 7 + 3, none⟩ = some (.slice a1 n1 cap) ∧ w'.cell? ⟨g, j * 7 + 4, none⟩ = some (.int .u8 op') ∧ w'.cell? ⟨g, j * 7 + 5, none⟩ = some (.int .u32 st') ∧ w'.cell? ⟨g, j * 7 + 6, none⟩ = some (.slice a1' n1' cap') ∧ w'.cell? ⟨g', j * 7, none⟩ = some (.int .u8 r.does) ∧ w'.cell? ⟨g', j * 7 + 1, none⟩ = some (.int .u8 bop) ∧ w'.cell? ⟨g', j * 7 + 2, none⟩ = some (.int .u32 bst) ∧ w'.cell? ⟨g', j * 7 + 3, none⟩ = some (.slice b1 bn1 bcap) ∧ w'.cell? ⟨g', j * 7 + 4, none⟩ = some (.int .u8 bop') ∧ w'.cell? ⟨g', j * 7 + 5, none⟩ = some (.int .u32 bst') ∧ w'.cell? ⟨g', j * 7 + 6, none⟩ = some (.slice b1' bn1' bcap')) ((first | exact HKp.out _ ((Only.refl (fun _ => False) W).drew) | exact HKp.out _ ho3 | exact HKp.out _ ho2)) ((first | (go_at_call_of 22 (Value.agg #[.int .u8 op, .int .u32 st, .slice a1 n1 cap]); refine (KL.out _ _ _ _ _ (HTl.out.only0 ((Only.refl (fun _ => False) W).drew)) (HUl.out.only0 ((Only.refl (fun _ => False) W).drew))).mono ?_; rintro en w2 ⟨rfl, ho2'⟩; have ho2 : Only (fun _ => False) W w2 := (Only.refl (fun _ => False) W).drew.trans ho2'; clear ho2') | (go_at_call_of 22 (Value.agg #[.int .u8 op', .int .u32 st', .slice a1' n1' cap']); refine (KR.out _ _ _ _ _ (HTr.out.only0 ho2) (HUr.out.only0 ho2)).mono ?_; rintro en w3 ⟨rfl, ho3'⟩; have ho3 : Only (fun _ => False) W w3 := ho2.trans ho3'; clear ho3')))
          all_goals
            go_wp2_with fail
            go_roundg (m - (j + 1))
            case measure => omega
            case rel => exact ⟨j + 1, _, rfl, rfl, by omega, by go_num, HOr.out.trans ho3⟩
        · have t4 : decide ((j : Int) < (m : Int)) = false := decide_eq_false (by omega)
          go_wp2_with fail
          go_ret
          exact ⟨rfl, HO1.out.trans HOr.out⟩
theorem noRules_rv (w : World) : Rv w 0 noRules Rl.st0 := ⟨none, none, none, 0, 0, 0, rfl, World.ownsRow_nil _ _ _ _, World.ownsRow_nil _ _ _ _, ⟨[], World.ownsRow_nil _ _ _ _, trivial⟩, rfl, by decide, by decide⟩
end Go.Proofs.Ytahoepmnekconaa
