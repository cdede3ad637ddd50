/-
  auto.turnedKids: an expression's kids in new memory, in the order that they have the other way round.
-/
import Derived.Test.YtfbcijnacbfjpaaTn1z
import Derived.Test.YtfbcijnacbfjpaaEx1z
import Derived.Laws.CopyOwn
import Derived.Laws.MakeOwn
import Derived.WalkSmall
namespace Go.Proofs.Ytfbcijnacbfjpaa
open Go.RowKit Go.Maps
set_option linter.unusedVariables false
set_option linter.unusedSimpArgs false
open Rl (Ex)
theorem run_copy3 {P : Program} (w : World) (dT sT ty elem : TypeId) (g n dCap : Nat) (a : Addr) (sCap : Nat) (cur : Array Value) (t : TypeId) (cs : List Value)
    (hu : P.underlying dT = some (.slice elem)) (hs : (P.info? elem).map (·.size) = some 3)
    (hg : w.heap[g]? = some (.cells cur t (0, 0))) (hn : cs.length = n * 3)
    (hsrc : ∀ j v, cs[j]? = some v → w.cell? (a.add j) = some v) (hfit : cur.size = n * 3) (h1 : ∀ v ∈ cs, v.oneCell' = true) :
    (Builtin.copy_ #[dT, sT] ty #[.slice (some ⟨g, 0, none⟩) n dCap, .slice (some a) n sCap]).run P w =
      .ok (goInt n) (w.setRow g cs.toArray) := by
  have hl := run_loadCells_list (P := P) w a cs hsrc
  have hst := run_storeCells_at P g 0 t cs 0 cur w hg (by omega) h1
  have e : (cur.toList.take (0 + 0) ++ cs ++ cur.toList.drop (0 + 0 + cs.length)) = cs := by
    rw [List.drop_eq_nil_of_le (by simp; omega)]
    simp
  rw [e] at hst
  cases hq : P.info? elem with
  | none => simp [hq] at hs
  | some i =>
    have hi : i.size = 3 := by simpa [hq] using hs
    rw [hn] at hl
    simp [Builtin.copy_, run_underlying hu, Builtin.lenOf, Builtin.firstCells, sizeOf, typeInfo, hq, hi, hl, hst]
/-- the cells of so many expressions. -/
def srcL (t : Nat → X3) : Nat → List Value
  | 0 => []
  | n + 1 => srcL t n ++ x3L (t n)
theorem srcL_len (t : Nat → X3) : ∀ n, (srcL t n).length = n * 3
  | 0 => rfl
  | n + 1 => by simp [srcL, srcL_len t n, x3L]; omega
theorem srcL_get (t : Nat → X3) (j d : Nat) (hd : d < 3) : ∀ n, j < n → (srcL t n)[j * 3 + d]? = (x3L (t j))[d]?
  | 0, h => by omega
  | n + 1, h => by
    have hl := srcL_len t n
    unfold srcL
    by_cases e : j < n
    · rw [List.getElem?_append_left (by omega)]
      exact srcL_get t j d hd n e
    · obtain rfl : j = n := by omega
      rw [List.getElem?_append_right (by omega), hl, show j * 3 + d - j * 3 = d by omega]
theorem srcL_t3 (t : Nat → X3) (n : Nat) : T3 (srcL t n).toArray n t := by
  refine ⟨by simp [srcL_len], fun j hj => ?_⟩
  have h0 := srcL_get t j 0 (by omega) n hj
  rw [Nat.add_zero] at h0
  simp only [List.getElem?_toArray]
  rw [h0, srcL_get t j 1 (by omega) n hj, srcL_get t j 2 (by omega) n hj]
  simp [x3L]
theorem srcL_one (t : Nat → X3) (n : Nat) : ∀ v ∈ srcL t n, v.oneCell' = true := by
  induction n with
  | zero => intro v h; simp [srcL] at h
  | succ n ih =>
    intro v h
    unfold srcL at h
    rcases List.mem_append.1 h with h | h
    · exact ih v h
    · simp only [x3L, List.mem_cons, List.not_mem_nil, or_false] at h
      rcases h with rfl | rfl | rfl <;> rfl
/-- a list's cells. -/
theorem Tes.x3 {w : World} {F : Nat → Prop} : ∀ (es : List Ex) (b off : Nat), Tes w F es b off → ∃ t : Nat → X3, ∀ j e, es[j]? = some e → w.cell? ⟨b, off + j * 3, none⟩ = some (.int .u8 (t j).op) ∧ w.cell? ⟨b, off + j * 3 + 1, none⟩ = some (.int .u32 (t j).set) ∧ w.cell? ⟨b, off + j * 3 + 2, none⟩ = some (.slice (t j).a (t j).m (t j).c) ∧ Te w F e (.agg #[.int .u8 (t j).op, .int .u32 (t j).set, .slice (t j).a (t j).m (t j).c])
  | [], b, off, h => ⟨fun _ => ⟨0, 0, none, 0, 0⟩, fun j e h => by simp at h⟩
  | e :: es, b, off, h => by
    unfold Tes at h
    obtain ⟨⟨o, s, k, h0, h1, h2, h3⟩, h4⟩ := h
    obtain ⟨t, ht⟩ := Tes.x3 es b (off + 3) h4
    obtain ⟨op, set, kids⟩ := e
    obtain ⟨a, cap, hv, _⟩ := h3.kids
    simp only [Value.agg.injEq, Array.mk.injEq, List.cons.injEq, and_true] at hv
    obtain ⟨rfl, rfl, rfl⟩ := hv
    refine ⟨fun j => match j with | 0 => ⟨op, set, a, kids.length, cap⟩ | j + 1 => t j, fun j e' he => ?_⟩
    cases j with
    | zero =>
      simp only [List.getElem?_cons_zero, Option.some.injEq] at he
      subst he
      simp only [Nat.zero_mul, Nat.add_zero]
      exact ⟨h0, h1, h2, h3⟩
    | succ j =>
      simp only [List.getElem?_cons_succ] at he
      have := ht j e' he
      rw [show off + 3 + j * 3 = off + (j + 1) * 3 by omega] at this
      exact this
theorem src_cells {w : World} {b off : Nat} {es : List Ex} {t : Nat → X3} {F : Nat → Prop} (h : ∀ j e, es[j]? = some e → w.cell? ⟨b, off + j * 3, none⟩ = some (.int .u8 (t j).op) ∧ w.cell? ⟨b, off + j * 3 + 1, none⟩ = some (.int .u32 (t j).set) ∧ w.cell? ⟨b, off + j * 3 + 2, none⟩ = some (.slice (t j).a (t j).m (t j).c) ∧ Te w F e (.agg #[.int .u8 (t j).op, .int .u32 (t j).set, .slice (t j).a (t j).m (t j).c])) :
    ∀ j v, (srcL t es.length)[j]? = some v → w.cell? ((⟨b, off, none⟩ : Addr).add j) = some v := by
  intro j v hv
  have hl := (List.getElem?_eq_some_iff.1 hv).1
  rw [srcL_len] at hl
  have hq : j / 3 < es.length := by omega
  rw [show j = j / 3 * 3 + j % 3 by omega, srcL_get t (j / 3) (j % 3) (by omega) _ hq] at hv
  obtain ⟨g0, g1, g2, _⟩ := h (j / 3) _ (List.getElem?_eq_getElem hq)
  rw [Addr.add_mid]
  have h3 : j % 3 = 0 ∨ j % 3 = 1 ∨ j % 3 = 2 := by omega
  rcases h3 with e | e | e
  · rw [e] at hv
    simp [x3L] at hv
    rw [show off + j = off + j / 3 * 3 by omega, g0, hv]
  · rw [e] at hv
    simp [x3L] at hv
    rw [show off + j = off + j / 3 * 3 + 1 by omega, g1, hv]
  · rw [e] at hv
    simp [x3L] at hv
    rw [show off + j = off + j / 3 * 3 + 2 by omega, g2, hv]
theorem T3.tes {w W : World} {F : Nat → Prop} {b n : Nat} {cs : Array Value} {u : Nat → X3} {es : List Ex} (hb : W.heap[b]? = some (.cells cs 49 (0, 0))) (hT : T3 cs n u) (hl : es.length = n) (hk : Kp w W F) (h : ∀ j e, es[j]? = some e → Te w F e (.agg #[.int .u8 (u j).op, .int .u32 (u j).set, .slice (u j).a (u j).m (u j).c])) : Tes W F es b 0 := by
  refine Tes.of hk (fun _ h => h) es b 0 (fun i e hi => ?_)
  have hil := (List.getElem?_eq_some_iff.1 hi).1
  obtain ⟨q0, q1, q2⟩ := hT.2 i (by omega)
  rw [Nat.zero_add]
  exact ⟨_, _, _, (cell_of_row _ _ _ _ _ _ hb).trans q0, (cell_of_row _ _ _ _ _ _ hb).trans q1, (cell_of_row _ _ _ _ _ _ hb).trans q2, h i e hi⟩
theorem infoX : (Try.prog.info? 49).map (fun i => (i.zero, i.size, i.bytes)) = some (some (.agg #[.int .u8 0, .int .u32 0, .slice none 0 0]), 3, 32) := by kernel_rfl
theorem sizeX : (Try.prog.info? 49).map (·.size) = some 3 := by kernel_rfl
theorem make3 (n : Nat) (hn : n ≤ 1000000) (w : World) : (Instr.makeSlice 27 (.int .i64 (n : Int)) (.int .i64 (n : Int))).run Try.prog w = .ok (.slice (some ⟨w.heap.size, 0, none⟩) n n) (w.alloc (.cells (madeCells #[.int .u8 0, .int .u32 0, .slice none 0 0] (n * 3)) 49)) := by
  obtain ⟨i, hi, hz0, hz1, hz2⟩ := info_parts infoX
  have hr := run_make (P := Try.prog) w 27 49 i (.agg #[.int .u8 0, .int .u32 0, .slice none 0 0]) Try.underlying27 hi hz0 .i64 .i64 n n (by omega) (Int.le_refl _) (by rw [hz2]; omega) (by omega)
  simp only [Int.toNat_natCast, hz1] at hr
  exact hr
end Go.Proofs.Ytfbcijnacbfjpaa
namespace Go.Proofs.Ytfbcijnacbfjpaa
open Go.RowKit Go.Maps
set_option linter.unusedVariables false
set_option linter.unusedSimpArgs false
open Rl (Ex)
/-- how turnedKids ends. -/
def tkP (w : World) (F : Nat → Prop) (op : Int) (kids : List Ex) (e : Ending) (w' : World) : Prop :=
  ∃ a', e = .returned (.slice a' kids.length kids.length) ∧ Only (fun _ => False) w w' ∧ ((kids = [] ∧ a' = none) ∨ (kids ≠ [] ∧ ∃ b', a' = some ⟨b', 0, none⟩ ∧ w.heap.size ≤ b' ∧ Tg w' b' ∧ Tes w' F (kd op kids) b' 0))
theorem madeSz (n : Nat) : (madeCells #[.int .u8 0, .int .u32 0, .slice none 0 0] (n * 3)).size = n * 3 := size_madeCells _ _
/-- the copy: the world behind it. -/
theorem copy3 (w : World) (A : Obj) (n b off cap : Nat) (t : Nat → X3) (hc : ∀ j v, (srcL t n)[j]? = some v → w.cell? ((⟨b, off, none⟩ : Addr).add j) = some v) :
    ∃ W, (Builtin.copy_ #[27, 27] 3 #[.slice (some ⟨w.heap.size + 1, 0, none⟩) n n, .slice (some ⟨b, off, none⟩) n cap]).run Try.prog ((w.alloc A).alloc (.cells (madeCells #[.int .u8 0, .int .u32 0, .slice none 0 0] (n * 3)) 49)) = .ok (.int .i64 (n : Int)) W ∧
      W.heap[w.heap.size + 1]? = some (.cells (srcL t n).toArray 49 (0, 0)) ∧ W.heap[w.heap.size]? = some A ∧ Only (fun _ => False) w W := by
  have hg : ((w.alloc A).alloc (.cells (madeCells #[.int .u8 0, .int .u32 0, .slice none 0 0] (n * 3)) 49)).heap[w.heap.size + 1]? = some (.cells (madeCells #[.int .u8 0, .int .u32 0, .slice none 0 0] (n * 3)) 49 (0, 0)) := heap_alloc2_new _ _ _
  have ho : Only (fun _ => False) w ((w.alloc A).alloc (.cells (madeCells #[.int .u8 0, .int .u32 0, .slice none 0 0] (n * 3)) 49)) := ((Only.refl _ _).alloc _).alloc _
  have hr := run_copy3 (P := Try.prog) ((w.alloc A).alloc (.cells (madeCells #[.int .u8 0, .int .u32 0, .slice none 0 0] (n * 3)) 49)) 27 27 3 49 (w.heap.size + 1) n n ⟨b, off, none⟩ cap _ 49 (srcL t n) Try.underlying27 sizeX hg (srcL_len t n) (fun j v hv => ?_) (madeSz n) (srcL_one t n)
  · refine ⟨_, hr, Go.setRow_heap _ _ _ _ 49 _ hg, ?_, ?_⟩
    · refine (Go.setRow_other _ _ _ _ (by omega)).trans ?_
      exact (Below.heap_alloc _ _ _ (by simp)).trans (heap_alloc_new _ _)
    · have h1 : Only (· = w.heap.size + 1) ((w.alloc A).alloc (.cells (madeCells #[.int .u8 0, .int .u32 0, .slice none 0 0] (n * 3)) 49)) (((w.alloc A).alloc (.cells (madeCells #[.int .u8 0, .int .u32 0, .slice none 0 0] (n * 3)) 49)).setRow (w.heap.size + 1) (srcL t n).toArray) := (Only.refl (· = w.heap.size + 1) _).setRow (show w.heap.size + 1 = w.heap.size + 1 from rfl) _
      have h2 : Only (· = w.heap.size + 1) w _ := (ho.mono (fun _ h => h.elim)).trans h1
      exact ⟨h2.os, h2.tape, h2.output, h2.size, fun b hb _ => h2.block b hb (by omega)⟩
  · have h0 := hc j v hv
    exact (World.cell?_of_block (a := (⟨b, off, none⟩ : Addr).add j) (ho.block _ (World.block_lt_of_cell? w _ h0) (fun h => h))).trans h0
set_option maxRecDepth 100000 in
set_option maxHeartbeats 4000000 in
theorem tkids_any (F : Nat → Prop) (op set : Int) (kids : List Ex) (v : Value) (w : World) (hT : Te w F (.mk op set kids) v) (hm : kids.length ≤ 1000000) :
    Calls Try.prog 34 #[v] w (tkP w F op kids) := by
  obtain ⟨a, cap, rfl, hs0, hs1, hl1, hl2, hl3⟩ := hT.kids
  have HL3 : Hid (kids ≠ [] → ∃ b off, a = some ⟨b, off, none⟩ ∧ F b ∧ Tes w F kids b off) := hl3
  clear hT hl3 hl2
  by_cases hk : kids = []
  · subst hk
    clear hm hl1
    show Calls Try.prog 34 #[.agg #[.int .u8 op, .int .u32 set, .slice a 0 cap]] w (tkP w F op [])
    go_enter Try.func34, Try.ntmps34
    go_wp2_with fail
    go_ret
    exact ⟨none, rfl, (Only.refl _ _).alloc _, Or.inl ⟨rfl, rfl⟩⟩
  · obtain ⟨kb, ko, rfl, hF, hTs⟩ := HL3.out hk
    obtain ⟨t, ht⟩ := hTs.x3
    have hsrc := src_cells ht
    obtain ⟨n, hn⟩ : ∃ n, n = kids.length := ⟨_, rfl⟩
    have HN : Hid (n = kids.length) := hn
    rw [← hn] at hm hl1 hsrc ⊢
    have hn1 : 1 ≤ n := by rw [hn]; exact List.length_pos_iff.2 hk
    obtain ⟨W, hcp, hW1, hW2, hWo⟩ := copy3 w (.cells #[.int .u8 op, .int .u32 set, .slice (some ⟨kb, ko, none⟩) n cap] 49) n kb ko cap t hsrc
    have HW1 : Hid (W.heap[w.heap.size + 1]? = some (.cells (srcL t n).toArray 49 (0, 0))) := hW1
    have HWo : Hid (Only (fun _ => False) w W) := hWo
    have HTE : Hid (∀ j e, kids[j]? = some e → Te w F e (.agg #[.int .u8 (t j).op, .int .u32 (t j).set, .slice (t j).a (t j).m (t j).c])) := fun j e h => (ht j e h).2.2.2
    have hmk := fun (w : World) => make3 n hm w
    have c0 : W.cell? ⟨w.heap.size, 0, none⟩ = some (.int .u8 op) := cell_blk hW2
    have hlw : w.heap.size < W.heap.size := (Array.getElem?_eq_some_iff.1 hW2).1
    have z1 : ¬ (n : Int) = 0 := by omega
    have z2 : ((n : Int) == 0) = false := by simpa using z1
    have HKN : Hid (kids ≠ []) := hk
    clear hn hsrc hW1 hW2 hWo ht hTs HL3 hk
    by_cases ho : op = 2
    · subst ho
      have HRV := reverse_any (w.heap.size + 1) n t _ W HW1.out (srcL_t3 t n) hn1 hm
      have HR : Hid (Calls Try.prog 49 #[.slice (some ⟨w.heap.size + 1, 0, none⟩) n n] W fun e w' => e = .returned (.tuple #[]) ∧ (∃ cs', w'.heap[w.heap.size + 1]? = some (.cells cs' 49 (0, 0)) ∧ T3 cs' n (fun j => t (n - 1 - j))) ∧ Only (· = w.heap.size + 1) W w') := HRV
      clear HRV
      go_enter Try.func34, Try.ntmps34
      go_wp2_with (go_at_call 49; refine Calls.mono HR.out ?_; rintro e w5 ⟨rfl, ⟨cs5, hb5, hT5⟩, ho5⟩; have HB5 : Hid (w5.heap[w.heap.size + 1]? = some (.cells cs5 49 (0, 0))) := hb5; have HT5 : Hid (T3 cs5 n (fun j => t (n - 1 - j))) := hT5; have HO5 : Hid (Only (· = w.heap.size + 1) W w5) := ho5; clear hb5 hT5 ho5)
      go_ret
      have h2 : Only (· = w.heap.size + 1) w w5 := (HWo.out.mono (fun _ h => h.elim)).trans HO5.out
      have h3 : Only (fun _ => False) w w5 := ⟨h2.os, h2.tape, h2.output, h2.size, fun b hb _ => h2.block b hb (by omega)⟩
      refine ⟨some ⟨w.heap.size + 1, 0, none⟩, by rw [← HN.out]; rfl, h3, Or.inr ⟨HKN.out, _, rfl, Nat.le_succ _, ⟨_, HB5.out⟩, ?_⟩⟩
      unfold kd
      rw [if_pos rfl]
      refine T3.tes HB5.out HT5.out (by rw [List.length_reverse, HN.out]) (Kp.only h3 (fun _ _ h => h)) (fun j e he => ?_)
      have hj : j < kids.length := by have := (List.getElem?_eq_some_iff.1 he).1; simpa using this
      rw [List.getElem?_reverse hj] at he
      have := HTE.out _ e he
      rw [← HN.out] at this
      exact this
    · have q1 : (op == 2) = false := by simpa using ho
      go_enter Try.func34, Try.ntmps34
      go_wp2_with fail
      go_ret
      refine ⟨some ⟨w.heap.size + 1, 0, none⟩, by rw [← HN.out]; rfl, HWo.out, Or.inr ⟨HKN.out, _, rfl, Nat.le_succ _, ⟨_, HW1.out⟩, ?_⟩⟩
      unfold kd
      rw [if_neg ho]
      exact T3.tes HW1.out (srcL_t3 t n) HN.out.symm (Kp.only HWo.out (fun _ _ h => h)) (fun j e he => HTE.out j e he)
end Go.Proofs.Ytfbcijnacbfjpaa
namespace Go.Proofs.Ytfbcijnacbfjpaa
open Go.RowKit Go.Maps
set_option linter.unusedVariables false
set_option linter.unusedSimpArgs false
open Rl (Ex Small)
def lstV (r : Lst) : Value := .slice (some ⟨r.1, 0, none⟩) r.2.2.length r.2.2.length
/-- the open lists: each whole, none empty, none long; few are deep. -/
def Shp (rows : List Lst) : Prop := ∀ (q : Nat) (r : Lst), rows[q]? = some r → r.2.1 = 0 ∧ r.2.2 ≠ [] ∧ (∀ e ∈ r.2.2, Small e) ∧ r.2.2.length ≤ 5000 ∧ q + 5000 * Au.dps r.2.2 ≤ 500000
theorem Shp.snoc {rows : List Lst} (h : Shp rows) {r : Lst} (h1 : r.2.1 = 0) (h2 : r.2.2 ≠ []) (h3 : ∀ e ∈ r.2.2, Small e) (h4 : r.2.2.length ≤ 5000) (h5 : rows.length + 5000 * Au.dps r.2.2 ≤ 500000) : Shp (rows ++ [r]) := fun q r' hq => by
  by_cases e : q < rows.length
  · rw [List.getElem?_append_left e] at hq
    exact h q r' hq
  · have hl := (List.getElem?_eq_some_iff.1 hq).1
    simp at hl
    obtain rfl : q = rows.length := by omega
    simp at hq
    subst hq
    exact ⟨h1, h2, h3, h4, h5⟩
theorem Shp.init {rows : List Lst} {r : Lst} (h : Shp (rows ++ [r])) : Shp rows := fun q r' hq => h q r' (by rw [List.getElem?_append_left (List.getElem?_eq_some_iff.1 hq).1]; exact hq)
theorem Shp.last {rows : List Lst} {r : Lst} (h : Shp (rows ++ [r])) : r.2.1 = 0 ∧ r.2.2 ≠ [] ∧ (∀ e ∈ r.2.2, Small e) ∧ r.2.2.length ≤ 5000 ∧ rows.length + 5000 * Au.dps r.2.2 ≤ 500000 := h rows.length r (by simp)
/-- what holds ahead of each expression of a list. -/
structure Inn (w1 W : World) (G : World → Prop) (base g cap b n1 i wt0 : Nat) (es : List Ex) (rows : List Lst) : Prop where
  ti : ∃ K, Tinv w1 W G K ((b, i * 3, es.drop i) :: rows)
  ow : W.ownsRow base 27 1 (.slice (some ⟨g, 0, none⟩) rows.length cap) rows.length (rows.map lstV)
  sh : Shp rows
  ln : rows.length ≤ n1 + i
  wt : wts rows + tszs (es.drop i) + i ≤ wt0
theorem kd_mem {op : Int} {kids : List Ex} {e : Ex} (h : e ∈ kd op kids) : e ∈ kids := by
  unfold kd at h
  split at h
  · simpa using h
  · exact h
theorem kd_ne {op : Int} {kids : List Ex} (h : kids ≠ []) : kd op kids ≠ [] := by
  intro e
  have := kd_len op kids
  rw [e] at this
  exact h (List.eq_nil_of_length_eq_zero this.symm)
theorem Inn.nokids {w1 W W5 : World} {G : World → Prop} {base g cap b n1 i wt0 : Nat} {es : List Ex} {rows : List Lst} {op set : Int} (h : Inn w1 W G base g cap b n1 i wt0 es rows) (he : es[i]? = some (.mk op set [])) (ho : Only (fun _ => False) W W5) (hb1 : w1.heap.size ≤ b) :
    Inn w1 (W5.setCell ⟨b, i * 3 + 2, none⟩ (.slice none 0 0)) G base g cap b n1 (i + 1) wt0 es rows := by
  obtain ⟨⟨K, ti⟩, ow, sh, ln, wt⟩ := h
  have hi := (List.getElem?_eq_some_iff.1 he).1
  have hd : es.drop i = .mk op set [] :: es.drop (i + 1) := by rw [List.drop_eq_getElem_cons hi, (List.getElem?_eq_some_iff.1 he).2]
  rw [hd] at ti wt
  have t5 : Tinv w1 W5 G K ((b, i * 3, .mk op set [] :: es.drop (i + 1)) :: rows) := ti.keep (ti.on.trans ho) (fun x ⟨cs, hx⟩ => ho.block x (Array.getElem?_eq_some_iff.1 hx).1 (fun h => h))
  obtain ⟨_, ⟨cs, hb⟩, _⟩ := t5.ro (b, i * 3, .mk op set [] :: es.drop (i + 1)) (by simp)
  simp only at hb
  have hsC : (W5.setCell ⟨b, i * 3 + 2, none⟩ (.slice none 0 0)).heap[b]? = some (.cells (cs.setIfInBounds (i * 3 + 2) (.slice none 0 0)) 49 (0, 0)) := heap_setCell_at hb _
  have t6 := t5.step (kr := []) (a' := none) hb hsC (t5.on.setNew hb1 _) (fun x hx => Below.heap_setCell _ _ _ _ hx) (Or.inl ⟨rfl, rfl⟩)
  refine ⟨⟨_, by rw [show (i + 1) * 3 = i * 3 + 3 by omega]; exact t6⟩, ?_, sh, by omega, by simp only [tszs, tsz] at wt; omega⟩
  have ow5 := own_only ow ho (fun _ _ h => h)
  exact own_onlyT ow5 ((Only.refl (· = b) W5).setCell (p := ⟨b, i * 3 + 2, none⟩) rfl _) (fun x hx cur z e => by
    have hx : x = b := hx
    subst hx
    rw [hb] at e
    injection e with e
    injection e with _ e
    exact absurd e (by decide))
/-- the store, and the row of open lists behind it. -/
theorem Inn.stored {w1 W W5 : World} {G : World → Prop} {base g cap b n1 i wt0 : Nat} {es : List Ex} {rows : List Lst} (h : Inn w1 W G base g cap b n1 i wt0 es rows) (ho : Only (fun _ => False) W W5) (v : Value) :
    (W5.setCell ⟨b, i * 3 + 2, none⟩ v).ownsRow base 27 1 (.slice (some ⟨g, 0, none⟩) rows.length cap) rows.length (rows.map lstV) := by
  obtain ⟨⟨K, ti⟩, ow, sh, ln, wt⟩ := h
  obtain ⟨_, ⟨cs, hb⟩, _⟩ := ti.ro (b, i * 3, es.drop i) (by simp)
  simp only at hb
  have hb5 := (ho.block b (Array.getElem?_eq_some_iff.1 hb).1 (fun h => h)).trans hb
  have ow5 := own_only ow ho (fun _ _ h => h)
  exact own_onlyT ow5 ((Only.refl (· = b) W5).setCell (p := ⟨b, i * 3 + 2, none⟩) rfl _) (fun x hx cur z e => by
    have hx : x = b := hx
    subst hx
    rw [hb5] at e
    injection e with e
    injection e with _ e
    exact absurd e (by decide))
theorem Inn.kids {w1 W W5 W3 : World} {G : World → Prop} {base g cap b n1 i wt0 g3 cap3 b' : Nat} {o : Obj} {es kids : List Ex} {rows : List Lst} {op set : Int} (h : Inn w1 W G base g cap b n1 i wt0 es rows) (he : es[i]? = some (.mk op set kids)) (hk : kids ≠ []) (ho : Only (fun _ => False) W W5) (hb1 : w1.heap.size ≤ b) (hbase : w1.heap.size ≤ base) (hgb : base ≤ g)
    (hsm : Small (.mk op set kids)) (hdp : n1 + 5000 * Au.dps es ≤ 500000) (hel : es.length ≤ 5000) (hb' : W.heap.size ≤ b') (htg : Tg W5 b') (hts : Tes W5 (fun b => b < w1.heap.size) (kd op kids) b' 0)
    (hown : W3.ownsRow base 27 1 (.slice (some ⟨g3, 0, none⟩) (rows.length + 1) cap3) (rows.length + 1) (rows.map lstV ++ [.slice (some ⟨b', 0, none⟩) kids.length kids.length])) (hg3 : ((W5.setCell ⟨b, i * 3 + 2, none⟩ (.slice (some ⟨b', 0, none⟩) kids.length kids.length)).alloc o).grownBy W3 (some g)) :
    Inn w1 W3 G base g3 cap3 b n1 (i + 1) wt0 es (rows ++ [(b', 0, kd op kids)]) := by
  have ow2 := h.stored ho (.slice (some ⟨b', 0, none⟩) kids.length kids.length)
  obtain ⟨⟨K, ti⟩, ow, sh, ln, wt⟩ := h
  have hi := (List.getElem?_eq_some_iff.1 he).1
  have hd : es.drop i = .mk op set kids :: es.drop (i + 1) := by rw [List.drop_eq_getElem_cons hi, (List.getElem?_eq_some_iff.1 he).2]
  rw [hd] at ti wt
  have lt : ∀ x, Tg W x → x < W.heap.size := fun x ⟨cs, hx⟩ => (Array.getElem?_eq_some_iff.1 hx).1
  have t5 : Tinv w1 W5 G K ((b, i * 3, .mk op set kids :: es.drop (i + 1)) :: rows) := ti.keep (ti.on.trans ho) (fun x ⟨cs, hx⟩ => ho.block x (Array.getElem?_eq_some_iff.1 hx).1 (fun h => h))
  obtain ⟨_, hbT, _⟩ := ti.ro (b, i * 3, .mk op set kids :: es.drop (i + 1)) (by simp)
  obtain ⟨_, ⟨cs, hb⟩, _⟩ := t5.ro (b, i * 3, .mk op set kids :: es.drop (i + 1)) (by simp)
  simp only at hb hbT
  have hbl := lt b hbT
  have hsC : (W5.setCell ⟨b, i * 3 + 2, none⟩ (.slice (some ⟨b', 0, none⟩) kids.length kids.length)).heap[b]? = some (.cells (cs.setIfInBounds (i * 3 + 2) (.slice (some ⟨b', 0, none⟩) kids.length kids.length)) 49 (0, 0)) := heap_setCell_at hb _
  have w1le := ti.on.size
  have t6 := t5.step (kr := [(b', 0, kd op kids)]) (a' := some ⟨b', 0, none⟩) hb hsC (t5.on.setNew hb1 _) (fun x hx => Below.heap_setCell _ _ _ _ hx)
    (Or.inr ⟨hk, b', rfl, rfl, by omega, htg, hts, by omega, fun r hr e => by
      have := lt _ (ti.ro r (by simp [hr])).2.1
      omega, fun o hK => by
      have := lt _ (ti.kk b' o hK).2.1
      omega⟩)
  have o1 : Only (· = g) ((W5.setCell ⟨b, i * 3 + 2, none⟩ (.slice (some ⟨b', 0, none⟩) kids.length kids.length)).alloc o) W3 := (Only.refl (· = g) _).grown hg3 (fun k h => by injection h with h; exact h.symm)
  have o2 : Only (· = g) w1 W3 := ((t6.on.alloc o).mono (fun _ h => h.elim)).trans o1
  have o3 : Only (fun _ => False) w1 W3 := ⟨o2.os, o2.tape, o2.output, o2.size, fun b hb _ => o2.block b hb (by omega)⟩
  have t7 := t6.keep o3 (fun x ⟨cx, hx⟩ => by
    have hxl := (Array.getElem?_eq_some_iff.1 hx).1
    have hne : x ≠ g := fun e => own_ne ow2 hx (by decide) (by rw [e]; rfl)
    refine (o1.block x ?_ hne).trans ?_
    · simp
      simp at hxl
      omega
    · exact Below.heap_alloc _ _ _ hxl)
  have nd := t7.nd
  simp only [List.map_cons, List.map_append, List.map_nil, List.singleton_append] at nd
  obtain ⟨nd1, nd2⟩ := List.nodup_cons.1 nd
  obtain ⟨nd3, nd4⟩ := List.nodup_cons.1 nd2
  have t8 : Tinv w1 W3 G _ ((b, i * 3 + 3, es.drop (i + 1)) :: (rows ++ [(b', 0, kd op kids)])) := t7.perm (fun r => by simp only [List.mem_cons, List.mem_append, List.not_mem_nil, or_false, List.singleton_append]; constructor <;> (intro h; rcases h with h | h | h <;> simp [h])) (by
    simp only [List.map_cons, List.map_append, List.map_nil]
    rw [List.nodup_cons]
    refine ⟨fun hm => nd1 ?_, ?_⟩
    · rcases List.mem_append.1 hm with hm | hm
      · exact List.mem_cons_of_mem _ hm
      · simp only [List.mem_singleton] at hm
        rw [hm]
        exact List.mem_cons_self
    · rw [List.nodup_append]
      refine ⟨nd4, by simp, ?_⟩
      intro a ha c hc e
      simp only [List.mem_singleton] at hc
      subst hc
      subst e
      exact nd3 ha)
  have hmem : Ex.mk op set kids ∈ es := List.mem_of_getElem? he
  have hdk : 1 + Au.dps kids ≤ Au.dps es := by have := Au.dps_mem es _ hmem; unfold Au.dp at this; exact this
  have hdd : Au.dps (kd op kids) ≤ Au.dps kids := Au.dps_le _ _ (fun e h => Au.dps_mem _ _ (kd_mem h))
  refine ⟨⟨_, by rw [show (i + 1) * 3 = i * 3 + 3 by omega]; exact t8⟩, ?_, sh.snoc rfl (kd_ne hk) (fun e h => hsm.kids.2 e (kd_mem h)) (by rw [kd_len]; exact hsm.kids.1) (by simp only; omega), by simp; omega, ?_⟩
  · have e1 : (rows ++ [(b', 0, kd op kids)]).length = rows.length + 1 := by simp
    have e2 : (rows ++ [(b', 0, kd op kids)]).map lstV = rows.map lstV ++ [.slice (some ⟨b', 0, none⟩) kids.length kids.length] := by
      rw [List.map_append]
      simp [lstV, kd_len]
    rw [e1, e2]
    exact hown
  · rw [wts_app]
    simp only [wts, tszs, tsz, kd_tszs] at wt ⊢
    omega
end Go.Proofs.Ytfbcijnacbfjpaa
