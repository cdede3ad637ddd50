/-
  What strings.Clone and slices.Index return.
-/
import Derived.Test.YtfbcijnacbfjpaaRow
import Derived.Lib.UnsafeStr
import Derived.Lib.BufferWrite
import Derived.Laws.MakeOwn
namespace Go.Proofs.Ytfbcijnacbfjpaa
open Go.RowKit Go.Maps
set_option linter.unusedVariables false
set_option linter.unusedSimpArgs false

theorem Below.toOnly {B : Nat} {w w' : World} (h : Below B w w') (hB : B = w.heap.size) : Only (fun _ => False) w w' := ⟨h.os, h.tape, h.output, h.size, fun g hg _ => h.block g (by omega)⟩
theorem info5 : (Try.prog.info? 5).map (fun i => (i.zero, i.size, i.bytes)) = some (some (.int .u8 0), 1, 1) := by kernel_rfl

set_option maxRecDepth 100000 in
set_option maxHeartbeats 4000000 in
theorem clone_in (s : ByteArray) (w : World) (hs : 0 < s.size) (hs2 : s.size ≤ 4096) : Calls Try.prog 85 #[.string s] w fun e w' => e = .returned (.string s) ∧ Only (fun _ => False) w w' := by
  obtain ⟨i0, hi, hz0, hz1, hz2⟩ := info_parts info5
  have hsz : (Try.prog.info? 5).map (·.size) = some 1 := by rw [hi]; simp [hz1]
  have hco : Try.prog.cellsOf 5 = 1 := by simp [Program.cellsOf, hi, hz1]
  obtain ⟨M, hM⟩ : ∃ M, M = madeCells (Value.int .u8 0).cells (((s.size : Nat) : Int).toNat * i0.size) := ⟨_, rfl⟩
  have hMs : M.size = s.size := by rw [hM, size_madeCells, hz1]; simp
  have hmk : ∀ W : World, (Instr.makeSlice 22 (.int .i64 (s.size : Int)) (.int .i64 (s.size : Int))).run Try.prog W = .ok (.slice (some ⟨W.heap.size, 0, none⟩) s.size s.size) (W.alloc (.cells M 5)) := fun W => by
    have h := run_make (P := Try.prog) W 22 5 i0 (.int .u8 0) Try.underlying22 hi hz0 .i64 .i64 (s.size : Int) (s.size : Int) (by omega) (by omega) (by rw [hz2]; omega) (by omega)
    rw [← hM] at h
    simpa using h
  have hcp := Lib.run_copy_row_string (P := Try.prog) (w.alloc (.cells M 5)) 22 9 3 5 w.heap.size 0 s.size s.size s M 5 Try.underlying22 hsz (heap_alloc_new w _) (Nat.le_refl _) (by omega)
  obtain ⟨Y, hY⟩ : ∃ Y, Y = (M.toList.take 0 ++ Lib.byteCells s.data.toList ++ M.toList.drop (0 + s.size)).toArray := ⟨_, rfl⟩
  rw [← hY] at hcp
  have hYl : Y.toList = Lib.byteCells s.data.toList := by
    rw [hY, List.toList_toArray, List.take_zero, List.nil_append, List.drop_of_length_le (by rw [Array.length_toList]; omega), List.append_nil]
  have hYs : Y.size = s.size := by rw [← Array.length_toList, hYl, Lib.byteCells_length, ← Lib.size_eq]
  have hgY : ((w.alloc (.cells M 5)).setRow w.heap.size Y).heap[w.heap.size]? = some (.cells Y 5 (0, 0)) := setRow_heap _ _ M _ 5 (0, 0) (heap_alloc_new w _)
  have hne : s.data.toList ≠ [] := fun e => by rw [Lib.size_eq, e] at hs; exact absurd hs (by simp)
  have hUS := Lib.run_unsafeString_row (P := Try.prog) ((w.alloc (.cells M 5)).setRow w.heap.size Y) 158 3 9 5 Try.underlying158 hco w.heap.size Y.size (by unfold World.shape?; rw [hgY]) s.data.toList hne (by rw [← Lib.size_eq]; omega) (by rw [← Lib.size_eq]; omega)
    (fun j x hx => Lib.cells_of_row hgY Y.size j _ (by rw [List.take_of_length_le (by rw [Array.length_toList]; exact Nat.le_refl _), hYl]; simp [Lib.byteCells, hx]))
  rw [← Lib.size_eq] at hUS
  have h0 : ((s.size : Int) == 0) = false := by rw [beq_eq_false_iff_ne]; omega
  have h1 : (0 : Int) < (s.size : Int) := by omega
  clear hM hY
  go_enter Try.func85, Try.ntmps85
  go_wp2
  go_ret
  refine ⟨rfl, ?_⟩
  have hb1 : Below w.heap.size w (w.alloc (.cells M 5)) := (Below.refl _ w).alloc (Nat.le_refl _) _
  have hb2 : Below w.heap.size (w.alloc (.cells M 5)) ((w.alloc (.cells M 5)).setRow w.heap.size Y) := ⟨rfl, rfl, rfl, by simp, fun k hk => setRow_other _ _ _ _ (by omega)⟩
  exact Below.toOnly (Lib.below_freeze (hb1.trans hb2) (p := ⟨w.heap.size, 0, none⟩) (Nat.le_refl _) _) rfl

theorem clone_any (s : ByteArray) (w : World) (hs : 0 < s.size) (hs2 : s.size ≤ 4096) : Calls Try.prog 77 #[.string s] w fun e w' => e = .returned (.string s) ∧ Only (fun _ => False) w w' := by
  go_enter Try.func77, Try.ntmps77
  go_wp2_with (go_at_call 85; refine (clone_in s _ hs hs2).mono ?_; rintro e w1 ⟨rfl, ho1⟩)
  go_ret
  exact ⟨rfl, ho1⟩

def strs (l : List Rl.Str) : List Value := l.map fun c => .string (bs c)
/-- the first place from k on, as the loop finds it; -1. -/
def idxI (l : List Rl.Str) (s : Rl.Str) : Int := match Rl.place l s with | some k => (k : Int) | none => -1
theorem place_none {l : List Rl.Str} {s : Rl.Str} (h : s ∉ l) : idxI l s = -1 := by unfold idxI Rl.place; rw [if_neg h]
theorem idxOf_at {s : Rl.Str} : ∀ (l : List Rl.Str) (k : Nat), l[k]? = some s → (∀ j, j < k → l[j]? ≠ some s) → l.idxOf s = k
  | [], k, h, _ => by simp at h
  | b :: l, 0, h, _ => by
    simp at h
    subst h
    simp
  | b :: l, k + 1, h, hb => by
    have hne : b ≠ s := fun e => hb 0 (by omega) (by simp [e])
    have ih := idxOf_at l k (by simpa using h) (fun j hj e => hb (j + 1) (by omega) (by simpa using e))
    rw [List.idxOf_cons, ih]
    have : (b == s) = false := by simpa using hne
    rw [this]; rfl
theorem place_at {l : List Rl.Str} {s : Rl.Str} {k : Nat} (hk : l[k]? = some s) (hb : ∀ j, j < k → l[j]? ≠ some s) : idxI l s = (k : Int) := by
  unfold idxI Rl.place
  rw [if_pos (List.mem_of_getElem? hk)]
  rw [idxOf_at l k hk hb]

set_option maxRecDepth 100000 in
set_option maxHeartbeats 4000000 in
theorem index_any (l : List Rl.Str) (s : Rl.Str) (base : Nat) (v : Value) (w : World) (hv : w.ownsRow base 9 1 v l.length (strs l)) (hl : l.length ≤ 24) :
    Calls Try.prog 87 #[v, .string (bs s)] w fun e w' => e = .returned (.int .i64 (idxI l s)) ∧ w' = w := by
  obtain ⟨a, cap, rfl⟩ := own_form hv
  have Hv : Hid (w.ownsRow base 9 1 (.slice a l.length cap) l.length (strs l)) := hv
  have ht := bs_toList s
  clear hv
  obtain ⟨n, hn⟩ : ∃ n, n = l.length := ⟨_, rfl⟩
  have Hn : Hid (n = l.length) := hn
  rw [← hn] at hl ⊢
  clear hn
  go_enter Try.func87, Try.ntmps87
  go_wp2_with fail
  go_loopg [8] n (fun g i wr => ∃ k : Nat, g = n - k ∧ k ≤ n ∧ i = .int .i64 (k : Int) ∧ w = wr ∧ Hid (∀ j, j < k → l[j]? ≠ some s))
  case atStart => exact ⟨0, rfl, Nat.zero_le _, rfl, rfl, (fun j hj => absurd hj (Nat.not_lt_zero _) : ∀ j, j < 0 → l[j]? ≠ some s)⟩
  case round =>
    obtain ⟨k, rfl, hk, rfl, rfl, hB⟩ := hrel
    by_cases hlt : k < n
    · have t1 : (k : Int) < (n : Int) := by omega
      obtain ⟨c, hc⟩ : ∃ c, l[k]? = some c := ⟨l[k]'(by rw [← Hn.out]; omega), List.getElem?_eq_getElem _⟩
      have Hc : Hid (l[k]? = some c) := hc
      obtain ⟨g, cap', hv', hgb, hgl, hcap, hcells⟩ := row_form Hv.out (by rw [← Hn.out]; omega)
      have e0 : a = some ⟨g, 0, none⟩ := by injection hv'
      have d0 : w.cell? ⟨g, k, none⟩ = some (.string (bs c)) := by
        rw [hcells k (by rw [← Hn.out]; omega)]
        unfold strs
        rw [List.getElem?_map, hc]; rfl
      have htc := bs_toList c
      subst e0
      clear hc hv' hcells
      by_cases he : s = c
      · have q : (s == c) = true := by simp [he]
        have He : Hid (s = c) := he
        clear he
        go_wp2
        go_ret
        refine ⟨?_, rfl⟩
        rw [place_at (by rw [Hc.out, He.out]) hB.out]; rfl
      · have q : (s == c) = false := by simpa using he
        have He : Hid (¬ s = c) := he
        clear he
        go_wp2
        go_roundg (n - (k + 1))
        case measure => omega
        case rel =>
          refine ⟨k + 1, rfl, by omega, by go_num, rfl, (?_ : ∀ j, j < k + 1 → l[j]? ≠ some s)⟩
          intro j hj e
          by_cases ej : j = k
          · subst ej
            rw [Hc.out] at e
            injection e with e
            exact He.out e.symm
          · exact hB.out j (by omega) e
    · have t2 : decide ((k : Int) < (n : Int)) = false := decide_eq_false (by omega)
      have hkn : k = n := by omega
      go_wp2
      go_ret
      refine ⟨?_, rfl⟩
      have hnm : s ∉ l := fun hm => by
        obtain ⟨j, hj, e⟩ := List.mem_iff_getElem.1 hm
        exact hB.out j (by rw [hkn, Hn.out]; exact hj) (by rw [List.getElem?_eq_getElem hj, e])
      rw [place_none hnm]; rfl
end Go.Proofs.Ytfbcijnacbfjpaa
