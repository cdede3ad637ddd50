/-
  auto.places in memory: its 904 cells; sets as keys of a map, and held against each other.
-/
import Derived.Test.YtfbcijnacbfjpaaSets
import Derived.Maps.OwnSet
import Derived.Maps.OwnOps
import Derived.DeepKeys4
namespace Go.Proofs.Ytfbcijnacbfjpaa
open Go.RowKit Go.Maps
set_option linter.unusedVariables false
set_option linter.unusedSimpArgs false
/-- the cells of all places: how many classes, how many places, by which classes, which next, the first ones, the last ones' list, the empty ones. -/
def pcell (cl n : Nat) (by' nx : Nat → Nat) (fs : Nat) (vL : Value) (em : Nat) (i : Nat) : Value :=
  if i = 0 then .int .i64 (cl : Int) else if i = 1 then .int .i64 (n : Int)
  else if i < 98 then .int .u64 (wd (by' ((i - 2) / 4)) ((i - 2) % 4) : Int)
  else if i < 898 then .int .u64 (wd (nx ((i - 98) / 4)) ((i - 98) % 4) : Int)
  else if i < 902 then .int .u64 (wd fs (i - 898) : Int)
  else if i = 902 then vL else .int .u32 (em : Int)
def pC (cl n : Nat) (by' nx : Nat → Nat) (fs : Nat) (vL : Value) (em : Nat) : Array Value := Array.ofFn (n := 904) fun i => pcell cl n by' nx fs vL em i.val
theorem pC_size (cl n : Nat) (by' nx : Nat → Nat) (fs : Nat) (vL : Value) (em : Nat) : (pC cl n by' nx fs vL em).size = 904 := by simp [pC]
theorem pC_at (cl n : Nat) (by' nx : Nat → Nat) (fs : Nat) (vL : Value) (em i : Nat) (h : i < 904) : (pC cl n by' nx fs vL em)[i]? = some (pcell cl n by' nx fs vL em i) := by
  rw [Array.getElem?_eq_getElem (by rw [pC_size]; exact h)]
  simp [pC]
theorem pC_next (cl n : Nat) (by' nx : Nat → Nat) (fs : Nat) (vL : Value) (em i : Nat) (h : i < 200) : HasS (pC cl n by' nx fs vL em) (98 + 4 * i) (nx i) := by
  intro k hk
  rw [pC_at _ _ _ _ _ _ _ _ (by omega)]
  unfold pcell
  rw [if_neg (by omega), if_neg (by omega), if_neg (by omega), if_pos (by omega), show (98 + 4 * i + k - 98) / 4 = i by omega, show (98 + 4 * i + k - 98) % 4 = k by omega]
theorem pC_by (cl n : Nat) (by' nx : Nat → Nat) (fs : Nat) (vL : Value) (em i : Nat) (h : i < 24) : HasS (pC cl n by' nx fs vL em) (2 + 4 * i) (by' i) := by
  intro k hk
  rw [pC_at _ _ _ _ _ _ _ _ (by omega)]
  unfold pcell
  rw [if_neg (by omega), if_neg (by omega), if_pos (by omega), show (2 + 4 * i + k - 2) / 4 = i by omega, show (2 + 4 * i + k - 2) % 4 = k by omega]
theorem pC_first (cl n : Nat) (by' nx : Nat → Nat) (fs : Nat) (vL : Value) (em : Nat) : HasS (pC cl n by' nx fs vL em) 898 fs := by
  intro k hk
  rw [pC_at _ _ _ _ _ _ _ _ (by omega)]
  unfold pcell
  rw [if_neg (by omega), if_neg (by omega), if_neg (by omega), if_neg (by omega), if_pos (by omega), show 898 + k - 898 = k by omega]
theorem pcell_eq {cl n n' : Nat} {b b' nx nx' : Nat → Nat} {fs fs' : Nat} {vL vL' : Value} {em em' j : Nat} (h0 : j = 1 → n = n') (h1 : 2 ≤ j → j < 98 → b ((j - 2) / 4) = b' ((j - 2) / 4)) (h2 : 98 ≤ j → j < 898 → nx ((j - 98) / 4) = nx' ((j - 98) / 4)) (h3 : 898 ≤ j → j < 902 → fs = fs') (h4 : j = 902 → vL = vL') (h5 : 902 < j → em = em') : pcell cl n b nx fs vL em j = pcell cl n' b' nx' fs' vL' em' j := by
  unfold pcell
  by_cases e0 : j = 0
  · rw [if_pos e0, if_pos e0]
  rw [if_neg e0, if_neg e0]
  by_cases e1 : j = 1
  · rw [if_pos e1, if_pos e1, h0 e1]
  rw [if_neg e1, if_neg e1]
  by_cases e2 : j < 98
  · rw [if_pos e2, if_pos e2, h1 (by omega) e2]
  rw [if_neg e2, if_neg e2]
  by_cases e3 : j < 898
  · rw [if_pos e3, if_pos e3, h2 (by omega) e3]
  rw [if_neg e3, if_neg e3]
  by_cases e4 : j < 902
  · rw [if_pos e4, if_pos e4, h3 (by omega) e4]
  rw [if_neg e4, if_neg e4]
  by_cases e5 : j = 902
  · rw [if_pos e5, if_pos e5, h4 e5]
  rw [if_neg e5, if_neg e5, h5 (by omega)]
/-- one more of a list of sets. -/
def upd (f : Nat → Nat) (i S : Nat) : Nat → Nat := fun j => if j = i then S else f j
theorem upd_ne (f : Nat → Nat) {i S j : Nat} (h : j ≠ i) : upd f i S j = f j := if_neg h
theorem upd_eq (f : Nat → Nat) (i S : Nat) : upd f i S i = S := if_pos rfl
theorem pC_put (cl n : Nat) (b nx b' nx' : Nat → Nat) (fs fs' : Nat) (vL : Value) (em o S : Nat) (ho : o + 4 ≤ 904) (hs : HasS (pC cl n b' nx' fs' vL em) o S) (h : ∀ j, ¬ (o ≤ j ∧ j < o + 4) → pcell cl n b nx fs vL em j = pcell cl n b' nx' fs' vL em j) : inC (pC cl n b nx fs vL em) o S 4 = pC cl n b' nx' fs' vL em := by
  apply Array.ext_getElem?
  intro j
  rw [inC_at _ _ _ _ _ (by rw [pC_size]; omega)]
  by_cases e : o ≤ j ∧ j < o + 4
  · rw [if_pos e]
    have := hs (j - o) (by omega)
    rw [show o + (j - o) = j by omega] at this
    exact this.symm
  · rw [if_neg e]
    by_cases hj : j < 904
    · rw [pC_at _ _ _ _ _ _ _ _ hj, pC_at _ _ _ _ _ _ _ _ hj, h j e]
    · rw [Array.getElem?_eq_none (by rw [pC_size]; omega), Array.getElem?_eq_none (by rw [pC_size]; omega)]
theorem pC_putNext (cl n : Nat) (b nx : Nat → Nat) (fs : Nat) (vL : Value) (em i S : Nat) (h : i < 200) : inC (pC cl n b nx fs vL em) (98 + 4 * i) S 4 = pC cl n b (upd nx i S) fs vL em :=
  pC_put _ _ _ _ _ _ _ _ _ _ _ _ (by omega) (by have := pC_next cl n b (upd nx i S) fs vL em i h; rw [upd_eq] at this; exact this)
    (fun j hj => pcell_eq (fun _ => rfl) (fun _ _ => rfl) (fun h1 h2 => by rw [upd_ne]; omega) (fun _ _ => rfl) (fun _ => rfl) (fun _ => rfl))
theorem pC_putBy (cl n : Nat) (b nx : Nat → Nat) (fs : Nat) (vL : Value) (em i S : Nat) (h : i < 24) : inC (pC cl n b nx fs vL em) (2 + 4 * i) S 4 = pC cl n (upd b i S) nx fs vL em :=
  pC_put _ _ _ _ _ _ _ _ _ _ _ _ (by omega) (by have := pC_by cl n (upd b i S) nx fs vL em i h; rw [upd_eq] at this; exact this)
    (fun j hj => pcell_eq (fun _ => rfl) (fun h1 h2 => by rw [upd_ne]; omega) (fun _ _ => rfl) (fun _ _ => rfl) (fun _ => rfl) (fun _ => rfl))
theorem pC_putFirst (cl n : Nat) (b nx : Nat → Nat) (fs : Nat) (vL : Value) (em S : Nat) : inC (pC cl n b nx fs vL em) 898 S 4 = pC cl n b nx S vL em :=
  pC_put _ _ _ _ _ _ _ _ _ _ _ _ (by omega) (pC_first cl n b nx S vL em)
    (fun j hj => pcell_eq (fun _ => rfl) (fun _ _ => rfl) (fun _ _ => rfl) (fun _ _ => by omega) (fun _ => rfl) (fun _ => rfl))
theorem pC_set (cl n : Nat) (b nx : Nat → Nat) (fs : Nat) (vL : Value) (em n' : Nat) (vL' : Value) (em' i : Nat) (v : Value) (hi : i < 904) (hv : v = pcell cl n' b nx fs vL' em' i) (h : ∀ j, j < 904 → j ≠ i → pcell cl n b nx fs vL em j = pcell cl n' b nx fs vL' em' j) : (pC cl n b nx fs vL em).setIfInBounds i v = pC cl n' b nx fs vL' em' := by
  apply Array.ext_getElem?
  intro j
  rw [Array.getElem?_setIfInBounds]
  by_cases hj : j < 904
  · rw [pC_at _ _ _ _ _ _ _ _ hj, pC_at _ _ _ _ _ _ _ _ hj, pC_size]
    by_cases e : i = j
    · subst e
      rw [if_pos rfl, if_pos hj, hv]
    · rw [if_neg e, h j hj (fun e' => e e'.symm)]
  · rw [if_neg (by omega), Array.getElem?_eq_none (by rw [pC_size]; omega), Array.getElem?_eq_none (by rw [pC_size]; omega)]
theorem pC_setN (cl n : Nat) (b nx : Nat → Nat) (fs : Nat) (vL : Value) (em n' : Nat) : (pC cl n b nx fs vL em).setIfInBounds 1 (.int .i64 (n' : Int)) = pC cl n' b nx fs vL em :=
  pC_set _ _ _ _ _ _ _ _ _ _ 1 _ (by decide) rfl (fun j _ hj => pcell_eq (fun h => absurd h hj) (fun _ _ => rfl) (fun _ _ => rfl) (fun _ _ => rfl) (fun _ => rfl) (fun _ => rfl))
theorem pC_setL (cl n : Nat) (b nx : Nat → Nat) (fs : Nat) (vL : Value) (em : Nat) (v : Value) : (pC cl n b nx fs vL em).setIfInBounds 902 v = pC cl n b nx fs v em :=
  pC_set _ _ _ _ _ _ _ _ _ _ 902 _ (by decide) rfl (fun j _ hj => pcell_eq (fun _ => rfl) (fun _ _ => rfl) (fun _ _ => rfl) (fun _ _ => rfl) (fun h => absurd h hj) (fun _ => rfl))
theorem pC_setE (cl n : Nat) (b nx : Nat → Nat) (fs : Nat) (vL : Value) (em e : Nat) : (pC cl n b nx fs vL em).setIfInBounds 903 (.int .u32 (e : Int)) = pC cl n b nx fs vL e :=
  pC_set _ _ _ _ _ _ _ _ _ _ 903 _ (by decide) rfl (fun j hl hj => pcell_eq (fun _ => rfl) (fun _ _ => rfl) (fun _ _ => rfl) (fun _ _ => rfl) (fun _ => rfl) (fun h => by omega))
/-- all places in a block. -/
def Plb (w : World) (g cl n : Nat) (by' nx : Nat → Nat) (fs : Nat) (vL : Value) (em : Nat) : Prop := w.heap[g]? = some (.cells (pC cl n by' nx fs vL em) 78 (0, 0))
theorem Plb.lt {w : World} {g cl n : Nat} {by' nx : Nat → Nat} {fs : Nat} {vL : Value} {em : Nat} (h : Plb w g cl n by' nx fs vL em) : g < w.heap.size := (Array.getElem?_eq_some_iff.1 h).1
theorem Plb.only {w w' : World} {g cl n : Nat} {by' nx : Nat → Nat} {fs : Nat} {vL : Value} {em : Nat} {P : Nat → Prop} (h : Plb w g cl n by' nx fs vL em) (ho : Only P w w') (hn : ¬ P g) : Plb w' g cl n by' nx fs vL em := (ho.block g h.lt hn).trans h
theorem Plb.cell {w : World} {g cl n : Nat} {by' nx : Nat → Nat} {fs : Nat} {vL : Value} {em : Nat} (h : Plb w g cl n by' nx fs vL em) (i : Nat) (hi : i < 904) : w.cell? ⟨g, i, none⟩ = some (pcell cl n by' nx fs vL em i) := (cell_blk h).trans (pC_at _ _ _ _ _ _ _ _ hi)
theorem Plb.c0 {w : World} {g cl n : Nat} {by' nx : Nat → Nat} {fs : Nat} {vL : Value} {em : Nat} (h : Plb w g cl n by' nx fs vL em) : w.cell? ⟨g, 0, none⟩ = some (.int .i64 (cl : Int)) := h.cell 0 (by decide)
theorem Plb.c1 {w : World} {g cl n : Nat} {by' nx : Nat → Nat} {fs : Nat} {vL : Value} {em : Nat} (h : Plb w g cl n by' nx fs vL em) : w.cell? ⟨g, 1, none⟩ = some (.int .i64 (n : Int)) := h.cell 1 (by decide)
theorem Plb.c902 {w : World} {g cl n : Nat} {by' nx : Nat → Nat} {fs : Nat} {vL : Value} {em : Nat} (h : Plb w g cl n by' nx fs vL em) : w.cell? ⟨g, 902, none⟩ = some vL := h.cell 902 (by decide)
theorem Plb.c903 {w : World} {g cl n : Nat} {by' nx : Nat → Nat} {fs : Nat} {vL : Value} {em : Nat} (h : Plb w g cl n by' nx fs vL em) : w.cell? ⟨g, 903, none⟩ = some (.int .u32 (em : Int)) := h.cell 903 (by decide)
theorem Plb.fz {w : World} {g cl n : Nat} {by' nx : Nat → Nat} {fs : Nat} {vL : Value} {em : Nat} (h : Plb w g cl n by' nx fs vL em) (k : Nat) : w.frozen? ⟨g, k, none⟩ = false := fz_blk h k

theorem laidOut4 : laidOutB Try.prog = true := by kernel_rfl
theorem types175 : Try.prog.types.size = 175 := by kernel_rfl
theorem law73 : Keyed Try.prog 73 := Keyed.of_law (deep_law_laid laidOut4 (m := 2) (by decide) (by rw [types175]; decide) (by kernel_rfl) (by kernel_rfl))
theorem wf_u64 {a : Nat} (h1 : a < 18446744073709551616) : (Lit.int .u64 (a : Int)).wf = true := by
  have e1 : IntKind.min .u64 = 0 := by decide
  have e2 : IntKind.max .u64 = 18446744073709551615 := by decide
  have h0 : (0 : Int) ≤ (a : Int) := by omega
  have h2 : (a : Int) ≤ 18446744073709551615 := by omega
  simp only [Lit.wf, e1, e2, h0, h2, decide_true, Bool.and_self]
theorem key73 (S : Nat) : ∃ l, keyOf Try.prog 73 (sV S) = some l := by
  have hk : Try.prog.keyType 73 = true := by kernel_rfl
  have hf : (sV S).formed Try.prog 73 = true := by
    have : Try.prog.cellsOf 73 = 4 := by kernel_rfl
    simp [sV, sC, Value.formed, Try.underlying73, this]
  have ht : ∃ d, Try.prog.types.size + 1 = d + 2 := ⟨174, by rw [types175]⟩
  obtain ⟨d, hd⟩ := ht
  have hl : ∃ ls, Try.prog.keyLits (d + 2) 73 (sV S).cells.toList = some ls := by
    unfold Program.keyLits
    simp only [Try.underlying73]
    have c73 : Try.prog.cellsOf 73 = 4 := by kernel_rfl
    have c71 : Try.prog.cellsOf 71 = 1 := by kernel_rfl
    have hlen : ((sV S).cells.toList).length = Try.prog.cellsOf 73 := by rw [c73]; rfl
    rw [if_pos hlen, c71]
    have hq : ∀ k, k < 4 → Try.prog.keyLits (d + 1) 71 [.int .u64 (wd S k : Int)] = some [.int .u64 (wd S k : Int)] := by
      intro k hk
      unfold Program.keyLits
      simp only [Try.underlying71]
      simp [wf_u64 (wd_lt S k)]
    have e : List.range 4 = [0, 1, 2, 3] := rfl
    rw [e]
    have hc : (sV S).cells.toList = [.int .u64 (wd S 0 : Int), .int .u64 (wd S 1 : Int), .int .u64 (wd S 2 : Int), .int .u64 (wd S 3 : Int)] := rfl
    rw [hc]
    simp [hq 0 (by decide), hq 1 (by decide), hq 2 (by decide), hq 3 (by decide)]
  obtain ⟨ls, hls⟩ := hl
  unfold keyOf
  simp only [Try.underlying73, hk, hf, Bool.and_self, if_true]
  rw [hd, hls]
  exact ⟨_, rfl⟩
/-- a set's key. -/
def kc (P : Program) (S : Nat) : Lit := (keyOf P 73 (sV S)).getD .nil
theorem kc_key (S : Nat) : keyOf Try.prog 73 (sV S) = some (kc Try.prog S) := by
  obtain ⟨l, hl⟩ := key73 S
  unfold kc
  rw [hl]
  rfl
theorem sV_inj {A B : Nat} (ha : A < 2 ^ 256) (hb : B < 2 ^ 256) (h : sV A = sV B) : A = B := by
  unfold sV sC at h
  simp only [Value.agg.injEq, Array.mk.injEq, List.cons.injEq, Value.int.injEq, true_and, and_true] at h
  refine wd_ext ha hb fun j hj => ?_
  rcases (show j = 0 ∨ j = 1 ∨ j = 2 ∨ j = 3 by omega) with rfl | rfl | rfl | rfl <;> omega
theorem kc_inj {A B : Nat} (ha : A < 2 ^ 256) (hb : B < 2 ^ 256) (h : kc Try.prog A = kc Try.prog B) : A = B := by
  have e := law73.inj (kc_key A) (by rw [h]; exact kc_key B)
  exact sV_inj ha hb e
theorem eq73 {A B : Nat} (ha : A < 2 ^ 256) (hb : B < 2 ^ 256) (w : World) : (Op.equalIn 10000 73 (sV A) (sV B)).run Try.prog w = .ok (decide (A = B)) w := by
  obtain ⟨r, hr, hiff⟩ := run_equal_deep w (m := 2) (k := 73) (by decide) (by kernel_rfl) (by kernel_rfl) (kc_key A) (kc_key B)
  have : r = decide (A = B) := by
    by_cases h : A = B
    · subst h; simp [hiff.2 rfl]
    · rw [decide_eq_false h]
      cases r with
      | false => rfl
      | true => exact absurd (kc_inj ha hb (hiff.1 rfl)) h
  rw [← this]
  exact hr
end Go.Proofs.Ytfbcijnacbfjpaa
