/-
  The table while it is made: what holds behind each row; no walk in it.
-/
import Derived.Test.YtlcpfheocenjfaaKeep
namespace Go.Proofs.Ytlcpfheocenjfaa
open Go.RowKit Go.Maps
set_option linter.unusedVariables false
set_option linter.unusedSimpArgs false

/-- a row's number. -/
def num (f : List Int) (B : List (List Int)) : Int := if f = Pr.zeros then 0 else idx f B
structure Inv (L : List Rg) (k : Nat) (R : List Int) (B : List (List Int)) : Prop where
  len : R.length = 4352
  rows : ∀ i, i < k → R[i]? = some (num (Pr.blk L i) B)
  rest : ∀ i, k ≤ i → i < 4352 → R[i]? = some 0
  nd : B.Nodup
  mem : ∀ x, x ∈ B ↔ x ≠ Pr.zeros ∧ ∃ i, i < k ∧ x = Pr.blk L i
  bl : B.length ≤ k
theorem inv_start (L : List Rg) : Inv L 0 noRows [] := by
  refine ⟨List.length_replicate, fun i hi => by omega, fun i _ hi => ?_, List.nodup_nil, fun x => Iff.intro (fun h => absurd h List.not_mem_nil) ?_, Nat.le_refl _⟩
  case refine_2 =>
    rintro ⟨_, i, hi, _⟩
    omega
  unfold noRows
  rw [List.getElem?_replicate, if_pos hi]
theorem inv_zero {L : List Rg} {k : Nat} {R : List Int} {B : List (List Int)} (h : Inv L k R B) (hk : k < 4352) (hz : Pr.blk L k = Pr.zeros) : Inv L (k + 1) R B := by
  refine ⟨h.len, fun i hi => ?_, fun i h1 h2 => h.rest i (by omega) h2, h.nd, fun x => ?_, by have := h.bl; omega⟩
  · by_cases e : i = k
    · subst e
      rw [h.rest i (Nat.le_refl _) hk, num, if_pos hz]
    · exact h.rows i (by omega)
  · rw [h.mem x]
    constructor
    · rintro ⟨h1, i, hi, e⟩
      exact ⟨h1, i, by omega, e⟩
    · rintro ⟨h1, i, hi, e⟩
      by_cases ei : i = k
      · subst ei
        exact absurd (e.trans hz) h1
      · exact ⟨h1, i, by omega, e⟩
theorem inv_same {L : List Rg} {k : Nat} {R : List Int} {B : List (List Int)} {r : Int} (h : Inv L k R B) (hk : k < 4352) (hk0 : 0 < k) (he : Pr.blk L k = Pr.blk L (k - 1)) (hr : R[k - 1]? = some r) : Inv L (k + 1) (R.set k r) B := by
  refine ⟨by rw [List.length_set]; exact h.len, fun i hi => ?_, fun i h1 h2 => ?_, h.nd, fun x => ?_, by have := h.bl; omega⟩
  · rw [List.getElem?_set]
    by_cases e : k = i
    · subst e
      rw [if_pos rfl, if_pos (by rw [h.len]; exact hk), he, ← h.rows (k - 1) (by omega), hr]
    · rw [if_neg e]
      exact h.rows i (by omega)
  · rw [List.getElem?_set, if_neg (by omega)]
    exact h.rest i (by omega) h2
  · rw [h.mem x]
    constructor
    · rintro ⟨h1, i, hi, e⟩
      exact ⟨h1, i, by omega, e⟩
    · rintro ⟨h1, i, hi, e⟩
      by_cases ei : i = k
      · subst ei
        exact ⟨h1, i - 1, by omega, e.trans he⟩
      · exact ⟨h1, i, by omega, e⟩
theorem add_mem {B : List (List Int)} {f x : List Int} : x ∈ add B f ↔ x ∈ B ∨ x = f := by
  unfold add
  split
  · constructor
    · exact Or.inl
    · rintro (h | rfl)
      · exact h
      · assumption
  · simp
theorem add_len (B : List (List Int)) (f : List Int) : (add B f).length ≤ B.length + 1 := by
  unfold add
  split <;> simp
theorem idx_add {B : List (List Int)} {f g : List Int} (h : g ∈ B) : idx g (add B f) = idx g B := by
  unfold add
  split
  · rfl
  · unfold idx
    rw [if_pos h, if_pos (by simp [h]), List.idxOf_append, if_pos h]
theorem inv_keep {L : List Rg} {k : Nat} {R : List Int} {B : List (List Int)} {f : List Int} (h : Inv L k R B) (hk : k < 4352) (hf : f = Pr.blk L k) (hz : f ≠ Pr.zeros) : Inv L (k + 1) (R.set k (idx f (add B f))) (add B f) := by
  refine ⟨by rw [List.length_set]; exact h.len, fun i hi => ?_, fun i h1 h2 => ?_, ?_, fun x => ?_, by have := h.bl; have := add_len B f; omega⟩
  · rw [List.getElem?_set]
    by_cases e : k = i
    · subst e
      rw [if_pos rfl, if_pos (by rw [h.len]; exact hk), num, ← hf, if_neg hz]
    · rw [if_neg e, h.rows i (by omega)]
      unfold num
      split
      · rfl
      · rename_i hne
        rw [idx_add ((h.mem _).2 ⟨hne, i, by omega, rfl⟩)]
  · rw [List.getElem?_set, if_neg (by omega)]
    exact h.rest i (by omega) h2
  · unfold add
    split
    · exact h.nd
    · rename_i hn
      rw [List.nodup_append]
      exact ⟨h.nd, by simp, fun a ha b hb => by simp at hb; subst hb; exact fun e => hn (e ▸ ha)⟩
  · rw [add_mem, h.mem x]
    constructor
    · rintro (⟨h1, i, hi, e⟩ | rfl)
      · exact ⟨h1, i, by omega, e⟩
      · exact ⟨hz, k, by omega, hf⟩
    · rintro ⟨h1, i, hi, e⟩
      by_cases ei : i = k
      · subst ei
        exact Or.inr (e.trans hf.symm)
      · exact Or.inl ⟨h1, i, by omega, e⟩
theorem inv_end {L : List Rg} {R : List Int} {B : List (List Int)} (h : Inv L 4352 R B) : Pr.Bs L B := ⟨h.nd, h.mem⟩

theorem grown_setRow (w : World) (g : Nat) (c : Array Value) : w.grownBy (w.setRow g c) (some g) :=
  ⟨rfl, rfl, rfl, by simp [World.setRow], fun k hk hne => by simp only [World.setRow, Array.getElem?_modify]; rw [if_neg (fun e => hne (by rw [e]))]⟩
theorem grown_setCell (w : World) (a : Addr) (u : Value) : w.grownBy (w.setCell a u) (some a.block) :=
  ⟨rfl, rfl, rfl, by simp [World.setCell], fun k hk hne => Below.heap_setCell _ _ _ _ (fun e => hne (by rw [e]))⟩
theorem grown_below {w w' : World} (h : Below w.heap.size w w') : w.grownBy w' none := ⟨h.os, h.tape, h.output, h.size, fun k hk _ => h.block k hk⟩
theorem tC_at {R : List Int} {v : Value} {k : Nat} {r : Int} (h : R[k]? = some r) : (tC R v)[k]? = some (.int .u16 r) := by
  unfold tC
  have hk := (List.getElem?_eq_some_iff.1 h).1
  rw [Array.getElem?_push, if_neg (by simp; omega)]
  simp [h]
theorem tC_set {R : List Int} {v : Value} {k : Nat} (r : Int) (hk : k < R.length) : (tC R v).setIfInBounds k (.int .u16 r) = tC (R.set k r) v := by
  unfold tC
  apply Array.ext_getElem?
  intro i
  rw [Array.getElem?_setIfInBounds, Array.getElem?_push, Array.getElem?_push]
  by_cases e : k = i
  · subst e
    have : ¬ k = R.length := by omega
    simp [hk, this]
    omega
  · by_cases e' : i = R.length
    · simp [e, e']
      intro h
      omega
    · simp [e, e', List.getElem?_set]

/-- the table in memory behind k rows: it in block N, the map in N + 1, the block ahead in N + 2, the blocks from N + 3 on. -/
structure Mid (P : Program) (L : List Rg) (N k : Nat) (w : World) (R : List Int) (v : Value) (B : List (List Int)) (D : DataW Unit) (fa : List Int) : Prop where
  t : w.heap[N]? = some (.cells (tC R v) 82 (0, 0))
  m : w.ownsMap P 85 (plainElem P 78) (N + 1) B.length D
  a : w.heap[N + 2]? = some (.cells (bC fa) 85 (0, 0))
  v : w.ownsRow (N + 3) 85 256 v B.length (flat B)
  kd : KD P D B
  inv : Inv L k R B
  fab : Byt fa
  fa0 : k = 0 → fa = Pr.zeros
  fa1 : 0 < k → fa = Pr.blk L (k - 1)
  sz : N + 3 ≤ w.heap.size
theorem Mid.grown {P : Program} {L : List Rg} {N k : Nat} {w w' : World} {R : List Int} {v : Value} {B : List (List Int)} {D : DataW Unit} {fa : List Int} (h : Mid P L N k w R v B D fa) (hg : w.grownBy w' none) : Mid P L N k w' R v B D fa := by
  have hs := h.sz
  refine ⟨(hg.block N (by omega) (by simp)).trans h.t, h.m.kept hg (by simp), (hg.block (N + 2) (by omega) (by simp)).trans h.a, ?_, h.kd, h.inv, h.fab, h.fa0, h.fa1, Nat.le_trans hs hg.size⟩
  obtain ⟨hl, h' | ⟨g, cap, cur, hv, hb, hh, h1, h2, h3, h4⟩⟩ := h.v
  · exact ⟨hl, Or.inl h'⟩
  · refine ⟨hl, Or.inr ⟨g, cap, cur, hv, hb, ?_, h1, h2, h3, h4⟩⟩
    rw [hg.block g (Array.getElem?_eq_some_iff.1 hh).1 (by simp)]
    exact hh
theorem Mid.alloc {P : Program} {L : List Rg} {N k : Nat} {w : World} {R : List Int} {v : Value} {B : List (List Int)} {D : DataW Unit} {fa : List Int} (h : Mid P L N k w R v B D fa) (o : Obj) : Mid P L N k (w.alloc o) R v B D fa := h.grown (World.grownBy_alloc w o none)
/-- 'ahead = b' at a row's end. -/
theorem Mid.next {P : Program} {L : List Rg} {N k : Nat} {w : World} {R : List Int} {v : Value} {B : List (List Int)} {D : DataW Unit} {fa f : List Int}
    (ht : w.heap[N]? = some (.cells (tC R v) 82 (0, 0))) (hm : w.ownsMap P 85 (plainElem P 78) (N + 1) B.length D) (ha : w.heap[N + 2]? = some (.cells (bC fa) 85 (0, 0))) (hv : w.ownsRow (N + 3) 85 256 v B.length (flat B))
    (hkd : KD P D B) (hinv : Inv L (k + 1) R B) (hf : Byt f) (hfe : f = Pr.blk L k) (hs : N + 3 ≤ w.heap.size) : Mid P L N (k + 1) (w.setRow (N + 2) (bC f)) R v B D f := by
  have hg := grown_setRow w (N + 2) (bC f)
  refine ⟨(hg.block N (by omega) (by simp)).trans ht, hm.kept hg (by simp), heap_setRow _ _ _ _ _ _ ha, ownsRow_grown hv hg (by omega), hkd, hinv, hf, fun h => by omega, fun _ => by simpa using hfe, Nat.le_trans hs hg.size⟩
theorem mid_zero {P : Program} {L : List Rg} {N k : Nat} {w : World} {R : List Int} {v : Value} {B : List (List Int)} {D : DataW Unit} {fa f : List Int} (h : Mid P L N k w R v B D fa) (hk : k < 4352) (hf : Byt f) (hfe : f = Pr.blk L k) (hz : f = Pr.zeros) :
    Mid P L N (k + 1) (w.setRow (N + 2) (bC f)) R v B D f := Mid.next h.t h.m h.a h.v h.kd (inv_zero h.inv hk (hfe ▸ hz)) hf hfe h.sz
theorem mid_same {P : Program} {L : List Rg} {N k : Nat} {w : World} {R : List Int} {v : Value} {B : List (List Int)} {D : DataW Unit} {fa f : List Int} {r : Int} (h : Mid P L N k w R v B D fa) (hk : k < 4352) (hk0 : 0 < k) (hf : Byt f) (hfe : f = Pr.blk L k) (he : f = fa) (hr : R[k - 1]? = some r) :
    Mid P L N (k + 1) ((w.setCell ⟨N, k, none⟩ (.int .u16 r)).setRow (N + 2) (bC f)) (R.set k r) v B D f := by
  have hg := grown_setCell w ⟨N, k, none⟩ (.int .u16 r)
  have hs := h.sz
  refine Mid.next ?_ (h.m.kept hg (by simp)) ((hg.block (N + 2) (by omega) (by simp)).trans h.a) (ownsRow_grown h.v hg (by show ¬ N + 3 ≤ N; omega)) h.kd (inv_same h.inv hk hk0 (by rw [← hfe, he]; exact h.fa1 hk0) hr) hf hfe (Nat.le_trans hs hg.size)
  rw [← tC_set r (by rw [h.inv.len]; exact hk)]
  exact heap_setCell_row _ _ _ _ _ _ _ h.t
theorem mid_keep {P : Program} {L : List Rg} {N k : Nat} {w w' : World} {R : List Int} {v v' : Value} {B : List (List Int)} {D D' : DataW Unit} {fa f : List Int} (h : Mid P L N k w R v B D fa) (hk : k < 4352) (hf : Byt f) (hfe : f = Pr.blk L k) (hz : f ≠ Pr.zeros)
    (ht : w'.heap[N]? = some (.cells (tC R v') 82 (0, 0))) (hv : w'.ownsRow (N + 3) 85 256 v' (add B f).length (flat (add B f))) (hm : w'.ownsMap P 85 (plainElem P 78) (N + 1) (add B f).length D') (hkd : KD P D' (add B f))
    (hO : Only (fun g => g = N ∨ g = N + 1 ∨ v.ownBlock = some g) w w') :
    Mid P L N (k + 1) ((w'.setCell ⟨N, k, none⟩ (.int .u16 (idx f (add B f)))).setRow (N + 2) (bC f)) (R.set k (idx f (add B f))) v' (add B f) D' f := by
  have hg := grown_setCell w' ⟨N, k, none⟩ (.int .u16 (idx f (add B f)))
  have hs := h.sz
  have hs' := hO.size
  have ha : w'.heap[N + 2]? = some (.cells (bC fa) 85 (0, 0)) := (hO.block (N + 2) (by omega) (by
    rintro (e | e | e)
    · omega
    · omega
    · have := (h.v.lt _ e).1
      omega)).trans h.a
  refine Mid.next ?_ (hm.kept hg (by simp)) ((hg.block (N + 2) (by omega) (by simp)).trans ha) (ownsRow_grown hv hg (by show ¬ N + 3 ≤ N; omega)) hkd (inv_keep h.inv hk hfe hz) hf hfe (Nat.le_trans (Nat.le_trans hs hs') hg.size)
  rw [← tC_set _ (by rw [h.inv.len]; exact hk)]
  exact heap_setCell_row _ _ _ _ _ _ _ ht
/-- block b is a table of these ranges. -/
def Tab (w : World) (base T : Nat) (L : List Rg) : Prop := ∃ R v B, w.heap[T]? = some (.cells (tC R v) 82 (0, 0)) ∧ w.ownsRow base 85 256 v B.length (flat B) ∧ Inv L 4352 R B ∧ base ≤ T
theorem fO_blk {most a : Int} {L : List Rg} {j k : Nat} (hd : ∀ x ∈ L.take j, x.hi < 256 * k) : fO (L.drop j) (256 * k) = Pr.blk L k := by
  apply List.map_congr_left
  intro i hi
  have := Pr.of_append (L.take j) (L.drop j) (256 * k + i) (fun x hx h => by have := hd x hx; omega)
  rw [List.take_append_drop] at this
  exact this.symm
end Go.Proofs.Ytlcpfheocenjfaa
