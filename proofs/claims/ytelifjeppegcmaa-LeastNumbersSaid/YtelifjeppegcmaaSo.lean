/-
  slices.SortFunc of states, by their Out.
-/
import Derived.Test.YtelifjeppegcmaaShelf
import Derived.Test.YtelifjeppegcmaaCm
import Derived.Test.YtelifjeppegcmaaOg
namespace Go.Proofs.Ytelifjeppegcmaa
open Go.RowKit Go.Maps Go.Shelf
set_option linter.unusedVariables false
set_option linter.unusedSimpArgs false
theorem ext_all {α : Type} (d : Array α) (n : Nat) (h : d.size = n) : d.extract 0 n = d := by subst h; simp
/-- a state as a number. -/
def encF (n : Nat) (x : Fin n) : Value := .int .i64 (x.val : Int)
theorem lt_cmp {n : Nat} (O : Nat → Nat) (x y : Fin n) : ltOf (fun x y : Fin n => cmpN (O x.val) (O y.val)) x y = decide (O x.val < O y.val) := by
  unfold ltOf cmpN
  by_cases h1 : O x.val < O y.val
  · simp [h1]
  · by_cases h2 : O y.val < O x.val <;> simp [h1, h2]
theorem swo_cmp {n : Nat} (O : Nat → Nat) : Sort.SWO (ltOf (fun x y : Fin n => cmpN (O x.val) (O y.val))) := by
  refine ⟨fun x => ?_, fun x y z h1 h2 => ?_, fun x y z h1 h2 => ?_⟩
  · rw [lt_cmp]; simp
  · rw [lt_cmp] at *; simp at *; omega
  · rw [lt_cmp] at *; simp at *; omega
theorem sw_blk {α : Type} [Inhabited α] (enc : α → Value) (w : World) (blk m : Nat) (dk : Array α) (os : Array Obj) (b : Nat) (hb : b < w.heap.size) (hne : b ≠ blk) : (sortWorld enc w blk 0 m dk os).heap[b]? = w.heap[b]? := by
  unfold sortWorld
  rw [Sort.heap_grow_old _ _ (by simp [Sort.putRow, Sort.mapBlock, Sort.ahead]; exact hb)]
  simp [Sort.putRow, Sort.mapBlock, Sort.ahead, Array.getElem?_modify]
  intro e
  exact absurd e.symm hne
theorem sw_row {n : Nat} [Inhabited (Fin n)] (w : World) (blk m : Nat) (dk : Array (Fin n)) (os : Array Obj) (hd : dk.size = n) (h : Nb w blk (List.range n)) : Nb (sortWorld (encF n) w blk 0 m dk os) blk (dk.toList.map (·.val)) := by
  have hl := h.lt
  unfold Nb at h ⊢
  unfold sortWorld
  rw [Sort.heap_grow_old _ _ (by simp [Sort.putRow, Sort.mapBlock, Sort.ahead]; exact hl)]
  simp only [Sort.putRow, Sort.mapBlock, Sort.ahead, Array.getElem?_modify, if_true, h, Option.map_some, Sort.onCells]
  congr 2
  apply Array.ext_getElem?
  intro j
  simp only [Sort.putCells, Array.getElem?_mapIdx]
  rw [nums_at, nums_at]
  by_cases hj : j < n
  · rw [List.getElem?_range hj]
    simp only [Option.map_some]
    rw [if_pos (by omega), List.getElem?_map, Array.getElem?_toList, Array.getElem?_eq_getElem (by omega)]
    simp [encF, getElem!_pos, hd, hj]
  · rw [List.getElem?_eq_none (by simp; omega), List.getElem?_eq_none (by simp; omega)]
    rfl
theorem sw_only {n : Nat} [Inhabited (Fin n)] (w : World) (blk m : Nat) (dk : Array (Fin n)) (os : Array Obj) : Only (fun b => b = blk) w (sortWorld (encF n) w blk 0 m dk os) :=
  ⟨rfl, rfl, rfl, by simp [sortWorld, Sort.putRow, Sort.mapBlock, Sort.ahead], fun g hg hS => sw_blk _ w blk m dk os g hg hS⟩
set_option maxRecDepth 100000 in
theorem sort_any (n pa bo oo co blk : Nat) (O : Nat → Nat) (w : World) (h0 : 0 < n) (hn : n ≤ 100000) (hN : Nb w blk (List.range n)) (h1 : w.cell? ⟨pa, 1, none⟩ = some (.slice (some ⟨bo, oo, none⟩) n co)) (h2 : ∀ s, s < n → w.cell? ⟨bo, oo + s, none⟩ = some (.int .u32 (O s : Int))) (hp : pa ≠ blk) (hb : bo ≠ blk) :
    Calls Try.prog 32 #[.slice (some ⟨blk, 0, none⟩) n n, .func (.func 33) #[] #[.pointer (some ⟨pa, 0, none⟩)]] w fun e w' => e = .returned (.tuple #[]) ∧ ∃ L : List Nat, L.Perm (List.range n) ∧ (∀ i j x y : Nat, i < j → L[i]? = some x → L[j]? = some y → O x ≤ O y) ∧ Nb w' blk L ∧ Only (fun b => b = blk) w w' := by
  haveI : Inhabited (Fin n) := ⟨⟨0, h0⟩⟩
  have eg : ∀ args w, (callFunc 33 args).run Try.prog w = .ok (.enter 33 args) w := enters_of Try.func33 (by kernel_rfl) rfl
  have l1 := World.block_lt_of_cell? w _ h1
  have l2 := World.block_lt_of_cell? w _ (h2 0 h0)
  obtain ⟨d, hd⟩ : ∃ d : Array (Fin n), d = Array.ofFn (fun i : Fin n => i) := ⟨_, rfl⟩
  have hds : d.size = n := by rw [hd]; simp
  have hcmp : CmpReads Try.prog 33 #[.pointer (some ⟨pa, 0, none⟩)] (encF n) (fun x y : Fin n => cmpN (O x.val) (O y.val)) blk 0 d.size w := fun m os dk hs x y => by
    have k : ∀ b j v, b < w.heap.size → b ≠ blk → w.cell? ⟨b, j, none⟩ = some v → (sortWorld (encF n) w blk 0 m dk os).cell? ⟨b, j, none⟩ = some v := fun b j v hb hne hv => (World.cell?_of_block (a := ⟨b, j, none⟩) (sw_blk _ w blk m dk os b hb hne)).trans hv
    exact byOut_any x.val y.val (O x.val) (O y.val) pa bo oo n co _ x.isLt y.isLt (by omega) (k _ _ _ l1 hp h1) (k _ _ _ l2 hb (h2 _ x.isLt)) (k _ _ _ l2 hb (h2 _ y.isLt))
  have hH : Sort.Holds (encF n) w blk 0 d := fun j hj => by
    have hj' : j < n := by omega
    refine ⟨?_, hN.fz _⟩
    rw [Nat.zero_add]
    refine (hN.cell (List.getElem?_range hj')).trans ?_
    rw [hd, getElem!_pos _ j (by simp; exact hj')]
    simp [encF]
  have hcon := Any.slices_SortFunc Try.sortI (encF n) (fun _ => rfl) (fun x y : Fin n => cmpN (O x.val) (O y.val)) (swo_cmp O) 33 #[.pointer (some ⟨pa, 0, none⟩)] blk 0 n d w eg hcmp.lays hH hN.lt (by omega)
  change Calls Try.prog 32 _ _ _ at hcon
  rw [hds] at hcon
  refine hcon.mono ?_
  rintro e w' ⟨he, d', m, os, hperm, hsort, rfl⟩
  obtain ⟨p1, _, p3⟩ := hperm
  have hds' : d'.size = n := by rw [p1, hds]
  refine ⟨he, d'.toList.map (·.val), ?_, ?_, sw_row w blk m d' os hds' hN, sw_only w blk m d' os⟩
  · have e1 : d'.extract 0 n = d' := ext_all d' n hds'
    have e2 : d.extract 0 n = d := ext_all d n hds
    rw [e1, e2] at p3
    have p4 := p3.map (fun x : Fin n => x.val)
    have e3 : d.toList.map (fun x : Fin n => x.val) = List.range n := by
      rw [hd]
      apply List.ext_getElem?
      intro i
      by_cases hi : i < n
      · rw [List.getElem?_range hi]; simp [hi]
      · rw [List.getElem?_eq_none (by simp; omega), List.getElem?_eq_none (by simp; omega)]
    rw [e3] at p4
    exact p4
  · intro i j x y hij hx hy
    rw [List.getElem?_map] at hx hy
    have hjl : j < d'.size := by
      cases hh : d'.toList[j]? with
      | none => rw [hh] at hy; cases hy
      | some z => have := (List.getElem?_eq_some_iff.1 hh).1; simpa using this
    have hil : i < d'.size := by omega
    have hs := hsort i j (Nat.zero_le _) hij (by omega)
    rw [lt_cmp] at hs
    rw [getElem!_pos _ j hjl, getElem!_pos _ i hil] at hs
    rw [Array.getElem?_toList, Array.getElem?_eq_getElem hil] at hx
    rw [Array.getElem?_toList, Array.getElem?_eq_getElem hjl] at hy
    injection hx with hx
    injection hy with hy
    subst hx
    subst hy
    simpa using hs
end Go.Proofs.Ytelifjeppegcmaa
