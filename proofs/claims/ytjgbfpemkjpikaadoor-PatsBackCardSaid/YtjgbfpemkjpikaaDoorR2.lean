/-
  The reference's pattern: its steps, and what it has in memory.
-/
import Derived.Test.YtjgbfpemkjpikaaDoorL6
namespace Go.Proofs.YtjgbfpemkjpikaaDoor
open Go.RowKit Go.Maps
set_option linter.unusedVariables false
set_option linter.unusedSimpArgs false
/-- behind a value. -/
def rl2 (td : Bool) (n : Nat) : List Nat → Nat → List Nat → List Nat → Nat → Option Pt.Pat
  | [], j, ls, vs, pl => Pt.fin ls vs pl
  | d :: ds, j, ls, vs, pl => if d = 45 ∨ Pt.isDg d = true ∨ d = 65533 then none else if d = 46 then (if td = true ∨ (j ≠ 0 ∧ j ≠ n - 1) then none else Pt.rl td n ds (j + 1) (ls ++ [d]) vs pl) else Pt.rl td n ds (j + 1) (ls ++ [d]) vs (pl + 1)
theorem rl_end (td : Bool) (n i : Nat) (ls vs : List Nat) (pl : Nat) : Pt.rl td n [] i ls vs pl = rl2 td n [] i ls (vs ++ [0]) pl := by
  rw [Pt.rl, rl2]
theorem rl_digit {td : Bool} {n i c : Nat} {cs ls vs : List Nat} {pl : Nat} (h : (!td && Pt.isDg c) = true) : Pt.rl td n (c :: cs) i ls vs pl = rl2 td n cs (i + 1) ls (vs ++ [c - 48]) pl := by
  cases cs with
  | nil => rw [Pt.rl, if_pos h, rl2]
  | cons d ds => rw [Pt.rl, if_pos h, rl2]
theorem rl_hyBad {td : Bool} {n i c : Nat} {cs ls vs : List Nat} {pl : Nat} (h0 : ¬ (!td && Pt.isDg c) = true) (h : (td && Pt.isHy c) = true) (hi : i = 0 ∨ i = n - 1) : Pt.rl td n (c :: cs) i ls vs pl = none := by
  cases cs with
  | nil => rw [Pt.rl, if_neg h0, if_pos h, if_pos hi]
  | cons d ds => rw [Pt.rl, if_neg h0, if_pos h, if_pos hi]
theorem rl_hy {td : Bool} {n i c : Nat} {cs ls vs : List Nat} {pl : Nat} (h0 : ¬ (!td && Pt.isDg c) = true) (h : (td && Pt.isHy c) = true) (hi : ¬ (i = 0 ∨ i = n - 1)) : Pt.rl td n (c :: cs) i ls vs pl = rl2 td n cs (i + 1) ls (vs ++ [1]) pl := by
  cases cs with
  | nil => rw [Pt.rl, if_neg h0, if_pos h, if_neg hi, rl2]
  | cons d ds => rw [Pt.rl, if_neg h0, if_pos h, if_neg hi, rl2]
theorem rl_plain {td : Bool} {n i c : Nat} {cs ls vs : List Nat} {pl : Nat} (h0 : ¬ (!td && Pt.isDg c) = true) (h : ¬ (td && Pt.isHy c) = true) : Pt.rl td n (c :: cs) i ls vs pl = rl2 td n (c :: cs) i ls (vs ++ [0]) pl := by
  cases cs with
  | nil => rw [Pt.rl, if_neg h0, if_neg h, rl2]
  | cons d ds => rw [Pt.rl, if_neg h0, if_neg h, rl2]
theorem rl2_bad {td : Bool} {n j d : Nat} {ds ls vs : List Nat} {pl : Nat} (h : d = 45 ∨ Pt.isDg d = true ∨ d = 65533) : rl2 td n (d :: ds) j ls vs pl = none := by
  rw [rl2, if_pos h]
theorem rl2_ptBad {td : Bool} {n j : Nat} {ds ls vs : List Nat} {pl : Nat} (h : td = true ∨ (j ≠ 0 ∧ j ≠ n - 1)) : rl2 td n (46 :: ds) j ls vs pl = none := by
  rw [rl2, if_neg (by decide), if_pos rfl, if_pos h]
theorem rl2_pt {td : Bool} {n j : Nat} {ds ls vs : List Nat} {pl : Nat} (h : ¬ (td = true ∨ (j ≠ 0 ∧ j ≠ n - 1))) : rl2 td n (46 :: ds) j ls vs pl = Pt.rl td n ds (j + 1) (ls ++ [46]) vs pl := by
  rw [rl2, if_neg (by decide), if_pos rfl, if_neg h]
theorem rl2_letter {td : Bool} {n j d : Nat} {ds ls vs : List Nat} {pl : Nat} (h : ¬ (d = 45 ∨ Pt.isDg d = true ∨ d = 65533)) (h2 : ¬ d = 46) : rl2 td n (d :: ds) j ls vs pl = Pt.rl td n ds (j + 1) (ls ++ [d]) vs (pl + 1) := by
  rw [rl2, if_neg h, if_neg h2]
theorem info5 : (Tryd.prog.info? 5).map (fun i => (i.zero, i.size, i.bytes)) = some (some (.int .u8 0), 1, 1) := by kernel_rfl
theorem u8s_app (a : List Nat) (x : Nat) : u8s a ++ [.int .u8 (x : Int)] = u8s (a ++ [x]) := by unfold u8s; simp
theorem own_bl {w : World} {base n c : Nat} {a : Option Addr} {L : List Nat} (h : w.ownsRow base 5 1 (.slice a n c) n (u8s L)) (hl : L.length = n) : Bl w a n L := by
  by_cases h0 : n = 0
  · subst h0
    have : L = [] := List.eq_nil_of_length_eq_zero hl
    subst this
    exact ⟨rfl, 0, 0, fun h => by omega, fun j x h => by simp at h⟩
  · obtain ⟨g, cap, hv, hg, _, hc⟩ := own_cells h (by omega)
    injection hv with e1
    refine ⟨hl, g, 0, fun _ => ⟨e1, hg⟩, fun j x hj => ?_⟩
    rw [Nat.zero_add]
    exact hc j _ (by unfold u8s; rw [List.getElem?_map, hj]; rfl)
/-- the reference's pattern so far. -/
structure Rp (w W : World) (vL vV : Value) (l m : Nat) (ls vs : List Nat) : Prop where
  on : Only (fun _ => False) w W
  sz : w.heap.size + 1 + 1 ≤ W.heap.size
  res : W.heap[w.heap.size]? = some (.cells #[.slice none 0 0, .slice none 0 0] 37 (0, 0))
  blk : W.heap[w.heap.size + 1]? = some (.cells #[vL, vV] 37 (0, 0))
  oL : W.ownsRow (w.heap.size + 1 + 1) 21 1 vL l (i32s ls)
  oV : W.ownsRow (w.heap.size + 1 + 1) 5 1 vV m (u8s vs)
  ap : Ap vL vV
  ll : ls.length = l
  lv : vs.length = m
theorem Rp.keep {w W W' : World} {vL vV : Value} {l m : Nat} {ls vs : List Nat} (h : Rp w W vL vV l m ls vs) (ho : Only (fun _ => False) W W') : Rp w W' vL vV l m ls vs := by
  have hs := h.sz
  exact ⟨h.on.trans ho, Nat.le_trans h.sz ho.size, (ho.block _ (by omega) (fun h => h)).trans h.res, (ho.block _ (by omega) (fun h => h)).trans h.blk, own_only h.oL ho (fun _ _ h => h), own_only h.oV ho (fun _ _ h => h), h.ap, h.ll, h.lv⟩
theorem Rp.addL {w W W1 w3 : World} {vL vV : Value} {l m g c x : Nat} {ls vs : List Nat} (h : Rp w W vL vV l m ls vs) (ho : Only (fun _ => False) W W1) (hown : w3.ownsRow (w.heap.size + 1 + 1) 21 1 (.slice (some ⟨g, 0, none⟩) (l + 1) c) (l + 1) (i32s (ls ++ [x]))) (hgr : W1.grownBy w3 vL.ownBlock) (hat : Value.ownBlock (.slice (some ⟨g, 0, none⟩) (l + 1) c) = vL.ownBlock ∨ Value.ownBlock (.slice (some ⟨g, 0, none⟩) (l + 1) c) = some W1.heap.size) :
    w3.heap[w.heap.size + 1]? = some (.cells #[vL, vV] 37 (0, 0)) ∧ Rp w (w3.setCell ⟨w.heap.size + 1, 0, none⟩ (.slice (some ⟨g, 0, none⟩) (l + 1) c)) (.slice (some ⟨g, 0, none⟩) (l + 1) c) vV (l + 1) m (ls ++ [x]) vs := by
  have h1 := h.keep ho
  have hs1 := h1.sz
  have o3 : Only (fun b => vL.ownBlock = some b) W1 w3 := (Only.refl _ _).grown hgr (fun k h => h)
  have hno : ∀ b, vL.ownBlock = some b → w.heap.size + 1 + 1 ≤ b := fun b e => (h1.oL.lt b e).1
  have hb3 : w3.heap[w.heap.size + 1]? = some (.cells #[vL, vV] 37 (0, 0)) := (o3.block _ (by omega) (fun e => by have := hno _ e; omega)).trans h1.blk
  have o4 : Only (· = w.heap.size + 1) w3 (w3.setCell ⟨w.heap.size + 1, 0, none⟩ (.slice (some ⟨g, 0, none⟩) (l + 1) c)) := (Only.refl (· = w.heap.size + 1) w3).setCell (p := ⟨w.heap.size + 1, 0, none⟩) rfl _
  have o5 : Only (fun b => w.heap.size < b) W1 (w3.setCell ⟨w.heap.size + 1, 0, none⟩ (.slice (some ⟨g, 0, none⟩) (l + 1) c)) := (o3.mono (fun b h => by have := hno _ h; omega)).trans (o4.mono (fun b h => by have : b = w.heap.size + 1 := h; omega))
  have hs5 := o5.size
  have hap : ∀ b, Value.ownBlock (.slice (some ⟨g, 0, none⟩) (l + 1) c) = some b → b < W1.heap.size → vL.ownBlock = some b := fun b hb hl => by
    rcases hat with hat | hat
    · rw [← hat]; exact hb
    · rw [hat] at hb
      injection hb with hb
      omega
  refine ⟨hb3, ⟨?_, by omega, (o5.block _ (by omega) (fun e => by omega)).trans h1.res, heap_setCell_at hb3 _, ?_, ?_, ?_, ?_, ?_⟩⟩
  · have h6 : Only (fun b => w.heap.size < b) w (w3.setCell ⟨w.heap.size + 1, 0, none⟩ (.slice (some ⟨g, 0, none⟩) (l + 1) c)) := (h1.on.mono (fun _ h => h.elim)).trans o5
    exact h6.old (fun g h => Or.inl (by omega))
  · exact own_only hown o4 (fun b hb e => by have : b = w.heap.size + 1 := e; omega)
  · exact own_only (own_grew h1.oV (fun b hb e => h1.ap b e hb) hgr) o4 (fun b hb e => by have : b = w.heap.size + 1 := e; omega)
  · intro b hb e
    exact h1.ap b (hap b hb (h1.oV.lt b e).2) e
  · simp [h.ll]
  · exact h.lv
theorem Rp.addV {w W W1 w3 : World} {vL vV : Value} {l m g c x : Nat} {ls vs : List Nat} (h : Rp w W vL vV l m ls vs) (ho : Only (fun _ => False) W W1) (hown : w3.ownsRow (w.heap.size + 1 + 1) 5 1 (.slice (some ⟨g, 0, none⟩) (m + 1) c) (m + 1) (u8s (vs ++ [x]))) (hgr : W1.grownBy w3 vV.ownBlock) (hat : Value.ownBlock (.slice (some ⟨g, 0, none⟩) (m + 1) c) = vV.ownBlock ∨ Value.ownBlock (.slice (some ⟨g, 0, none⟩) (m + 1) c) = some W1.heap.size) :
    w3.heap[w.heap.size + 1]? = some (.cells #[vL, vV] 37 (0, 0)) ∧ Rp w (w3.setCell ⟨w.heap.size + 1, 1, none⟩ (.slice (some ⟨g, 0, none⟩) (m + 1) c)) vL (.slice (some ⟨g, 0, none⟩) (m + 1) c) l (m + 1) ls (vs ++ [x]) := by
  have h1 := h.keep ho
  have hs1 := h1.sz
  have o3 : Only (fun b => vV.ownBlock = some b) W1 w3 := (Only.refl _ _).grown hgr (fun k h => h)
  have hno : ∀ b, vV.ownBlock = some b → w.heap.size + 1 + 1 ≤ b := fun b e => (h1.oV.lt b e).1
  have hb3 : w3.heap[w.heap.size + 1]? = some (.cells #[vL, vV] 37 (0, 0)) := (o3.block _ (by omega) (fun e => by have := hno _ e; omega)).trans h1.blk
  have o4 : Only (· = w.heap.size + 1) w3 (w3.setCell ⟨w.heap.size + 1, 1, none⟩ (.slice (some ⟨g, 0, none⟩) (m + 1) c)) := (Only.refl (· = w.heap.size + 1) w3).setCell (p := ⟨w.heap.size + 1, 1, none⟩) rfl _
  have o5 : Only (fun b => w.heap.size < b) W1 (w3.setCell ⟨w.heap.size + 1, 1, none⟩ (.slice (some ⟨g, 0, none⟩) (m + 1) c)) := (o3.mono (fun b h => by have := hno _ h; omega)).trans (o4.mono (fun b h => by have : b = w.heap.size + 1 := h; omega))
  have hs5 := o5.size
  have hap : ∀ b, Value.ownBlock (.slice (some ⟨g, 0, none⟩) (m + 1) c) = some b → b < W1.heap.size → vV.ownBlock = some b := fun b hb hl => by
    rcases hat with hat | hat
    · rw [← hat]; exact hb
    · rw [hat] at hb
      injection hb with hb
      omega
  refine ⟨hb3, ⟨?_, by omega, (o5.block _ (by omega) (fun e => by omega)).trans h1.res, heap_setCell_at hb3 _, ?_, ?_, ?_, ?_, ?_⟩⟩
  · have h6 : Only (fun b => w.heap.size < b) w (w3.setCell ⟨w.heap.size + 1, 1, none⟩ (.slice (some ⟨g, 0, none⟩) (m + 1) c)) := (h1.on.mono (fun _ h => h.elim)).trans o5
    exact h6.old (fun g h => Or.inl (by omega))
  · exact own_only (own_grew h1.oL (fun b hb e => h1.ap b hb e) hgr) o4 (fun b hb e => by have : b = w.heap.size + 1 := e; omega)
  · exact own_only hown o4 (fun b hb e => by have : b = w.heap.size + 1 := e; omega)
  · intro b hb e
    exact h1.ap b hb (hap b e (h1.oL.lt b hb).2)
  · exact h.ll
  · simp [h.lv]
end Go.Proofs.YtjgbfpemkjpikaaDoor
