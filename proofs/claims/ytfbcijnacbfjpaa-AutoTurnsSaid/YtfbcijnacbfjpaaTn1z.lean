/-
  Expressions that are turned list by list: what holds while some lists are still as they were.
-/
import Derived.Test.YtfbcijnacbfjpaaEn0z
import Derived.Test.YtfbcijnacbfjpaaMchz
import Derived.Test.YtfbcijnacbfjpaaBegz
import Derived.BigRegion
import Derived.Deep.RegionHeld3
namespace Go.Proofs.Ytfbcijnacbfjpaa
open Go.RowKit Go.Maps
set_option linter.unusedVariables false
set_option linter.unusedSimpArgs false
open Rl (Ex)
mutual
/-- how many expressions an expression is. -/
def tsz : Ex → Nat
  | .mk _ _ kids => 1 + tszs kids
def tszs : List Ex → Nat
  | [] => 0
  | e :: es => tsz e + tszs es
end
theorem tszs_app : ∀ (a b : List Ex), tszs (a ++ b) = tszs a + tszs b
  | [], b => by simp [tszs]
  | e :: a, b => by simp [tszs, tszs_app a b]; omega
theorem tszs_rev : ∀ (a : List Ex), tszs a.reverse = tszs a
  | [] => rfl
  | e :: a => by rw [List.reverse_cons, tszs_app, tszs_rev a]; simp [tszs]; omega
theorem tsz_pos (e : Ex) : 1 ≤ tsz e := by cases e; simp [tsz]
/-- a list that lies somewhere: block, place, what it is. -/
abbrev Lst := Nat × Nat × List Ex
def wts : List Lst → Nat
  | [] => 0
  | r :: rs => tszs r.2.2 + wts rs
theorem wts_app : ∀ (a b : List Lst), wts (a ++ b) = wts a + wts b
  | [], b => by simp [wts]
  | e :: a, b => by simp [wts, wts_app a b]; omega
/-- kids, in the order that they have the other way round. -/
def kd (op : Int) (kids : List Ex) : List Ex := if op = 2 then kids.reverse else kids
theorem kd_len (op : Int) (kids : List Ex) : (kd op kids).length = kids.length := by unfold kd; split <;> simp
theorem kd_tszs (op : Int) (kids : List Ex) : tszs (kd op kids) = tszs kids := by unfold kd; split; exact tszs_rev _; rfl
theorem turn_mk (op set : Int) (kids : List Ex) : Au.turn (.mk op set kids) = .mk op set (Au.turns (kd op kids)) := by
  unfold kd
  simp only [Au.turn]
  split
  · rw [Au.turns_rev]
  · rfl
def newB (s : Nat) : Nat → Prop := fun b => s ≤ b
/-- whatever world keeps what is done, and has the open lists turned, has all turned. -/
def Prom (s : Nat) (W0 : World) (K : Nat → Nat → Prop) (rows : List Lst) (G : World → Prop) : Prop :=
  ∀ W : World, (∀ b o v, K b o → W0.cell? ⟨b, o, none⟩ = some v → W.cell? ⟨b, o, none⟩ = some v) → (∀ r ∈ rows, Tes W (newB s) (Au.turns r.2.2) r.1 r.2.1) → G W
def Tg (W : World) (b : Nat) : Prop := ∃ cs, W.heap[b]? = some (.cells cs 49 (0, 0))
structure Tinv (w W : World) (G : World → Prop) (K : Nat → Nat → Prop) (rows : List Lst) : Prop where
  on : Only (fun _ => False) w W
  pr : Prom w.heap.size W K rows G
  kk : ∀ x o, K x o → w.heap.size ≤ x ∧ Tg W x ∧ ∀ r ∈ rows, r.1 = x → o < r.2.1
  ro : ∀ r ∈ rows, w.heap.size ≤ r.1 ∧ Tg W r.1 ∧ Tes W (fun b => b < w.heap.size) r.2.2 r.1 r.2.1
  nd : (rows.map (·.1)).Nodup
theorem cell_tg {W W' : World} {b o : Nat} (h : W'.heap[b]? = W.heap[b]?) : W'.cell? ⟨b, o, none⟩ = W.cell? ⟨b, o, none⟩ := World.cell?_of_block (a := ⟨b, o, none⟩) h
theorem Tinv.keep {w W W' : World} {G : World → Prop} {K : Nat → Nat → Prop} {rows : List Lst} (h : Tinv w W G K rows) (ho : Only (fun _ => False) w W') (hk : ∀ x, Tg W x → W'.heap[x]? = W.heap[x]?) : Tinv w W' G K rows := by
  have hT : ∀ x, Tg W x → Tg W' x := fun x ⟨cs, hx⟩ => ⟨cs, (hk x ⟨cs, hx⟩).trans hx⟩
  refine ⟨ho, ?_, fun x o hx => ?_, fun r hr => ?_, h.nd⟩
  · intro W2 h1 h2
    refine h.pr W2 (fun b o v hb hv => h1 b o v hb ?_) h2
    rw [cell_tg (hk b (h.kk b o hb).2.1)]
    exact hv
  · obtain ⟨a, b, c⟩ := h.kk x o hx
    exact ⟨a, hT x b, c⟩
  · obtain ⟨a, b, c⟩ := h.ro r hr
    refine ⟨a, hT _ b, ?_⟩
    have key : ∀ (es : List Ex) (off : Nat), Tes W (fun b => b < w.heap.size) es r.1 off → Tes W' (fun b => b < w.heap.size) es r.1 off := by
      intro es
      induction es with
      | nil => intro off _; unfold Tes; trivial
      | cons e es ih =>
        intro off ht
        unfold Tes at ht ⊢
        obtain ⟨⟨o, s, k, h0, h1, h2, h3⟩, h4⟩ := ht
        have hc := fun o => cell_tg (o := o) (hk r.1 b)
        refine ⟨⟨o, s, k, (hc _).trans h0, (hc _).trans h1, (hc _).trans h2, Te.keep (fun b hb o v hv => ?_) (fun _ h => h) e _ h3⟩, ih _ h4⟩
        have e1 := h.on.block b hb (fun h => h)
        have e2 := ho.block b hb (fun h => h)
        exact (cell_tg (e2.trans e1.symm)).trans hv
    exact key _ _ c
theorem Tinv.perm {w W : World} {G : World → Prop} {K : Nat → Nat → Prop} {rows rows' : List Lst} (h : Tinv w W G K rows) (hm : ∀ r, r ∈ rows' ↔ r ∈ rows) (hn : (rows'.map (·.1)).Nodup) : Tinv w W G K rows' :=
  ⟨h.on, fun W2 h1 h2 => h.pr W2 h1 (fun r hr => h2 r ((hm r).2 hr)), fun x o hx => ⟨(h.kk x o hx).1, (h.kk x o hx).2.1, fun r hr => (h.kk x o hx).2.2 r ((hm r).1 hr)⟩, fun r hr => h.ro r ((hm r).1 hr), hn⟩
theorem Tinv.done {w W : World} {G : World → Prop} {K : Nat → Nat → Prop} {rows : List Lst} {b off : Nat} (h : Tinv w W G K ((b, off, []) :: rows)) : Tinv w W G K rows := by
  refine ⟨h.on, fun W2 h1 h2 => h.pr W2 h1 (fun r hr => ?_), fun x o hx => ⟨(h.kk x o hx).1, (h.kk x o hx).2.1, fun r hr => (h.kk x o hx).2.2 r (by simp [hr])⟩, fun r hr => h.ro r (by simp [hr]), ?_⟩
  · rcases List.mem_cons.1 hr with rfl | hr
    · simp only [Au.turns]; unfold Tes; trivial
    · exact h2 r hr
  · have := h.nd
    simp only [List.map_cons] at this
    exact (List.nodup_cons.1 this).2
/-- one expression more is done: its kids, turned, are a list of their own. -/
theorem Tinv.step {w W W2 : World} {G : World → Prop} {K : Nat → Nat → Prop} {rows kr : List Lst} {b off : Nat} {op set : Int} {kids es : List Ex} {cs : Array Value} {a' : Option Addr} (h : Tinv w W G K ((b, off, .mk op set kids :: es) :: rows))
    (hb : W.heap[b]? = some (.cells cs 49 (0, 0))) (h2 : W2.heap[b]? = some (.cells (cs.setIfInBounds (off + 2) (.slice a' kids.length kids.length)) 49 (0, 0))) (ho : Only (fun _ => False) w W2) (hx : ∀ x, x ≠ b → W2.heap[x]? = W.heap[x]?)
    (hkr : (kids = [] ∧ kr = []) ∨ (kids ≠ [] ∧ ∃ b', a' = some ⟨b', 0, none⟩ ∧ kr = [(b', 0, kd op kids)] ∧ w.heap.size ≤ b' ∧ Tg W b' ∧ Tes W (fun b => b < w.heap.size) (kd op kids) b' 0 ∧ b' ≠ b ∧ (∀ r ∈ rows, r.1 ≠ b') ∧ ∀ o, ¬ K b' o)) :
    Tinv w W2 G (fun x o => K x o ∨ (x = b ∧ off ≤ o ∧ o < off + 3)) ((b, off + 3, es) :: (kr ++ rows)) := by
  have hnd := h.nd
  simp only [List.map_cons] at hnd
  obtain ⟨nd1, nd2⟩ := List.nodup_cons.1 hnd
  have hne : ∀ r ∈ rows, r.1 ≠ b := fun r hr e => nd1 (List.mem_map.2 ⟨r, hr, e⟩)
  obtain ⟨r1, r2, r3⟩ := h.ro (b, off, .mk op set kids :: es) (by simp)
  simp only at r1 r2 r3
  unfold Tes at r3
  obtain ⟨⟨o', s', k', c0, c1, c2, hTe⟩, hTs⟩ := r3
  obtain ⟨a0, cap0, hv, hs0, hs1, hlc, hlm, _⟩ := hTe.kids
  simp only [Value.agg.injEq, Array.mk.injEq, List.cons.injEq, and_true] at hv
  obtain ⟨rfl, rfl, rfl⟩ := hv
  have hTg : ∀ x, Tg W x → Tg W2 x := fun x ⟨cs', hx'⟩ => by
    by_cases e : x = b
    · subst e; exact ⟨_, h2⟩
    · exact ⟨cs', (hx x e).trans hx'⟩
  have cellb : ∀ o, W.cell? ⟨b, o, none⟩ = cs[o]? := fun o => cell_of_row _ _ _ _ _ _ hb
  have cellb2 : ∀ o, W2.cell? ⟨b, o, none⟩ = (cs.setIfInBounds (off + 2) (.slice a' kids.length kids.length))[o]? := fun o => cell_of_row _ _ _ _ _ _ h2
  have hin : off + 2 < cs.size := by
    rw [cellb] at c2
    exact (Array.getElem?_eq_some_iff.1 c2).1
  have same : ∀ o, o ≠ off + 2 → W2.cell? ⟨b, o, none⟩ = W.cell? ⟨b, o, none⟩ := fun o hn => by
    rw [cellb2, cellb, Array.getElem?_setIfInBounds_ne (by omega)]
  have old : ∀ x, x < w.heap.size → ∀ o v, W.cell? ⟨x, o, none⟩ = some v → W2.cell? ⟨x, o, none⟩ = some v := fun x hl o v hv => by
    have e1 := h.on.block x hl (fun h => h)
    have e2 := ho.block x hl (fun h => h)
    exact (cell_tg (e2.trans e1.symm)).trans hv
  have tes : ∀ (x : Nat), x ≠ b → ∀ (l : List Ex) (o : Nat), Tes W (fun b => b < w.heap.size) l x o → Tes W2 (fun b => b < w.heap.size) l x o := by
    intro x hn l
    induction l with
    | nil => intro o _; unfold Tes; trivial
    | cons e l ih =>
      intro o ht
      unfold Tes at ht ⊢
      obtain ⟨⟨o', s, k, h0, h1, h2, h3⟩, h4⟩ := ht
      have hc := fun o => cell_tg (o := o) (hx x hn)
      exact ⟨⟨o', s, k, (hc _).trans h0, (hc _).trans h1, (hc _).trans h2, Te.keep (fun b hb o v hv => old b hb o v hv) (fun _ h => h) e _ h3⟩, ih _ h4⟩
  have tesb : ∀ (l : List Ex) (o : Nat), off + 3 ≤ o → Tes W (fun b => b < w.heap.size) l b o → Tes W2 (fun b => b < w.heap.size) l b o := by
    intro l
    induction l with
    | nil => intro o _ _; unfold Tes; trivial
    | cons e l ih =>
      intro o hof ht
      unfold Tes at ht ⊢
      obtain ⟨⟨o', s, k, h0, h1, h2, h3⟩, h4⟩ := ht
      exact ⟨⟨o', s, k, (same _ (by omega)).trans h0, (same _ (by omega)).trans h1, (same _ (by omega)).trans h2, Te.keep (fun b hb o v hv => old b hb o v hv) (fun _ h => h) e _ h3⟩, ih _ (by omega) h4⟩
  have kok : ∀ x o, K x o → (x = b → o < off) ∧ ∀ r ∈ kr ++ rows, r.1 = x → o < r.2.1 := fun x o hx' => by
    have hh := (h.kk x o hx').2.2
    refine ⟨fun e => hh (b, off, Ex.mk op set kids :: es) (by simp) e.symm, fun r hr e => ?_⟩
    rcases List.mem_append.1 hr with hr | hr
    · rcases hkr with ⟨_, rfl⟩ | ⟨_, b', _, rfl, _, _, _, _, _, hK⟩
      · cases hr
      · simp only [List.mem_singleton] at hr
        subst hr
        simp only at e
        subst e
        exact absurd hx' (hK o)
    · exact hh r (by simp [hr]) e
  refine ⟨ho, ?_, fun x o hx' => ?_, fun r hr => ?_, ?_⟩
  · intro W3 g1 g2
    refine h.pr W3 (fun x o v hxo hv => g1 x o v (Or.inl hxo) ?_) (fun r hr => ?_)
    · by_cases e : x = b
      · subst e
        rw [same o (by have := (kok x o hxo).1 rfl; omega)]
        exact hv
      · rw [cell_tg (hx x e)]
        exact hv
    · rcases List.mem_cons.1 hr with rfl | hr
      · simp only [Au.turns]
        unfold Tes
        refine ⟨⟨.int .u8 op, .int .u32 set, .slice a' kids.length kids.length, g1 b off _ (Or.inr ⟨rfl, by omega, by omega⟩) ((same _ (by omega)).trans c0), g1 b (off + 1) _ (Or.inr ⟨rfl, by omega, by omega⟩) ((same _ (by omega)).trans c1), g1 b (off + 2) _ (Or.inr ⟨rfl, by omega, by omega⟩) ?_, ?_⟩, g2 (b, off + 3, es) (by simp)⟩
        · rw [cellb2, Array.getElem?_setIfInBounds_self_of_lt hin]
        · rw [turn_mk]
          unfold Te
          have hl : (Au.turns (kd op kids)).length = kids.length := by rw [Au.turns_len, kd_len]
          rw [hl]
          refine ⟨a', kids.length, rfl, Nat.le_refl _, hlm, hs0, hs1, fun hn => ?_⟩
          rcases hkr with ⟨rfl, _⟩ | ⟨_, b', rfl, rfl, hbn, _⟩
          · exfalso; apply hn; unfold kd; split <;> simp [Au.turns]
          · exact ⟨b', 0, rfl, hbn, g2 (b', 0, kd op kids) (by simp)⟩
      · exact g2 r (by simp [hr])
  · rcases hx' with hx' | ⟨rfl, e1, e2⟩
    · obtain ⟨k1, k2, _⟩ := h.kk x o hx'
      refine ⟨k1, hTg x k2, fun r hr e => ?_⟩
      rcases List.mem_cons.1 hr with rfl | hr
      · have := (kok x o hx').1 e.symm
        simp only
        omega
      · exact (kok x o hx').2 r hr e
    · refine ⟨r1, ⟨_, h2⟩, fun r hr e => ?_⟩
      rcases List.mem_cons.1 hr with rfl | hr
      · exact e2
      · rcases List.mem_append.1 hr with hr | hr
        · rcases hkr with ⟨_, rfl⟩ | ⟨_, b', _, rfl, _, _, _, hb', _⟩
          · cases hr
          · simp only [List.mem_singleton] at hr
            subst hr
            exact absurd e hb'
        · exact absurd e (hne r hr)
  · rcases List.mem_cons.1 hr with rfl | hr
    · exact ⟨r1, ⟨_, h2⟩, tesb _ _ (Nat.le_refl _) hTs⟩
    · rcases List.mem_append.1 hr with hr | hr
      · rcases hkr with ⟨_, rfl⟩ | ⟨_, b', _, rfl, q1, q2, q3, q4, _⟩
        · cases hr
        · simp only [List.mem_singleton] at hr
          subst hr
          exact ⟨q1, hTg _ q2, tes _ q4 _ _ q3⟩
      · obtain ⟨p1, p2, p3⟩ := h.ro r (by simp [hr])
        exact ⟨p1, hTg _ p2, tes _ (hne r hr) _ _ p3⟩
  · simp only [List.map_cons, List.map_append]
    rw [List.nodup_cons]
    rcases hkr with ⟨_, rfl⟩ | ⟨_, b', _, rfl, _, _, _, hb', hr', _⟩
    · exact ⟨by simpa using nd1, by simpa using nd2⟩
    · simp only [List.map_cons, List.map_nil, List.singleton_append, List.mem_cons, not_or]
      refine ⟨⟨fun e => hb' e.symm, nd1⟩, List.nodup_cons.2 ⟨fun hm => ?_, nd2⟩⟩
      obtain ⟨r, hr, e⟩ := List.mem_map.1 hm
      exact hr' r hr e
theorem Tinv.start {w W : World} {b : Nat} {e : Ex} (ho : Only (fun _ => False) w W) (hb : w.heap.size ≤ b) (ht : Tg W b) (h : Tes W (fun b => b < w.heap.size) [e] b 0) : Tinv w W (fun W' => Tes W' (newB w.heap.size) [Au.turn e] b 0) (fun _ _ => False) [(b, 0, [e])] :=
  ⟨ho, fun W2 _ h2 => by have := h2 (b, 0, [e]) (by simp); simpa [Au.turns] using this, fun x o h => h.elim, fun r hr => by
    simp only [List.mem_singleton] at hr
    subst hr
    exact ⟨hb, ht, h⟩, by simp⟩
theorem Tinv.goal {w W : World} {G : World → Prop} {K : Nat → Nat → Prop} (h : Tinv w W G K []) : G W := h.pr W (fun _ _ _ _ hv => hv) (fun r hr => by cases hr)
end Go.Proofs.Ytfbcijnacbfjpaa
namespace Go.Proofs.Ytfbcijnacbfjpaa
open Go.RowKit Go.Maps
set_option linter.unusedVariables false
set_option linter.unusedSimpArgs false
open Rl (Ex)
/-- an expression's three cells. -/
structure X3 where
  op : Int
  set : Int
  a : Option Addr
  m : Nat
  c : Nat
def T3 (cs : Array Value) (n : Nat) (t : Nat → X3) : Prop := cs.size = n * 3 ∧ ∀ j, j < n → cs[j * 3]? = some (.int .u8 (t j).op) ∧ cs[j * 3 + 1]? = some (.int .u32 (t j).set) ∧ cs[j * 3 + 2]? = some (.slice (t j).a (t j).m (t j).c)
/-- so many are swapped at both ends. -/
def swp (n : Nat) (t : Nat → X3) (k : Nat) : Nat → X3 := fun j => if j < k ∨ n ≤ j + k then t (n - 1 - j) else t j
theorem T3.congr {cs : Array Value} {n : Nat} {t u : Nat → X3} (h : T3 cs n t) (e : ∀ j, j < n → t j = u j) : T3 cs n u := ⟨h.1, fun j hj => by rw [← e j hj]; exact h.2 j hj⟩
def x3L (x : X3) : List Value := [.int .u8 x.op, .int .u32 x.set, .slice x.a x.m x.c]
theorem T3.put {cs : Array Value} {n : Nat} {t : Nat → X3} (h : T3 cs n t) (k : Nat) (hk : k < n) (x : X3) : T3 (putL (x3L x) cs (k * 3)) n (fun j => if j = k then x else t j) := by
  have hl : (x3L x).length = 3 := rfl
  refine ⟨by rw [putL_size]; exact h.1, fun j hj => ?_⟩
  have key : ∀ d, d < 3 → (putL (x3L x) cs (k * 3))[j * 3 + d]? = if j = k then (x3L x)[d]? else cs[j * 3 + d]? := fun d hd => by
    rw [putL_at _ _ _ _ (by rw [h.1, hl]; omega), hl]
    by_cases e : j = k
    · subst e
      rw [if_pos (by omega), if_pos rfl, show j * 3 + d - j * 3 = d by omega]
    · rw [if_neg (by omega), if_neg e]
  have k0 := key 0 (by omega)
  rw [Nat.add_zero] at k0
  rw [k0, key 1 (by omega), key 2 (by omega)]
  by_cases e : j = k
  · subst e
    simp [x3L]
  · simp only [if_neg e]
    exact h.2 j hj
theorem T3.swap {cs : Array Value} {n k l : Nat} {t : Nat → X3} {x y : X3} (h : T3 cs n (swp n t k)) (hkl : k + l + 1 = n) (hlt : k < l) (hx : swp n t k k = x) (hy : swp n t k l = y) : T3 (putL (x3L x) (putL (x3L y) cs (k * 3)) (l * 3)) n (swp n t (k + 1)) := by
  refine ((h.put k (by omega) y).put l (by omega) x).congr (fun j hj => ?_)
  have ey : y = t l := by rw [← hy]; unfold swp; rw [if_neg (by omega)]
  have ex : x = t k := by rw [← hx]; unfold swp; rw [if_neg (by omega)]
  by_cases e1 : j = l
  · subst e1
    rw [if_pos rfl, ex]
    unfold swp
    rw [if_pos (by omega), show n - 1 - j = k by omega]
  · rw [if_neg e1]
    by_cases e2 : j = k
    · subst e2
      rw [if_pos rfl, ey]
      unfold swp
      rw [if_pos (by omega), show n - 1 - j = l by omega]
    · rw [if_neg e2]
      unfold swp
      by_cases e3 : j < k ∨ n ≤ j + k
      · rw [if_pos e3, if_pos (by omega)]
      · rw [if_neg e3, if_neg (by omega)]
theorem swap_heap {W : World} {b : Nat} {cs : Array Value} (h : W.heap[b]? = some (.cells cs 49 (0, 0))) (o p : Nat) (u v : List Value) : ((W.setCells b o u).setCells b p v).drew.heap[b]? = some (.cells (putL v (putL u cs o) p) 49 (0, 0)) := heap_setCells v p _ _ (heap_setCells u o W cs h)
theorem swap_only {w W : World} {b : Nat} (h : Only (· = b) w W) (o p : Nat) (u v : List Value) : Only (· = b) w ((W.setCells b o u).setCells b p v).drew := (Only.setCells (S := (· = b)) (show b = b from rfl) v p _ (Only.setCells (S := (· = b)) (show b = b from rfl) u o _ h)).drew
set_option maxRecDepth 100000 in
set_option maxHeartbeats 4000000 in
theorem reverse_any (b n : Nat) (t : Nat → X3) (cs : Array Value) (w : World) (hb : w.heap[b]? = some (.cells cs 49 (0, 0))) (hT : T3 cs n t) (hn : 1 ≤ n) (hm : n ≤ 1000000) :
    Calls Try.prog 49 #[.slice (some ⟨b, 0, none⟩) n n] w fun e w' => e = .returned (.tuple #[]) ∧ (∃ cs', w'.heap[b]? = some (.cells cs' 49 (0, 0)) ∧ T3 cs' n (fun j => t (n - 1 - j))) ∧ Only (· = b) w w' := by
  have HB : Hid (w.heap[b]? = some (.cells cs 49 (0, 0))) := hb
  have HT : Hid (T3 cs n t) := hT
  clear hb hT
  go_enter Try.func49, Try.ntmps49
  go_wp2_with fail
  go_loopg [2, 3] n (fun gh v2 v3 wr => ∃ (k l : Nat) (cs' : Array Value) (W : World), W = wr ∧ gh = n - k ∧ k + l + 1 = n ∧ v2 = .int .i64 (k : Int) ∧ v3 = .int .i64 (l : Int) ∧ k ≤ l + 1 ∧ W.heap[b]? = some (.cells cs' 49 (0, 0)) ∧ T3 cs' n (swp n t k) ∧ Only (· = b) w W)
  case atStart => exact ⟨0, n - 1, cs, _, rfl, rfl, by omega, rfl, by rw [show ((n - 1 : Nat) : Int) = (n : Int) - 1 by omega], by omega, HB.out, HT.out.congr (fun j hj => by unfold swp; rw [if_neg (by omega)]), Only.refl _ _⟩
  case round =>
    obtain ⟨k, l, cs', W, hW, rfl, hkl, rfl, rfl, hkl2, hbW, hTW, hoW⟩ := hrel
    subst hW
    have HBW : Hid (W.heap[b]? = some (.cells cs' 49 (0, 0))) := hbW
    have HTW : Hid (T3 cs' n (swp n t k)) := hTW
    have HOW : Hid (Only (· = b) w W) := hoW
    have hlb : b < W.heap.size := (Array.getElem?_eq_some_iff.1 hbW).1
    clear hbW hTW hoW
    by_cases hlt : k < l
    · have t1 : (k : Int) < (l : Int) := by omega
      have hk1 := HTW.out.2 k (by omega)
      have hl1 := HTW.out.2 l (by omega)
      obtain ⟨x, hx⟩ : ∃ x, swp n t k k = x := ⟨_, rfl⟩
      obtain ⟨y, hy⟩ : ∃ y, swp n t k l = y := ⟨_, rfl⟩
      rw [hx] at hk1
      rw [hy] at hl1
      obtain ⟨xo, xs, xa, xm, xc⟩ := x
      obtain ⟨yo, ys, ya, ym, yc⟩ := y
      have HX : Hid (swp n t k k = ⟨xo, xs, xa, xm, xc⟩) := hx
      have HY : Hid (swp n t k l = ⟨yo, ys, ya, ym, yc⟩) := hy
      clear hx hy
      have e0 := (cell_of_row _ _ _ _ _ _ HBW.out).trans hk1.1
      have e1 := (cell_of_row _ _ _ _ _ _ HBW.out).trans hk1.2.1
      have e2 := (cell_of_row _ _ _ _ _ _ HBW.out).trans hk1.2.2
      have f0 := (cell_of_row _ _ _ _ _ _ HBW.out).trans hl1.1
      have f1 := (cell_of_row _ _ _ _ _ _ HBW.out).trans hl1.2.1
      have f2 := (cell_of_row _ _ _ _ _ _ HBW.out).trans hl1.2.2
      simp only at e0 e1 e2 f0 f1 f2
      have kn : (k : Int) < (n : Int) := by omega
      have ln : (l : Int) < (n : Int) := by omega
      have z0 := fz_blk HBW.out (k * 3)
      have z1 := fz_blk HBW.out (k * 3 + 1)
      have z2 := fz_blk HBW.out (k * 3 + 2)
      have z3 := fz_blk HBW.out (l * 3)
      have z4 := fz_blk HBW.out (l * 3 + 1)
      have z5 := fz_blk HBW.out (l * 3 + 2)
      clear hk1 hl1
      go_wp2_with fail
      go_region
      go_wp2_with fail
      go_roundg (n - (k + 1))
      case measure => omega
      case rel => exact ⟨k + 1, l - 1, _, _, rfl, rfl, by omega, by go_num, by rw [show ((l - 1 : Nat) : Int) = (l : Int) - 1 by omega], by omega, swap_heap HBW.out (k * 3) (l * 3) (x3L ⟨yo, ys, ya, ym, yc⟩) (x3L ⟨xo, xs, xa, xm, xc⟩), HTW.out.swap hkl hlt HX.out HY.out, swap_only HOW.out (k * 3) (l * 3) (x3L ⟨yo, ys, ya, ym, yc⟩) (x3L ⟨xo, xs, xa, xm, xc⟩)⟩
    · have t2 : decide ((k : Int) < (l : Int)) = false := decide_eq_false (by omega)
      go_wp2_with fail
      go_end0
      refine ⟨rfl, ⟨cs', HBW.out, HTW.out.congr (fun j hj => ?_)⟩, HOW.out⟩
      unfold swp
      by_cases e : j < k ∨ n ≤ j + k
      · rw [if_pos e]
      · rw [if_neg e, show n - 1 - j = j by omega]
end Go.Proofs.Ytfbcijnacbfjpaa
