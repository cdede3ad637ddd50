/-
  The open frames, as a list in memory.
-/
import Derived.Test.YtfbcijnacbfjpaaMchz
import Derived.Maps.AppendAt
import Derived.Deep.RegionHeld3
import Derived.Test.YtfbcijnacbfjpaaLines2z
namespace Go.Proofs.Ytfbcijnacbfjpaa
open Go.RowKit Go.Maps
set_option linter.unusedVariables false
set_option linter.unusedSimpArgs false
open Rl (Ex)
/-- a frame, and where its kids lie. -/
structure Fm where
  f : Au.Fr
  a : Option Addr
  c : Nat
def fmA (m : Fm) : Array Value := fmC m.f.op m.a m.f.left.length m.c m.f.nd
def flat : List Fm → List Value
  | [] => []
  | m :: L => (fmA m).toList ++ flat L
theorem fmA_size (m : Fm) : (fmA m).size = 11 := rfl
theorem flat_len : ∀ (L : List Fm), (flat L).length = L.length * 11
  | [] => rfl
  | m :: L => by
    rw [flat, List.length_append, flat_len L, Array.length_toList, fmA_size, List.length_cons]
    omega
theorem flat_snoc : ∀ (L : List Fm) (m : Fm), flat (L ++ [m]) = flat L ++ (fmA m).toList
  | [], m => by simp [flat]
  | x :: L, m => by rw [List.cons_append, flat, flat_snoc L m, flat, List.append_assoc]
theorem flat_at : ∀ (L : List Fm) (i k : Nat) (m : Fm), L[i]? = some m → k < 11 → (flat L)[11 * i + k]? = (fmA m)[k]?
  | x :: L, 0, k, m, h, hk => by
    injection h with h
    subst h
    rw [flat, Nat.mul_zero, Nat.zero_add, List.getElem?_append_left (by rw [Array.length_toList, fmA_size]; exact hk), Array.getElem?_toList]
  | x :: L, i + 1, k, m, h, hk => by
    rw [flat, List.getElem?_append_right (by rw [Array.length_toList, fmA_size]; omega), Array.length_toList, fmA_size, show 11 * (i + 1) + k - 11 = 11 * i + k by omega]
    exact flat_at L i k m (by simpa using h) hk
/-- the open frames: the first one, .., the last one. -/
def Opn (w : World) (base ob cap : Nat) (cur : Array Value) (L : List Fm) : Prop := base ≤ ob ∧ w.heap[ob]? = some (.cells cur 136 (0, 0)) ∧ L.length ≤ cap ∧ cap ≤ maxLen ∧ cur.size = cap * 11 ∧ ∀ i m, L[i]? = some m → HasF cur (11 * i) m.f.op m.a m.f.left.length m.c m.f.nd
theorem Opn.row {w : World} {base ob cap : Nat} {cur : Array Value} {L : List Fm} (h : Opn w base ob cap cur L) : w.ownsRow base 136 11 (.slice (some ⟨ob, 0, none⟩) L.length cap) L.length (flat L) := by
  obtain ⟨h1, h2, h3, h4, h5, h6⟩ := h
  refine ⟨flat_len L, Or.inr ⟨ob, cap, cur, rfl, h1, h2, h3, h4, h5, ?_⟩⟩
  apply List.ext_getElem?
  intro j
  rw [List.getElem?_take]
  by_cases hj : j < L.length * 11
  · rw [if_pos hj]
    have hi : j / 11 < L.length := by omega
    have e : j = 11 * (j / 11) + j % 11 := by omega
    have hm : L[j / 11]? = some L[j / 11] := List.getElem?_eq_getElem hi
    rw [e, flat_at L _ _ _ hm (by omega), Array.getElem?_toList]
    exact h6 _ _ hm (j % 11) (by omega)
  · rw [if_neg hj, List.getElem?_eq_none (by rw [flat_len]; omega)]
theorem Opn.of_row {w : World} {base : Nat} {v : Value} {L : List Fm} (h : w.ownsRow base 136 11 v L.length (flat L)) (hL : 0 < L.length) : ∃ ob cap cur, v = .slice (some ⟨ob, 0, none⟩) L.length cap ∧ Opn w base ob cap cur L := by
  obtain ⟨_, ⟨_, h0⟩ | ⟨g, cap, cur, rfl, h1, h2, h3, h4, h5, h6⟩⟩ := h
  · omega
  · refine ⟨g, cap, cur, rfl, h1, h2, h3, h4, h5, fun i m hm k hk => ?_⟩
    have hi := (List.getElem?_eq_some_iff.1 hm).1
    have : (cur.toList.take (L.length * 11))[11 * i + k]? = (fmA m)[k]? := by rw [h6]; exact flat_at L i k m hm hk
    rw [List.getElem?_take, if_pos (by omega), Array.getElem?_toList] at this
    exact this
theorem Opn.lt {w : World} {base ob cap : Nat} {cur : Array Value} {L : List Fm} (h : Opn w base ob cap cur L) : ob < w.heap.size := (Array.getElem?_eq_some_iff.1 h.2.1).1
theorem Opn.only {w w' : World} {base ob cap : Nat} {cur : Array Value} {L : List Fm} {P : Nat → Prop} (h : Opn w base ob cap cur L) (ho : Only P w w') (hn : ¬ P ob) : Opn w' base ob cap cur L := ⟨h.1, (ho.block ob h.lt hn).trans h.2.1, h.2.2⟩
theorem Opn.fb {w : World} {base ob cap : Nat} {cur : Array Value} {L : List Fm} (h : Opn w base ob cap cur L) {i : Nat} {m : Fm} (hm : L[i]? = some m) : Fb w ob (11 * i) 136 cur m.f.op m.a m.f.left.length m.c m.f.nd := ⟨h.2.1, h.2.2.2.2.2 i m hm⟩
/-- the last one has turned. -/
theorem Opn.set {w w' : World} {base ob cap : Nat} {cur cur' : Array Value} {L : List Fm} {m m' : Fm} (h : Opn w base ob cap cur (L ++ [m])) (hb : w'.heap[ob]? = some (.cells cur' 136 (0, 0))) (hf : HasF cur' (11 * L.length) m'.f.op m'.a m'.f.left.length m'.c m'.f.nd) (hs : Same cur cur' (11 * L.length)) : Opn w' base ob cap cur' (L ++ [m']) := by
  obtain ⟨h1, h2, h3, h4, h5, h6⟩ := h
  refine ⟨h1, hb, by simpa using h3, h4, by rw [hs.1, h5], fun i x hx => ?_⟩
  by_cases hi : i < L.length
  · rw [List.getElem?_append_left hi] at hx
    have := h6 i x (by rw [List.getElem?_append_left hi]; exact hx)
    intro k hk
    rw [hs.2 (11 * i + k) (by omega)]
    exact this k hk
  · have hl := (List.getElem?_eq_some_iff.1 hx).1
    simp only [List.length_append, List.length_singleton] at hl
    obtain rfl : i = L.length := by omega
    rw [List.getElem?_append_right (Nat.le_refl _), Nat.sub_self] at hx
    injection hx with hx
    subst hx
    exact hf
theorem Opn.pop {w : World} {base ob cap : Nat} {cur : Array Value} {L : List Fm} {m : Fm} (h : Opn w base ob cap cur (L ++ [m])) : Opn w base ob cap cur L := by
  obtain ⟨h1, h2, h3, h4, h5, h6⟩ := h
  refine ⟨h1, h2, by simp at h3; omega, h4, h5, fun i x hx => h6 i x ?_⟩
  rw [List.getElem?_append_left (List.getElem?_eq_some_iff.1 hx).1]
  exact hx
theorem foldl_zip : ∀ (l : List Value) (k : Nat) (cs : Array Value), k + l.length ≤ cs.size → ∀ i, ((l.zipIdx k).foldl (fun cs p => cs.setIfInBounds (0 + p.2) p.1) cs)[i]? = if k ≤ i ∧ i < k + l.length then l[i - k]? else cs[i]?
  | [], k, cs, h, i => by simp; omega
  | x :: l, k, cs, h, i => by
    rw [List.zipIdx_cons, List.foldl_cons, foldl_zip l (k + 1) _ (by simp at h ⊢; omega) i]
    simp only [List.length_cons] at h ⊢
    by_cases h1 : k + 1 ≤ i ∧ i < k + 1 + l.length
    · rw [if_pos h1, if_pos (by omega), show i - k = (i - (k + 1)) + 1 by omega, List.getElem?_cons_succ]
    · rw [if_neg h1, Array.getElem?_setIfInBounds]
      by_cases h2 : k = i
      · subst h2
        simp
        omega
      · rw [if_neg (by omega), if_neg (by omega)]
/-- one value of many cells fills a list of one. -/
theorem fill_one {a : Act} {z X : Array Value} {s n : Nat} (hs : s = n) (hX : X.size = n) (hz : z.size = n) (hn : 0 < n) {x : Operand} (hx : a.eval x = .agg X := by rfl) :
    Instr.fill (fun i => some (i * s, s)) ((Array.range (1 * s)).map ((Value.agg z).cells[· % (Value.agg z).cells.size]!)) (#[(0, x)].map fun p => (p.1, a.eval p.2)).toList = some X := by
  subst hs
  have e : (#[(0, x)].map fun p : Nat × Operand => (p.1, a.eval p.2)).toList = [(0, .agg X)] := by simp [hx]
  rw [e]
  unfold Instr.fill
  simp only
  rw [if_neg (by show ¬ ((decide (X.size ≠ s) || decide (0 * s + X.size > _)) = true); rw [hX]; simp)]
  unfold Instr.fill
  congr 1
  apply Array.ext_getElem?
  intro i
  have := foldl_zip X.toList 0 ((Array.range (1 * s)).map ((Value.agg z).cells[· % (Value.agg z).cells.size]!)) (by rw [Array.length_toList, hX]; simp) i
  rw [Array.length_toList, hX] at this
  show (Array.foldl _ _ X.zipIdx)[i]? = _
  rw [← Array.foldl_toList, Array.toList_zipIdx]
  simp only [Nat.zero_mul]
  refine this.trans ?_
  by_cases hi : i < s
  · rw [if_pos (by omega)]
    simp
  · rw [if_neg (by omega), Array.getElem?_eq_none (by simp; omega), Array.getElem?_eq_none (by rw [hX]; omega)]
theorem info136 : (Try.prog.info? 136).map (fun i => (i.zero, i.size, i.bytes)) = some (some (.agg #[.int .u8 0, .slice none 0 0, .bool false, .int .u64 0, .int .u64 0, .int .u64 0, .int .u64 0, .int .u64 0, .int .u64 0, .int .u64 0, .int .u64 0]), 11, 104) := by kernel_rfl
/-- one more frame. -/
theorem Opn.push {w w' : World} {base ob cap : Nat} {cur : Array Value} {L : List Fm} {m : Fm} {v : Value} (h : w'.ownsRow base 136 11 v (L.length + 1) (flat L ++ (fmA m).toList)) : ∃ ob cap cur, v = .slice (some ⟨ob, 0, none⟩) (L.length + 1) cap ∧ Opn w' base ob cap cur (L ++ [m]) := by
  rw [← flat_snoc] at h
  have e : (L ++ [m]).length = L.length + 1 := by simp
  rw [← e] at h ⊢
  exact Opn.of_row h (by omega)
end Go.Proofs.Ytfbcijnacbfjpaa
namespace Go.Proofs.Ytfbcijnacbfjpaa
open Go.RowKit Go.Maps
set_option linter.unusedVariables false
set_option linter.unusedSimpArgs false
open Rl (Ex)
/-- how part ends. -/
def partP (w : World) (g cl : Nat) (fs : Nat) (vL : Value) (em : Nat) (R : Option (Au.Nd × Au.Pl)) (e : Ending) (w' : World) : Prop :=
  match R with
  | none => e = .returned (.tuple #[.agg zPt, .bool false]) ∧ Only (· = g) w w'
  | some (x, p1) => e = .returned (.tuple #[ptV x, .bool true]) ∧ Plm w' g cl p1 fs vL em ∧ Only (· = g) w w'
/-- what holds at the head of the loop. -/
structure Rnd (w W : World) (F : Nat → Prop) (g cl : Nat) (fs : Nat) (vL : Value) (em : Nat) (D : Nat) (R : Option (Au.Nd × Au.Pl)) (gh : Nat) (L : List Fm) (m : Fm) (ob cap : Nat) (cur : Array Value) (p : Au.Pl) : Prop where
  opn : Opn W (w.heap.size + 1 + 1 + 1) ob cap cur (L ++ [m])
  mc : Au.mach gh (m.f :: (L.map Fm.f).reverse) p = some R
  hg : Au.Hg D (m.f :: (L.map Fm.f).reverse)
  iv : Au.Iv (m.f :: (L.map Fm.f).reverse) p
  pl : Plm W g cl p fs vL em
  lf : ∀ x ∈ L ++ [m], Lf W (fun b => F b ∨ b = w.heap.size + 1 + 1) x.f.left x.a x.c
  rs : W.heap[w.heap.size + 1]? = some (.cells zPt 109 (0, 0))
  on : Only (fun h => h = g ∨ w.heap.size ≤ h) w W
  gl : g < w.heap.size
theorem Ptb.all {w : World} {g : Nat} {me : Bool} {mf ml : Nat} (h : Ptb w g ⟨me, mf, ml⟩) : w.cell? ⟨g, 0, none⟩ = some (.bool me) ∧ w.cell? ⟨g, 1, none⟩ = some (.int .u64 (wd mf 0 : Int)) ∧ w.cell? ⟨g, 2, none⟩ = some (.int .u64 (wd mf 1 : Int)) ∧ w.cell? ⟨g, 3, none⟩ = some (.int .u64 (wd mf 2 : Int)) ∧ w.cell? ⟨g, 4, none⟩ = some (.int .u64 (wd mf 3 : Int)) ∧ w.cell? ⟨g, 5, none⟩ = some (.int .u64 (wd ml 0 : Int)) ∧ w.cell? ⟨g, 6, none⟩ = some (.int .u64 (wd ml 1 : Int)) ∧ w.cell? ⟨g, 7, none⟩ = some (.int .u64 (wd ml 2 : Int)) ∧ w.cell? ⟨g, 8, none⟩ = some (.int .u64 (wd ml 3 : Int)) :=
  ⟨cell_blk h, h.f 0 (by decide), h.f 1 (by decide), h.f 2 (by decide), h.f 3 (by decide), h.l 0 (by decide), h.l 1 (by decide), h.l 2 (by decide), h.l 3 (by decide)⟩
theorem Rnd.fuel {w W : World} {F : Nat → Prop} {g cl : Nat} {fs : Nat} {vL : Value} {em D : Nat} {R : Option (Au.Nd × Au.Pl)} {gh : Nat} {L : List Fm} {m : Fm} {ob cap : Nat} {cur : Array Value} {p : Au.Pl} (h : Rnd w W F g cl fs vL em D R gh L m ob cap cur p) : ∃ n, gh = n + 1 := by
  cases gh with
  | zero => have := h.mc; simp [Au.mach] at this
  | succ n => exact ⟨n, rfl⟩
theorem Rnd.done {w W : World} {F : Nat → Prop} {g cl : Nat} {fs : Nat} {vL : Value} {em D : Nat} {R : Option (Au.Nd × Au.Pl)} {n : Nat} {op : Int} {nd : Au.Nd} {a : Option Addr} {c : Nat} {ob cap : Nat} {cur : Array Value} {p : Au.Pl} (h : Rnd w W F g cl fs vL em D R (n + 1) [] ⟨⟨op, [], nd⟩, a, c⟩ ob cap cur p) : R = some (nd, Au.fin ⟨op, [], nd⟩ p) := by
  have := h.mc
  simp only [Au.mach, List.map_nil, List.reverse_nil, Option.some.injEq] at this
  exact this.symm
theorem rev_snoc (L : List Fm) (q : Fm) : ((L ++ [q]).map Fm.f).reverse = q.f :: (L.map Fm.f).reverse := by simp
theorem Rnd.kp {w W : World} {F : Nat → Prop} {g cl : Nat} {fs : Nat} {vL : Value} {em D : Nat} {R : Option (Au.Nd × Au.Pl)} {n : Nat} {L : List Fm} {m : Fm} {ob cap : Nat} {cur : Array Value} {p : Au.Pl} (h : Rnd w W F g cl fs vL em D R n L m ob cap cur p) (hF : ∀ b, F b → b ≠ g ∧ b < w.heap.size) {w' : World} {P : Nat → Prop} (ho : Only P W w') (hP : ∀ b, P b → b = g ∨ w.heap.size + 1 + 1 + 1 ≤ b) : Kp W w' (fun b => F b ∨ b = w.heap.size + 1 + 1) ∧ w'.heap[w.heap.size + 1]? = some (.cells zPt 109 (0, 0)) ∧ Only (fun h => h = g ∨ w.heap.size ≤ h) w w' := by
  have hg := h.gl
  refine ⟨Kp.only ho (fun b hb hp => ?_), ?_, h.on.trans (ho.mono (fun b hb => by have := hP b hb; omega))⟩
  · have h1 := hP b hp
    rcases hb with hb | hb
    · have := hF b hb; omega
    · omega
  · refine (ho.block _ (Array.getElem?_eq_some_iff.1 h.rs).1 (fun hp => ?_)).trans h.rs
    have := hP _ hp
    omega
theorem Rnd.take {w W : World} {F : Nat → Prop} {g cl : Nat} {fs : Nat} {vL : Value} {em D : Nat} {R : Option (Au.Nd × Au.Pl)} {w' : World} {n : Nat} {L : List Fm} {q : Fm} {op : Int} {nd : Au.Nd} {a : Option Addr} {c : Nat} {ob cap : Nat} {cur cur' : Array Value} {p : Au.Pl}
    (h : Rnd w W F g cl fs vL em D R (n + 1) (L ++ [q]) ⟨⟨op, [], nd⟩, a, c⟩ ob cap cur p) (hF : ∀ b, F b → b ≠ g ∧ b < w.heap.size)
    (hb : Fb w' ob (11 * L.length) 136 cur' q.f.op q.a q.f.left.length q.c (Au.tkN q.f.op q.f.nd nd)) (hs : Same cur cur' (11 * L.length)) (hP : Plm w' g cl (Au.tkP q.f.op q.f.nd nd (Au.fin ⟨op, [], nd⟩ p)) fs vL em) (P : Nat → Prop) (ho : Only P W w') (hPP : ∀ b, P b → b = g ∨ w.heap.size + 1 + 1 + 1 ≤ b) :
    Rnd w w' F g cl fs vL em D R n L ⟨⟨q.f.op, q.f.left, Au.tkN q.f.op q.f.nd nd⟩, q.a, q.c⟩ ob cap cur' (Au.tkP q.f.op q.f.nd nd (Au.fin ⟨op, [], nd⟩ p)) := by
  obtain ⟨hk, hrs, hon⟩ := h.kp hF ho hPP
  obtain ⟨h1, h2, h3, h4, h5, h6, h7, h8, h9⟩ := h
  rw [rev_snoc] at h2 h3 h4
  refine ⟨?_, ?_, h3.pop _, h4.fin.pop, hP, ?_, hrs, hon, h9⟩
  · exact Opn.set (m := q) (m' := ⟨⟨q.f.op, q.f.left, Au.tkN q.f.op q.f.nd nd⟩, q.a, q.c⟩) h1.pop hb.1 hb.2 hs
  · simp only [Au.mach] at h2
    exact h2
  · intro x hx
    rcases List.mem_append.1 hx with hx | hx
    · exact (h6 x (by simp [hx])).keep hk (fun _ h => h)
    · simp at hx
      subst hx
      exact (h6 q (by simp)).keep hk (fun _ h => h)
theorem Rnd.none {w W : World} {F : Nat → Prop} {g cl : Nat} {fs : Nat} {vL : Value} {em D : Nat} {R : Option (Au.Nd × Au.Pl)} {n : Nat} {L : List Fm} {op : Int} {nd : Au.Nd} {k : Ex} {ks : List Ex} {a : Option Addr} {c : Nat} {ob cap : Nat} {cur : Array Value} {p : Au.Pl} (h : Rnd w W F g cl fs vL em D R (n + 1) L ⟨⟨op, k :: ks, nd⟩, a, c⟩ ob cap cur p) (hb : Au.begin' k p = none) : R = none := by
  have := h.mc
  simp only [Au.mach, hb, Option.some.injEq] at this
  exact this.symm
/-- the kids that are left behind the first. -/
theorem Lf.tail {w : World} {F : Nat → Prop} {k : Ex} {ks : List Ex} {b off c : Nat} (h : Lf w F (k :: ks) (some ⟨b, off, none⟩) c) : Lf w F ks (some ⟨b, off + 3, none⟩) (c - 1) := by
  obtain ⟨h1, h2, h3⟩ := h
  simp only [List.length_cons] at h1 h2
  refine ⟨by omega, by omega, fun _ => ?_⟩
  obtain ⟨b', off', e, hF, ht⟩ := h3 (by simp)
  injection e with e
  injection e with e1 e2
  subst e1 e2
  unfold Tes at ht
  exact ⟨_, _, rfl, hF, ht.2⟩
theorem Rnd.push {w W : World} {F : Nat → Prop} {g cl : Nat} {fs : Nat} {vL : Value} {em D : Nat} {R : Option (Au.Nd × Au.Pl)} {w' : World} {n : Nat} {L : List Fm} {op : Int} {nd : Au.Nd} {k : Ex} {ks : List Ex} {a a' : Option Addr} {c c' : Nat} {ob cap : Nat} {cur : Array Value} {p p2 : Au.Pl} {f : Au.Fr} {fa : Option Addr} {fc ob' cap' : Nat} {cur' : Array Value}
    (h : Rnd w W F g cl fs vL em D R (n + 1) L ⟨⟨op, k :: ks, nd⟩, a, c⟩ ob cap cur p) (hF : ∀ b, F b → b ≠ g ∧ b < w.heap.size) (hb : Au.begin' k p = some (f, p2))
    (hO : Opn w' (w.heap.size + 1 + 1 + 1) ob' cap' cur' ((L ++ [⟨⟨op, ks, nd⟩, a', c'⟩]) ++ [⟨f, fa, fc⟩])) (hP : Plm w' g cl p2 fs vL em) (hl : Lf W (fun b => F b ∨ b = w.heap.size + 1 + 1) ks a' c') (hl2 : Lf W (fun b => F b ∨ b = w.heap.size + 1 + 1) f.left fa fc) (P : Nat → Prop) (ho : Only P W w') (hPP : ∀ b, P b → b = g ∨ w.heap.size + 1 + 1 + 1 ≤ b) :
    Rnd w w' F g cl fs vL em D R n (L ++ [⟨⟨op, ks, nd⟩, a', c'⟩]) ⟨f, fa, fc⟩ ob' cap' cur' p2 := by
  obtain ⟨hk, hrs, hon⟩ := h.kp hF ho hPP
  obtain ⟨h1, h2, h3, h4, h5, h6, h7, h8, h9⟩ := h
  refine ⟨hO, ?_, ?_, ?_, hP, ?_, hrs, hon, h9⟩
  · rw [rev_snoc]
    simp only [Au.mach, hb] at h2
    exact h2
  · rw [rev_snoc]
    exact h3.push hb
  · rw [rev_snoc]
    exact h4.push hb
  · intro x hx
    rcases List.mem_append.1 hx with hx | hx
    · rcases List.mem_append.1 hx with hx | hx
      · exact (h6 x (by simp [hx])).keep hk (fun _ h => h)
      · simp at hx
        subst hx
        exact hl.keep hk (fun _ h => h)
    · simp at hx
      subst hx
      exact hl2.keep hk (fun _ h => h)
theorem wpList_load_midA {P : Program} {ops : Array Oper} {rest : List Oper} {op : Oper} {a : Act} {w : World} {Q : Exit → Act → World → Prop} (hgd : op.guard = none) (ty : TypeId) (x : Operand) (ho : op.op = .load ty x)
    (b o : Nat) (hx : a.eval x = .pointer (some ⟨b, o, none⟩)) (X : Array Value) (d : TypeDesc) (hc : ∀ j v, X[j]? = some v → w.cell? ⟨b, o + j, none⟩ = some v)
    (hu : P.underlying ty = some d) (hd : d.isRow = true) (hi : (P.info? ty).map (·.size) = some X.size)
    (h : wpList P ops Q rest (a.put op.dst (.agg X)) w) : wpList P ops Q (op :: rest) a w := by
  refine wpList_load_mid hgd ty x ho b o hx X.toList d (fun j v hv => hc j v (by simpa using hv)) hu hd (by rw [hi, Array.length_toList]) ?_
  rw [Array.toArray_toList]
  exact h
set_option maxRecDepth 100000 in
set_option maxHeartbeats 8000000 in
theorem part_any (F : Nat → Prop) (g cl : Nat) (p : Au.Pl) (fs : Nat) (vL : Value) (em : Nat) (ex : Ex) (v : Value) (w : World) (hP : Plm w g cl p fs vL em) (hp : Au.OkP p) (hp2 : p.sets.length ≤ 200) (hcl : cl ≤ 24) (he : Te w F ex v) (hF : ∀ b, F b → b ≠ g ∧ b < w.heap.size) (hD : Au.dp ex ≤ 1000000) :
    Calls Try.prog 41 #[.pointer (some ⟨g, 0, none⟩), v] w (partP w g cl fs vL em (Au.node ex p)) := by
  have hlt := hP.lt
  obtain ⟨M, hM⟩ := Au.mach_all ex p
  obtain ⟨op, set, a, n, c, rfl⟩ : ∃ op set a n c, v = .agg #[.int .u8 op, .int .u32 set, .slice a n c] := by
    obtain ⟨o, s, kids⟩ := ex
    obtain ⟨a, cap, rfl, _⟩ := he.kids
    exact ⟨o, s, a, _, cap, rfl⟩
  have HR : Hid (Rnd w ((((w.alloc (.cells #[.int .u8 op, .int .u32 set, .slice a n c] 49)).alloc (.cells zPt 109)).alloc (.cells #[.int .u8 op, .int .u32 set, .slice a n c] 49)).alloc (.cells #[.int .u8 3, .slice (some ⟨w.heap.size + 1 + 1, 0, none⟩) 1 1, .bool false, .int .u64 0, .int .u64 0, .int .u64 0, .int .u64 0, .int .u64 0, .int .u64 0, .int .u64 0, .int .u64 0] 136)) F g cl fs vL em 1000002 (Au.node ex p) M [] ⟨⟨3, [ex], ⟨false, 0, 0⟩⟩, some ⟨w.heap.size + 1 + 1, 0, none⟩, 1⟩ (w.heap.size + 1 + 1 + 1) 1 (fmC 3 (some ⟨w.heap.size + 1 + 1, 0, none⟩) 1 1 ⟨false, 0, 0⟩) p) := by
    have e11 : #[Value.int .u8 3, .slice (some ⟨w.heap.size + 1 + 1, 0, none⟩) 1 1, .bool false, .int .u64 0, .int .u64 0, .int .u64 0, .int .u64 0, .int .u64 0, .int .u64 0, .int .u64 0, .int .u64 0] = fmC 3 (some ⟨w.heap.size + 1 + 1, 0, none⟩) 1 1 ⟨false, 0, 0⟩ := by simp [fmC, wd_zero]
    rw [e11]
    have hO : Only (fun _ => False) w ((((w.alloc (.cells #[.int .u8 op, .int .u32 set, .slice a n c] 49)).alloc (.cells zPt 109)).alloc (.cells #[.int .u8 op, .int .u32 set, .slice a n c] 49)).alloc (.cells (fmC 3 (some ⟨w.heap.size + 1 + 1, 0, none⟩) 1 1 ⟨false, 0, 0⟩) 136)) := ((((Only.refl _ _).alloc _).alloc _).alloc _).alloc _
    have hb3 : ((((w.alloc (.cells #[.int .u8 op, .int .u32 set, .slice a n c] 49)).alloc (.cells zPt 109)).alloc (.cells #[.int .u8 op, .int .u32 set, .slice a n c] 49)).alloc (.cells (fmC 3 (some ⟨w.heap.size + 1 + 1, 0, none⟩) 1 1 ⟨false, 0, 0⟩) 136)).heap[w.heap.size + 1 + 1 + 1]? = some (.cells (fmC 3 (some ⟨w.heap.size + 1 + 1, 0, none⟩) 1 1 ⟨false, 0, 0⟩) 136 (0, 0)) := by
      have e : w.heap.size + 1 + 1 + 1 = (((w.alloc (.cells #[.int .u8 op, .int .u32 set, .slice a n c] 49)).alloc (.cells zPt 109)).alloc (.cells #[.int .u8 op, .int .u32 set, .slice a n c] 49)).heap.size := by simp
      rw [e]
      exact heap_alloc_new _ _
    have hb2 : ((((w.alloc (.cells #[.int .u8 op, .int .u32 set, .slice a n c] 49)).alloc (.cells zPt 109)).alloc (.cells #[.int .u8 op, .int .u32 set, .slice a n c] 49)).alloc (.cells (fmC 3 (some ⟨w.heap.size + 1 + 1, 0, none⟩) 1 1 ⟨false, 0, 0⟩) 136)).heap[w.heap.size + 1 + 1]? = some (.cells #[.int .u8 op, .int .u32 set, .slice a n c] 49 (0, 0)) := (Below.heap_alloc _ _ _ (by simp)).trans (heap_alloc3_new _ _ _ _)
    refine ⟨⟨Nat.le_refl _, hb3, Nat.le_refl _, by unfold maxLen; omega, rfl, ?_⟩, hM, ⟨?_, trivial⟩, ⟨hp, hp2, ?_⟩, Plb.only hP hO (fun h => h), ?_, ?_, hO.mono (fun _ h => h.elim), hlt⟩
    · intro i x hx
      have hi := (List.getElem?_eq_some_iff.1 hx).1
      obtain rfl : i = 0 := by simpa using hi
      injection hx with hx
      subst hx
      intro k hk
      rw [Nat.mul_zero, Nat.zero_add]
      rfl
    · show 0 + 1 + Au.dps [ex] ≤ 1000002
      unfold Au.dps Au.dps
      omega
    · intro f hf
      simp at hf
      subst hf
      exact ⟨Nat.two_pow_pos _, Nat.two_pow_pos _⟩
    · intro x hx
      simp at hx
      subst hx
      refine ⟨Nat.le_refl _, by show 1 ≤ maxLen; unfold maxLen; omega, fun _ => ⟨_, _, rfl, Or.inr rfl, ?_⟩⟩
      unfold Tes
      exact ⟨⟨_, _, _, cell_blk hb2, cell_blk hb2, cell_blk hb2, Te.keep (Kp.only hO (fun _ _ h => h)) (fun b hb => Or.inl hb) ex _ he⟩, by unfold Tes; trivial⟩
    · exact (Below.heap_alloc _ _ _ (by simp)).trans ((Below.heap_alloc _ _ _ (by simp)).trans (heap_alloc2_new _ _ _))
  have HFb : Hid (∀ b, F b → b ≠ g ∧ b < w.heap.size) := hF
  clear hP hp hp2 he hM hF hD
  unfold zPt at HR
  go_enter Try.func41, Try.ntmps41
  go_wp2_with fail
  go_loopg [6] M (fun gh v wr => ∃ (L : List Fm) (m : Fm) (ob cap : Nat) (cur : Array Value) (p1 : Au.Pl) (W : World), W = wr ∧ v = .slice (some ⟨ob, 0, none⟩) (L.length + 1) cap ∧ Rnd w W F g cl fs vL em 1000002 (Au.node ex p) gh L m ob cap cur p1)
  case atStart => exact ⟨_, _, _, _, _, _, _, rfl, rfl, HR.out⟩
  case round =>
    obtain ⟨L, m, ob, cap, cur, p1, W, hW, rfl, hr⟩ := hrel
    subst hW
    clear HR
    obtain ⟨⟨mop, mleft, mnd⟩, ma, mc⟩ := m
    have HRn : Hid (Rnd w W F g cl fs vL em 1000002 (Au.node ex p) gk L ⟨⟨mop, mleft, mnd⟩, ma, mc⟩ ob cap cur p1) := hr
    have hFb := hr.opn.fb (i := L.length) (m := ⟨⟨mop, mleft, mnd⟩, ma, mc⟩) (by simp)
    have HFb2 : Hid (Fb W ob (11 * L.length) 136 cur mop ma mleft.length mc mnd) := hFb
    have hLn : L.length ≤ 1000002 := by have := hr.hg.len; simp at this; omega
    have hob : w.heap.size + 1 + 1 + 1 ≤ ob := hr.opn.1
    have hobl : ob < W.heap.size := hr.opn.lt
    have hcap : L.length + 1 ≤ cap := by have := hr.opn.2.2.1; simpa using this
    have hcapm : cap ≤ maxLen := hr.opn.2.2.2.1
    unfold maxLen at hcapm
    have c1 : W.cell? ⟨ob, L.length * 11 + 1, none⟩ = some (.slice ma mleft.length mc) := by rw [Nat.mul_comm]; exact hFb.c 1 (by decide)
    clear hFb hr
    obtain ⟨n, hn⟩ : ∃ n, n = L.length := ⟨_, rfl⟩
    rw [← hn] at hLn hcap c1 ⊢
    have HN : Hid (n = L.length) := hn
    clear hn
    have hn1 : (((n + 1 : Nat) : Int) - 1) = (n : Int) := by omega
    obtain ⟨g1, rfl⟩ := HRn.out.fuel
    cases mleft with
    | nil =>
      obtain ⟨me, mf, ml⟩ := mnd
      have HX : Hid (∀ j v, (fmC mop ma 0 mc ⟨me, mf, ml⟩)[j]? = some v → W.cell? ⟨ob, n * 11 + j, none⟩ = some v) := fun j v hv => by
        have hj := (Array.getElem?_eq_some_iff.1 hv).1
        rw [Nat.mul_comm, HN.out, HFb2.out.c j hj]
        exact hv
      have HE := fun w => end_any g cl p1 fs vL em mop [] ma 0 mc ⟨me, mf, ml⟩ w
      unfold fmV at HE
      have HS : Hid ((fmC mop ma 0 mc ⟨me, mf, ml⟩).size = 11) := rfl
      generalize fmC mop ma 0 mc ⟨me, mf, ml⟩ = X at HX HE HS
      have HE2 : Hid (∀ (w : World), Plm w g cl p1 fs vL em → p1.sets.length ≤ 200 → Au.OkN p1 ⟨me, mf, ml⟩ → Calls Try.prog 57 #[.pointer (some ⟨g, 0, none⟩), .agg X] w fun e w' => e = .returned (ptV ⟨me, mf, ml⟩) ∧ Plm w' g cl (Au.fin ⟨mop, [], ⟨me, mf, ml⟩⟩ p1) fs vL em ∧ Only (· = g) w w') := HE
      clear HE
      have sX : Hid ((Try.prog.info? 136).map (·.size) = some X.size) := by rw [HS.out]; exact sz136
      have hgl := HRn.out.gl
      rcases Nat.eq_zero_or_pos n with hn0 | hn0
      · subst hn0
        obtain rfl : L = [] := List.length_eq_zero_iff.1 HN.out.symm
        have hR := HRn.out.done
        have HRR : Hid (Au.node ex p = some (⟨me, mf, ml⟩, Au.fin ⟨mop, [], ⟨me, mf, ml⟩⟩ p1)) := hR
        clear hR
        go_wp2_with (first | refine wpList_load_midA rfl 136 _ rfl ob (0 * 11) rfl X _ HX.out Try.underlying136 rfl sX.out ?_ | (go_at_call 57; refine (HE2.out W HRn.out.pl HRn.out.iv.2.1 (HRn.out.iv.2.2 _ (List.mem_cons_self ..))).mono ?_; rintro e w1 ⟨rfl, hp1, ho1⟩; have HP1 : Hid (Plm w1 g cl (Au.fin ⟨mop, [], ⟨me, mf, ml⟩⟩ p1) fs vL em) := hp1; have HO1 : Hid (Only (· = g) W w1) := ho1; have hw1 : ob < w1.heap.size := Nat.lt_of_lt_of_le hobl ho1.size; clear hp1 ho1; have RS : Hid ((w1.alloc (.cells (ptC ⟨me, mf, ml⟩) 109)).heap[w.heap.size + 1]? = some (.cells zPt 109 (0, 0))) := (Below.heap_alloc _ _ _ (by omega)).trans ((HO1.out.block _ (Array.getElem?_eq_some_iff.1 HRn.out.rs).1 (by omega)).trans HRn.out.rs); unfold ptV ptC) | (refine wpList_store_rowAny rfl 109 _ _ rfl rfl (w.heap.size + 1) (ptC ⟨me, mf, ml⟩) rfl rfl 109 _ RS.out sz109 rfl (ptC_one _) ?_; intro w3 h3 o3; have H3 : Hid (w3.heap[w.heap.size + 1]? = some (.cells (ptC ⟨me, mf, ml⟩) 109 (0, 0))) := h3; have O3 : Hid (Only (· = w.heap.size + 1) (w1.alloc (.cells (ptC ⟨me, mf, ml⟩) 109)) w3) := o3; clear h3 o3))
        have hO : Only (fun h => h = g ∨ w.heap.size ≤ h) w w3 := ((HRn.out.on.trans (HO1.out.mono (fun _ h => Or.inl h))).alloc _).trans (O3.out.mono (fun _ h => by omega))
        refine bodyPost_ret (v := .tuple #[ptV ⟨me, mf, ml⟩, .bool true]) (results_row1 (p := 4) (u := 5) rfl _ _ (w.heap.size + 1) 109 (ptC ⟨me, mf, ml⟩) (0, 0) _ rfl H3.out Try.underlying109 rfl sz109 rfl) rfl ?_
        rw [HRR.out]
        exact ⟨rfl, (HP1.out.only (P := fun _ => False) ((Only.refl _ _).alloc _) (fun h => h)).only O3.out (by omega), hO.old (fun _ h => h.symm)⟩
      · obtain ⟨L1, q, rfl⟩ : ∃ L1 q, L = L1 ++ [q] := by
          have := HN.out
          refine ⟨L.dropLast, L.getLast (by intro e; rw [e] at this; simp at this; omega), ?_⟩
          exact (List.dropLast_concat_getLast _).symm
        obtain ⟨n1, HN1, HN2⟩ : ∃ n1, Hid (n1 = L1.length) ∧ Hid (n = n1 + 1) := ⟨L1.length, rfl, by have := HN.out; simp at this; exact this⟩
        clear HN
        have hz : ((n : Int) == 0) = false := by simp; omega
        obtain ⟨⟨qop, ql, qn⟩, qa, qc⟩ := q
        have HQ : Hid (Fb W ob (11 * L1.length) 136 cur qop qa ql.length qc qn) := HRn.out.opn.fb (i := L1.length) (m := ⟨⟨qop, ql, qn⟩, qa, qc⟩) (by simp)
        go_wp2_with (first | refine wpList_load_midA rfl 136 _ rfl ob (n * 11) rfl X _ HX.out Try.underlying136 rfl sX.out ?_ | (go_at_call 57; refine (HE2.out W HRn.out.pl HRn.out.iv.2.1 (HRn.out.iv.2.2 _ (List.mem_cons_self ..))).mono ?_; rintro e w1 ⟨rfl, hp1, ho1⟩; have HP1 : Hid (Plm w1 g cl (Au.fin ⟨mop, [], ⟨me, mf, ml⟩⟩ p1) fs vL em) := hp1; have HO1 : Hid (Only (· = g) W w1) := ho1; have hw1 : ob < w1.heap.size := Nat.lt_of_lt_of_le hobl ho1.size; clear hp1 ho1;  unfold ptV ptC))
        have hiv := HRn.out.iv.fin
        rw [rev_snoc] at hiv
        have HA4 : Hid (Only (fun _ => False) w1 (w1.alloc (.cells (ptC ⟨me, mf, ml⟩) 109)).drew) := ((Only.refl _ _).alloc _).drew
        have HIV : Hid (Au.Iv (⟨mop, [], ⟨me, mf, ml⟩⟩ :: ⟨qop, ql, qn⟩ :: (L1.map Fm.f).reverse) (Au.fin ⟨mop, [], ⟨me, mf, ml⟩⟩ p1)) := hiv
        clear hiv
        have hv1 : wrap64 ((n : Int) - 1) = (n1 : Int) := by have := HN2.out; unfold wrap64; omega
        have hv2 : IntKind.i64.wrap ((n : Int) - 1) = (n1 : Int) := by have := HN2.out; rw [show (n : Int) - 1 = (n1 : Int) by omega]; exact wrap_small _ (by omega) (by omega)
        have hv3 : (n1 : Int) < (n : Int) := by have := HN2.out; omega
        have HK9 : Hid (∀ W', Only (fun _ => False) (w1.alloc (.cells (ptC ⟨me, mf, ml⟩) 109)) W' → (fun w' => w'.cell? ⟨w1.heap.size, 0, none⟩ = some (.bool me) ∧ w'.cell? ⟨w1.heap.size, 1, none⟩ = some (.int .u64 (wd mf 0 : Int)) ∧ w'.cell? ⟨w1.heap.size, 2, none⟩ = some (.int .u64 (wd mf 1 : Int)) ∧ w'.cell? ⟨w1.heap.size, 3, none⟩ = some (.int .u64 (wd mf 2 : Int)) ∧ w'.cell? ⟨w1.heap.size, 4, none⟩ = some (.int .u64 (wd mf 3 : Int)) ∧ w'.cell? ⟨w1.heap.size, 5, none⟩ = some (.int .u64 (wd ml 0 : Int)) ∧ w'.cell? ⟨w1.heap.size, 6, none⟩ = some (.int .u64 (wd ml 1 : Int)) ∧ w'.cell? ⟨w1.heap.size, 7, none⟩ = some (.int .u64 (wd ml 2 : Int)) ∧ w'.cell? ⟨w1.heap.size, 8, none⟩ = some (.int .u64 (wd ml 3 : Int))) W') := fun W' ho => by
          have h : Ptb W' w1.heap.size ⟨me, mf, ml⟩ := Ptb.only (w := w1.alloc (.cells (ptC ⟨me, mf, ml⟩) 109)) (heap_alloc_new _ _) ho (fun h => h)
          exact ⟨cell_blk h, h.f 0 (by decide), h.f 1 (by decide), h.f 2 (by decide), h.f 3 (by decide), h.l 0 (by decide), h.l 1 (by decide), h.l 2 (by decide), h.l 3 (by decide)⟩
        go_region_held3 (fun w' => w'.cell? ⟨w1.heap.size, 0, none⟩ = some (.bool me) ∧ w'.cell? ⟨w1.heap.size, 1, none⟩ = some (.int .u64 (wd mf 0 : Int)) ∧ w'.cell? ⟨w1.heap.size, 2, none⟩ = some (.int .u64 (wd mf 1 : Int)) ∧ w'.cell? ⟨w1.heap.size, 3, none⟩ = some (.int .u64 (wd mf 2 : Int)) ∧ w'.cell? ⟨w1.heap.size, 4, none⟩ = some (.int .u64 (wd mf 3 : Int)) ∧ w'.cell? ⟨w1.heap.size, 5, none⟩ = some (.int .u64 (wd ml 0 : Int)) ∧ w'.cell? ⟨w1.heap.size, 6, none⟩ = some (.int .u64 (wd ml 1 : Int)) ∧ w'.cell? ⟨w1.heap.size, 7, none⟩ = some (.int .u64 (wd ml 2 : Int)) ∧ w'.cell? ⟨w1.heap.size, 8, none⟩ = some (.int .u64 (wd ml 3 : Int))) ((first | exact HK9.out _ (Only.refl _ _).drew | exact HK10.out)) ((go_at_call 58; refine (tke_any g cl (Au.fin ⟨mop, [], ⟨me, mf, ml⟩⟩ p1) fs vL em ob (n1 * 11) 136 cur qop qa ql.length qc qn ⟨me, mf, ml⟩ _ (HP1.out.only HA4.out (fun h => h)) HIV.out.2.1 (HIV.out.2.2 _ (List.mem_cons_self ..)) (HIV.out.2.2 ⟨qop, ql, qn⟩ (List.mem_cons_of_mem _ (List.mem_cons_self ..))) (by rw [Nat.mul_comm, HN1.out]; exact (HQ.out.only HO1.out (by omega)).only HA4.out (fun h => h)) (by omega)).mono ?_; rintro e w4 ⟨rfl, ⟨cs', hf', hs'⟩, hp4, ho4⟩; have HF4 : Hid (Fb w4 ob (n1 * 11) 136 cs' qop qa ql.length qc (Au.tkN qop qn ⟨me, mf, ml⟩)) := hf'; have HS4 : Hid (Same cur cs' (n1 * 11)) := hs'; have HP4 : Hid (Plm w4 g cl (Au.tkP qop qn ⟨me, mf, ml⟩ (Au.fin ⟨mop, [], ⟨me, mf, ml⟩⟩ p1)) fs vL em) := hp4; have HO4 : Hid (Only (fun h => h = ob ∨ h = g) W w4) := (((HO1.out.mono (fun _ h => Or.inr h)).trans (HA4.out.mono (fun _ h => h.elim)))).trans ho4; have HK10 : Hid ((fun w' => w'.cell? ⟨w1.heap.size, 0, none⟩ = some (.bool me) ∧ w'.cell? ⟨w1.heap.size, 1, none⟩ = some (.int .u64 (wd mf 0 : Int)) ∧ w'.cell? ⟨w1.heap.size, 2, none⟩ = some (.int .u64 (wd mf 1 : Int)) ∧ w'.cell? ⟨w1.heap.size, 3, none⟩ = some (.int .u64 (wd mf 2 : Int)) ∧ w'.cell? ⟨w1.heap.size, 4, none⟩ = some (.int .u64 (wd mf 3 : Int)) ∧ w'.cell? ⟨w1.heap.size, 5, none⟩ = some (.int .u64 (wd ml 0 : Int)) ∧ w'.cell? ⟨w1.heap.size, 6, none⟩ = some (.int .u64 (wd ml 1 : Int)) ∧ w'.cell? ⟨w1.heap.size, 7, none⟩ = some (.int .u64 (wd ml 2 : Int)) ∧ w'.cell? ⟨w1.heap.size, 8, none⟩ = some (.int .u64 (wd ml 3 : Int))) w4) := Ptb.all ((Ptb.only (w := w1.alloc (.cells (ptC ⟨me, mf, ml⟩) 109)) (heap_alloc_new _ _) (Only.refl (fun _ => False) _).drew (fun h => h)).only ho4 (by omega)); clear hf' hs' hp4 ho4))
        all_goals
          go_wp2_with fail
          go_roundg g1
          case measure => omega
          case rel =>
            refine ⟨L1, ⟨⟨qop, ql, Au.tkN qop qn ⟨me, mf, ml⟩⟩, qa, qc⟩, ob, cap, cs', Au.tkP qop qn ⟨me, mf, ml⟩ (Au.fin ⟨mop, [], ⟨me, mf, ml⟩⟩ p1), w4, rfl, by rw [HN2.out, HN1.out], ?_⟩
            exact HRn.out.take (q := ⟨⟨qop, ql, qn⟩, qa, qc⟩) HFb.out (by rw [Nat.mul_comm, ← HN1.out]; exact HF4.out) (by rw [Nat.mul_comm, ← HN1.out]; exact HS4.out) HP4.out _ HO4.out (fun b h => by omega)
    | cons k ks =>
      have hlf := HRn.out.lf ⟨⟨mop, k :: ks, mnd⟩, ma, mc⟩ (by simp)
      obtain ⟨lb, lo, hma, hlF, hlt3⟩ := hlf.2.2 (by simp)
      simp only at hma
      subst hma
      have HLF : Hid (Lf W (fun b => F b ∨ b = w.heap.size + 1 + 1) (k :: ks) (some ⟨lb, lo, none⟩) mc) := hlf
      have hmc : ks.length + 1 ≤ mc := hlf.1
      have hml : ks.length + 1 ≤ maxLen := hlf.2.1
      unfold maxLen at hml
      unfold Tes at hlt3
      obtain ⟨⟨o0, s0, k0, d0, d1, d2, hTe⟩, _⟩ := hlt3
      have HT : Hid (Te W (fun b => F b ∨ b = w.heap.size + 1 + 1) k (.agg #[o0, s0, k0])) := hTe
      clear hlf hTe
      have c1' : W.cell? ⟨ob, n * 11 + 1, none⟩ = some (.slice (some ⟨lb, lo, none⟩) (ks.length + 1) mc) := c1
      clear c1
      have hf1 := HFb2.out.fz (n * 11 + 1)
      have hgl := HRn.out.gl
      cases hb : Au.begin' k p1 with
      | none =>
        have HB : Hid (Au.begin' k p1 = none) := hb
        have hR := HRn.out.none hb
        have HRR : Hid (Au.node ex p = none) := hR
        clear hb hR
        go_wp2_with (first | (go_at_call 56; have hc := begin_any (fun b => F b ∨ b = w.heap.size + 1 + 1) g cl p1 fs vL em k _ W HRn.out.pl HRn.out.iv.2.1 hcl HT.out; rw [HB.out] at hc; refine hc.mono ?_; clear hc; rintro e w1 ⟨rfl, ho1⟩; have HO1 : Hid (Only (· = g) W w1) := ho1; have hw1 : ob < w1.heap.size := Nat.lt_of_lt_of_le hobl ho1.size; clear ho1; have HA1 : Hid ((w1.alloc (.cells #[.int .u8 0, .slice none 0 0, .bool false, .int .u64 0, .int .u64 0, .int .u64 0, .int .u64 0, .int .u64 0, .int .u64 0, .int .u64 0, .int .u64 0] 136)).heap[w1.heap.size]? = some (.cells #[.int .u8 0, .slice none 0 0, .bool false, .int .u64 0, .int .u64 0, .int .u64 0, .int .u64 0, .int .u64 0, .int .u64 0, .int .u64 0, .int .u64 0] 136 (0, 0))) := heap_alloc_new _ _) | (refine wpList_store_rowAny rfl 136 _ _ rfl rfl w1.heap.size (zF 0) rfl rfl 136 _ HA1.out sz136 rfl (fmC_one _ _ _ _ _) ?_; intro w2 h2 o2; have O2 : Hid (Only (· = w1.heap.size) (w1.alloc (.cells #[.int .u8 0, .slice none 0 0, .bool false, .int .u64 0, .int .u64 0, .int .u64 0, .int .u64 0, .int .u64 0, .int .u64 0, .int .u64 0, .int .u64 0] 136)) w2) := o2; have RS : Hid (w2.heap[w.heap.size + 1]? = some (.cells zPt 109 (0, 0))) := ((o2.block _ (by simp; omega) (by omega)).trans (Below.heap_alloc _ _ _ (by omega))).trans ((HO1.out.block _ (Array.getElem?_eq_some_iff.1 HRn.out.rs).1 (by omega)).trans HRn.out.rs); clear h2 o2) | (refine wpList_store_rowAny rfl 109 _ _ rfl rfl (w.heap.size + 1) zPt rfl rfl 109 _ RS.out sz109 rfl (one_list _ (by intro v hv; simp at hv; rcases hv with rfl | rfl <;> rfl)) ?_; intro w3 h3 o3; have H3 : Hid (w3.heap[w.heap.size + 1]? = some (.cells zPt 109 (0, 0))) := h3; have O3 : Hid (Only (· = w.heap.size + 1) w2 w3) := o3; clear h3 o3))
        have hO : Only (fun h => h = g ∨ w.heap.size ≤ h) w w3 := (((HRn.out.on.trans (HO1.out.mono (fun _ h => Or.inl h))).alloc _).trans (O2.out.mono (fun _ h => by omega))).trans (O3.out.mono (fun _ h => by omega))
        refine bodyPost_ret (v := .tuple #[.agg zPt, .bool false]) (results_row1 (p := 4) (u := 5) rfl _ _ (w.heap.size + 1) 109 zPt (0, 0) _ rfl H3.out Try.underlying109 rfl sz109 rfl) rfl ?_
        rw [HRR.out]
        exact ⟨rfl, hO.old (fun _ h => h.symm)⟩
      | some r =>
        obtain ⟨f, p2⟩ := r
        have HB : Hid (Au.begin' k p1 = some (f, p2)) := hb
        clear hb
        obtain ⟨ie, hie, hz0, hz1, hz2⟩ := info_parts info136
        by_cases hm1 : mc = 1
        · subst hm1
          have hks : ks.length = 0 := by omega
          have hks2 : ks = [] := List.length_eq_zero_iff.1 hks
          subst hks2
          clear hks
          simp only [List.length_nil, Nat.zero_add] at c1' hmc hml
          have HFb3 := HFb2.out
          go_wp2_with (first | (go_at_call 56; have hc := begin_any (fun b => F b ∨ b = w.heap.size + 1 + 1) g cl p1 fs vL em k _ W HRn.out.pl HRn.out.iv.2.1 hcl HT.out; rw [HB.out] at hc; refine hc.mono ?_; clear hc; rintro e w1 ⟨⟨fa, fc, rfl, hlf2⟩, hp2, ho1⟩; have HO1 : Hid (Only (· = g) W w1) := ho1; have HP2 : Hid (Plm w1 g cl p2 fs vL em) := hp2; have HL2 : Hid (Lf W (fun b => F b ∨ b = w.heap.size + 1 + 1) f.left fa fc) := hlf2; have hw1 : ob < w1.heap.size := Nat.lt_of_lt_of_le hobl ho1.size; clear ho1 hp2 hlf2; have HA1 : Hid ((w1.alloc (.cells #[.int .u8 0, .slice none 0 0, .bool false, .int .u64 0, .int .u64 0, .int .u64 0, .int .u64 0, .int .u64 0, .int .u64 0, .int .u64 0, .int .u64 0] 136)).heap[w1.heap.size]? = some (.cells #[.int .u8 0, .slice none 0 0, .bool false, .int .u64 0, .int .u64 0, .int .u64 0, .int .u64 0, .int .u64 0, .int .u64 0, .int .u64 0, .int .u64 0] 136 (0, 0))) := heap_alloc_new _ _; obtain ⟨X, hX⟩ : ∃ X, X = fmA ⟨f, fa, fc⟩ := ⟨_, rfl⟩; have HX : Hid (X = fmA ⟨f, fa, fc⟩) := hX; have hV : fmV f.op fa f.left.length fc f.nd = .agg X := (by rw [hX]; rfl); have sX : Hid ((Try.prog.info? 136).map (·.size) = some X.size ∧ X.size = 11 ∧ X.all (·.oneCell') = true) := (by rw [hX]; exact ⟨sz136, rfl, fmC_one _ _ _ _ _⟩); rw [hV]; clear hV hX) | (refine wpList_store_rowAny rfl 136 _ _ rfl rfl w1.heap.size X rfl rfl 136 _ HA1.out sX.out.1 (by rw [sX.out.2.1]; rfl) sX.out.2.2 ?_; intro w2 h2 o2; have H2 : Hid (w2.heap[w1.heap.size]? = some (.cells X 136 (0, 0))) := h2; have O2 : Hid (Only (· = w1.heap.size) (w1.alloc (.cells #[.int .u8 0, .slice none 0 0, .bool false, .int .u64 0, .int .u64 0, .int .u64 0, .int .u64 0, .int .u64 0, .int .u64 0, .int .u64 0, .int .u64 0] 136)) w2) := o2; have N2 : Hid (Opn w2 (w.heap.size + 1 + 1 + 1) ob cap cur (L ++ [⟨⟨mop, [k], mnd⟩, some ⟨lb, lo, none⟩, 1⟩])) := ((HRn.out.opn.only HO1.out (by omega)).only (P := fun _ => False) ((Only.refl _ _).alloc _) (fun h => h)).only o2 (by omega); have F2 : Hid (Fb w2 ob (n * 11) 136 cur mop (some ⟨lb, lo, none⟩) (1) 1 mnd) := (by rw [Nat.mul_comm, HN.out]; exact N2.out.fb (i := L.length) (m := ⟨⟨mop, [k], mnd⟩, some ⟨lb, lo, none⟩, 1⟩) (by simp)); have c2 : w2.cell? ⟨ob, n * 11 + 1, none⟩ = some (.slice (some ⟨lb, lo, none⟩) (1) 1) := F2.out.c 1 (by decide); have f2 := F2.out.fz (n * 11 + 1); have N3 : Hid (Opn (w2.setCell ⟨ob, n * 11 + 1, none⟩ (.slice (some ⟨lb, lo, none⟩) 0 0)) (w.heap.size + 1 + 1 + 1) ob cap (cur.setIfInBounds (n * 11 + 1) (.slice (some ⟨lb, lo, none⟩) 0 0)) (L ++ [(⟨⟨mop, [], mnd⟩, some ⟨lb, lo, none⟩, 0⟩ : Fm)])) := (by have e1 : 11 * L.length = n * 11 := (by rw [HN.out, Nat.mul_comm]); refine N2.out.set (heap_setCell_at N2.out.2.1 _) ?_ ?_ <;> rw [e1]; exact (F2.out.2.setSl _ _ _).1; exact (F2.out.2.setSl _ _ _).2); have HOW : Hid ((w2.setCell ⟨ob, n * 11 + 1, none⟩ (.slice (some ⟨lb, lo, none⟩) 0 0)).ownsRow (w.heap.size + 1 + 1 + 1) 136 11 (.slice (some ⟨ob, 0, none⟩) (n + 1) cap) (n + 1) (flat (L ++ [(⟨⟨mop, [], mnd⟩, some ⟨lb, lo, none⟩, 0⟩ : Fm)]))) := (by have h := N3.out.row; have e2 : (L ++ [(⟨⟨mop, [], mnd⟩, some ⟨lb, lo, none⟩, 0⟩ : Fm)]).length = n + 1 := (by simp [HN.out]); rw [e2] at h; exact h); have H2s : Hid ((w2.setCell ⟨ob, n * 11 + 1, none⟩ (.slice (some ⟨lb, lo, none⟩) 0 0)).heap[w1.heap.size]? = some (.cells X 136 (0, 0))) := (Below.heap_setCell _ _ _ _ (by show w1.heap.size ≠ ob; omega)).trans h2; have hbs : w.heap.size + 1 + 1 + 1 ≤ ((w2.setCell ⟨ob, n * 11 + 1, none⟩ (.slice (some ⟨lb, lo, none⟩) 0 0)).alloc (.cells X 136)).heap.size := (by have := N3.out.lt; simp only [World.alloc, Array.size_push]; omega); clear h2 o2) | refine wpList_load_row rfl 136 _ rfl w1.heap.size rfl 136 _ (0, 0) _ H2s.out Try.underlying136 rfl sX.out.1 ?_ | refine wpList_buildSlice rfl 137 136 1 _ rfl X ie _ Try.underlying137 hie hz0 (by rw [hz1]; decide) (by rw [hz1]; decide) (fill_one hz1 sX.out.2.1 rfl (by decide)) ?_ | (at_builtin; refine wpList_append_own_at _ rfl _ _ 137 rfl (w.heap.size + 1 + 1 + 1) 136 ie _ 11 104 Try.underlying137 hie hz0 hz1 hz2 rfl (by decide) _ _ _ rfl (HOW.out.alloc (.cells X 136)) ⟨(w2.setCell ⟨ob, n * 11 + 1, none⟩ (.slice (some ⟨lb, lo, none⟩) 0 0)).heap.size, 0, none⟩ 1 1 X.toList rfl (by rw [Array.length_toList, sX.out.2.1]) (fun j u hj => by rw [Addr.add_mid, Nat.zero_add, cell_of_row _ _ _ _ _ _ (heap_alloc_new _ _)]; simpa using hj) (fun u hu => (Array.all_eq_true_iff_forall_mem.1 sX.out.2.2) u (by simpa using hu)) (by unfold maxLen; omega) (by omega) hbs ?_; intro v6 w6 hown6 hg6 _ _; have HOW6 : Hid (w6.ownsRow (w.heap.size + 1 + 1 + 1) 136 11 v6 (n + 1 + 1) (flat (L ++ [(⟨⟨mop, [], mnd⟩, some ⟨lb, lo, none⟩, 0⟩ : Fm)]) ++ X.toList)) := hown6; have HG6 : Hid (Only (· = ob) ((w2.setCell ⟨ob, n * 11 + 1, none⟩ (.slice (some ⟨lb, lo, none⟩) 0 0)).alloc (.cells X 136)) w6) := (Only.refl (· = ob) _).grown hg6 (fun k h => by injection h with h; exact h.symm); clear hown6 hg6))
          have hOW6 := HOW6.out
          rw [HX.out] at hOW6
          obtain ⟨ob6, cap6, cur6, rfl, hN6⟩ := Opn.push (L := (L ++ [(⟨⟨mop, [], mnd⟩, some ⟨lb, lo, none⟩, 0⟩ : Fm)])) (m := ⟨f, fa, fc⟩) (w := w6) (base := w.heap.size + 1 + 1 + 1) (ob := 0) (cap := 0) (cur := #[]) (by have e2 : (L ++ [(⟨⟨mop, [], mnd⟩, some ⟨lb, lo, none⟩, 0⟩ : Fm)]).length = n + 1 := (by simp [HN.out]); rw [e2]; exact hOW6)
          have q1 : Only (fun h => h = g ∨ h = ob ∨ W.heap.size ≤ h) W w2 := ((HO1.out.mono (fun _ h => Or.inl h)).alloc _).trans (O2.out.mono (fun b (h : b = w1.heap.size) => Or.inr (Or.inr (Nat.le_trans HO1.out.size (Nat.le_of_eq h.symm)))))
          have q2 := Only.setCell (S := fun h => h = g ∨ h = ob ∨ W.heap.size ≤ h) q1 (p := ⟨ob, n * 11 + 1, none⟩) (Or.inr (Or.inl rfl)) (.slice (some ⟨lb, lo, none⟩) 0 0)
          have hO6 : Only (fun h => h = g ∨ h = ob ∨ W.heap.size ≤ h) W w6 := (q2.alloc _).trans (HG6.out.mono (fun _ h => Or.inr (Or.inl h)))
          have hP6 : Plm w6 g cl p2 fs vL em := by
            have a1 : Plm w2 g cl p2 fs vL em := (HP2.out.only (P := fun _ => False) ((Only.refl _ _).alloc _) (fun h => h)).only O2.out (by omega)
            have a2 : Plm (w2.setCell ⟨ob, n * 11 + 1, none⟩ (.slice (some ⟨lb, lo, none⟩) 0 0)) g cl p2 fs vL em := (Below.heap_setCell _ _ _ _ (by show g ≠ ob; omega)).trans a1
            exact (a2.only (P := fun _ => False) ((Only.refl _ _).alloc _) (fun h => h)).only HG6.out (by omega)
          go_roundg g1
          case measure => omega
          case rel =>
            refine ⟨(L ++ [(⟨⟨mop, [], mnd⟩, some ⟨lb, lo, none⟩, 0⟩ : Fm)]), ⟨f, fa, fc⟩, ob6, cap6, cur6, p2, w6, rfl, rfl, ?_⟩
            exact HRn.out.push HFb.out HB.out hN6 hP6 (Lf.nil _ _ _ _) HL2.out _ hO6 (fun b h => by omega)
        · obtain ⟨c3, rfl⟩ : ∃ c3, mc = c3 + 2 := ⟨mc - 2, by omega⟩
          have hmq : c3 + 2 - 1 = c3 + 1 := by omega
          clear hm1
          go_wp2_with (first | (go_at_call 56; have hc := begin_any (fun b => F b ∨ b = w.heap.size + 1 + 1) g cl p1 fs vL em k _ W HRn.out.pl HRn.out.iv.2.1 hcl HT.out; rw [HB.out] at hc; refine hc.mono ?_; clear hc; rintro e w1 ⟨⟨fa, fc, rfl, hlf2⟩, hp2, ho1⟩; have HO1 : Hid (Only (· = g) W w1) := ho1; have HP2 : Hid (Plm w1 g cl p2 fs vL em) := hp2; have HL2 : Hid (Lf W (fun b => F b ∨ b = w.heap.size + 1 + 1) f.left fa fc) := hlf2; have hw1 : ob < w1.heap.size := Nat.lt_of_lt_of_le hobl ho1.size; clear ho1 hp2 hlf2; have HA1 : Hid ((w1.alloc (.cells #[.int .u8 0, .slice none 0 0, .bool false, .int .u64 0, .int .u64 0, .int .u64 0, .int .u64 0, .int .u64 0, .int .u64 0, .int .u64 0, .int .u64 0] 136)).heap[w1.heap.size]? = some (.cells #[.int .u8 0, .slice none 0 0, .bool false, .int .u64 0, .int .u64 0, .int .u64 0, .int .u64 0, .int .u64 0, .int .u64 0, .int .u64 0, .int .u64 0] 136 (0, 0))) := heap_alloc_new _ _; obtain ⟨X, hX⟩ : ∃ X, X = fmA ⟨f, fa, fc⟩ := ⟨_, rfl⟩; have HX : Hid (X = fmA ⟨f, fa, fc⟩) := hX; have hV : fmV f.op fa f.left.length fc f.nd = .agg X := (by rw [hX]; rfl); have sX : Hid ((Try.prog.info? 136).map (·.size) = some X.size ∧ X.size = 11 ∧ X.all (·.oneCell') = true) := (by rw [hX]; exact ⟨sz136, rfl, fmC_one _ _ _ _ _⟩); rw [hV]; clear hV hX) | (refine wpList_store_rowAny rfl 136 _ _ rfl rfl w1.heap.size X rfl rfl 136 _ HA1.out sX.out.1 (by rw [sX.out.2.1]; rfl) sX.out.2.2 ?_; intro w2 h2 o2; have H2 : Hid (w2.heap[w1.heap.size]? = some (.cells X 136 (0, 0))) := h2; have O2 : Hid (Only (· = w1.heap.size) (w1.alloc (.cells #[.int .u8 0, .slice none 0 0, .bool false, .int .u64 0, .int .u64 0, .int .u64 0, .int .u64 0, .int .u64 0, .int .u64 0, .int .u64 0, .int .u64 0] 136)) w2) := o2; have N2 : Hid (Opn w2 (w.heap.size + 1 + 1 + 1) ob cap cur (L ++ [⟨⟨mop, k :: ks, mnd⟩, some ⟨lb, lo, none⟩, (c3 + 2)⟩])) := ((HRn.out.opn.only HO1.out (by omega)).only (P := fun _ => False) ((Only.refl _ _).alloc _) (fun h => h)).only o2 (by omega); have F2 : Hid (Fb w2 ob (n * 11) 136 cur mop (some ⟨lb, lo, none⟩) (ks.length + 1) (c3 + 2) mnd) := (by rw [Nat.mul_comm, HN.out]; exact N2.out.fb (i := L.length) (m := ⟨⟨mop, k :: ks, mnd⟩, some ⟨lb, lo, none⟩, (c3 + 2)⟩) (by simp)); have c2 : w2.cell? ⟨ob, n * 11 + 1, none⟩ = some (.slice (some ⟨lb, lo, none⟩) (ks.length + 1) (c3 + 2)) := F2.out.c 1 (by decide); have f2 := F2.out.fz (n * 11 + 1); have N3 : Hid (Opn (w2.setCell ⟨ob, n * 11 + 1, none⟩ (.slice (some ⟨lb, lo + 3, none⟩) ks.length (c3 + 1))) (w.heap.size + 1 + 1 + 1) ob cap (cur.setIfInBounds (n * 11 + 1) (.slice (some ⟨lb, lo + 3, none⟩) ks.length (c3 + 1))) (L ++ [(⟨⟨mop, ks, mnd⟩, some ⟨lb, lo + 3, none⟩, (c3 + 1)⟩ : Fm)])) := (by have e1 : 11 * L.length = n * 11 := (by rw [HN.out, Nat.mul_comm]); refine N2.out.set (heap_setCell_at N2.out.2.1 _) ?_ ?_ <;> rw [e1]; exact (F2.out.2.setSl _ _ _).1; exact (F2.out.2.setSl _ _ _).2); have HOW : Hid ((w2.setCell ⟨ob, n * 11 + 1, none⟩ (.slice (some ⟨lb, lo + 3, none⟩) ks.length (c3 + 1))).ownsRow (w.heap.size + 1 + 1 + 1) 136 11 (.slice (some ⟨ob, 0, none⟩) (n + 1) cap) (n + 1) (flat (L ++ [(⟨⟨mop, ks, mnd⟩, some ⟨lb, lo + 3, none⟩, (c3 + 1)⟩ : Fm)]))) := (by have h := N3.out.row; have e2 : (L ++ [(⟨⟨mop, ks, mnd⟩, some ⟨lb, lo + 3, none⟩, (c3 + 1)⟩ : Fm)]).length = n + 1 := (by simp [HN.out]); rw [e2] at h; exact h); have H2s : Hid ((w2.setCell ⟨ob, n * 11 + 1, none⟩ (.slice (some ⟨lb, lo + 3, none⟩) ks.length (c3 + 1))).heap[w1.heap.size]? = some (.cells X 136 (0, 0))) := (Below.heap_setCell _ _ _ _ (by show w1.heap.size ≠ ob; omega)).trans h2; have hbs : w.heap.size + 1 + 1 + 1 ≤ ((w2.setCell ⟨ob, n * 11 + 1, none⟩ (.slice (some ⟨lb, lo + 3, none⟩) ks.length (c3 + 1))).alloc (.cells X 136)).heap.size := (by have := N3.out.lt; simp only [World.alloc, Array.size_push]; omega); clear h2 o2) | refine wpList_load_row rfl 136 _ rfl w1.heap.size rfl 136 _ (0, 0) _ H2s.out Try.underlying136 rfl sX.out.1 ?_ | refine wpList_buildSlice rfl 137 136 1 _ rfl X ie _ Try.underlying137 hie hz0 (by rw [hz1]; decide) (by rw [hz1]; decide) (fill_one hz1 sX.out.2.1 rfl (by decide)) ?_ | (at_builtin; refine wpList_append_own_at _ rfl _ _ 137 rfl (w.heap.size + 1 + 1 + 1) 136 ie _ 11 104 Try.underlying137 hie hz0 hz1 hz2 rfl (by decide) _ _ _ rfl (HOW.out.alloc (.cells X 136)) ⟨(w2.setCell ⟨ob, n * 11 + 1, none⟩ (.slice (some ⟨lb, lo + 3, none⟩) ks.length (c3 + 1))).heap.size, 0, none⟩ 1 1 X.toList rfl (by rw [Array.length_toList, sX.out.2.1]) (fun j u hj => by rw [Addr.add_mid, Nat.zero_add, cell_of_row _ _ _ _ _ _ (heap_alloc_new _ _)]; simpa using hj) (fun u hu => (Array.all_eq_true_iff_forall_mem.1 sX.out.2.2) u (by simpa using hu)) (by unfold maxLen; omega) (by omega) hbs ?_; intro v6 w6 hown6 hg6 _ _; have HOW6 : Hid (w6.ownsRow (w.heap.size + 1 + 1 + 1) 136 11 v6 (n + 1 + 1) (flat (L ++ [(⟨⟨mop, ks, mnd⟩, some ⟨lb, lo + 3, none⟩, (c3 + 1)⟩ : Fm)]) ++ X.toList)) := hown6; have HG6 : Hid (Only (· = ob) ((w2.setCell ⟨ob, n * 11 + 1, none⟩ (.slice (some ⟨lb, lo + 3, none⟩) ks.length (c3 + 1))).alloc (.cells X 136)) w6) := (Only.refl (· = ob) _).grown hg6 (fun k h => by injection h with h; exact h.symm); clear hown6 hg6))
          have hOW6 := HOW6.out
          rw [HX.out] at hOW6
          obtain ⟨ob6, cap6, cur6, rfl, hN6⟩ := Opn.push (L := (L ++ [(⟨⟨mop, ks, mnd⟩, some ⟨lb, lo + 3, none⟩, (c3 + 1)⟩ : Fm)])) (m := ⟨f, fa, fc⟩) (w := w6) (base := w.heap.size + 1 + 1 + 1) (ob := 0) (cap := 0) (cur := #[]) (by have e2 : (L ++ [(⟨⟨mop, ks, mnd⟩, some ⟨lb, lo + 3, none⟩, (c3 + 1)⟩ : Fm)]).length = n + 1 := (by simp [HN.out]); rw [e2]; exact hOW6)
          have q1 : Only (fun h => h = g ∨ h = ob ∨ W.heap.size ≤ h) W w2 := ((HO1.out.mono (fun _ h => Or.inl h)).alloc _).trans (O2.out.mono (fun b (h : b = w1.heap.size) => Or.inr (Or.inr (Nat.le_trans HO1.out.size (Nat.le_of_eq h.symm)))))
          have q2 := Only.setCell (S := fun h => h = g ∨ h = ob ∨ W.heap.size ≤ h) q1 (p := ⟨ob, n * 11 + 1, none⟩) (Or.inr (Or.inl rfl)) (.slice (some ⟨lb, lo + 3, none⟩) ks.length (c3 + 1))
          have hO6 : Only (fun h => h = g ∨ h = ob ∨ W.heap.size ≤ h) W w6 := (q2.alloc _).trans (HG6.out.mono (fun _ h => Or.inr (Or.inl h)))
          have hP6 : Plm w6 g cl p2 fs vL em := by
            have a1 : Plm w2 g cl p2 fs vL em := (HP2.out.only (P := fun _ => False) ((Only.refl _ _).alloc _) (fun h => h)).only O2.out (by omega)
            have a2 : Plm (w2.setCell ⟨ob, n * 11 + 1, none⟩ (.slice (some ⟨lb, lo + 3, none⟩) ks.length (c3 + 1))) g cl p2 fs vL em := (Below.heap_setCell _ _ _ _ (by show g ≠ ob; omega)).trans a1
            exact (a2.only (P := fun _ => False) ((Only.refl _ _).alloc _) (fun h => h)).only HG6.out (by omega)
          go_roundg g1
          case measure => omega
          case rel =>
            refine ⟨(L ++ [(⟨⟨mop, ks, mnd⟩, some ⟨lb, lo + 3, none⟩, (c3 + 1)⟩ : Fm)]), ⟨f, fa, fc⟩, ob6, cap6, cur6, p2, w6, rfl, rfl, ?_⟩
            exact HRn.out.push HFb.out HB.out hN6 hP6 HLF.out.tail HL2.out _ hO6 (fun b h => by omega)
end Go.Proofs.Ytfbcijnacbfjpaa
namespace Go.Proofs.Ytfbcijnacbfjpaa
open Go.RowKit Go.Maps
set_option linter.unusedVariables false
set_option linter.unusedSimpArgs false
/-- which places may come behind a state, as far as k places. -/
def mayK (nx : Nat → Nat) (fs S k : Nat) : Nat := (List.range k).foldl (fun m i => if S.testBit i = true then m ||| nx i else m) fs
theorem mayK_succ (nx : Nat → Nat) (fs S k : Nat) : mayK nx fs S (k + 1) = if S.testBit k = true then mayK nx fs S k ||| nx k else mayK nx fs S k := by
  unfold mayK
  rw [List.range_succ, List.foldl_append]
  rfl
set_option maxRecDepth 100000 in
set_option maxHeartbeats 4000000 in
theorem mayc_any (g cl n : Nat) (b nx : Nat → Nat) (fs : Nat) (vL : Value) (em S : Nat) (w : World) (hP : Plb w g cl n b nx fs vL em) (hn : n ≤ 200) :
    Calls Try.prog 43 #[.pointer (some ⟨g, 0, none⟩), sV S] w fun e w' => e = .returned (sV (mayK nx fs S n)) ∧ Only (fun _ => False) w w' := by
  have hlt := hP.lt
  have hlt1 : g < w.heap.size + 1 := by omega
  have hlt2 : g < w.heap.size + 1 + 1 := by omega
  have HP : Hid (Plb w g cl n b nx fs vL em) := hP
  have hc1 := hP.c1
  have e0 : w.cell? ⟨g, 898, none⟩ = some (.int .u64 (wd fs 0 : Int)) := (cell_blk hP).trans (pC_first _ _ _ _ _ _ _ 0 (by decide))
  have e1 : w.cell? ⟨g, 899, none⟩ = some (.int .u64 (wd fs 1 : Int)) := (cell_blk hP).trans (pC_first _ _ _ _ _ _ _ 1 (by decide))
  have e2 : w.cell? ⟨g, 900, none⟩ = some (.int .u64 (wd fs 2 : Int)) := (cell_blk hP).trans (pC_first _ _ _ _ _ _ _ 2 (by decide))
  have e3 : w.cell? ⟨g, 901, none⟩ = some (.int .u64 (wd fs 3 : Int)) := (cell_blk hP).trans (pC_first _ _ _ _ _ _ _ 3 (by decide))
  clear hP
  have z4 : #[Value.int .u64 0, .int .u64 0, .int .u64 0, .int .u64 0] = sC 0 := by simp [sC, wd_zero]
  have S0 : Hid (Sb (((w.alloc (.cells (sC S) 73)).alloc (.cells #[.int .u64 0, .int .u64 0, .int .u64 0, .int .u64 0] 73)).alloc (.cells (sC fs) 73)) w.heap.size S) := ((Sb.new w S).alloc _).alloc _
  have S1 : Hid (Sb (((w.alloc (.cells (sC S) 73)).alloc (.cells #[.int .u64 0, .int .u64 0, .int .u64 0, .int .u64 0] 73)).alloc (.cells (sC fs) 73)) (w.heap.size + 1) 0) := by rw [z4]; exact Sb.alloc (heap_alloc2_new _ _ _) _
  have S2 : Hid (Sb (((w.alloc (.cells (sC S) 73)).alloc (.cells #[.int .u64 0, .int .u64 0, .int .u64 0, .int .u64 0] 73)).alloc (.cells (sC fs) 73)) (w.heap.size + 1 + 1) fs) := heap_alloc3_new _ _ _ _
  have O0 : Hid (Only (fun h => w.heap.size ≤ h) w (((w.alloc (.cells (sC S) 73)).alloc (.cells #[.int .u64 0, .int .u64 0, .int .u64 0, .int .u64 0] 73)).alloc (.cells (sC fs) 73))) := (((Only.refl _ _).alloc _).alloc _).alloc _
  clear z4
  unfold sV
  unfold sC at S0 S1 S2 O0 ⊢
  go_enter Try.func43, Try.ntmps43
  go_wp2_with fail
  go_loopg [15] n (fun gh v wr => ∃ (k : Nat) (W : World), W = wr ∧ gh = n - k ∧ k ≤ n ∧ v = .int .i64 (k : Int) ∧ Sb W w.heap.size S ∧ Sb W (w.heap.size + 1) 0 ∧ Sb W (w.heap.size + 1 + 1) (mayK nx fs S k) ∧ Only (fun h => w.heap.size ≤ h) w W)
  case atStart => exact ⟨0, _, rfl, rfl, Nat.zero_le _, rfl, S0.out, S1.out, S2.out, O0.out⟩
  case round =>
    obtain ⟨k, W, hW, rfl, hk, rfl, hA, hB, hC, hO⟩ := hrel
    subst hW
    have HA : Hid (Sb W w.heap.size S) := hA
    have HB : Hid (Sb W (w.heap.size + 1) 0) := hB
    have HC : Hid (Sb W (w.heap.size + 1 + 1) (mayK nx fs S k)) := hC
    have HO : Hid (Only (fun h => w.heap.size ≤ h) w W) := hO
    clear hA hB hC hO S0 S1 S2 O0 e0 e1 e2 e3 hc1
    by_cases hlt4 : k < n
    · have t1 : (k : Int) < (n : Int) := by omega
      have a0 := HA.out.c 0 (by decide)
      have a1 := HA.out.c 1 (by decide)
      have a2 := HA.out.c 2 (by decide)
      have a3 := HA.out.c 3 (by decide)
      by_cases hbit : S.testBit k = true
      · go_wp2_with (first | (go_at_call 59; refine (has_any S k (by omega) _).mono ?_; rintro e w1 ⟨rfl, ho1⟩; have HO1 : Hid (Only (fun _ => False) W w1) := ho1; have hp1 := HP.out.only (HO.out.trans (ho1.mono (fun _ h => h.elim))) (by omega); have b0 : w1.cell? ⟨g, 98 + k * 4, none⟩ = some (.int .u64 (wd (nx k) 0 : Int)) := (cell_blk hp1).trans (by rw [Nat.mul_comm]; exact pC_next _ _ _ _ _ _ _ k (by omega) 0 (by decide)); have b1 : w1.cell? ⟨g, 98 + k * 4 + 1, none⟩ = some (.int .u64 (wd (nx k) 1 : Int)) := (cell_blk hp1).trans (by rw [Nat.mul_comm]; exact pC_next _ _ _ _ _ _ _ k (by omega) 1 (by decide)); have b2 : w1.cell? ⟨g, 98 + k * 4 + 2, none⟩ = some (.int .u64 (wd (nx k) 2 : Int)) := (cell_blk hp1).trans (by rw [Nat.mul_comm]; exact pC_next _ _ _ _ _ _ _ k (by omega) 2 (by decide)); have b3 : w1.cell? ⟨g, 98 + k * 4 + 3, none⟩ = some (.int .u64 (wd (nx k) 3 : Int)) := (cell_blk hp1).trans (by rw [Nat.mul_comm]; exact pC_next _ _ _ _ _ _ _ k (by omega) 3 (by decide)); clear ho1 hp1) | (go_at_call 42; refine (add_any (w.heap.size + 1 + 1) 0 (mayK nx fs S k) (nx k) _ 73 _ (HC.out.only HO1.out (fun h => h)) (fun j hj => by rw [Nat.zero_add]; exact sC_at _ j hj)).mono ?_; rintro e w2 ⟨rfl, hp2, ho2⟩))
        go_roundg (n - (k + 1))
        case measure => omega
        case rel =>
          refine ⟨k + 1, _, rfl, rfl, by omega, by go_num, (HA.out.only HO1.out (fun h => h)).only ho2 (by omega), (HB.out.only HO1.out (fun h => h)).only ho2 (by omega), ?_, (HO.out.trans (HO1.out.mono (fun _ h => h.elim))).trans (ho2.mono (fun _ h => by omega))⟩
          rw [mayK_succ, if_pos hbit]
          rw [inC_all] at hp2
          exact hp2
      · have hbf : S.testBit k = false := by simpa using hbit
        go_wp2_with (go_at_call 59; refine (has_any S k (by omega) _).mono ?_; rintro e w1 ⟨rfl, ho1⟩)
        go_roundg (n - (k + 1))
        case measure => omega
        case rel => exact ⟨k + 1, _, rfl, rfl, by omega, by go_num, HA.out.only ho1 (fun h => h), HB.out.only ho1 (fun h => h), by rw [mayK_succ, if_neg hbit]; exact HC.out.only ho1 (fun h => h), HO.out.trans (ho1.mono (fun _ h => h.elim))⟩
    · have t2 : decide ((k : Int) < (n : Int)) = false := decide_eq_false (by omega)
      obtain rfl : k = n := by omega
      go_wp2_with (first | refine wpList_load_row rfl 73 _ rfl (w.heap.size + 1 + 1) rfl 73 _ (0, 0) _ HC.out Try.underlying73 rfl sz73 ?_ | (refine wpList_store_rowAny rfl 73 _ _ rfl rfl (w.heap.size + 1) (sC (mayK nx fs S k)) rfl rfl 73 _ HB.out sz73 rfl (sC_one _) ?_; intro w3 h3 o3; have H3 : Hid (w3.heap[w.heap.size + 1]? = some (.cells (sC (mayK nx fs S k)) 73 (0, 0))) := h3; have O3 : Hid (Only (· = w.heap.size + 1) W w3) := o3; clear h3 o3))
      refine bodyPost_ret (v := sV (mayK nx fs S k)) (results_s rfl _ rfl H3.out) rfl ⟨rfl, ?_⟩
      exact (HO.out.trans (O3.out.mono (fun _ h => by omega))).old (fun _ h => Or.inl h)
/-- the last places of each expression, as they lie. -/
def Lw (w : World) (F : Nat → Prop) (v : Value) (Ls : List Nat) : Prop := ∃ a c, v = .slice a Ls.length c ∧ Ls.length ≤ c ∧ ∀ i S, Ls[i]? = some S → ∃ lb, a = some ⟨lb, 0, none⟩ ∧ F lb ∧ lb < w.heap.size ∧ ∀ j, j < 4 → w.cell? ⟨lb, i * 4 + j, none⟩ = some (.int .u64 (wd S j : Int))
theorem Lw.only {w w' : World} {F P : Nat → Prop} {v : Value} {Ls : List Nat} (h : Lw w F v Ls) (ho : Only P w w') (hP : ∀ b, F b → ¬ P b) : Lw w' F v Ls := by
  obtain ⟨a, c, h1, h2, h3⟩ := h
  refine ⟨a, c, h1, h2, fun i S hS => ?_⟩
  obtain ⟨lb, k1, k2, k3, k4⟩ := h3 i S hS
  exact ⟨lb, k1, k2, Nat.lt_of_lt_of_le k3 ho.size, fun j hj => (World.cell?_of_block (a := ⟨lb, i * 4 + j, none⟩) (ho.block lb k3 (hP lb k2))).trans (k4 j hj)⟩
/-- the expressions whose last places meet a state, as far as k of them, as bits, with others. -/
def outK (Ls : List Nat) (S em k : Nat) : Nat := (List.range k).foldl (fun m i => if S &&& (Ls[i]?.getD 0) ≠ 0 then m ||| 2 ^ i else m) em
theorem outK_succ (Ls : List Nat) (S em k : Nat) : outK Ls S em (k + 1) = if S &&& (Ls[k]?.getD 0) ≠ 0 then outK Ls S em k ||| 2 ^ k else outK Ls S em k := by
  unfold outK
  rw [List.range_succ, List.foldl_append]
  rfl
theorem outK_lt (Ls : List Nat) (S em : Nat) (hem : em < 2 ^ 24) : ∀ k, k ≤ 24 → outK Ls S em k < 2 ^ 24
  | 0, _ => hem
  | k + 1, h => by
    rw [outK_succ]
    have ih := outK_lt Ls S em hem k (by omega)
    split
    · exact Nat.or_lt_two_pow ih (Nat.pow_lt_pow_right (by decide) (by omega))
    · exact ih
theorem or_shl {e k : Nat} (he : e < 2 ^ 24) (hk : k < 24) : bits .or .u32 (e : Int) (IntKind.u32.wrap (2 ^ k)) = ((e ||| 2 ^ k : Nat) : Int) := by
  have h : (2 : Nat) ^ k < 2 ^ 24 := Nat.pow_lt_pow_right (by decide) hk
  have e1 : IntKind.u32.wrap (2 ^ k) = ((2 ^ k : Nat) : Int) := by
    rw [IntKind.wrap_u32]
    have : ((2 : Int) ^ k) = ((2 ^ k : Nat) : Int) := by push_cast; rfl
    rw [this]
    generalize 2 ^ k = m at h
    omega
  rw [e1]
  exact u32_or_nat _ _ (Nat.lt_trans he (by decide)) (Nat.lt_trans h (by decide))
set_option maxRecDepth 100000 in
set_option maxHeartbeats 4000000 in
theorem out_any (F : Nat → Prop) (g cl n : Nat) (b nx : Nat → Nat) (fs : Nat) (vL : Value) (em S : Nat) (Ls : List Nat) (w : World) (hP : Plb w g cl n b nx fs vL em) (hL : Lw w F vL Ls) (hl : Ls.length ≤ 24) (hem : em < 2 ^ 24) (hS : S < 2 ^ 256) (hLs : ∀ x ∈ Ls, x < 2 ^ 256) :
    Calls Try.prog 45 #[.pointer (some ⟨g, 0, none⟩), sV S] w fun e w' => e = .returned (.int .u32 (outK Ls S em Ls.length : Int)) ∧ Only (fun _ => False) w w' := by
  have hlt := hP.lt
  have hlt1 : g < w.heap.size + 1 := by omega
  obtain ⟨a, c, rfl, hac, hcells⟩ := hL
  have e5 := hP.c902
  have e6 := hP.c903
  have HC : Hid (∀ i S, Ls[i]? = some S → ∃ lb, a = some ⟨lb, 0, none⟩ ∧ F lb ∧ lb < w.heap.size ∧ ∀ j, j < 4 → w.cell? ⟨lb, i * 4 + j, none⟩ = some (.int .u64 (wd S j : Int))) := hcells
  have HS : Hid (S < 2 ^ 256) := hS
  have HLs : Hid (∀ x ∈ Ls, x < 2 ^ 256) := hLs
  have HM : Hid (em < 2 ^ 24) := hem
  clear hP hcells hS hLs hem
  obtain ⟨n1, hn1⟩ : ∃ n1, n1 = Ls.length := ⟨_, rfl⟩
  have HN : Hid (n1 = Ls.length) := hn1
  rw [← hn1] at hl hac e5 ⊢
  clear hn1
  have S0 : Hid (Sb (w.alloc (.cells (sC S) 73)) w.heap.size S) := Sb.new w S
  have O0 : Hid (Only (fun h => w.heap.size ≤ h) w (w.alloc (.cells (sC S) 73))) := (Only.refl _ _).alloc _
  unfold sV
  unfold sC at S0 O0 ⊢
  go_enter Try.func45, Try.ntmps45
  go_wp2_with fail
  go_loopg [5, 17] n1 (fun gh v u wr => ∃ (k : Nat) (W : World), W = wr ∧ gh = n1 - k ∧ k ≤ n1 ∧ v = .int .u32 (outK Ls S em k : Int) ∧ u = .int .i64 (k : Int) ∧ Sb W w.heap.size S ∧ Only (fun h => w.heap.size ≤ h) w W)
  case atStart => exact ⟨0, _, rfl, rfl, Nat.zero_le _, rfl, rfl, S0.out, O0.out⟩
  case round =>
    obtain ⟨k, W, hW, rfl, hk, rfl, rfl, hA, hO⟩ := hrel
    subst hW
    have HA : Hid (Sb W w.heap.size S) := hA
    have HO : Hid (Only (fun h => w.heap.size ≤ h) w W) := hO
    have hwl : w.heap.size < W.heap.size := hA.lt
    clear hA hO S0 O0 e5 e6
    by_cases hlt4 : k < n1
    · have t1 : (k : Int) < (n1 : Int) := by omega
      obtain ⟨T, hT⟩ : ∃ T, Ls[k]? = some T := ⟨_, List.getElem?_eq_getElem (by rw [← HN.out]; exact hlt4)⟩
      obtain ⟨lb, rfl, _, hlb, hc4⟩ := HC.out k T hT
      have HT : Hid (T < 2 ^ 256) := HLs.out T (List.mem_of_getElem? hT)
      have hkp : ∀ j, j < 4 → W.cell? ⟨lb, k * 4 + j, none⟩ = some (.int .u64 (wd T j : Int)) := fun j hj => (World.cell?_of_block (a := ⟨lb, k * 4 + j, none⟩) (HO.out.block lb hlb (by omega))).trans (hc4 j hj)
      have b0 : W.cell? ⟨lb, k * 4, none⟩ = some (.int .u64 (wd T 0 : Int)) := hkp 0 (by decide)
      have b1 : W.cell? ⟨lb, k * 4 + 1, none⟩ = some (.int .u64 (wd T 1 : Int)) := hkp 1 (by decide)
      have b2 : W.cell? ⟨lb, k * 4 + 2, none⟩ = some (.int .u64 (wd T 2 : Int)) := hkp 2 (by decide)
      have b3 : W.cell? ⟨lb, k * 4 + 3, none⟩ = some (.int .u64 (wd T 3 : Int)) := hkp 3 (by decide)
      have a0 := HA.out.c 0 (by decide)
      have a1 := HA.out.c 1 (by decide)
      have a2 := HA.out.c 2 (by decide)
      have a3 := HA.out.c 3 (by decide)
      have hsu := outK_succ Ls S em k
      rw [hT, Option.getD_some] at hsu
      have HSU : Hid (outK Ls S em (k + 1) = if S &&& T ≠ 0 then outK Ls S em k ||| 2 ^ k else outK Ls S em k) := hsu
      have hor := or_shl (outK_lt Ls S em HM.out k (by omega)) (show k < 24 by omega)
      have hST : S &&& T < 2 ^ 256 := Nat.lt_of_le_of_lt Nat.and_le_left HS.out
      clear hkp hc4 hT hsu
      by_cases hz : S &&& T = 0
      · have hq : ∀ w, (Op.equalIn 10000 73 (.agg #[.int .u64 (wd (S &&& T) 0 : Int), .int .u64 (wd (S &&& T) 1 : Int), .int .u64 (wd (S &&& T) 2 : Int), .int .u64 (wd (S &&& T) 3 : Int)]) (.agg #[.int .u64 0, .int .u64 0, .int .u64 0, .int .u64 0])).run Try.prog w = .ok true w := fun w => by rw [eqz hST, decide_eq_true hz]
        have HZ : Hid (S &&& T = 0) := hz
        clear hz hST
        go_wp2_with (go_at_call 44; refine (both_any S T _).mono ?_; rintro e w1 ⟨rfl, ho1⟩; unfold sV sC)
        go_roundg (n1 - (k + 1))
        case measure => omega
        case rel => exact ⟨k + 1, _, rfl, rfl, by omega, by rw [HSU.out, if_neg (fun h => h HZ.out)], by go_num, (HA.out.alloc _).only ho1 (fun h => h), (HO.out.alloc _).trans (ho1.mono (fun _ h => h.elim))⟩
      · have hq : ∀ w, (Op.equalIn 10000 73 (.agg #[.int .u64 (wd (S &&& T) 0 : Int), .int .u64 (wd (S &&& T) 1 : Int), .int .u64 (wd (S &&& T) 2 : Int), .int .u64 (wd (S &&& T) 3 : Int)]) (.agg #[.int .u64 0, .int .u64 0, .int .u64 0, .int .u64 0])).run Try.prog w = .ok false w := fun w => by rw [eqz hST, decide_eq_false hz]
        have HZ : Hid (¬ S &&& T = 0) := hz
        clear hz hST
        go_wp2_with (go_at_call 44; refine (both_any S T _).mono ?_; rintro e w1 ⟨rfl, ho1⟩; unfold sV sC)
        go_roundg (n1 - (k + 1))
        case measure => omega
        case rel => exact ⟨k + 1, _, rfl, rfl, by omega, by rw [HSU.out, if_pos HZ.out, ← hor, IntKind.wrap_u32], by go_num, (HA.out.alloc _).only ho1 (fun h => h), (HO.out.alloc _).trans (ho1.mono (fun _ h => h.elim))⟩
    · have t2 : decide ((k : Int) < (n1 : Int)) = false := decide_eq_false (by omega)
      obtain rfl : k = n1 := by omega
      go_wp2_with fail
      go_ret
      exact ⟨rfl, HO.out.old (fun _ h => Or.inl h)⟩
end Go.Proofs.Ytfbcijnacbfjpaa
namespace Go.Proofs.Ytfbcijnacbfjpaa
open Go.RowKit Go.Maps
set_option linter.unusedVariables false
set_option linter.unusedSimpArgs false
open Rl (Ex)
/-- sets as cells. -/
def flS : List Nat → List Value
  | [] => []
  | S :: L => (sC S).toList ++ flS L
theorem flS_snoc : ∀ (L : List Nat) (S : Nat), flS (L ++ [S]) = flS L ++ (sC S).toList
  | [], S => by simp [flS]
  | x :: L, S => by rw [List.cons_append, flS, flS_snoc L S, flS, List.append_assoc]
theorem flS_at : ∀ (L : List Nat) (i k S : Nat), L[i]? = some S → k < 4 → (flS L)[i * 4 + k]? = some (.int .u64 (wd S k : Int))
  | x :: L, 0, k, S, h, hk => by
    injection h with h
    subst h
    rw [flS, Nat.zero_mul, Nat.zero_add, List.getElem?_append_left (by show k < 4; exact hk), Array.getElem?_toList]
    exact sC_at x k hk
  | x :: L, i + 1, k, S, h, hk => by
    rw [flS, List.getElem?_append_right (by show 4 ≤ _; omega)]
    show (flS L)[(i + 1) * 4 + k - 4]? = _
    rw [show (i + 1) * 4 + k - 4 = i * 4 + k by omega]
    exact flS_at L i k S (by simpa using h) hk
theorem Lw.row {w : World} {base : Nat} {v : Value} {Ls : List Nat} (h : w.ownsRow base 73 4 v Ls.length (flS Ls)) : Lw w (fun b => base ≤ b) v Ls := by
  obtain ⟨hl, ⟨rfl, h0⟩ | ⟨g, cap, cur, rfl, h1, h2, h3, h4, h5, h6⟩⟩ := h
  · refine ⟨none, 0, by rw [h0], by omega, fun i S hS => ?_⟩
    have := (List.getElem?_eq_some_iff.1 hS).1
    omega
  · refine ⟨some ⟨g, 0, none⟩, cap, rfl, h3, fun i S hS => ⟨g, rfl, h1, (Array.getElem?_eq_some_iff.1 h2).1, fun j hj => ?_⟩⟩
    have hi := (List.getElem?_eq_some_iff.1 hS).1
    have := flS_at Ls i j S hS hj
    rw [← h6, List.getElem?_take, if_pos (by omega), Array.getElem?_toList] at this
    rw [cell_blk h2]
    exact this
theorem info73b : (Try.prog.info? 73).map (fun i => (i.zero, i.size, i.bytes)) = some (some (.agg #[.int .u64 0, .int .u64 0, .int .u64 0, .int .u64 0]), 4, 32) := by kernel_rfl
/-- how read ends. -/
def readP (w : World) (g cl : Nat) (fs em : Nat) (Ls : List Nat) (R : Option (Au.Nd × Au.Pl)) (e : Ending) (w' : World) : Prop :=
  match R with
  | none => e = .returned (.bool false) ∧ Only (fun h => g ≤ h) w w'
  | some (x, p1) => e = .returned (.bool true) ∧ (∃ vL, Plm w' g cl p1 (fs ||| x.first) vL (if x.none = true then em ||| 2 ^ Ls.length else em) ∧ w'.ownsRow (g + 1) 73 4 vL (Ls.length + 1) (flS (Ls ++ [x.last]))) ∧ Only (fun h => g ≤ h) w w'
theorem sC_news (w : World) (S : Nat) : ∀ j u, (sC S).toList[j]? = some u → (w.alloc (.cells (sC S) 73)).cell? ((⟨w.heap.size, 0, none⟩ : Addr).add j) = some u := by
  intro j u hj
  rw [Addr.add_mid, Nat.zero_add, cell_of_row _ _ _ _ _ _ (heap_alloc_new _ _)]
  simpa using hj
theorem sC_cells (S : Nat) : ∀ u ∈ (sC S).toList, u.oneCell' = true := fun u hu => (Array.all_eq_true_iff_forall_mem.1 (sC_one S)) u (by simpa using hu)
set_option maxRecDepth 100000 in
set_option maxHeartbeats 8000000 in
theorem read_any (F : Nat → Prop) (g cl : Nat) (p : Au.Pl) (fs : Nat) (vL : Value) (em : Nat) (Ls : List Nat) (ex : Ex) (v : Value) (w : World) (hP : Plm w g cl p fs vL em) (hL : w.ownsRow (g + 1) 73 4 vL Ls.length (flS Ls)) (hl : Ls.length < 24) (hem : em < 2 ^ 24) (hp : Au.OkP p) (hp2 : p.sets.length ≤ 200) (hcl : cl ≤ 24) (he : Te w F ex v) (hF : ∀ b, F b → b < g) (hD : Au.dp ex ≤ 1000000) :
    Calls Try.prog 25 #[.pointer (some ⟨g, 0, none⟩), v] w (readP w g cl fs em Ls (Au.node ex p)) := by
  have hlt := hP.lt
  obtain ⟨op, set, a, n, c, rfl⟩ : ∃ op set a n c, v = .agg #[.int .u8 op, .int .u32 set, .slice a n c] := by
    obtain ⟨o, s, kids⟩ := ex
    obtain ⟨a, cap, rfl, _⟩ := he.kids
    exact ⟨o, s, a, _, cap, rfl⟩
  have hO : Only (fun _ => False) w (w.alloc (.cells #[.int .u8 op, .int .u32 set, .slice a n c] 49)) := (Only.refl _ _).alloc _
  have HO0 : Hid (Only (fun _ => False) w (w.alloc (.cells #[.int .u8 op, .int .u32 set, .slice a n c] 49))) := hO
  have HC : Hid (Calls Try.prog 41 #[.pointer (some ⟨g, 0, none⟩), .agg #[.int .u8 op, .int .u32 set, .slice a n c]] (w.alloc (.cells #[.int .u8 op, .int .u32 set, .slice a n c] 49)) (partP (w.alloc (.cells #[.int .u8 op, .int .u32 set, .slice a n c] 49)) g cl fs vL em (Au.node ex p))) := part_any F g cl p fs vL em ex _ _ (Plb.only hP hO (fun h => h)) hp hp2 hcl (Te.keep (Kp.only hO (fun _ _ h => h)) (fun _ h => h) ex _ he) (fun b hb => ⟨by have := hF b hb; omega, by have := hF b hb; simp; omega⟩) hD
  have HL : Hid (w.ownsRow (g + 1) 73 4 vL Ls.length (flS Ls)) := hL
  have HM : Hid (em < 2 ^ 24) := hem
  obtain ⟨lc, rfl⟩ : ∃ lc : Option Addr × Nat, vL = .slice lc.1 Ls.length lc.2 := by
    obtain ⟨a, c, h, _⟩ := Lw.row hL
    exact ⟨(a, c), h⟩
  obtain ⟨la, lc⟩ := lc
  simp only at HC HL
  clear hP hp hp2 he hF hD hO hL hem
  cases hn : Au.node ex p with
  | none =>
    have HN : Hid (Au.node ex p = none) := hn
    clear hn
    go_enter Try.func25, Try.ntmps25
    go_wp2_with (go_at_call 41; have hc := HC.out; rw [HN.out] at hc; refine hc.mono ?_; clear hc; rintro e w1 ⟨rfl, ho1⟩; unfold zPt)
    go_ret
    exact ⟨rfl, ((HO0.out.mono (fun _ h => h.elim)).trans (ho1.mono (fun _ h => by omega))).alloc _⟩
  | some r =>
    obtain ⟨⟨xe, xf, xl⟩, p1⟩ := r
    have HN : Hid (Au.node ex p = some (⟨xe, xf, xl⟩, p1)) := hn
    clear hn
    obtain ⟨i9, h9, h90, h91, h92⟩ := info_parts info73b
    cases xe
    · go_enter Try.func25, Try.ntmps25
      go_wp2_with (go_at_call 41; have hc := HC.out; rw [HN.out] at hc; refine hc.mono ?_; clear hc; rintro e w1 ⟨rfl, hp1, ho1⟩; have HP1 : Hid (Plm w1 g cl p1 fs (.slice la Ls.length lc) em) := hp1; have HO1 : Hid (Only (fun h => g ≤ h) w w1) := (HO0.out.mono (fun _ h => h.elim)).trans (ho1.mono (fun _ h => by omega)); have HL1 : Hid (w1.ownsRow (g + 1) 73 4 (.slice la Ls.length lc) Ls.length (flS Ls)) := own_only (own_only HL.out HO0.out (fun _ _ h => h)) ho1 (fun b hb => by omega); clear hp1 ho1; unfold ptV ptC)
      have HPW : Hid (Plm (w1.alloc (.cells (ptC ⟨false, xf, xl⟩) 109)) g cl p1 fs (.slice la Ls.length lc) em) := HP1.out.only (P := fun _ => False) ((Only.refl _ _).alloc _) (fun h => h)
      have HTW : Hid (Ptb (w1.alloc (.cells (ptC ⟨false, xf, xl⟩) 109)) w1.heap.size ⟨false, xf, xl⟩) := heap_alloc_new _ _
      have HLW : Hid ((w1.alloc (.cells (ptC ⟨false, xf, xl⟩) 109)).ownsRow (g + 1) 73 4 (.slice la Ls.length lc) Ls.length (flS Ls)) := HL1.out.alloc _
      have HOW : Hid (Only (fun h => g ≤ h) w (w1.alloc (.cells (ptC ⟨false, xf, xl⟩) 109))) := HO1.out.alloc _
      have hg1 : g < w1.heap.size := HP1.out.lt
      go_region_with (go_at_call 42; refine (add_any g 898 fs xf _ 78 _ (HPW.out.only (Only.refl (fun _ => False) _).drew (fun h => h)) (pC_first _ _ _ _ _ _ _)).mono ?_; rintro e w2 ⟨rfl, hp2, ho2⟩; rw [pC_putFirst] at hp2; have HP2 : Hid (Plb w2 g cl p1.sets.length (byP cl p1) p1.next (fs ||| xf) (.slice la Ls.length lc) em) := hp2; have HT2 : Hid (Ptb w2 w1.heap.size ⟨false, xf, xl⟩) := (HTW.out.only (Only.refl (fun _ => False) _).drew (fun h => h)).only ho2 (by omega); have HL2 : Hid (w2.ownsRow (g + 1) 73 4 (.slice la Ls.length lc) Ls.length (flS Ls)) := own_only (own_only HLW.out (Only.refl (fun _ => False) _).drew (fun _ _ h => h)) ho2 (fun b hb => by omega); have HO2 : Hid (Only (fun h => g ≤ h) w w2) := (HOW.out.drew).trans (ho2.mono (fun _ h => by omega)); clear hp2 ho2)
      all_goals
        go_wp2_with fail
        have HT2d : Hid (Ptb w2.drew w1.heap.size ⟨false, xf, xl⟩) := HT2.out.only (Only.refl (fun _ => False) _).drew (fun h => h)
        have HP2d : Hid (Plb w2.drew g cl p1.sets.length (byP cl p1) p1.next (fs ||| xf) (.slice la Ls.length lc) em) := HP2.out.only (Only.refl (fun _ => False) _).drew (fun h => h)
        have HL2d : Hid (w2.drew.ownsRow (g + 1) 73 4 (.slice la Ls.length lc) Ls.length (flS Ls)) := own_only HL2.out (Only.refl (fun _ => False) _).drew (fun _ _ h => h)
        have hg2 : g < w2.heap.size := HP2.out.lt
        have d902 := HP2d.out.c902
        have d902c : (w2.alloc (.cells #[.int .u64 (wd xl 0 : Int), .int .u64 (wd xl 1 : Int), .int .u64 (wd xl 2 : Int), .int .u64 (wd xl 3 : Int)] 73)).drew.cell? ⟨g, 902, none⟩ = some (.slice la Ls.length lc) := (HP2.out.only (P := fun _ => False) ((Only.refl _ _).alloc _).drew (fun h => h)).c902
        have d902e : (w2.alloc (.cells #[.int .u64 (wd xl 0 : Int), .int .u64 (wd xl 1 : Int), .int .u64 (wd xl 2 : Int), .int .u64 (wd xl 3 : Int)] 73)).cell? ⟨g, 902, none⟩ = some (.slice la Ls.length lc) := (HP2.out.only (P := fun _ => False) ((Only.refl _ _).alloc _) (fun h => h)).c902
        have d902b : (w2.drew.alloc (.cells #[.int .u64 (wd xl 0 : Int), .int .u64 (wd xl 1 : Int), .int .u64 (wd xl 2 : Int), .int .u64 (wd xl 3 : Int)] 73)).cell? ⟨g, 902, none⟩ = some (.slice la Ls.length lc) := (HP2d.out.only (P := fun _ => False) ((Only.refl _ _).alloc _) (fun h => h)).c902
        refine wp_region_held_drew (S := fun w' => Ptb w' w1.heap.size ⟨false, xf, xl⟩) (by kernel_rfl) HT2d.out (fun hHeld => ?_)
        refine wpAnyH_take (i := 0) (v := Value.pointer (some ⟨g, 0, none⟩)) rfl (by kernel_rfl) (by kernel_rfl) (by kernel_rfl) (fun _ _ _ h => h) (Or.inl ⟨by rfl, fun w hSw => by first | (go_simp; done) | go_simp⟩) (by assumption) ?_
        simp only [Act.put, List.setIfInBounds_toArray, List.set_cons_zero, List.set_cons_succ]
        refine wpAnyH_take (i := 1) (v := Value.pointer (some ⟨g, 0, none⟩)) rfl (by kernel_rfl) (by kernel_rfl) (by kernel_rfl) (fun _ _ _ h => h) (Or.inl ⟨by rfl, fun w hSw => by first | (go_simp; done) | go_simp⟩) (by assumption) ?_
        simp only [Act.put, List.setIfInBounds_toArray, List.set_cons_zero, List.set_cons_succ]
        refine wpAnyH_take (i := 2) (v := Value.pointer (some ⟨g, 0, none⟩)) rfl (by kernel_rfl) (by kernel_rfl) (by kernel_rfl) (fun _ _ _ h => h) (Or.inl ⟨by rfl, fun w hSw => by first | (go_simp; done) | go_simp⟩) (by assumption) ?_
        simp only [Act.put, List.setIfInBounds_toArray, List.set_cons_zero, List.set_cons_succ]
        refine wpAnyH_take (i := 3) (v := Value.pointer (some ⟨g, 902, none⟩)) rfl (by kernel_rfl) (by kernel_rfl) (by kernel_rfl) (fun _ _ _ h => h) (Or.inl ⟨by rfl, fun w hSw => by first | (go_simp; done) | go_simp⟩) (by assumption) ?_
        simp only [Act.put, List.setIfInBounds_toArray, List.set_cons_zero, List.set_cons_succ]
        refine wpAnyH_take (i := 5) (v := Value.pointer (some ⟨w1.heap.size, 5, none⟩)) rfl (by kernel_rfl) (by kernel_rfl) (by kernel_rfl) (fun _ _ _ h => h) (Or.inl ⟨by rfl, fun w hSw => by first | (go_simp; done) | go_simp⟩) (by assumption) ?_
        simp only [Act.put, List.setIfInBounds_toArray, List.set_cons_zero, List.set_cons_succ]
        refine wpAnyH_take (i := 6) (v := Value.agg #[.int .u64 (wd xl 0 : Int), .int .u64 (wd xl 1 : Int), .int .u64 (wd xl 2 : Int), .int .u64 (wd xl 3 : Int)]) rfl (by kernel_rfl) (by kernel_rfl) (by kernel_rfl) (fun _ _ _ h => h) (Or.inl ⟨by rfl, fun w hSw => by have q0 := hSw.l 0 (by decide); have q1 := hSw.l 1 (by decide); have q2 := hSw.l 2 (by decide); have q3 := hSw.l 3 (by decide); simp only [Nat.reduceAdd] at q0 q1 q2 q3; clear hSw; go_simp⟩) (by assumption) ?_
        simp only [Act.put, List.setIfInBounds_toArray, List.set_cons_zero, List.set_cons_succ]
        refine wpAnyH_ready (rs := [4, 7]) (by kernel_rfl) (by simp) ?_
        refine AllReadyH.cons rfl (fun K hK => ?_) (AllReadyH.cons rfl (fun K hK => ?_) AllReadyH.nil)
        · rw [if_pos (by rfl)]
          go_simp
          refine hK.out _ _ HT2d.out (fun hHeld2 => ?_)
          clear hK
          refine wpAnyH_ready (rs := [7]) (by kernel_rfl) (by simp) ?_
          refine AllReadyH.cons rfl (fun K hK => ?_) AllReadyH.nil
          rw [if_pos (by rfl)]
          go_simp
          refine hK.out _ _ (HT2d.out.only (P := fun _ => False) ((Only.refl _ _).alloc _) (fun h => h)) (fun hHeld3 => ?_)
          clear hK
          refine wpAnyH_ready (rs := [8]) (by kernel_rfl) (by simp) ?_
          refine AllReadyH.cons rfl (fun K hK => ?_) AllReadyH.nil
          refine step_of_wp rfl (wp_append_at _ _ _ 76 rfl (g + 1) 73 i9 _ 4 32 Try.underlying76 h9 h90 h91 h92 rfl (by decide) (.slice la Ls.length lc) Ls.length (flS Ls) rfl (HL2d.out.alloc _) ⟨w2.heap.size, 0, none⟩ 1 1 (sC xl).toList rfl rfl (sC_news _ _) (sC_cells _) (by unfold maxLen; omega) (by omega) (by simp; omega) ?_)
          intro v5 w5 hown5 hg5
          have hO5 : Only (fun h => g + 1 ≤ h) (w2.drew.alloc (.cells (sC xl) 73)) w5 := (Only.refl _ _).grown hg5 (fun k hk => (HL2d.out.lt k hk).1)
          have hPl5 : Plb w5 g cl p1.sets.length (byP cl p1) p1.next (fs ||| xf) (.slice la Ls.length lc) em := (HP2d.out.only (P := fun _ => False) ((Only.refl _ _).alloc _) (fun h => h)).only hO5 (by omega)
          have hT5 : Ptb w5 w1.heap.size ⟨false, xf, xl⟩ := by
            refine (HT2d.out.only (P := fun _ => False) ((Only.refl _ _).alloc _) (fun h => h)).only ((Only.refl (fun h => (Value.slice la Ls.length lc).ownBlock = some h) _).grown hg5 (fun k hk => hk)) (fun e => ?_)
            exact own_notag HL2d.out 109 (by decide) _ e _ _ HT2d.out
          obtain ⟨gv, capv, rfl, hgb5, hgl5, hgc5, _⟩ := row_form hown5 (by omega)
          refine hK.out _ _ hT5 (fun hHeldA => ?_)
          clear hK
          have d2 := hPl5.c902
          have g2 := hPl5.fz 902
          try simp only [Act.put, List.setIfInBounds_toArray, List.set_cons_zero, List.set_cons_succ]
          refine wpAnyH_take (i := 9) (v := Value.pointer (some ⟨g, 0, none⟩)) rfl (by kernel_rfl) (by kernel_rfl) (by kernel_rfl) (fun _ _ _ h => h) (Or.inl ⟨by rfl, fun w hSw => by first | (go_simp; done) | go_simp⟩) (by assumption) ?_
          simp only [Act.put, List.setIfInBounds_toArray, List.set_cons_zero, List.set_cons_succ]
          refine wpAnyH_take (i := 10) (v := Value.pointer (some ⟨g, 902, none⟩)) rfl (by kernel_rfl) (by kernel_rfl) (by kernel_rfl) (fun _ _ _ h => h) (Or.inl ⟨by rfl, fun w hSw => by first | (go_simp; done) | go_simp⟩) (by assumption) ?_
          simp only [Act.put, List.setIfInBounds_toArray, List.set_cons_zero, List.set_cons_succ]
          refine wpAnyH_ready (rs := [11]) (by kernel_rfl) (by simp) ?_
          refine AllReadyH.cons rfl (fun K hK => ?_) AllReadyH.nil
          rw [if_pos (by rfl)]
          go_simp
          refine hK.out _ _ (hT5.only ((Only.refl (· = g) _).setCell (p := ⟨g, 902, none⟩) rfl _) (by omega)) (fun hHeldB => ?_)
          clear hK
          refine wpAnyH_done (by kernel_rfl) ?_ _
          clear hHeldA hHeldB
          go_wp2_with fail
          go_ret
          refine ⟨rfl, ⟨.slice (some ⟨gv, 0, none⟩) (Ls.length + 1) capv, ?_, ?_⟩, ?_⟩
          · have h6 := heap_setCell_at (k := 902) hPl5 (.slice (some ⟨gv, 0, none⟩) (Ls.length + 1) capv)
            rw [pC_setL] at h6
            exact h6
          · rw [flS_snoc]
            exact own_only hown5 ((Only.refl (· = g) _).setCell (p := ⟨g, 902, none⟩) rfl _) (fun b hb => by omega)
          · exact Only.setCell (S := fun h => g ≤ h) (((HO2.out.drew).alloc _).trans (hO5.mono (fun _ h => by omega))) (p := ⟨g, 902, none⟩) (Nat.le_refl g) _
        · rw [if_pos (by rfl)]
          go_simp
          refine hK.out _ _ (HT2d.out.only (P := fun _ => False) ((Only.refl _ _).alloc _) (fun h => h)) (fun hHeld2 => ?_)
          clear hK
          refine wpAnyH_ready (rs := [4]) (by kernel_rfl) (by simp) ?_
          refine AllReadyH.cons rfl (fun K hK => ?_) AllReadyH.nil
          rw [if_pos (by rfl)]
          go_simp
          refine hK.out _ _ (HT2d.out.only (P := fun _ => False) ((Only.refl _ _).alloc _) (fun h => h)) (fun hHeld3 => ?_)
          clear hK
          refine wpAnyH_ready (rs := [8]) (by kernel_rfl) (by simp) ?_
          refine AllReadyH.cons rfl (fun K hK => ?_) AllReadyH.nil
          refine step_of_wp rfl (wp_append_at _ _ _ 76 rfl (g + 1) 73 i9 _ 4 32 Try.underlying76 h9 h90 h91 h92 rfl (by decide) (.slice la Ls.length lc) Ls.length (flS Ls) rfl (HL2d.out.alloc _) ⟨w2.heap.size, 0, none⟩ 1 1 (sC xl).toList rfl rfl (sC_news _ _) (sC_cells _) (by unfold maxLen; omega) (by omega) (by simp; omega) ?_)
          intro v5 w5 hown5 hg5
          have hO5 : Only (fun h => g + 1 ≤ h) (w2.drew.alloc (.cells (sC xl) 73)) w5 := (Only.refl _ _).grown hg5 (fun k hk => (HL2d.out.lt k hk).1)
          have hPl5 : Plb w5 g cl p1.sets.length (byP cl p1) p1.next (fs ||| xf) (.slice la Ls.length lc) em := (HP2d.out.only (P := fun _ => False) ((Only.refl _ _).alloc _) (fun h => h)).only hO5 (by omega)
          have hT5 : Ptb w5 w1.heap.size ⟨false, xf, xl⟩ := by
            refine (HT2d.out.only (P := fun _ => False) ((Only.refl _ _).alloc _) (fun h => h)).only ((Only.refl (fun h => (Value.slice la Ls.length lc).ownBlock = some h) _).grown hg5 (fun k hk => hk)) (fun e => ?_)
            exact own_notag HL2d.out 109 (by decide) _ e _ _ HT2d.out
          obtain ⟨gv, capv, rfl, hgb5, hgl5, hgc5, _⟩ := row_form hown5 (by omega)
          refine hK.out _ _ hT5 (fun hHeldA => ?_)
          clear hK
          have d2 := hPl5.c902
          have g2 := hPl5.fz 902
          try simp only [Act.put, List.setIfInBounds_toArray, List.set_cons_zero, List.set_cons_succ]
          refine wpAnyH_take (i := 9) (v := Value.pointer (some ⟨g, 0, none⟩)) rfl (by kernel_rfl) (by kernel_rfl) (by kernel_rfl) (fun _ _ _ h => h) (Or.inl ⟨by rfl, fun w hSw => by first | (go_simp; done) | go_simp⟩) (by assumption) ?_
          simp only [Act.put, List.setIfInBounds_toArray, List.set_cons_zero, List.set_cons_succ]
          refine wpAnyH_take (i := 10) (v := Value.pointer (some ⟨g, 902, none⟩)) rfl (by kernel_rfl) (by kernel_rfl) (by kernel_rfl) (fun _ _ _ h => h) (Or.inl ⟨by rfl, fun w hSw => by first | (go_simp; done) | go_simp⟩) (by assumption) ?_
          simp only [Act.put, List.setIfInBounds_toArray, List.set_cons_zero, List.set_cons_succ]
          refine wpAnyH_ready (rs := [11]) (by kernel_rfl) (by simp) ?_
          refine AllReadyH.cons rfl (fun K hK => ?_) AllReadyH.nil
          rw [if_pos (by rfl)]
          go_simp
          refine hK.out _ _ (hT5.only ((Only.refl (· = g) _).setCell (p := ⟨g, 902, none⟩) rfl _) (by omega)) (fun hHeldB => ?_)
          clear hK
          refine wpAnyH_done (by kernel_rfl) ?_ _
          clear hHeldA hHeldB
          go_wp2_with fail
          go_ret
          refine ⟨rfl, ⟨.slice (some ⟨gv, 0, none⟩) (Ls.length + 1) capv, ?_, ?_⟩, ?_⟩
          · have h6 := heap_setCell_at (k := 902) hPl5 (.slice (some ⟨gv, 0, none⟩) (Ls.length + 1) capv)
            rw [pC_setL] at h6
            exact h6
          · rw [flS_snoc]
            exact own_only hown5 ((Only.refl (· = g) _).setCell (p := ⟨g, 902, none⟩) rfl _) (fun b hb => by omega)
          · exact Only.setCell (S := fun h => g ≤ h) (((HO2.out.drew).alloc _).trans (hO5.mono (fun _ h => by omega))) (p := ⟨g, 902, none⟩) (Nat.le_refl g) _
    · go_enter Try.func25, Try.ntmps25
      go_wp2_with (go_at_call 41; have hc := HC.out; rw [HN.out] at hc; refine hc.mono ?_; clear hc; rintro e w1 ⟨rfl, hp1, ho1⟩; have HP1 : Hid (Plm w1 g cl p1 fs (.slice la Ls.length lc) em) := hp1; have HO1 : Hid (Only (fun h => g ≤ h) w w1) := (HO0.out.mono (fun _ h => h.elim)).trans (ho1.mono (fun _ h => by omega)); have HL1 : Hid (w1.ownsRow (g + 1) 73 4 (.slice la Ls.length lc) Ls.length (flS Ls)) := own_only (own_only HL.out HO0.out (fun _ _ h => h)) ho1 (fun b hb => by omega); clear hp1 ho1; unfold ptV ptC)
      have HPW : Hid (Plm (w1.alloc (.cells (ptC ⟨true, xf, xl⟩) 109)) g cl p1 fs (.slice la Ls.length lc) em) := HP1.out.only (P := fun _ => False) ((Only.refl _ _).alloc _) (fun h => h)
      have HTW : Hid (Ptb (w1.alloc (.cells (ptC ⟨true, xf, xl⟩) 109)) w1.heap.size ⟨true, xf, xl⟩) := heap_alloc_new _ _
      have HLW : Hid ((w1.alloc (.cells (ptC ⟨true, xf, xl⟩) 109)).ownsRow (g + 1) 73 4 (.slice la Ls.length lc) Ls.length (flS Ls)) := HL1.out.alloc _
      have HOW : Hid (Only (fun h => g ≤ h) w (w1.alloc (.cells (ptC ⟨true, xf, xl⟩) 109))) := HO1.out.alloc _
      have hg1 : g < w1.heap.size := HP1.out.lt
      unfold ptC at HPW HTW HLW HOW
      generalize w1.alloc (.cells #[.bool true, .int .u64 (wd xf 0 : Int), .int .u64 (wd xf 1 : Int), .int .u64 (wd xf 2 : Int), .int .u64 (wd xf 3 : Int), .int .u64 (wd xl 0 : Int), .int .u64 (wd xl 1 : Int), .int .u64 (wd xl 2 : Int), .int .u64 (wd xl 3 : Int)] 109) = Wa at HPW HTW HLW HOW ⊢
      have k902 := HPW.out.c902
      have k903 := HPW.out.c903
      have f903 := HPW.out.fz 903
      have hor := or_shl HM.out hl
      rw [IntKind.wrap_u32] at hor
      have HOR : Hid (bits .or .u32 (em : Int) (2 ^ Ls.length % 4294967296) = ((em ||| 2 ^ Ls.length : Nat) : Int)) := hor
      clear hor
      have hO3 : Only (· = g) Wa (Wa.setCell ⟨g, 903, none⟩ (.int .u32 (bits .or .u32 (em : Int) (2 ^ Ls.length % 4294967296)))).drew := ((Only.refl (· = g) _).setCell (p := ⟨g, 903, none⟩) rfl _).drew
      have HPX : Hid (Plm (Wa.setCell ⟨g, 903, none⟩ (.int .u32 (bits .or .u32 (em : Int) (2 ^ Ls.length % 4294967296)))).drew g cl p1 fs (.slice la Ls.length lc) (em ||| 2 ^ Ls.length)) := by
        rw [HOR.out]
        have h := heap_setCell_at (k := 903) HPW.out (.int .u32 ((em ||| 2 ^ Ls.length : Nat) : Int))
        rw [pC_setE] at h
        exact h
      have HTX : Hid (Ptb (Wa.setCell ⟨g, 903, none⟩ (.int .u32 (bits .or .u32 (em : Int) (2 ^ Ls.length % 4294967296)))).drew w1.heap.size ⟨true, xf, xl⟩) := HTW.out.only hO3 (by omega)
      have HLX : Hid ((Wa.setCell ⟨g, 903, none⟩ (.int .u32 (bits .or .u32 (em : Int) (2 ^ Ls.length % 4294967296)))).drew.ownsRow (g + 1) 73 4 (.slice la Ls.length lc) Ls.length (flS Ls)) := own_only HLW.out hO3 (fun b hb => by omega)
      have HOX : Hid (Only (fun h => g ≤ h) w (Wa.setCell ⟨g, 903, none⟩ (.int .u32 (bits .or .u32 (em : Int) (2 ^ Ls.length % 4294967296)))).drew) := HOW.out.trans (hO3.mono (fun _ h => by omega))
      clear hO3
      go_region
      generalize (Wa.setCell ⟨g, 903, none⟩ (.int .u32 (bits .or .u32 (em : Int) (2 ^ Ls.length % 4294967296)))).drew = Wb at HPX HTX HLX HOX ⊢
      clear HPW HTW HLW HOW k902 k903 f903
      have HLW := HLX
      have t1 : Wb.cell? ⟨w1.heap.size, 1, none⟩ = some (.int .u64 (wd xf 0 : Int)) := HTX.out.f 0 (by decide)
      have t2 : Wb.cell? ⟨w1.heap.size, 2, none⟩ = some (.int .u64 (wd xf 1 : Int)) := HTX.out.f 1 (by decide)
      have t3 : Wb.cell? ⟨w1.heap.size, 3, none⟩ = some (.int .u64 (wd xf 2 : Int)) := HTX.out.f 2 (by decide)
      have t4 : Wb.cell? ⟨w1.heap.size, 4, none⟩ = some (.int .u64 (wd xf 3 : Int)) := HTX.out.f 3 (by decide)
      go_wp2_with fail
      go_region_with (go_at_call 42; refine (add_any g 898 fs xf _ 78 _ (HPX.out.only (Only.refl (fun _ => False) _).drew (fun h => h)) (pC_first _ _ _ _ _ _ _)).mono ?_; rintro e w2 ⟨rfl, hp2, ho2⟩; rw [pC_putFirst] at hp2; have HP2 : Hid (Plb w2 g cl p1.sets.length (byP cl p1) p1.next (fs ||| xf) (.slice la Ls.length lc) (em ||| 2 ^ Ls.length)) := hp2; have HT2 : Hid (Ptb w2 w1.heap.size ⟨true, xf, xl⟩) := (HTX.out.only (Only.refl (fun _ => False) _).drew (fun h => h)).only ho2 (by omega); have HL2 : Hid (w2.ownsRow (g + 1) 73 4 (.slice la Ls.length lc) Ls.length (flS Ls)) := own_only (own_only HLW.out (Only.refl (fun _ => False) _).drew (fun _ _ h => h)) ho2 (fun b hb => by omega); have HO2 : Hid (Only (fun h => g ≤ h) w w2) := (HOX.out.drew).trans (ho2.mono (fun _ h => by omega)); clear hp2 ho2)
      all_goals
        go_wp2_with fail
        have HT2d : Hid (Ptb w2.drew w1.heap.size ⟨true, xf, xl⟩) := HT2.out.only (Only.refl (fun _ => False) _).drew (fun h => h)
        have HP2d : Hid (Plb w2.drew g cl p1.sets.length (byP cl p1) p1.next (fs ||| xf) (.slice la Ls.length lc) (em ||| 2 ^ Ls.length)) := HP2.out.only (Only.refl (fun _ => False) _).drew (fun h => h)
        have HL2d : Hid (w2.drew.ownsRow (g + 1) 73 4 (.slice la Ls.length lc) Ls.length (flS Ls)) := own_only HL2.out (Only.refl (fun _ => False) _).drew (fun _ _ h => h)
        have hg2 : g < w2.heap.size := HP2.out.lt
        have d902 := HP2d.out.c902
        have d902c : (w2.alloc (.cells #[.int .u64 (wd xl 0 : Int), .int .u64 (wd xl 1 : Int), .int .u64 (wd xl 2 : Int), .int .u64 (wd xl 3 : Int)] 73)).drew.cell? ⟨g, 902, none⟩ = some (.slice la Ls.length lc) := (HP2.out.only (P := fun _ => False) ((Only.refl _ _).alloc _).drew (fun h => h)).c902
        have d902e : (w2.alloc (.cells #[.int .u64 (wd xl 0 : Int), .int .u64 (wd xl 1 : Int), .int .u64 (wd xl 2 : Int), .int .u64 (wd xl 3 : Int)] 73)).cell? ⟨g, 902, none⟩ = some (.slice la Ls.length lc) := (HP2.out.only (P := fun _ => False) ((Only.refl _ _).alloc _) (fun h => h)).c902
        have d902b : (w2.drew.alloc (.cells #[.int .u64 (wd xl 0 : Int), .int .u64 (wd xl 1 : Int), .int .u64 (wd xl 2 : Int), .int .u64 (wd xl 3 : Int)] 73)).cell? ⟨g, 902, none⟩ = some (.slice la Ls.length lc) := (HP2d.out.only (P := fun _ => False) ((Only.refl _ _).alloc _) (fun h => h)).c902
        refine wp_region_held_drew (S := fun w' => Ptb w' w1.heap.size ⟨true, xf, xl⟩) (by kernel_rfl) HT2d.out (fun hHeld => ?_)
        refine wpAnyH_take (i := 0) (v := Value.pointer (some ⟨g, 0, none⟩)) rfl (by kernel_rfl) (by kernel_rfl) (by kernel_rfl) (fun _ _ _ h => h) (Or.inl ⟨by rfl, fun w hSw => by first | (go_simp; done) | go_simp⟩) (by assumption) ?_
        simp only [Act.put, List.setIfInBounds_toArray, List.set_cons_zero, List.set_cons_succ]
        refine wpAnyH_take (i := 1) (v := Value.pointer (some ⟨g, 0, none⟩)) rfl (by kernel_rfl) (by kernel_rfl) (by kernel_rfl) (fun _ _ _ h => h) (Or.inl ⟨by rfl, fun w hSw => by first | (go_simp; done) | go_simp⟩) (by assumption) ?_
        simp only [Act.put, List.setIfInBounds_toArray, List.set_cons_zero, List.set_cons_succ]
        refine wpAnyH_take (i := 2) (v := Value.pointer (some ⟨g, 0, none⟩)) rfl (by kernel_rfl) (by kernel_rfl) (by kernel_rfl) (fun _ _ _ h => h) (Or.inl ⟨by rfl, fun w hSw => by first | (go_simp; done) | go_simp⟩) (by assumption) ?_
        simp only [Act.put, List.setIfInBounds_toArray, List.set_cons_zero, List.set_cons_succ]
        refine wpAnyH_take (i := 3) (v := Value.pointer (some ⟨g, 902, none⟩)) rfl (by kernel_rfl) (by kernel_rfl) (by kernel_rfl) (fun _ _ _ h => h) (Or.inl ⟨by rfl, fun w hSw => by first | (go_simp; done) | go_simp⟩) (by assumption) ?_
        simp only [Act.put, List.setIfInBounds_toArray, List.set_cons_zero, List.set_cons_succ]
        refine wpAnyH_take (i := 5) (v := Value.pointer (some ⟨w1.heap.size, 5, none⟩)) rfl (by kernel_rfl) (by kernel_rfl) (by kernel_rfl) (fun _ _ _ h => h) (Or.inl ⟨by rfl, fun w hSw => by first | (go_simp; done) | go_simp⟩) (by assumption) ?_
        simp only [Act.put, List.setIfInBounds_toArray, List.set_cons_zero, List.set_cons_succ]
        refine wpAnyH_take (i := 6) (v := Value.agg #[.int .u64 (wd xl 0 : Int), .int .u64 (wd xl 1 : Int), .int .u64 (wd xl 2 : Int), .int .u64 (wd xl 3 : Int)]) rfl (by kernel_rfl) (by kernel_rfl) (by kernel_rfl) (fun _ _ _ h => h) (Or.inl ⟨by rfl, fun w hSw => by have q0 := hSw.l 0 (by decide); have q1 := hSw.l 1 (by decide); have q2 := hSw.l 2 (by decide); have q3 := hSw.l 3 (by decide); simp only [Nat.reduceAdd] at q0 q1 q2 q3; clear hSw; go_simp⟩) (by assumption) ?_
        simp only [Act.put, List.setIfInBounds_toArray, List.set_cons_zero, List.set_cons_succ]
        refine wpAnyH_ready (rs := [4, 7]) (by kernel_rfl) (by simp) ?_
        refine AllReadyH.cons rfl (fun K hK => ?_) (AllReadyH.cons rfl (fun K hK => ?_) AllReadyH.nil)
        · rw [if_pos (by rfl)]
          go_simp
          refine hK.out _ _ HT2d.out (fun hHeld2 => ?_)
          clear hK
          refine wpAnyH_ready (rs := [7]) (by kernel_rfl) (by simp) ?_
          refine AllReadyH.cons rfl (fun K hK => ?_) AllReadyH.nil
          rw [if_pos (by rfl)]
          go_simp
          refine hK.out _ _ (HT2d.out.only (P := fun _ => False) ((Only.refl _ _).alloc _) (fun h => h)) (fun hHeld3 => ?_)
          clear hK
          refine wpAnyH_ready (rs := [8]) (by kernel_rfl) (by simp) ?_
          refine AllReadyH.cons rfl (fun K hK => ?_) AllReadyH.nil
          refine step_of_wp rfl (wp_append_at _ _ _ 76 rfl (g + 1) 73 i9 _ 4 32 Try.underlying76 h9 h90 h91 h92 rfl (by decide) (.slice la Ls.length lc) Ls.length (flS Ls) rfl (HL2d.out.alloc _) ⟨w2.heap.size, 0, none⟩ 1 1 (sC xl).toList rfl rfl (sC_news _ _) (sC_cells _) (by unfold maxLen; omega) (by omega) (by simp; omega) ?_)
          intro v5 w5 hown5 hg5
          have hO5 : Only (fun h => g + 1 ≤ h) (w2.drew.alloc (.cells (sC xl) 73)) w5 := (Only.refl _ _).grown hg5 (fun k hk => (HL2d.out.lt k hk).1)
          have hPl5 : Plb w5 g cl p1.sets.length (byP cl p1) p1.next (fs ||| xf) (.slice la Ls.length lc) (em ||| 2 ^ Ls.length) := (HP2d.out.only (P := fun _ => False) ((Only.refl _ _).alloc _) (fun h => h)).only hO5 (by omega)
          have hT5 : Ptb w5 w1.heap.size ⟨true, xf, xl⟩ := by
            refine (HT2d.out.only (P := fun _ => False) ((Only.refl _ _).alloc _) (fun h => h)).only ((Only.refl (fun h => (Value.slice la Ls.length lc).ownBlock = some h) _).grown hg5 (fun k hk => hk)) (fun e => ?_)
            exact own_notag HL2d.out 109 (by decide) _ e _ _ HT2d.out
          obtain ⟨gv, capv, rfl, hgb5, hgl5, hgc5, _⟩ := row_form hown5 (by omega)
          refine hK.out _ _ hT5 (fun hHeldA => ?_)
          clear hK
          have d2 := hPl5.c902
          have g2 := hPl5.fz 902
          try simp only [Act.put, List.setIfInBounds_toArray, List.set_cons_zero, List.set_cons_succ]
          refine wpAnyH_take (i := 9) (v := Value.pointer (some ⟨g, 0, none⟩)) rfl (by kernel_rfl) (by kernel_rfl) (by kernel_rfl) (fun _ _ _ h => h) (Or.inl ⟨by rfl, fun w hSw => by first | (go_simp; done) | go_simp⟩) (by assumption) ?_
          simp only [Act.put, List.setIfInBounds_toArray, List.set_cons_zero, List.set_cons_succ]
          refine wpAnyH_take (i := 10) (v := Value.pointer (some ⟨g, 902, none⟩)) rfl (by kernel_rfl) (by kernel_rfl) (by kernel_rfl) (fun _ _ _ h => h) (Or.inl ⟨by rfl, fun w hSw => by first | (go_simp; done) | go_simp⟩) (by assumption) ?_
          simp only [Act.put, List.setIfInBounds_toArray, List.set_cons_zero, List.set_cons_succ]
          refine wpAnyH_ready (rs := [11]) (by kernel_rfl) (by simp) ?_
          refine AllReadyH.cons rfl (fun K hK => ?_) AllReadyH.nil
          rw [if_pos (by rfl)]
          go_simp
          refine hK.out _ _ (hT5.only ((Only.refl (· = g) _).setCell (p := ⟨g, 902, none⟩) rfl _) (by omega)) (fun hHeldB => ?_)
          clear hK
          refine wpAnyH_done (by kernel_rfl) ?_ _
          clear hHeldA hHeldB
          go_wp2_with fail
          go_ret
          refine ⟨rfl, ⟨.slice (some ⟨gv, 0, none⟩) (Ls.length + 1) capv, ?_, ?_⟩, ?_⟩
          · have h6 := heap_setCell_at (k := 902) hPl5 (.slice (some ⟨gv, 0, none⟩) (Ls.length + 1) capv)
            rw [pC_setL] at h6
            exact h6
          · rw [flS_snoc]
            exact own_only hown5 ((Only.refl (· = g) _).setCell (p := ⟨g, 902, none⟩) rfl _) (fun b hb => by omega)
          · exact Only.setCell (S := fun h => g ≤ h) (((HO2.out.drew).alloc _).trans (hO5.mono (fun _ h => by omega))) (p := ⟨g, 902, none⟩) (Nat.le_refl g) _
        · rw [if_pos (by rfl)]
          go_simp
          refine hK.out _ _ (HT2d.out.only (P := fun _ => False) ((Only.refl _ _).alloc _) (fun h => h)) (fun hHeld2 => ?_)
          clear hK
          refine wpAnyH_ready (rs := [4]) (by kernel_rfl) (by simp) ?_
          refine AllReadyH.cons rfl (fun K hK => ?_) AllReadyH.nil
          rw [if_pos (by rfl)]
          go_simp
          refine hK.out _ _ (HT2d.out.only (P := fun _ => False) ((Only.refl _ _).alloc _) (fun h => h)) (fun hHeld3 => ?_)
          clear hK
          refine wpAnyH_ready (rs := [8]) (by kernel_rfl) (by simp) ?_
          refine AllReadyH.cons rfl (fun K hK => ?_) AllReadyH.nil
          refine step_of_wp rfl (wp_append_at _ _ _ 76 rfl (g + 1) 73 i9 _ 4 32 Try.underlying76 h9 h90 h91 h92 rfl (by decide) (.slice la Ls.length lc) Ls.length (flS Ls) rfl (HL2d.out.alloc _) ⟨w2.heap.size, 0, none⟩ 1 1 (sC xl).toList rfl rfl (sC_news _ _) (sC_cells _) (by unfold maxLen; omega) (by omega) (by simp; omega) ?_)
          intro v5 w5 hown5 hg5
          have hO5 : Only (fun h => g + 1 ≤ h) (w2.drew.alloc (.cells (sC xl) 73)) w5 := (Only.refl _ _).grown hg5 (fun k hk => (HL2d.out.lt k hk).1)
          have hPl5 : Plb w5 g cl p1.sets.length (byP cl p1) p1.next (fs ||| xf) (.slice la Ls.length lc) (em ||| 2 ^ Ls.length) := (HP2d.out.only (P := fun _ => False) ((Only.refl _ _).alloc _) (fun h => h)).only hO5 (by omega)
          have hT5 : Ptb w5 w1.heap.size ⟨true, xf, xl⟩ := by
            refine (HT2d.out.only (P := fun _ => False) ((Only.refl _ _).alloc _) (fun h => h)).only ((Only.refl (fun h => (Value.slice la Ls.length lc).ownBlock = some h) _).grown hg5 (fun k hk => hk)) (fun e => ?_)
            exact own_notag HL2d.out 109 (by decide) _ e _ _ HT2d.out
          obtain ⟨gv, capv, rfl, hgb5, hgl5, hgc5, _⟩ := row_form hown5 (by omega)
          refine hK.out _ _ hT5 (fun hHeldA => ?_)
          clear hK
          have d2 := hPl5.c902
          have g2 := hPl5.fz 902
          try simp only [Act.put, List.setIfInBounds_toArray, List.set_cons_zero, List.set_cons_succ]
          refine wpAnyH_take (i := 9) (v := Value.pointer (some ⟨g, 0, none⟩)) rfl (by kernel_rfl) (by kernel_rfl) (by kernel_rfl) (fun _ _ _ h => h) (Or.inl ⟨by rfl, fun w hSw => by first | (go_simp; done) | go_simp⟩) (by assumption) ?_
          simp only [Act.put, List.setIfInBounds_toArray, List.set_cons_zero, List.set_cons_succ]
          refine wpAnyH_take (i := 10) (v := Value.pointer (some ⟨g, 902, none⟩)) rfl (by kernel_rfl) (by kernel_rfl) (by kernel_rfl) (fun _ _ _ h => h) (Or.inl ⟨by rfl, fun w hSw => by first | (go_simp; done) | go_simp⟩) (by assumption) ?_
          simp only [Act.put, List.setIfInBounds_toArray, List.set_cons_zero, List.set_cons_succ]
          refine wpAnyH_ready (rs := [11]) (by kernel_rfl) (by simp) ?_
          refine AllReadyH.cons rfl (fun K hK => ?_) AllReadyH.nil
          rw [if_pos (by rfl)]
          go_simp
          refine hK.out _ _ (hT5.only ((Only.refl (· = g) _).setCell (p := ⟨g, 902, none⟩) rfl _) (by omega)) (fun hHeldB => ?_)
          clear hK
          refine wpAnyH_done (by kernel_rfl) ?_ _
          clear hHeldA hHeldB
          go_wp2_with fail
          go_ret
          refine ⟨rfl, ⟨.slice (some ⟨gv, 0, none⟩) (Ls.length + 1) capv, ?_, ?_⟩, ?_⟩
          · have h6 := heap_setCell_at (k := 902) hPl5 (.slice (some ⟨gv, 0, none⟩) (Ls.length + 1) capv)
            rw [pC_setL] at h6
            exact h6
          · rw [flS_snoc]
            exact own_only hown5 ((Only.refl (· = g) _).setCell (p := ⟨g, 902, none⟩) rfl _) (fun b hb => by omega)
          · exact Only.setCell (S := fun h => g ≤ h) (((HO2.out.drew).alloc _).trans (hO5.mono (fun _ h => by omega))) (p := ⟨g, 902, none⟩) (Nat.le_refl g) _
end Go.Proofs.Ytfbcijnacbfjpaa
