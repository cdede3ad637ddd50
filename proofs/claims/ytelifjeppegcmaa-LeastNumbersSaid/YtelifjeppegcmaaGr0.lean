/-
  Groups are parted by a list of states; by what leads to a list of states.
-/
import Derived.Test.YtelifjeppegcmaaSl
namespace Go.Proofs.Ytelifjeppegcmaa
open Go.RowKit Go.Maps
set_option linter.unusedVariables false
set_option linter.unusedSimpArgs false
theorem two_at (V : World) (o1 o2 : Obj) : ((V.alloc o1).alloc o2).heap[V.heap.size]? = some o1 ∧ ((V.alloc o1).alloc o2).heap[V.heap.size + 1]? = some o2 ∧ Only (fun _ => False) V ((V.alloc o1).alloc o2) ∧ ((V.alloc o1).alloc o2).heap.size = V.heap.size + 2 := by
  refine ⟨bx_made V o1 o2, ?_, ((Only.refl _ _).alloc _).alloc _, by simp⟩
  have := heap_alloc_new (V.alloc o1) o2
  rw [show (V.alloc o1).heap.size = V.heap.size + 1 by simp] at this
  exact this
theorem Pt.zero {n : Nat} {row at' of : List Nat} {ls : List (Nat × Nat × Nat)} (h : Hm.Pt n row at' of ls (fun _ => False)) {g f t d : Nat} (hg : ls[g]? = some (f, t, d)) : d = 0 := by
  obtain ⟨h1, h2, h3, h4⟩ := h.seg g f t d hg
  by_cases hd : d = 0
  · exact hd
  · have rl := h.rl
    have := (h4 f _ (Nat.le_refl _) h1 (List.getElem?_eq_getElem (by omega))).2.1 (by omega)
    exact this.elim
theorem St.start {w : World} {gb rb ab ob n base B1 K : Nat} {vL : Value} {row at' of : List Nat} {ls : List (Nat × Nat × Nat)} (hM : Ms w gb rb ab ob n base B1 vL row at' of ls) (hP : Hm.Pt n row at' of ls (fun _ => False)) (hB : B1 ≤ w.heap.size) (hK : ls.length = K) :
    St ((w.alloc (.cells #[.pointer (some ⟨gb, 0, none⟩)] 48)).alloc (.cells #[.slice none 0 0] 23)) ((w.alloc (.cells #[.pointer (some ⟨gb, 0, none⟩)] 48)).alloc (.cells #[.slice none 0 0] 23)) gb rb ab ob n base B1 w.heap.size (w.heap.size + 1) K vL of [] := by
  obtain ⟨e1, e2, e3, e4⟩ := two_at w (.cells #[.pointer (some ⟨gb, 0, none⟩)] 48) (.cells #[.slice none 0 0] 23)
  refine ⟨row, at', ls, .slice none 0 0, [], (hM.alloc _).alloc _, Pt_congr hP (fun x => by simp), ⟨e1, e2, ⟨rfl, Or.inl ⟨rfl, rfl⟩⟩, hB, by omega, by omega, List.nodup_nil, fun x => ?_⟩, hK, Kt.refl _ _ _ _ _⟩
  constructor
  · intro h; cases h
  · rintro ⟨f, t, d, h1, h2⟩
    have := Pt.zero hP h1
    omega
theorem Rd.two {V : World} {B1 : Nat} {vL : Value} {a : Option Addr} {m : Nat} {D : List Nat} (h : Rd V B1 V.heap.size vL a m D) (o1 o2 : Obj) : Rd ((V.alloc o1).alloc o2) B1 (V.heap.size + 1) vL a m D := by
  obtain ⟨_, _, e3, e4⟩ := two_at V o1 o2
  obtain ⟨hl, b, off, k1, k2⟩ := h
  refine ⟨hl, b, off, fun hm => ?_, fun j x hj => ?_⟩
  · obtain ⟨q1, q2, q3, q4, q5⟩ := k1 hm
    exact ⟨q1, by omega, q3, by omega, q5⟩
  · obtain ⟨q1, q2, _⟩ := k1 (by have := (List.getElem?_eq_some_iff.1 hj).1; omega)
    exact (World.cell?_of_block (a := ⟨b, off + j, none⟩) (e3.block b q2 (fun h => h))).trans (k2 j x hj)
theorem Bk.two {V : World} {B1 n : Nat} {vL : Value} {a : Option Addr} {bk : Nat → List Nat} (h : Bk V B1 V.heap.size n vL a bk) (o1 o2 : Obj) : Bk ((V.alloc o1).alloc o2) B1 (V.heap.size + 1) n vL a bk := by
  obtain ⟨_, _, e3, e4⟩ := two_at V o1 o2
  obtain ⟨bb, off, q1, q2, q3, q4, q5, q6⟩ := h
  refine ⟨bb, off, q1, by omega, q3, by omega, q5, fun z hz => ?_⟩
  obtain ⟨a', m, c, k1, k2, k3⟩ := q6 z hz
  exact ⟨a', m, c, (World.cell?_of_block (a := ⟨bb, off + z, none⟩) (e3.block bb q2 (fun h => h))).trans k1, k2.two o1 o2, k3⟩
/-- parted by a list of states. -/
theorem split_row (gb rb ab ob n base B1 K ps m c : Nat) (a : Option Addr) (vL : Value) (row at' of D : List Nat) (ls : List (Nat × Nat × Nat)) (w : World) (hM : Ms w gb rb ab ob n base B1 vL row at' of ls) (hP : Hm.Pt n row at' of ls (fun _ => False)) (hB : B1 ≤ w.heap.size) (hK : ls.length = K)
    (hps : w.cell? ⟨ps, 0, none⟩ = some (.slice a m c)) (hR : Rd w B1 w.heap.size vL a m D) (hm : m ≤ 100000) (hnd : D.Nodup) (hlt : ∀ x ∈ D, x < n) :
    Calls Try.prog 25 #[.pointer (some ⟨gb, 0, none⟩), .func (.func 38) #[] #[.pointer (some ⟨ps, 0, none⟩)]] w (splP w gb rb ab ob n base B1 K of D) := by
  obtain ⟨_, _, e3, e4⟩ := two_at w (.cells #[.pointer (some ⟨gb, 0, none⟩)] 48) (.cells #[.slice none 0 0] 23)
  have hps' := (World.cell?_of_block (a := ⟨ps, 0, none⟩) (e3.block ps (World.block_lt_of_cell? w _ hps) (fun h => h))).trans hps
  have hhi := hM.hi
  refine split_each gb rb ab ob n base B1 K ps vL row at' of D ls w hM hB hK ?_
  have := eachFn_any _ gb rb ab ob n base B1 w.heap.size (w.heap.size + 1) K ps vL of [] D a m c _ (St.start hM hP hB hK) (hR.two _ _) hps' hm (by simpa using hnd) hlt (fun b hb => by
    obtain ⟨lb, cap, rfl, _, h2, _⟩ := hM.nl
    injection hb with hb
    have e : lb = b := hb
    omega) hhi.2.1 hhi.2.2.1
  rw [List.nil_append] at this
  exact this
/-- parted by what leads to a list of states. -/
theorem split_back (gb rb ab ob n base B1 K pgo pba m c mg cg : Nat) (a ag : Option Addr) (bk : Nat → List Nat) (vL : Value) (row at' of G : List Nat) (ls : List (Nat × Nat × Nat)) (w : World) (hM : Ms w gb rb ab ob n base B1 vL row at' of ls) (hP : Hm.Pt n row at' of ls (fun _ => False)) (hB : B1 ≤ w.heap.size) (hK : ls.length = K)
    (hR : Rd w B1 w.heap.size vL ag mg G) (hBk : Bk w B1 w.heap.size n vL a bk) (hpg : w.cell? ⟨pgo, 0, none⟩ = some (.slice ag mg cg)) (hpb : w.cell? ⟨pba, 0, none⟩ = some (.slice a m c)) (hmn : m = n) (hb1 : B1 ≤ pba) (hb3 : vL.ownBlock ≠ some pba) (hm : mg ≤ 100000) (hnd : (G.flatMap bk).Nodup) (hlt : ∀ x ∈ G.flatMap bk, x < n) (hG : ∀ x ∈ G, x < n) :
    Calls Try.prog 25 #[.pointer (some ⟨gb, 0, none⟩), .func (.func 39) #[] #[.pointer (some ⟨pgo, 0, none⟩), .pointer (some ⟨pba, 0, none⟩)]] w (splP w gb rb ab ob n base B1 K of (G.flatMap bk)) := by
  obtain ⟨_, _, e3, e4⟩ := two_at w (.cells #[.pointer (some ⟨gb, 0, none⟩)] 48) (.cells #[.slice none 0 0] 23)
  have lpb := World.block_lt_of_cell? w _ hpb
  have hpg' := (World.cell?_of_block (a := ⟨pgo, 0, none⟩) (e3.block pgo (World.block_lt_of_cell? w _ hpg) (fun h => h))).trans hpg
  have hpb' := (World.cell?_of_block (a := ⟨pba, 0, none⟩) (e3.block pba lpb (fun h => h))).trans hpb
  have hhi := hM.hi
  refine split_lead gb rb ab ob n base B1 K pgo pba vL row at' of (G.flatMap bk) ls w hM hB hK ?_
  have := leadFn_any _ gb rb ab ob n base B1 w.heap.size (w.heap.size + 1) K pgo pba vL of [] G bk a ag m c mg cg _ (St.start hM hP hB hK) (hR.two _ _) (hBk.two _ _) hpg' hpb' hmn hb1 (Nat.lt_succ_of_lt lpb) hb3 hm (by simpa using hnd) hlt hG (fun b hb => by
    obtain ⟨lb, cap, rfl, _, h2, _⟩ := hM.nl
    injection hb with hb
    have e : lb = b := hb
    omega) hhi.2.1 hhi.2.2.1 hM.n1
  rw [List.nil_append] at this
  exact this
end Go.Proofs.Ytelifjeppegcmaa
