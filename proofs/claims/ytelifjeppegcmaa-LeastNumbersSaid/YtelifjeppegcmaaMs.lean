/-
  Groups in memory, and what stays.
-/
import Derived.Test.YtelifjeppegcmaaSw
import Derived.Test.YtelifjeppegcmaaPm
namespace Go.Proofs.Ytelifjeppegcmaa
open Go.RowKit Go.Maps
set_option linter.unusedVariables false
set_option linter.unusedSimpArgs false
def gc (x : Nat × Nat × Nat) : List Value := [.int .i64 (x.1 : Int), .int .i64 (x.2.1 : Int), .int .i64 (x.2.2 : Int)]
def gcs (ls : List (Nat × Nat × Nat)) : List Value := ls.flatMap gc
theorem gcs_len (ls : List (Nat × Nat × Nat)) : (gcs ls).length = ls.length * 3 := by
  induction ls with
  | nil => rfl
  | cons x ls ih => simp [gcs, gc] at ih ⊢; omega
theorem gcs_app (a b : List (Nat × Nat × Nat)) : gcs (a ++ b) = gcs a ++ gcs b := by simp [gcs]
theorem gcs_one (x : Nat × Nat × Nat) : gcs [x] = gc x := by simp [gcs]
theorem gcs_at : ∀ (ls : List (Nat × Nat × Nat)) (g f t d : Nat), ls[g]? = some (f, t, d) → (gcs ls)[g * 3]? = some (.int .i64 (f : Int)) ∧ (gcs ls)[g * 3 + 1]? = some (.int .i64 (t : Int)) ∧ (gcs ls)[g * 3 + 2]? = some (.int .i64 (d : Int))
  | [], g, f, t, d, h => by simp at h
  | x :: ls, 0, f, t, d, h => by
    simp at h
    subst h
    exact ⟨rfl, rfl, rfl⟩
  | x :: ls, g + 1, f, t, d, h => by
    have ih := gcs_at ls g f t d (by simpa using h)
    have e : gcs (x :: ls) = gc x ++ gcs ls := by simp [gcs]
    have e2 : ∀ k, (gc x ++ gcs ls)[k + 3]? = (gcs ls)[k]? := fun k => by simp [gc]
    rw [e]
    refine ⟨?_, ?_, ?_⟩
    · rw [show (g + 1) * 3 = g * 3 + 3 by omega, e2]; exact ih.1
    · rw [show (g + 1) * 3 + 1 = g * 3 + 1 + 3 by omega, e2]; exact ih.2.1
    · rw [show (g + 1) * 3 + 2 = g * 3 + 2 + 3 by omega, e2]; exact ih.2.2
theorem gcs_set : ∀ (ls : List (Nat × Nat × Nat)) (g f t d : Nat), g < ls.length → ((((gcs ls).set (g * 3) (.int .i64 (f : Int))).set (g * 3 + 1) (.int .i64 (t : Int))).set (g * 3 + 2) (.int .i64 (d : Int))) = gcs (ls.set g (f, t, d))
  | [], g, f, t, d, h => by simp at h
  | x :: ls, 0, f, t, d, h => by simp [gcs, gc]
  | x :: ls, g + 1, f, t, d, h => by
    have ih := gcs_set ls g f t d (by simpa using h)
    have e : gcs (x :: ls) = .int .i64 (x.1 : Int) :: .int .i64 (x.2.1 : Int) :: .int .i64 (x.2.2 : Int) :: gcs ls := by simp [gcs, gc]
    have e' : gcs (x :: ls.set g (f, t, d)) = .int .i64 (x.1 : Int) :: .int .i64 (x.2.1 : Int) :: .int .i64 (x.2.2 : Int) :: gcs (ls.set g (f, t, d)) := by simp [gcs, gc]
    rw [List.set_cons_succ, e, e', ← ih, show (g + 1) * 3 = g * 3 + 1 + 1 + 1 by omega, show g * 3 + 1 + 1 + 1 + 1 = g * 3 + 1 + 1 + 1 + 1 by omega]
    simp only [List.set_cons_succ]
theorem gcs_told {ls : List (Nat × Nat × Nat)} {g f t d : Nat} (h : ls[g]? = some (f, t, d)) (d' : Nat) : (gcs ls).set (g * 3 + 2) (.int .i64 (d' : Int)) = gcs (ls.set g (f, t, d')) := by
  have hl := (List.getElem?_eq_some_iff.1 h).1
  obtain ⟨h0, h1, h2⟩ := gcs_at ls g f t d h
  rw [← gcs_set ls g f t d' hl]
  congr 1
  have e0 : (gcs ls).set (g * 3) (.int .i64 (f : Int)) = gcs ls := by
    apply List.ext_getElem?
    intro j
    rw [List.getElem?_set]
    split
    · rename_i e
      subst e
      rw [h0]
      rw [if_pos (by rw [gcs_len]; omega)]
    · rfl
  rw [e0]
  apply List.ext_getElem?
  intro j
  rw [List.getElem?_set]
  split
  · rename_i e
    subst e
    rw [h1]
    rw [if_pos (by rw [gcs_len]; omega)]
  · rfl
/-- a cell of a row of one's own is written. -/
theorem own_set {w : World} {base e size n cap g : Nat} {xs : List Value} (h : w.ownsRow base e size (.slice (some ⟨g, 0, none⟩) n cap) n xs) (j : Nat) (hj : j < n * size) (v : Value) : (w.setCell ⟨g, j, none⟩ v).ownsRow base e size (.slice (some ⟨g, 0, none⟩) n cap) n (xs.set j v) := by
  obtain ⟨hl, ⟨hv, h0⟩ | ⟨g', cap', cur, hv, h1, h2, h3, h4, h5, h6⟩⟩ := h
  · cases hv
  · injection hv with hv1 hv2 hv3
    injection hv1 with hv1
    injection hv1 with hv1
    subst hv1
    subst hv3
    refine ⟨by rw [List.length_set]; exact hl, Or.inr ⟨g, cap, cur.setIfInBounds j v, rfl, h1, heap_setCell_at h2 v, h3, h4, by simpa using h5, ?_⟩⟩
    rw [Array.toList_setIfInBounds, List.take_set, h6]
theorem own_blk {w : World} {base e size n cap g : Nat} {xs : List Value} (h : w.ownsRow base e size (.slice (some ⟨g, 0, none⟩) n cap) n xs) : base ≤ g ∧ n ≤ cap ∧ cap ≤ maxLen ∧ ∃ cur, w.heap[g]? = some (.cells cur e (0, 0)) := by
  obtain ⟨hl, ⟨hv, h0⟩ | ⟨g', cap', cur, hv, h1, h2, h3, h4, h5, h6⟩⟩ := h
  · cases hv
  · injection hv with hv1 hv2 hv3
    injection hv1 with hv1
    injection hv1 with hv1
    subst hv1
    subst hv3
    exact ⟨h1, h3, h4, cur, h2⟩
theorem own_off {w : World} {base e size n : Nat} {v : Value} {xs : List Value} (h : w.ownsRow base e size v n xs) {c i : Nat} {u : Value} (hn : ∀ cur, w.heap[c]? ≠ some (.cells cur e (0, 0))) : (w.setCell ⟨c, i, none⟩ u).ownsRow base e size v n xs := by
  obtain ⟨hl, h | ⟨g', cap', cur, hv, h1, h2, h3⟩⟩ := h
  · exact ⟨hl, Or.inl h⟩
  · refine ⟨hl, Or.inr ⟨g', cap', cur, hv, h1, (Below.heap_setCell _ _ _ _ (fun e2 => ?_)).trans h2, h3⟩⟩
    subst e2
    exact hn _ h2
theorem own_keep {S : Nat → Prop} {w w' : World} {base e size n : Nat} {v : Value} {xs : List Value} (h : w.ownsRow base e size v n xs) (ho : Only S w w') (hn : ∀ c cur, S c → w.heap[c]? ≠ some (.cells cur e (0, 0))) : w'.ownsRow base e size v n xs := by
  obtain ⟨hl, h | ⟨g', cap', cur, hv, h1, h2, h3⟩⟩ := h
  · exact ⟨hl, Or.inl h⟩
  · exact ⟨hl, Or.inr ⟨g', cap', cur, hv, h1, (ho.block g' (Array.getElem?_eq_some_iff.1 h2).1 (fun hs => hn g' cur hs h2)).trans h2, h3⟩⟩
/-- what stays while groups are parted: all that was there ahead of them, and what lies behind B1 and is no list of groups. -/
structure Kp (base B1 : Nat) (w w' : World) : Prop where
  os : w'.os = w.os
  tape : w'.tape = w.tape
  output : w'.output = w.output
  size : w.heap.size ≤ w'.heap.size
  old : ∀ b, b < base → b < w.heap.size → w'.heap[b]? = w.heap[b]?
  new : ∀ b o, B1 ≤ b → w.heap[b]? = some o → (∀ cs z, o ≠ .cells cs 62 z) → w'.heap[b]? = some o
theorem Kp.refl (base B1 : Nat) (w : World) : Kp base B1 w w := ⟨rfl, rfl, rfl, Nat.le_refl _, fun _ _ _ => rfl, fun _ _ _ h _ => h⟩
theorem Kp.trans {base B1 : Nat} {a b c : World} (h : Kp base B1 a b) (k : Kp base B1 b c) : Kp base B1 a c :=
  ⟨k.os.trans h.os, k.tape.trans h.tape, k.output.trans h.output, Nat.le_trans h.size k.size, fun x hx hl => (k.old x hx (Nat.lt_of_lt_of_le hl h.size)).trans (h.old x hx hl), fun x o hx ho hn => k.new x o hx (h.new x o hx ho hn) hn⟩
theorem Kp.of {base B1 : Nat} {S : Nat → Prop} {w w' : World} (h : Only S w w') (h1 : ∀ b, S b → base ≤ b) (h2 : ∀ b o, S b → B1 ≤ b → w.heap[b]? = some o → ∃ cs z, o = .cells cs 62 z) : Kp base B1 w w' :=
  ⟨h.os, h.tape, h.output, h.size, fun b hb hl => h.block b hl (fun hs => by have := h1 b hs; omega), fun b o hb ho hn => (h.block b (Array.getElem?_eq_some_iff.1 ho).1 (fun hs => by obtain ⟨cs, z, e⟩ := h2 b o hs hb ho; exact hn cs z e)).trans ho⟩
theorem Kp.drewN {base B1 : Nat} {a w : World} (h : Kp base B1 a w) (n : Nat) : Kp base B1 a (w.drewN n) := ⟨h.os, h.tape, h.output, h.size, h.old, h.new⟩
theorem Kp.drew {base B1 : Nat} {a w : World} (h : Kp base B1 a w) : Kp base B1 a w.drew := ⟨h.os, h.tape, h.output, h.size, h.old, h.new⟩
theorem Kp.only {base B1 : Nat} {a w : World} (h : Kp base B1 a w) (hb : a.heap.size ≤ base) : Only (fun _ => False) a w := ⟨h.os, h.tape, h.output, h.size, fun g hg _ => h.old g (by omega) hg⟩
theorem Kp.alloc {base B1 : Nat} {a w : World} (h : Kp base B1 a w) (o : Obj) : Kp base B1 a (w.alloc o) := h.trans (Kp.of ((Only.refl (fun _ => False) w).alloc o) (fun _ h => h.elim) (fun _ _ h => h.elim))
/-- groups in memory. -/
structure Ms (w : World) (gb rb ab ob n base B1 : Nat) (vL : Value) (row at' of : List Nat) (ls : List (Nat × Nat × Nat)) : Prop where
  G : Gb w gb rb ab ob n vL
  r : Nb w rb row
  a : Nb w ab at'
  o : Nb w ob of
  L : w.ownsRow base 62 3 vL ls.length (gcs ls)
  ra : rb ≠ ab
  ro : rb ≠ ob
  ao : ab ≠ ob
  lo : base ≤ gb ∧ base ≤ rb ∧ base ≤ ab ∧ base ≤ ob
  hi : gb < B1 ∧ rb < B1 ∧ ab < B1 ∧ ob < B1
  kl : 0 < ls.length
  kn : ls.length ≤ n
  n1 : n ≤ 100000
theorem Ms.nl {w : World} {gb rb ab ob n base B1 : Nat} {vL : Value} {row at' of : List Nat} {ls : List (Nat × Nat × Nat)} (h : Ms w gb rb ab ob n base B1 vL row at' of ls) : ∃ lb cap, vL = .slice (some ⟨lb, 0, none⟩) ls.length cap ∧ base ≤ lb ∧ lb < w.heap.size ∧ ls.length ≤ cap ∧ cap ≤ maxLen ∧ (∀ j, j < ls.length * 3 → w.cell? ⟨lb, j, none⟩ = (gcs ls)[j]?) ∧ ∃ cur, w.heap[lb]? = some (.cells cur 62 (0, 0)) := by
  obtain ⟨g, cap, hv, h1, h2, h3, h4⟩ := row_form h.L h.kl
  have hL := h.L
  rw [hv] at hL
  obtain ⟨a, b, c, d⟩ := own_blk hL
  exact ⟨g, cap, hv, h1, h2, h3, c, h4, d⟩
/-- where nothing of the groups is written. -/
theorem Ms.keep {S : Nat → Prop} {w w' : World} {gb rb ab ob n base B1 : Nat} {vL : Value} {row at' of : List Nat} {ls : List (Nat × Nat × Nat)} (h : Ms w gb rb ab ob n base B1 vL row at' of ls) (ho : Only S w w') (h1 : ∀ b, S b → B1 ≤ b) (h2 : ∀ c cur, S c → w.heap[c]? ≠ some (.cells cur 62 (0, 0))) : Ms w' gb rb ab ob n base B1 vL row at' of ls :=
  ⟨h.G.only ho (fun hs => by have := h1 _ hs; have := h.hi.1; omega), h.r.only ho (fun hs => by have := h1 _ hs; have := h.hi.2.1; omega), h.a.only ho (fun hs => by have := h1 _ hs; have := h.hi.2.2.1; omega), h.o.only ho (fun hs => by have := h1 _ hs; have := h.hi.2.2.2; omega), own_keep h.L ho h2, h.ra, h.ro, h.ao, h.lo, h.hi, h.kl, h.kn, h.n1⟩
theorem Ms.alloc {w : World} {gb rb ab ob n base B1 : Nat} {vL : Value} {row at' of : List Nat} {ls : List (Nat × Nat × Nat)} (h : Ms w gb rb ab ob n base B1 vL row at' of ls) (o : Obj) : Ms (w.alloc o) gb rb ab ob n base B1 vL row at' of ls := h.keep ((Only.refl (fun _ => False) w).alloc o) (fun _ h => h.elim) (fun _ _ h => h.elim)
theorem Ms.drewN {w : World} {gb rb ab ob n base B1 : Nat} {vL : Value} {row at' of : List Nat} {ls : List (Nat × Nat × Nat)} (h : Ms w gb rb ab ob n base B1 vL row at' of ls) (m : Nat) : Ms (w.drewN m) gb rb ab ob n base B1 vL row at' of ls := h.keep ((Only.refl (fun _ => False) w).drewN m) (fun _ h => h.elim) (fun _ _ h => h.elim)
end Go.Proofs.Ytelifjeppegcmaa
