/-
  What the document's own parser has said so far, in memory; declare, class; either behind a fault.
-/
import Derived.Test.YtahoepmnekconaaR10
import Derived.Test.YtahoepmnekconaaShl
namespace Go.Proofs.Ytahoepmnekconaa
open Go.RowKit Go.Maps
set_option linter.unusedVariables false
set_option linter.unusedSimpArgs false
theorem info34 : (Try.prog.info? 34).map (fun i => (i.zero, i.size, i.bytes)) = some (some (.int .u32 0), 1, 4) := by kernel_rfl
theorem own_keepB {w w' : World} {base e size n : Nat} {v : Value} {xs : List Value} {P : Nat → Prop} (h : w.ownsRow base e size v n xs) (ho : Only P w w') (hP : ∀ g, v.ownBlock = some g → ¬ P g) : w'.ownsRow base e size v n xs := by
  obtain ⟨hl, h | ⟨g, cap, cur, hv, hb, hh, h1⟩⟩ := h
  · exact ⟨hl, Or.inl h⟩
  · exact ⟨hl, Or.inr ⟨g, cap, cur, hv, hb, (ho.block g (Array.getElem?_eq_some_iff.1 hh).1 (hP g (by rw [hv]; rfl))).trans hh, h1⟩⟩
/-- two rows of unlike kinds are two blocks. -/
theorem own_two {w : World} {base e size n base' e' size' n' : Nat} {v v' : Value} {xs xs' : List Value} (h : w.ownsRow base e size v n xs) (h' : w.ownsRow base' e' size' v' n' xs') (hne : e ≠ e') : ∀ g, v.ownBlock = some g → ¬ v'.ownBlock = some g := fun g hg hg' => by
  obtain ⟨_, ⟨hv, _⟩ | ⟨g1, cap1, cur1, hv, hb, hh, _⟩⟩ := h
  · rw [hv] at hg; cases hg
  · rw [hv] at hg
    injection hg with hg
    simp only at hg
    subst hg
    exact own_notag h' e hne g1 hg' _ _ hh
structure Sp (w : World) (rb : Nat) (x : Rq) (s : Rl.St) (N : List Rl.Str) (B : List Int) (C : List Rl.Str) (T : List Int) : Prop where
  nm : w.ownsRow (rb + 1) 9 1 x.vN N.length (strs N)
  bt : w.ownsRow (rb + 1) 34 1 x.vB B.length (u32s B)
  cls : w.ownsRow (rb + 1) 9 1 x.vC C.length (strs C)
  trt : w.ownsRow (rb + 1) 3 1 x.vT T.length (ints T)
  lst : Rls w (rb + 1) x.vL s.list
  jn : x.j = s.join
  af : x.a = s.after
  pl : x.pl = (s.places : Int)
  dp : x.dp = 0
  l24 : s.list.length ≤ 24
  p200 : s.places ≤ 200
  ap : ∀ g, x.vC.ownBlock = some g → ¬ x.vN.ownBlock = some g
/-- all that was said. -/
structure Sr (w : World) (rb : Nat) (x : Rq) (s : Rl.St) : Prop where
  p : Sp w rb x s (s.env.map Prod.fst) (s.env.map Prod.snd) s.cls s.treat
  c24 : s.cls.length ≤ 24
  tl : s.treat.length = s.cls.length
  e5 : s.env.length ≤ 5000
theorem Sr.dec {w : World} {rb : Nat} {x : Rq} {s : Rl.St} (h : Sr w rb x s) : Dec w rb x s.env := ⟨by have := h.p.nm; rw [List.length_map] at this; exact this, by have := h.p.bt; rw [List.length_map] at this; exact this, h.e5⟩
theorem Sp.only {w w' : World} {rb : Nat} {x : Rq} {s : Rl.St} {N C : List Rl.Str} {B T : List Int} (h : Sp w rb x s N B C T) (ho : Only (· = rb) w w') : Sp w' rb x s N B C T :=
  ⟨own_only h.nm ho (fun g hg => by omega), own_only h.bt ho (fun g hg => by omega), own_only h.cls ho (fun g hg => by omega), own_only h.trt ho (fun g hg => by omega), h.lst.only ho (fun g hg => by omega), h.jn, h.af, h.pl, h.dp, h.l24, h.p200, h.ap⟩
theorem Sr.only {w w' : World} {rb : Nat} {x : Rq} {s : Rl.St} (h : Sr w rb x s) (ho : Only (· = rb) w w') : Sr w' rb x s := ⟨h.p.only ho, h.c24, h.tl, h.e5⟩
theorem Sr.vc {w : World} {rb : Nat} {x : Rq} {s : Rl.St} (h : Sr w rb x s) : Vc x := by
  obtain ⟨a, cap, e⟩ := own_form h.p.cls
  exact ⟨a, _, cap, e, h.c24⟩
theorem Sr.cr {w : World} {rb : Nat} {x : Rq} {s : Rl.St} (h : Sr w rb x s) : Cr s.cls.length x s.places 0 := ⟨h.p.pl, h.p.p200, h.p.dp, by omega, own_form h.p.cls, h.c24⟩
theorem Sr.withPl {w : World} {rb : Nat} {x : Rq} {s : Rl.St} (h : Sr w rb x s) {p : Nat} (hp : p ≤ 200) : Sr w rb (x.withPl p) { s with places := p } := ⟨⟨h.p.nm, h.p.bt, h.p.cls, h.p.trt, h.p.lst, h.p.jn, h.p.af, rfl, h.p.dp, h.p.l24, hp, h.p.ap⟩, h.c24, h.tl, h.e5⟩
theorem Rls.keepB {w w' : World} {B : Nat} {v vx : Value} {l : List Rl.Rule} {base e size n : Nat} {xs : List Value} (h : Rls w B v l) (hx : w.ownsRow base e size vx n xs) (h52 : 52 ≠ e) (h50 : 50 ≠ e) (ho : Only (fun g => vx.ownBlock = some g) w w') : Rls w' B v l := by
  obtain ⟨ys, h1, h2⟩ := h
  exact ⟨ys, own_keepB h1 ho (own_two h1 hx h52), h2.keepT (fun b hb hl hc => ⟨hb, ho.block b hl (fun e1 => by obtain ⟨cs, z, hc⟩ := hc; exact own_notag hx 50 h50 b e1 _ _ hc)⟩)⟩
section
variable {wa wb w' : World} {rb : Nat} {x : Rq} {s : Rl.St} {N C : List Rl.Str} {B T : List Int} {v' : Value}
theorem grown_only {v : Value} (hwb : Only (fun _ => False) wa wb) (hg : wb.grownBy w' v.ownBlock) : Only (fun g => v.ownBlock = some g) wa w' := (hwb.mono (fun _ h => h.elim)).grown hg (fun k hk => hk)
theorem own_low {w : World} {base e size n : Nat} {v : Value} {xs : List Value} (h : w.ownsRow base e size v n xs) : ∀ g, v.ownBlock = some g → base ≤ g := fun g hg => (h.lt g hg).1
/-- a name more in the names' list. -/
theorem Sp.addN {c : Rl.Str} (h : Sp wa rb x s N B C T) (hwb : Only (fun _ => False) wa wb) (hown : w'.ownsRow (rb + 1) 9 1 v' (N.length + 1) (strs N ++ [.string (bs c)])) (hg : wb.grownBy w' x.vN.ownBlock) (hat : v'.ownBlock = x.vN.ownBlock ∨ v'.ownBlock = some wb.heap.size) :
    Sp w' rb { x with vN := v' } s (N ++ [c]) B C T ∧ Only (fun g => x.vN.ownBlock = some g) wa w' := by
  have hO := grown_only hwb hg
  refine ⟨⟨by rw [List.length_append]; unfold strs at hown ⊢; rw [List.map_append]; exact hown, own_keepB h.bt hO (own_two h.bt h.nm (by decide)), own_keepB h.cls hO h.ap, own_keepB h.trt hO (own_two h.trt h.nm (by decide)), h.lst.keepB h.nm (by decide) (by decide) hO, h.jn, h.af, h.pl, h.dp, h.l24, h.p200, fun g hgC hgN => ?_⟩, hO⟩
  rcases hat with e | e
  · exact h.ap g hgC (e ▸ hgN)
  · have h1 := (h.cls.lt g hgC).2
    have h2 := hwb.size
    simp only at hgN
    rw [e] at hgN
    injection hgN with hgN
    omega
theorem Sp.addB {c : Int} (h : Sp wa rb x s N B C T) (hwb : Only (fun _ => False) wa wb) (hown : w'.ownsRow (rb + 1) 34 1 v' (B.length + 1) (u32s B ++ [.int .u32 c])) (hg : wb.grownBy w' x.vB.ownBlock) :
    Sp w' rb { x with vB := v' } s N (B ++ [c]) C T ∧ Only (fun g => x.vB.ownBlock = some g) wa w' := by
  have hO := grown_only hwb hg
  exact ⟨⟨own_keepB h.nm hO (own_two h.nm h.bt (by decide)), by rw [List.length_append]; unfold u32s at hown ⊢; rw [List.map_append]; exact hown, own_keepB h.cls hO (own_two h.cls h.bt (by decide)), own_keepB h.trt hO (own_two h.trt h.bt (by decide)), h.lst.keepB h.bt (by decide) (by decide) hO, h.jn, h.af, h.pl, h.dp, h.l24, h.p200, h.ap⟩, hO⟩
theorem Sp.addC {c : Rl.Str} (h : Sp wa rb x s N B C T) (hwb : Only (fun _ => False) wa wb) (hown : w'.ownsRow (rb + 1) 9 1 v' (C.length + 1) (strs C ++ [.string (bs c)])) (hg : wb.grownBy w' x.vC.ownBlock) (hat : v'.ownBlock = x.vC.ownBlock ∨ v'.ownBlock = some wb.heap.size) :
    Sp w' rb { x with vC := v' } s N B (C ++ [c]) T ∧ Only (fun g => x.vC.ownBlock = some g) wa w' := by
  have hO := grown_only hwb hg
  refine ⟨⟨own_keepB h.nm hO (fun g h1 h2 => h.ap g h2 h1), own_keepB h.bt hO (own_two h.bt h.cls (by decide)), by rw [List.length_append]; unfold strs at hown ⊢; rw [List.map_append]; exact hown, own_keepB h.trt hO (own_two h.trt h.cls (by decide)), h.lst.keepB h.cls (by decide) (by decide) hO, h.jn, h.af, h.pl, h.dp, h.l24, h.p200, fun g hgC hgN => ?_⟩, hO⟩
  rcases hat with e | e
  · exact h.ap g (e ▸ hgC) hgN
  · have h1 := (h.nm.lt g hgN).2
    have h2 := hwb.size
    simp only at hgC
    rw [e] at hgC
    injection hgC with hgC
    omega
theorem Sp.addT {c : Int} (h : Sp wa rb x s N B C T) (hwb : Only (fun _ => False) wa wb) (hown : w'.ownsRow (rb + 1) 3 1 v' (T.length + 1) (ints T ++ [.int .i64 c])) (hg : wb.grownBy w' x.vT.ownBlock) :
    Sp w' rb { x with vT := v' } s N B C (T ++ [c]) ∧ Only (fun g => x.vT.ownBlock = some g) wa w' := by
  have hO := grown_only hwb hg
  exact ⟨⟨own_keepB h.nm hO (own_two h.nm h.trt (by decide)), own_keepB h.bt hO (own_two h.bt h.trt (by decide)), own_keepB h.cls hO (own_two h.cls h.trt (by decide)), by rw [List.length_append]; unfold ints at hown ⊢; rw [List.map_append]; exact hown, h.lst.keepB h.trt (by decide) (by decide) hO, h.jn, h.af, h.pl, h.dp, h.l24, h.p200, h.ap⟩, hO⟩
end
/-- a field of the parser written. -/
theorem setRb {w : World} {rb : Nat} (k : Nat) (v : Value) : Only (· = rb) w (w.setCell ⟨rb, k, none⟩ v) := (Only.refl (· = rb) w).setCell (p := ⟨rb, k, none⟩) rfl _
/-- blocks from rb on may turn. -/
abbrev Up (rb : Nat) (w w' : World) : Prop := Only (fun b => rb ≤ b) w w'
theorem Only.up {rb : Nat} {w w' : World} (h : Only (· = rb) w w') : Up rb w w' := h.mono (fun b e => by omega)
theorem Only.up0 {rb : Nat} {w w' : World} (h : Only (fun _ => False) w w') : Up rb w w' := h.mono (fun b e => e.elim)
theorem Only.upOwn {rb : Nat} {w w' : World} {e size n : Nat} {v : Value} {xs : List Value} (h : Only (fun g => v.ownBlock = some g) w w') (hx : w.ownsRow (rb + 1) e size v n xs) : Up rb w w' := h.mono (fun b hb => by have := own_low hx b hb; omega)
theorem one_cell (u : Value) (h : u.oneCell' = true) : ∀ v ∈ [u], v.oneCell' = true := by
  intro v hv
  simp at hv
  subst hv
  exact h
set_option maxRecDepth 100000 in
set_option maxHeartbeats 4000000 in
theorem declare_any (rb : Nat) (S : ByteArray) (i : Int) (x : Rq) (s : Rl.St) (N : List Rl.Str) (B : List Int) (C : List Rl.Str) (T : List Int) (c : Rl.Str) (b : Int) (w : World) (hR : Rpr w rb S i x 0 0) (hP : Sp w rb x s N B C T) (hE1 : N.length ≤ 5000) (hE2 : B.length ≤ 5000) :
    Calls Try.prog 36 #[.pointer (some ⟨rb, 0, none⟩), .string (bs c), .int .u32 b] w fun e w' => e = .returned (.tuple #[]) ∧ ∃ vN vB, Rpr w' rb S i { x with vN := vN, vB := vB } 0 0 ∧ Sp w' rb { x with vN := vN, vB := vB } s (N ++ [c]) (B ++ [b]) C T ∧ Up rb w w' := by
  obtain ⟨i9, hi9, hz90, hz91, hz92⟩ := info_parts info9
  obtain ⟨i34, hi34, hz340, hz341, hz342⟩ := info_parts info34
  have hlt := hR.lt
  obtain ⟨aN, capN, hvN⟩ := own_form hP.nm
  obtain ⟨aB, capB, hvB⟩ := own_form hP.bt
  have HvN : Hid (x.vN = .slice aN N.length capN) := hvN
  have HvB : Hid (x.vB = .slice aB B.length capB) := hvB
  have HP : Hid (Sp w rb x s N B C T) := hP
  have HR : Hid (Rpr w rb S i x 0 0) := hR
  have d7 : w.cell? ⟨rb, 7, none⟩ = some (.slice aN N.length capN) := by rw [← hvN]; exact hR.c7
  have f7 := hR.fz 7
  clear hvN hvB hP hR
  go_enter Try.func36, Try.ntmps36
  go_wp2_with (first | (at_builtin; refine wpList_append_own_at _ rfl _ _ 33 rfl (rb + 1) 9 i9 (.string ⟨#[]⟩) 1 16 Try.underlying33 hi9 hz90 hz91 hz92 rfl (by decide) (.slice aN N.length capN) _ _ rfl (by rw [← HvN.out]; exact HP.out.nm.alloc _) ⟨w.heap.size, 0, none⟩ 1 1 [.string (bs c)] rfl rfl (one_news9 _ _ _) (one_cell _ rfl) (by unfold maxLen; omega) (by omega) (by simp; omega) ?_; intro V1_ w1 hown1 hg1 _ hat1; obtain ⟨g1, cap1, rfl, _, _, _, _⟩ := row_form hown1 (by omega); rw [← HvN.out] at hg1 hat1; obtain ⟨hP1, hO1⟩ := HP.out.addN ((Only.refl (fun _ => False) w).alloc _) hown1 hg1 hat1; have hR1 : Rpr w1 rb S i x 0 0 := HR.out.only hO1 (fun e => by have := own_low HP.out.nm _ e; omega); have e7 := hR1.c7; have g7 := hR1.fz 7; have e8 : w1.cell? ⟨rb, 8, none⟩ = some (.slice aB B.length capB) := (by rw [← HvB.out]; exact hR1.c8); have g8 := hR1.fz 8; have HP1 : Hid (Sp w1 rb { x with vN := (.slice (some ⟨g1, 0, none⟩) (N.length + 1) cap1) } s (N ++ [c]) B C T) := hP1; have HR1 : Hid (Rpr w1 rb S i x 0 0) := hR1; have HO1 : Hid (Up rb w w1) := hO1.upOwn HP.out.nm; clear hP1 hR1 hO1 hown1 hg1 hat1; have hl1 := HR1.out.lt; have HO1' := HO1.out.size; rw [HvN.out] at e7) | (at_builtin; refine wpList_append_own_at _ rfl _ _ 69 rfl (rb + 1) 34 i34 (.int .u32 0) 1 4 Try.underlying69 hi34 hz340 hz341 hz342 rfl (by decide) (.slice aB B.length capB) _ _ rfl (by rw [← HvB.out]; exact (HP1.out.only (setRb 7 (.slice (some ⟨g1, 0, none⟩) (N.length + 1) cap1))).bt.alloc _) ⟨w1.heap.size, 0, none⟩ 1 1 [.int .u32 b] rfl rfl (by have := one_news9 (w1.setCell ⟨rb, 7, none⟩ (.slice (some ⟨g1, 0, none⟩) (N.length + 1) cap1)) (.int .u32 b) 34; simp only [World.setCell, Array.size_modify] at this ⊢; exact this) (one_cell _ rfl) (by unfold maxLen; omega) (by omega) (by simp; omega) ?_; intro V2_ w2 hown2 hg2 _ hat2; obtain ⟨g2, cap2, rfl, _, _, _, _⟩ := row_form hown2 (by omega); rw [← HvB.out] at hg2 hat2; obtain ⟨hP2, hO2⟩ := (HP1.out.only (setRb 7 (.slice (some ⟨g1, 0, none⟩) (N.length + 1) cap1))).addB ((Only.refl (fun _ => False) _).alloc _) hown2 hg2; have hR2 : Rpr w2 rb S i { x with vN := (.slice (some ⟨g1, 0, none⟩) (N.length + 1) cap1) } 0 0 := (HR1.out.set7 (.slice (some ⟨g1, 0, none⟩) (N.length + 1) cap1)).only hO2 (fun e => by have := own_low (HP1.out.only (setRb 7 (.slice (some ⟨g1, 0, none⟩) (N.length + 1) cap1))).bt _ e; omega); have e8 := hR2.c8; have g8 := hR2.fz 8; have HP2 : Hid (Sp w2 rb { x with vN := (.slice (some ⟨g1, 0, none⟩) (N.length + 1) cap1), vB := (.slice (some ⟨g2, 0, none⟩) (B.length + 1) cap2) } s (N ++ [c]) (B ++ [b]) C T) := hP2; have HR2 : Hid (Rpr w2 rb S i { x with vN := (.slice (some ⟨g1, 0, none⟩) (N.length + 1) cap1) } 0 0) := hR2; have HO2 : Hid (Up rb w w2) := (HO1.out.trans (setRb 7 (.slice (some ⟨g1, 0, none⟩) (N.length + 1) cap1)).up).trans (hO2.upOwn (HP1.out.only (setRb 7 (.slice (some ⟨g1, 0, none⟩) (N.length + 1) cap1))).bt); clear hP2 hR2 hO2 hown2 hg2 hat2))
  go_end0
  refine ⟨rfl, _, _, HR2.out.set8 _, HP2.out.only (setRb 8 _), HO2.out.trans (setRb 8 _).up⟩
end Go.Proofs.Ytahoepmnekconaa
