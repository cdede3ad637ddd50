/-
  Groups whose list is written; (*groups).states.
-/
import Derived.Test.YtelifjeppegcmaaPa
namespace Go.Proofs.Ytelifjeppegcmaa
open Go.RowKit Go.Maps
set_option linter.unusedVariables false
set_option linter.unusedSimpArgs false
theorem Ms.put {w : World} {gb rb ab ob n base B1 lb cap i a b : Nat} {row at' of : List Nat} {ls : List (Nat × Nat × Nat)} (h : Ms w gb rb ab ob n base B1 (.slice (some ⟨lb, 0, none⟩) ls.length cap) row at' of ls) (hi : i < ls.length) : Ms (((w.setCell ⟨lb, i * 3, none⟩ (.int .i64 (a : Int))).setCell ⟨lb, i * 3 + 1, none⟩ (.int .i64 (b : Int))).setCell ⟨lb, i * 3 + 2, none⟩ (.int .i64 0)) gb rb ab ob n base B1 (.slice (some ⟨lb, 0, none⟩) (ls.set i (a, b, 0)).length cap) row at' of (ls.set i (a, b, 0)) := by
  obtain ⟨n1, n2, n3, n4⟩ := h.ne
  have hL := own_set (own_set (own_set h.L (i * 3) (by omega) (.int .i64 (a : Int))) (i * 3 + 1) (by omega) (.int .i64 (b : Int))) (i * 3 + 2) (by omega) (.int .i64 ((0 : Nat) : Int))
  rw [gcs_set ls i a b 0 hi] at hL
  rw [List.length_set]
  refine ⟨((h.G.off (fun e => n4 e.symm) _ _).off (fun e => n4 e.symm) _ _).off (fun e => n4 e.symm) _ _, ((h.r.off n1.symm _ _).off n1.symm _ _).off n1.symm _ _, ((h.a.off n2.symm _ _).off n2.symm _ _).off n2.symm _ _, ((h.o.off n3.symm _ _).off n3.symm _ _).off n3.symm _ _, ?_, h.ra, h.ro, h.ao, h.lo, h.hi, by rw [List.length_set]; exact h.kl, by rw [List.length_set]; exact h.kn, h.n1⟩
  rw [List.length_set]
  exact hL
theorem Ms.drew {w : World} {gb rb ab ob n base B1 : Nat} {vL : Value} {row at' of : List Nat} {ls : List (Nat × Nat × Nat)} (h : Ms w gb rb ab ob n base B1 vL row at' of ls) : Ms w.drew gb rb ab ob n base B1 vL row at' of ls := h.keep ((Only.refl (fun _ => False) w).drew) (fun _ h => h.elim) (fun _ _ h => h.elim)
/-- a state's group is written. -/
theorem Ms.of' {w : World} {gb rb ab ob n base B1 s x : Nat} {vL : Value} {row at' of : List Nat} {ls : List (Nat × Nat × Nat)} (h : Ms w gb rb ab ob n base B1 vL row at' of ls) : Ms (w.setCell ⟨ob, s, none⟩ (.int .i64 (x : Int))) gb rb ab ob n base B1 vL row at' (of.set s x) ls :=
  ⟨h.G.off (h.G.ne h.o) _ _, h.r.off h.ro _ _, h.a.off h.ao _ _, h.o.set s x, own_off h.L (fun cur hc => by have := h.o; unfold Nb at this; rw [this] at hc; injection hc with hc; injection hc with _ hc; cases hc), h.ra, h.ro, h.ao, h.lo, h.hi, h.kl, h.kn, h.n1⟩
set_option maxRecDepth 100000 in
set_option maxHeartbeats 1000000 in
theorem states_any (gb rb ab ob n c e m x : Nat) (vL : Value) (w : World) (hG : Gb w gb rb ab ob n vL) (hm : e = c + m) (he : e ≤ n) (hc : c < n) (hn : n ≤ 1000000) : Calls Try.prog 29 #[.pointer (some ⟨gb, 0, none⟩), .agg #[.int .i64 (c : Int), .int .i64 (e : Int), .int .i64 0]] w fun y w' => y = .returned (.slice (some ⟨rb, c, none⟩) m (n - c)) ∧ Only (fun _ => False) w w' := by
  have z0 : w.cell? ⟨gb, 0, none⟩ = some (.slice (some ⟨rb, 0, none⟩) n n) := cell_blk hG
  have lgb := hG.lt
  have h1 : (c : Int) ≤ (e : Int) := by omega
  have h2 : (e : Int) ≤ (n : Int) := by omega
  have h3 : (e : Int) - (c : Int) = (m : Int) := by omega
  have h4 : e - c = m := by omega
  have h5 : c ≤ e := by omega
  have h6 : ¬ n = c := by omega
  have h7 : (n : Int) - (c : Int) = ((n - c : Nat) : Int) := by omega
  clear hG hm
  go_enter Try.func29, Try.ntmps29
  go_wp2_with fail
  go_quiet (fail)
  go_wp2_with fail
  go_ret
  exact ⟨rfl, ((Only.refl _ _).alloc _).drewN _⟩
/-- there are no more groups than states. -/
theorem Hm.Pi.few {n : Nat} {row at' of : List Nat} {ls : List (Nat × Nat × Nat)} {T : Nat → Prop} (h : Hm.Pi n row at' of ls T) : ls.length ≤ n := by
  have hf : ∀ g, g < ls.length → ∃ s, of[s]? = some g := fun g hg => by
    obtain ⟨x, hx⟩ : ∃ x, ls[g]? = some x := ⟨_, List.getElem?_eq_getElem hg⟩
    obtain ⟨f, t, d⟩ := x
    obtain ⟨a, b, c, e⟩ := h.seg g f t d hx
    have rl := h.rl
    obtain ⟨s, hs⟩ : ∃ s, row[f]? = some s := ⟨_, List.getElem?_eq_getElem (by omega)⟩
    exact ⟨s, (e f s (Nat.le_refl _) a hs).1⟩
  have key : ∀ k, k ≤ ls.length → ∃ L : List Nat, L.length = k ∧ L.Nodup ∧ (∀ s ∈ L, s < n ∧ ∃ g, g < k ∧ of[s]? = some g) := by
    intro k
    induction k with
    | zero => intro _; exact ⟨[], rfl, List.nodup_nil, fun s h => by cases h⟩
    | succ k ih =>
      intro hk
      obtain ⟨L, h1, h2, h3⟩ := ih (by omega)
      obtain ⟨s, hs⟩ := hf k (by omega)
      have hsl := (List.getElem?_eq_some_iff.1 hs).1
      have ol := h.ol
      refine ⟨s :: L, by simp [h1], List.nodup_cons.2 ⟨fun hm => ?_, h2⟩, fun y hy => ?_⟩
      · obtain ⟨_, g, hg, hg2⟩ := h3 s hm
        rw [hs] at hg2
        injection hg2 with hg2
        omega
      · rcases List.mem_cons.1 hy with rfl | hy
        · exact ⟨by omega, k, by omega, hs⟩
        · obtain ⟨a, g, hg, hg2⟩ := h3 y hy
          exact ⟨a, g, by omega, hg2⟩
  obtain ⟨L, h1, h2, h3⟩ := key ls.length (Nat.le_refl _)
  have := mt_len n L h2 (fun s hs => (h3 s hs).1)
  omega
theorem info62 : (Try.prog.info? 62).map (fun i => (i.zero, i.size, i.bytes)) = some (some (.agg #[.int .i64 0, .int .i64 0, .int .i64 0]), 3, 24) := by kernel_rfl
/-- a group more. -/
theorem Ms.more {w w5 : World} {gb rb ab ob n base B1 lb cap c e g5 cap5 K : Nat} {row at' of : List Nat} {ls : List (Nat × Nat × Nat)} (h : Ms w gb rb ab ob n base B1 (.slice (some ⟨lb, 0, none⟩) ls.length cap) row at' of ls) (hK : ls.length = K) (ho : Only (fun b => b = lb) w w5) (hown : w5.ownsRow base 62 3 (.slice (some ⟨g5, 0, none⟩) (K + 1) cap5) (K + 1) (gcs ls ++ gc (c, e, 0))) (hn : K + 1 ≤ n) : Ms (w5.setCell ⟨gb, 3, none⟩ (.slice (some ⟨g5, 0, none⟩) (K + 1) cap5)) gb rb ab ob n base B1 (.slice (some ⟨g5, 0, none⟩) (ls ++ [(c, e, 0)]).length cap5) row at' of (ls ++ [(c, e, 0)]) := by
  obtain ⟨n1, n2, n3, n4⟩ := h.ne
  have hl : (ls ++ [(c, e, 0)]).length = K + 1 := by simp [hK]
  have hG := h.G.only ho (fun e => n4 e.symm)
  have hr := h.r.only ho (fun e => n1 e.symm)
  have ha := h.a.only ho (fun e => n2 e.symm)
  have hob := h.o.only ho (fun e => n3 e.symm)
  rw [hl]
  refine ⟨?_, hr.off (fun e => hG.ne hr e.symm) _ _, ha.off (fun e => hG.ne ha e.symm) _ _, hob.off (fun e => hG.ne hob e.symm) _ _, ?_, h.ra, h.ro, h.ao, h.lo, h.hi, by rw [hl]; omega, by rw [hl]; exact hn, h.n1⟩
  · exact heap_setCell_at hG _
  · rw [hl, gcs_app, gcs_one]
    refine own_off hown (fun cur hc => ?_)
    unfold Gb at hG
    rw [hG] at hc
    injection hc with hc
    injection hc with _ hc
    cases hc
end Go.Proofs.Ytelifjeppegcmaa
