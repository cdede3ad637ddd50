/-
  (*groups).part.
-/
import Derived.Test.YtelifjeppegcmaaPb
import Derived.Deep.RegionLaw
import Derived.Deep.RegionWith
namespace Go.Proofs.Ytelifjeppegcmaa
open Go.RowKit Go.Maps
set_option linter.unusedVariables false
set_option linter.unusedSimpArgs false
theorem part_mem {ls : List (Nat × Nat × Nat)} {i f t d a b c e : Nat} (h : ls[i]? = some (f, t, d)) : ∀ x : Nat, (∃ f t d, (ls.set i (a, b, 0) ++ [(c, e, 0)])[x]? = some (f, t, d) ∧ 0 < d) ↔ (x ≠ i ∧ ∃ f t d, ls[x]? = some (f, t, d) ∧ 0 < d) := fun x => by
  have il := (List.getElem?_eq_some_iff.1 h).1
  by_cases hx : x < ls.length
  · rw [List.getElem?_append_left (by rw [List.length_set]; exact hx), Hm.ls_set il]
    by_cases e2 : i = x
    · rw [if_pos e2]
      constructor
      · rintro ⟨f', t', d', h1, h2⟩
        injection h1 with h1
        simp only [Prod.mk.injEq] at h1
        omega
      · rintro ⟨h1, _⟩
        exact absurd e2.symm h1
    · rw [if_neg e2]
      exact ⟨fun h => ⟨fun e => e2 e.symm, h⟩, fun h => h.2⟩
  · constructor
    · rintro ⟨f', t', d', h1, h2⟩
      rw [List.getElem?_append_right (by rw [List.length_set]; omega)] at h1
      cases hk : x - (ls.set i (a, b, 0)).length with
      | zero =>
        rw [hk] at h1
        simp at h1
        omega
      | succ k => rw [hk] at h1; simp at h1
    · rintro ⟨_, f', t', d', h1, _⟩
      have := (List.getElem?_eq_some_iff.1 h1).1
      omega
theorem part_lo {w : World} {gb rb ab ob n base B1 lb cap : Nat} {row at' of : List Nat} {ls : List (Nat × Nat × Nat)} (h : Ms w gb rb ab ob n base B1 (.slice (some ⟨lb, 0, none⟩) ls.length cap) row at' of ls) : ∀ b, (b = lb ∨ b = ob ∨ b = gb) → base ≤ b := fun b hb => by
  have := (own_blk h.L).1
  have := h.lo
  omega
theorem part_hi {w : World} {gb rb ab ob n base B1 lb cap : Nat} {row at' of : List Nat} {ls : List (Nat × Nat × Nat)} (h : Ms w gb rb ab ob n base B1 (.slice (some ⟨lb, 0, none⟩) ls.length cap) row at' of ls) : ∀ b o, (b = lb ∨ b = ob ∨ b = gb) → B1 ≤ b → w.heap[b]? = some o → ∃ cs z, o = .cells cs 62 z := fun b o hb hB ho => by
  have := h.hi
  rcases hb with rfl | rfl | rfl
  · obtain ⟨cur, hc⟩ := (own_blk h.L).2.2.2
    rw [hc] at ho
    injection ho with ho
    exact ⟨cur, _, ho.symm⟩
  · omega
  · omega
set_option maxRecDepth 100000 in
set_option maxHeartbeats 8000000 in
theorem part_whole (gb rb ab ob n base B1 i f t d q K : Nat) (lb cap : Nat) (row at' of : List Nat) (ls : List (Nat × Nat × Nat)) (w : World) (hM : Ms w gb rb ab ob n base B1 (.slice (some ⟨lb, 0, none⟩) ls.length cap) row at' of ls) (hl : ls[i]? = some (f, t, d)) (hd : 0 < d) (hq : q = f + d) (ht : t = q + 0) (htn : t ≤ n) (hK : K = ls.length) (T : Nat → Prop) (K0 : Nat) (of0 : List Nat) (hP2 : Hm.P2 n K0 of0 row at' of ls T) : Calls Try.prog 37 #[.pointer (some ⟨gb, 0, none⟩), .int .i64 (i : Int)] w fun e w' => e = .returned (.tuple #[]) ∧ ∃ cap', Ms w' gb rb ab ob n base B1 (.slice (some ⟨lb, 0, none⟩) (ls.set i (f, t, 0)).length cap') row at' of (ls.set i (f, t, 0)) ∧ Only (fun b => b = lb) w w' := by
  have hil := (List.getElem?_eq_some_iff.1 hl).1
  obtain ⟨q0, q1, q2⟩ := gcs_at ls i f t d hl
  obtain ⟨lb', cap', hv, hlb1, hlb2, hcap, hcapm, hcell, cur, hcur⟩ := hM.nl
  injection hv with hv1 hv2 hv3
  injection hv1 with hv1
  injection hv1 with hv1
  subst hv1
  subst hv3
  clear hv2
  have n1 := hM.n1
  have kn := hM.kn
  rw [← hK] at hcap kn hil
  unfold maxLen at hcapm
  have z3 : w.cell? ⟨gb, 3, none⟩ = some (.slice (some ⟨lb, 0, none⟩) K cap) := by rw [hK]; exact cell_blk hM.G
  have z5 : w.cell? ⟨lb, i * 3, none⟩ = some (.int .i64 (f : Int)) := (hcell _ (by omega)).trans q0
  have z6 : w.cell? ⟨lb, i * 3 + 1, none⟩ = some (.int .i64 (t : Int)) := (hcell _ (by omega)).trans q1
  have z7 : w.cell? ⟨lb, i * 3 + 2, none⟩ = some (.int .i64 (d : Int)) := (hcell _ (by omega)).trans q2
  have lgb := hM.G.lt
  have HM : Hid (Ms w gb rb ab ob n base B1 (.slice (some ⟨lb, 0, none⟩) ls.length cap) row at' of ls) := hM
  have HF : Hid (ls[i]? = some (f, t, d) ∧ K = ls.length ∧ q = f + d ∧ t = q + 0) := ⟨hl, hK, hq, ht⟩
  have HPI : Hid (Hm.Pi n row at' of ls T) := hP2.pi
  have HP2 : Hid (Hm.P2 n K0 of0 row at' of ls T) := hP2
  have i1 : (i : Int) < (K : Int) := by omega
  have s2 : (f : Int) + (d : Int) = (q : Int) := by omega
  have hqn : q ≤ n := by omega
  have hdn : d ≤ n := by omega
  have d1 : decide ((d : Int) < (0 : Int)) = false := decide_eq_false (by omega)
  clear hM hl hcell hcur q0 q1 q2 hK hq ht hP2
  go_enter Try.func37, Try.ntmps37
  go_wp2_with fail
  go_cut [6, 7] from 22 to 29 (fun v6 v7 wr => ∃ (ga sa : Nat) (W : World), W = wr ∧ v6 = .pointer (some ⟨ga, 0, none⟩) ∧ v7 = .pointer (some ⟨sa, 0, none⟩) ∧ W.heap[ga]? = some (.cells #[.int .i64 (f : Int), .int .i64 (q : Int), .int .i64 0] 62 (0, 0)) ∧ W.heap[sa]? = some (.cells #[.int .i64 (q : Int), .int .i64 (t : Int), .int .i64 0] 62 (0, 0)) ∧ ga ≠ sa ∧ w.heap.size ≤ ga ∧ w.heap.size ≤ sa ∧ Only (fun _ => False) w W)
  case first =>
    go_region
    all_goals
      go_wp2_with fail
      go_meet
      case rel => first
        | exact ⟨_, _, _, rfl, rfl, rfl, al_mid _ _ _ _, al_last _ _ _ _, by omega, by omega, by omega, ((((Only.refl _ _).alloc _).alloc _).alloc _).drew⟩
        | exact ⟨_, _, _, rfl, rfl, rfl, al_last _ _ _ _, al_mid _ _ _ _, by omega, by omega, by omega, ((((Only.refl _ _).alloc _).alloc _).alloc _).drew⟩
  case rest =>
    obtain ⟨ga, sa, W, hW, e6, e7, hga, hsa, hne, hg1, hs1, ho⟩ := hcut
    subst hW
    subst e6
    subst e7
    have HGA : Hid (W.heap[ga]? = some (.cells #[.int .i64 (f : Int), .int .i64 (q : Int), .int .i64 0] 62 (0, 0))) := hga
    have HSA : Hid (W.heap[sa]? = some (.cells #[.int .i64 (q : Int), .int .i64 (t : Int), .int .i64 0] 62 (0, 0))) := hsa
    have HOW : Hid (Only (fun _ => False) w W) := ho
    clear hga hsa ho z3 z5 z6 z7 s2
    have HKC : Hid (∀ W', Only (fun _ => False) W W' → W'.cell? ⟨ga, 0, none⟩ = some (.int .i64 (f : Int)) ∧ W'.cell? ⟨ga, 1, none⟩ = some (.int .i64 (q : Int)) ∧ W'.cell? ⟨ga, 2, none⟩ = some (.int .i64 0) ∧ W'.cell? ⟨sa, 0, none⟩ = some (.int .i64 (q : Int)) ∧ W'.cell? ⟨sa, 1, none⟩ = some (.int .i64 (t : Int)) ∧ W'.cell? ⟨sa, 2, none⟩ = some (.int .i64 0)) := fun W' ho => by
      have h1 := (ho.block ga (Array.getElem?_eq_some_iff.1 HGA.out).1 (fun h => h)).trans HGA.out
      have h2 := (ho.block sa (Array.getElem?_eq_some_iff.1 HSA.out).1 (fun h => h)).trans HSA.out
      exact ⟨cell_blk h1, cell_blk h1, cell_blk h1, cell_blk h2, cell_blk h2, cell_blk h2⟩
    obtain ⟨a0, a1, a2, b0, b1, b2⟩ := HKC.out W (Only.refl _ _)
    go_wp2_with fail
    go_cut [34] from 30 to 34 (fun v wr => ∃ (W' : World), W' = wr ∧ v = .bool false ∧ Only (fun _ => False) W W')
    case first =>
      go_region_held3 (fun W' => W'.cell? ⟨ga, 0, none⟩ = some (.int .i64 (f : Int)) ∧ W'.cell? ⟨ga, 1, none⟩ = some (.int .i64 (q : Int)) ∧ W'.cell? ⟨ga, 2, none⟩ = some (.int .i64 0) ∧ W'.cell? ⟨sa, 0, none⟩ = some (.int .i64 (q : Int)) ∧ W'.cell? ⟨sa, 1, none⟩ = some (.int .i64 (t : Int)) ∧ W'.cell? ⟨sa, 2, none⟩ = some (.int .i64 0)) (first | exact HKC.out _ (Only.refl _ _).drew | exact HKC.out _ (((Only.refl _ _).drew).alloc _) | exact HKC.out _ ((((Only.refl _ _).drew).alloc _).alloc _)) (first | (go_at_call 45; refine Calls.mono (size0_any f q d _ HF.out.2.2.1 (by omega)) ?_; rintro e w9 ⟨rfl, rfl⟩) | (go_at_call 45; refine Calls.mono (size0_any q t 0 _ HF.out.2.2.2 (by omega)) ?_; rintro e w9 ⟨rfl, rfl⟩) | fail)
      all_goals
        go_wp2_with fail
        go_meet
        case rel => exact ⟨_, rfl, rfl, (((Only.refl _ _).drew).alloc _).alloc _⟩
    case rest =>
      obtain ⟨V, hV, e34, hoV⟩ := hcut
      subst hV
      subst e34
      have HOV : Hid (Only (fun _ => False) w V) := HOW.out.trans hoV
      have HOWV : Hid (Only (fun _ => False) W V) := hoV
      clear a0 a1 a2 b0 b1 b2 hoV
      obtain ⟨a0, a1, a2, b0, b1, b2⟩ := HKC.out V HOWV.out
      have HMV : Hid (Ms V gb rb ab ob n base B1 (.slice (some ⟨lb, 0, none⟩) ls.length cap) row at' of ls) := HM.out.keep HOV.out (fun _ h => h.elim) (fun _ _ h => h.elim)
      obtain ⟨z3, z5, z6, z7, fz⟩ := HMV.out.reads HF.out.1
      rw [← HF.out.2.1] at z3
      have lgbV := HMV.out.G.lt
      have lgaV := World.block_lt_of_cell? V _ a0
      have lsaV := World.block_lt_of_cell? V _ b0
      have llbV := World.block_lt_of_cell? V _ z5
      go_wp2_with fail
      have HSV : Hid (V.heap[sa]? = some (.cells #[.int .i64 (q : Int), .int .i64 (t : Int), .int .i64 0] 62 (0, 0))) := (HOWV.out.block sa (Array.getElem?_eq_some_iff.1 HSA.out).1 (fun h => h)).trans HSA.out
      go_region
      obtain ⟨V2, hV2⟩ : ∃ V2, V2 = (((V.setCell ⟨lb, i * 3, none⟩ (.int .i64 (f : Int))).setCell ⟨lb, i * 3 + 1, none⟩ (.int .i64 (q : Int))).setCell ⟨lb, i * 3 + 2, none⟩ (.int .i64 0)).drew := ⟨_, rfl⟩
      have HM2 : Hid (Ms V2 gb rb ab ob n base B1 (.slice (some ⟨lb, 0, none⟩) (ls.set i (f, q, 0)).length cap) row at' of (ls.set i (f, q, 0))) := by rw [hV2]; exact (HMV.out.put (by have := HF.out.2.1; omega)).drew
      have HO2 : Hid (Only (fun b => b = lb) V V2) := by rw [hV2]; exact ((((Only.refl (fun b => b = lb) V).setCell (p := ⟨lb, i * 3, none⟩) rfl _).setCell (p := ⟨lb, i * 3 + 1, none⟩) rfl _).setCell (p := ⟨lb, i * 3 + 2, none⟩) rfl _).drew
      rw [← hV2]
      clear hV2
      have hslb : sa ≠ lb := by omega
      have HSB : Hid (V2.heap[sa]? = some (.cells #[.int .i64 (q : Int), .int .i64 (t : Int), .int .i64 0] 62 (0, 0))) := (HO2.out.block sa lsaV hslb).trans HSV.out
      have HOw2 : Hid (Only (fun b => b = lb) w V2) := (HOV.out.mono (fun _ h => h.elim)).trans HO2.out
      clear a0 a1 a2 b0 b1 b2 z3 z5 z6 z7 fz lgbV lgaV lsaV llbV
      have b0 : V2.cell? ⟨sa, 0, none⟩ = some (.int .i64 (q : Int)) := cell_blk HSB.out
      have b1 : V2.cell? ⟨sa, 1, none⟩ = some (.int .i64 (t : Int)) := cell_blk HSB.out
      have b2 : V2.cell? ⟨sa, 2, none⟩ = some (.int .i64 0) := cell_blk HSB.out
      have lsa2 : sa < V2.heap.size := World.block_lt_of_cell? V2 _ b0
      go_wp2_with (first | (go_at_call 45; refine Calls.mono (size0_any q t 0 V2 HF.out.2.2.2 (by omega)) ?_; rintro e w9 ⟨rfl, rfl⟩))
      refine bodyPost_ret (results_none Try.results37 _ _ _) rfl ?_
      have eq : q = t := by have := HF.out.2.2.2; omega
      subst eq
      exact ⟨rfl, _, HM2.out.alloc _, (HOw2.out.alloc _)⟩
end Go.Proofs.Ytelifjeppegcmaa
