/-
  oneGroup: so many states, none told apart.
-/
import Derived.Test.YtelifjeppegcmaaMs
import Derived.Deep.OwnRows
namespace Go.Proofs.Ytelifjeppegcmaa
open Go.RowKit Go.Maps
set_option linter.unusedVariables false
set_option linter.unusedSimpArgs false
theorem info3b : (Try.prog.info? 3).map (fun i => (i.zero, i.size, i.bytes)) = some (some (.int .i64 0), 1, 8) := by kernel_rfl
theorem made_i64 (n : Nat) : madeCells #[.int .i64 0] n = nums (List.replicate n 0) := by
  apply Array.ext
  · simp [nums, size_madeCells]
  · intro i h1 h2
    simp [madeCells, nums, Nat.mod_one]
/-- the first k of so many, as they are. -/
def upto (n k : Nat) : List Nat := List.range k ++ List.replicate (n - k) 0
theorem upto_len {n k : Nat} (h : k ≤ n) : (upto n k).length = n := by simp [upto]; omega
theorem upto_zero (n : Nat) : upto n 0 = List.replicate n 0 := by simp [upto]
theorem upto_full (n : Nat) : upto n n = List.range n := by simp [upto]
theorem upto_set {n k : Nat} (h : k < n) : (upto n k).set k k = upto n (k + 1) := by
  unfold upto
  rw [List.range_succ, List.set_append_right _ _ (by simp), List.length_range, Nat.sub_self, show n - k = (n - (k + 1)) + 1 by omega, List.replicate_succ, List.set_cons_zero]
  simp
theorem rng_at {n p s : Nat} (hp : (List.range n)[p]? = some s) : s = p ∧ p < n := by
  have hl := (List.getElem?_eq_some_iff.1 hp).1
  rw [List.length_range] at hl
  rw [List.getElem?_range hl] at hp
  injection hp with hp
  exact ⟨hp.symm, hl⟩
theorem rep_at {n s g : Nat} (h : (List.replicate n 0)[s]? = some g) : g = 0 ∧ s < n := by
  have hl := (List.getElem?_eq_some_iff.1 h).1
  rw [List.length_replicate] at hl
  rw [List.getElem?_replicate, if_pos hl] at h
  injection h with h
  exact ⟨h.symm, hl⟩
theorem one_Pt {n : Nat} (h : 0 < n) : Hm.Pt n (List.range n) (List.range n) (List.replicate n 0) [(0, n, 0)] (fun _ => False) := by
  refine ⟨by simp, by simp, by simp, fun p s hp => ?_, fun s p hp => ?_, fun s g hg => ?_, fun g f t d hg => ?_⟩
  · obtain ⟨rfl, hl⟩ := rng_at hp
    exact ⟨hl, hp⟩
  · obtain ⟨rfl, hl⟩ := rng_at hp
    exact hp
  · obtain ⟨rfl, hl⟩ := rep_at hg
    exact ⟨0, n, 0, s, rfl, List.getElem?_range hl, Nat.zero_le _, hl⟩
  · have hl := (List.getElem?_eq_some_iff.1 hg).1
    obtain rfl : g = 0 := by simpa using hl
    simp at hg
    obtain ⟨rfl, rfl, rfl⟩ := hg
    refine ⟨h, Nat.le_refl _, by omega, fun p s h1 h2 hp => ⟨?_, by constructor <;> intro hh; omega; exact hh.elim⟩⟩
    obtain ⟨rfl, hl⟩ := rng_at hp
    rw [List.getElem?_replicate, if_pos hl]
theorem four (w : World) (a b c x : Obj) : (((((w.alloc a).alloc b).alloc c).alloc x).drew.heap[w.heap.size]? = some a ∧ ((((w.alloc a).alloc b).alloc c).alloc x).drew.heap[w.heap.size + 1]? = some b ∧ ((((w.alloc a).alloc b).alloc c).alloc x).drew.heap[w.heap.size + 1 + 1]? = some c ∧ ((((w.alloc a).alloc b).alloc c).alloc x).drew.heap[w.heap.size + 1 + 1 + 1]? = some x) := by
  have s1 : (w.alloc a).heap.size = w.heap.size + 1 := by simp
  have s2 : ((w.alloc a).alloc b).heap.size = w.heap.size + 1 + 1 := by simp
  have s3 : (((w.alloc a).alloc b).alloc c).heap.size = w.heap.size + 1 + 1 + 1 := by simp
  have h1 := heap_alloc_new w a
  have h2 := heap_alloc_new (w.alloc a) b
  have h3 := heap_alloc_new ((w.alloc a).alloc b) c
  have h4 := heap_alloc_new (((w.alloc a).alloc b).alloc c) x
  rw [s1] at h2
  rw [s2] at h3
  rw [s3] at h4
  refine ⟨?_, ?_, ?_, h4⟩
  · exact (Below.heap_alloc _ _ _ (by omega)).trans ((Below.heap_alloc _ _ _ (by omega)).trans ((Below.heap_alloc _ _ _ (by omega)).trans h1))
  · exact (Below.heap_alloc _ _ _ (by omega)).trans ((Below.heap_alloc _ _ _ (by omega)).trans h2)
  · exact (Below.heap_alloc _ _ _ (by omega)).trans h3
theorem info62b : (Try.prog.info? 62).map (·.size) = some 3 := by kernel_rfl
set_option maxRecDepth 100000 in
set_option maxHeartbeats 4000000 in
theorem oneGroup_any (n : Nat) (w : World) (h0 : 0 < n) (hn : n ≤ 100000) : Calls Try.prog 23 #[.int .i64 (n : Int)] w fun e w' => ∃ gb rb ab ob vL, e = .returned (.pointer (some ⟨gb, 0, none⟩)) ∧ Ms w' gb rb ab ob n w.heap.size w'.heap.size vL (List.range n) (List.range n) (List.replicate n 0) [(0, n, 0)] ∧ Only (fun _ => False) w w' := by
  have hmk := fun (w : World) => run_make_row' (P := Try.prog) 23 3 (.int .i64 0) 8 Try.underlying23 info3b rfl .i64 .i64 n (by omega) (by omega) w
  go_enter Try.func23, Try.ntmps23
  go_wp2_with fail
  go_cut [3] from 5 to 12 (fun v wr => ∃ (gb rb ab ob : Nat) (W : World), W = wr ∧ v = .pointer (some ⟨gb, 0, none⟩) ∧ Gb W gb rb ab ob n (.slice none 0 0) ∧ Nb W rb (List.replicate n 0) ∧ Nb W ab (List.replicate n 0) ∧ Nb W ob (List.replicate n 0) ∧ rb ≠ ab ∧ rb ≠ ob ∧ ab ≠ ob ∧ (w.heap.size ≤ gb ∧ w.heap.size ≤ rb ∧ w.heap.size ≤ ab ∧ w.heap.size ≤ ob) ∧ Only (fun _ => False) w W)
  case first =>
    go_region
    all_goals
      go_wp2_with fail
      go_meet
      case rel =>
        rw [made_i64]
        refine ⟨_, _, _, _, _, rfl, rfl, (four w _ _ _ _).2.2.2, ?_, ?_, ?_, by omega, by omega, by omega, by omega, ((((((Only.refl _ _).alloc _).alloc _).alloc _).alloc _).drew)⟩
        · first | exact (four w _ _ _ _).1 | exact (four w _ _ _ _).2.1 | exact (four w _ _ _ _).2.2.1
        · first | exact (four w _ _ _ _).1 | exact (four w _ _ _ _).2.1 | exact (four w _ _ _ _).2.2.1
        · first | exact (four w _ _ _ _).1 | exact (four w _ _ _ _).2.1 | exact (four w _ _ _ _).2.2.1
  case rest =>
    obtain ⟨gb, rb, ab, ob, W, hW, rfl, hG, hr, ha, hob, n1, n2, n3, hlo, ho⟩ := hcut
    subst hW
    have HW : Hid (Gb W gb rb ab ob n (.slice none 0 0) ∧ Nb W rb (List.replicate n 0) ∧ Nb W ab (List.replicate n 0) ∧ Nb W ob (List.replicate n 0) ∧ Only (fun _ => False) w W) := ⟨hG, hr, ha, hob, ho⟩
    clear hG hr ha hob ho hmk
    go_wp2_with fail
    go_loopg [14] n (fun gh v wr => ∃ (k : Nat) (Y : World), Y = wr ∧ gh = n - k ∧ k ≤ n ∧ v = .int .i64 (k : Int) ∧ Gb Y gb rb ab ob n (.slice none 0 0) ∧ Nb Y rb (upto n k) ∧ Nb Y ab (upto n k) ∧ Nb Y ob (List.replicate n 0) ∧ Only (fun b => b = rb ∨ b = ab) W Y)
    case atStart => exact ⟨0, _, rfl, rfl, Nat.zero_le _, rfl, HW.out.1, by rw [upto_zero]; exact HW.out.2.1, by rw [upto_zero]; exact HW.out.2.2.1, HW.out.2.2.2.1, Only.refl _ _⟩
    case round =>
      obtain ⟨k, Y, hY, rfl, hk, rfl, hG, hr, ha, hob, ho⟩ := hrel
      subst hY
      have HY : Hid (Gb Y gb rb ab ob n (.slice none 0 0) ∧ Nb Y rb (upto n k) ∧ Nb Y ab (upto n k) ∧ Nb Y ob (List.replicate n 0) ∧ Only (fun b => b = rb ∨ b = ab) W Y) := ⟨hG, hr, ha, hob, ho⟩
      have z0 : Y.cell? ⟨gb, 0, none⟩ = some (.slice (some ⟨rb, 0, none⟩) n n) := cell_blk hG
      have z1 : Y.cell? ⟨gb, 1, none⟩ = some (.slice (some ⟨ab, 0, none⟩) n n) := cell_blk hG
      have z3 : Y.cell? ⟨gb, 3, none⟩ = some (.slice none 0 0) := cell_blk hG
      have fg : ∀ x, Y.frozen? ⟨gb, x, none⟩ = false := fun x => fz_blk hG x
      have lgb := hG.lt
      have hgr := hG.ne hr
      have hga := hG.ne ha
      by_cases hlt : k < n
      · have t1 : (k : Int) < (n : Int) := by omega
        obtain ⟨x1, hx1⟩ : ∃ x1, (upto n k)[k]? = some x1 := ⟨_, List.getElem?_eq_getElem (by rw [upto_len hk]; exact hlt)⟩
        have c1 := hr.cell hx1
        have c2 := ha.cell hx1
        have c3 : (Y.setCell ⟨rb, k, none⟩ (.int .i64 (k : Int))).cell? ⟨ab, k, none⟩ = some (.int .i64 (x1 : Int)) := (ha.off (fun e => n1 e.symm) _ _).cell hx1
        have f1 : ∀ x, Y.frozen? ⟨rb, x, none⟩ = false := fun x => hr.fz x
        have f2 : ∀ x, (Y.setCell ⟨rb, k, none⟩ (.int .i64 (k : Int))).frozen? ⟨ab, x, none⟩ = false := fun x => (ha.off (fun e => n1 e.symm) _ _).fz x
        have lrb := hr.lt
        have lab := ha.lt
        clear hG hr ha hob ho hx1
        go_wp2_with fail
        go_region
        all_goals
          go_wp2_with fail
          go_roundg (n - (k + 1))
          case measure => omega
          case rel =>
            refine ⟨k + 1, _, rfl, rfl, by omega, by go_num, ?_, ?_, ?_, ?_, ?_⟩
            · exact (HY.out.1.off hgr _ _).off hga _ _
            · have := (HY.out.2.1.set k k).off (c := ab) n1 k (.int .i64 (k : Int))
              rw [upto_set hlt] at this
              exact this
            · have := (HY.out.2.2.1.off (c := rb) (fun e => n1 e.symm) k (.int .i64 (k : Int))).set k k
              rw [upto_set hlt] at this
              exact this
            · exact (HY.out.2.2.2.1.off (fun e => n2 e.symm) _ _).off (fun e => n3 e.symm) _ _
            · exact ((HY.out.2.2.2.2.setCell (p := ⟨rb, k, none⟩) (Or.inl rfl) _).setCell (p := ⟨ab, k, none⟩) (Or.inr rfl) _).drew
      · have t2 : decide ((k : Int) < (n : Int)) = false := decide_eq_false (by omega)
        have hkn : k = n := by omega
        subst hkn
        clear hG hr ha hob ho
        go_wp2_with fail
        go_ret
        obtain ⟨Z, hZ⟩ : ∃ Z, Z = Y.setCell ⟨gb, 3, none⟩ (.slice (some ⟨Y.heap.size, 0, none⟩) 1 1) := ⟨_, rfl⟩
        have hZs : Z.heap.size = Y.heap.size := by rw [hZ]; simp [World.setCell]
        have hG1 : Gb Z gb rb ab ob k (.slice (some ⟨Y.heap.size, 0, none⟩) 1 1) := by rw [hZ]; exact heap_setCell_at HY.out.1 _
        have hgo := HY.out.1.ne HY.out.2.2.2.1
        have hr1 : Nb Z rb (upto k k) := by rw [hZ]; exact HY.out.2.1.off (fun e => hgr e.symm) _ _
        have ha1 : Nb Z ab (upto k k) := by rw [hZ]; exact HY.out.2.2.1.off (fun e => hga e.symm) _ _
        have ho1 : Nb Z ob (List.replicate k 0) := by rw [hZ]; exact HY.out.2.2.2.1.off (fun e => hgo e.symm) _ _
        have hOZ : Only (fun b => b = gb) Y Z := by rw [hZ]; exact (Only.refl (fun b => b = gb) Y).setCell (p := ⟨gb, 3, none⟩) rfl _
        have b1 := hG1.lt
        have b2 := hr1.lt
        have b3 := ha1.lt
        have b4 := ho1.lt
        rw [upto_full] at hr1 ha1
        have hwY : w.heap.size ≤ Y.heap.size := Nat.le_trans HW.out.2.2.2.2.size HY.out.2.2.2.2.size
        rw [← hZ]
        have hal := (Only.refl (fun _ => False) Z).alloc (.cells #[.int .i64 0, .int .i64 (k : Int), .int .i64 0] 62)
        have hsz : (Z.alloc (.cells #[.int .i64 0, .int .i64 (k : Int), .int .i64 0] 62)).heap.size = Z.heap.size + 1 := by simp
        refine ⟨gb, rb, ab, ob, .slice (some ⟨Y.heap.size, 0, none⟩) 1 1, rfl, ⟨hG1.only hal (fun h => h), hr1.only hal (fun h => h), ha1.only hal (fun h => h), ho1.only hal (fun h => h), ?_, n1, n2, n3, hlo, by omega, by simp, by simp; omega, hn⟩, ?_⟩
        · refine ⟨rfl, Or.inr ⟨Y.heap.size, 1, #[.int .i64 0, .int .i64 (k : Int), .int .i64 0], rfl, hwY, ?_, Nat.le_refl _, by unfold maxLen; omega, rfl, rfl⟩⟩
          rw [← hZs]
          exact heap_alloc_new Z _
        · have h1 : Only (fun b => b = rb ∨ b = ab ∨ b = gb) w (Z.alloc (.cells #[.int .i64 0, .int .i64 (k : Int), .int .i64 0] 62)) := (((HW.out.2.2.2.2.mono (fun _ h => h.elim)).trans (HY.out.2.2.2.2.mono (fun b h => h.elim Or.inl (fun h => Or.inr (Or.inl h))))).trans (hOZ.mono (fun b h => Or.inr (Or.inr h)))).alloc _
          exact h1.old (fun g hg => Or.inl (by omega))
end Go.Proofs.Ytelifjeppegcmaa
