/-
  Spread, the program's and the document's.
-/
import Derived.Test.YtegoadhnilmchaaJa
import Derived.Test.YtegoadhnilmchaaAn
namespace Go.Proofs.Ytegoadhnilmchaa
open Go.RowKit Go.Maps
set_option linter.unusedVariables false
set_option linter.unusedSimpArgs false
theorem own_nil (w : World) (B : Nat) : w.ownsRow B 3 1 (.slice none 0 0) 0 (natI []) := ⟨rfl, Or.inl ⟨rfl, rfl⟩⟩
/-- numbers in new memory, as many as are said. -/
def nlN (L : List Nat) (n : Nat) (w : World) (e : Ending) (w' : World) : Prop := ∃ (a : Option Addr) (c : Nat), e = .returned (.slice a n c) ∧ w'.ownsRow w.heap.size 3 1 (.slice a n c) n (natI L) ∧ Only (fun _ => False) w w'
set_option maxRecDepth 100000 in
set_option maxHeartbeats 4000000 in
theorem spread_out (room gaps : Int) (w : World) (h : room < 0 ∨ 1048576 < room ∨ gaps < 1 ∨ 4096 < gaps) :
    Calls Try.prog 36 #[.int .i64 room, .int .i64 gaps] w (nlN [] 0 w) := by
  by_cases c1 : room < 0
  · go_enter Try.func36, Try.ntmps36
    go_wp2_with fail
    go_ret
    exact ⟨none, 0, rfl, own_nil _ _, Only.refl _ _⟩
  · have d1 : decide (room < 0) = false := decide_eq_false c1
    by_cases c2 : 1048576 < room
    · go_enter Try.func36, Try.ntmps36
      go_wp2_with fail
      go_ret
      exact ⟨none, 0, rfl, own_nil _ _, Only.refl _ _⟩
    · have d2 : decide (1048576 < room) = false := decide_eq_false c2
      by_cases c3 : gaps < 1
      · go_enter Try.func36, Try.ntmps36
        go_wp2_with fail
        go_ret
        exact ⟨none, 0, rfl, own_nil _ _, Only.refl _ _⟩
      · have d3 : decide (gaps < 1) = false := decide_eq_false c3
        have c4 : 4096 < gaps := by omega
        go_enter Try.func36, Try.ntmps36
        go_wp2_with fail
        go_ret
        exact ⟨none, 0, rfl, own_nil _ _, Only.refl _ _⟩
set_option maxRecDepth 100000 in
set_option maxHeartbeats 4000000 in
theorem spread_in (r g : Nat) (w : World) (hr : r ≤ 1048576) (hg : 1 ≤ g) (hg2 : g ≤ 4096) :
    Calls Try.prog 36 #[.int .i64 (r : Int), .int .i64 (g : Int)] w (nlN (Sd.all r g) g w) := by
  have d1 : decide ((r : Int) < 0) = false := decide_eq_false (by omega)
  have d2 : decide (1048576 < (r : Int)) = false := decide_eq_false (by omega)
  have d3 : decide ((g : Int) < 1) = false := decide_eq_false (by omega)
  have d4 : decide (4096 < (g : Int)) = false := decide_eq_false (by omega)
  have hmk' : ∀ w : World, (Instr.makeSlice 58 (.int .i64 (g : Int)) (.int .i64 (g : Int))).run Try.prog w = .ok (.slice (some ⟨w.heap.size, 0, none⟩) g g) (w.alloc (.cells (nums (Sd.mix (Sd.sp r g) (fun _ => 0) g 0)) 3)) := fun w => by
    rw [← Sd.made_mix]
    exact run_make_row' (P := Try.prog) 58 3 (.int .i64 0) 8 Try.underlying58 info3 rfl .i64 .i64 g (by omega) (by omega) w
  have hg0 : ¬ g = 0 := by omega
  have HL : Hid (∀ i, i ≤ g → r * i ≤ 4294967296 ∧ r * i / g ≤ r) := fun i hi => ⟨Nat.le_trans (Nat.mul_le_mul hr (show i ≤ 4096 by omega)) (by decide), Sd.upto_le (by omega) hi⟩
  go_enter Try.func36, Try.ntmps36
  go_wp2_with fail
  obtain ⟨b, hb⟩ : ∃ b, b = w.heap.size := ⟨_, rfl⟩
  obtain ⟨w2, hw2⟩ : ∃ Z, Z = w.alloc (.cells (nums (Sd.mix (Sd.sp r g) (fun _ => 0) g 0)) 3) := ⟨_, rfl⟩
  rw [← hw2, ← hb]
  have H2 : Hid (Nb w2 b (Sd.mix (Sd.sp r g) (fun _ => 0) g 0) ∧ Only (fun _ => False) w w2 ∧ b = w.heap.size) := by
    rw [hw2, hb]
    exact ⟨heap_alloc_new w _, (Only.refl _ _).alloc _, rfl⟩
  clear hw2 hb hmk' d1 d2 d3 d4
  go_loopg [6, 25] g (fun gh v6 v wr => ∃ (i : Nat) (W : World), W = wr ∧ gh = g - i ∧ i ≤ g ∧ v = .int .i64 (i : Int) ∧ Nb W b (Sd.mix (Sd.sp r g) (fun _ => 0) g i) ∧ Only (fun q => q = b) w2 W)
  case atStart => exact ⟨0, _, rfl, rfl, Nat.zero_le _, rfl, H2.out.1, Only.refl _ _⟩
  case round =>
    obtain ⟨i, W, hW, rfl, hi, rfl, hnb, hoW⟩ := hrel
    subst hW
    have HG : Hid (Nb W b (Sd.mix (Sd.sp r g) (fun _ => 0) g i) ∧ Only (fun q => q = b) w2 W ∧ Only (fun _ => False) w W) := ⟨hnb, hoW, ((H2.out.2.1.mono (fun _ h => h.elim)).trans hoW).old (fun q hq => Or.inl (by rw [hq]; exact Nat.le_of_eq H2.out.2.2.symm))⟩
    clear hnb hoW
    by_cases hlt : i < g
    · have t1 : (i : Int) < (g : Int) := by omega
      obtain ⟨i1, hi1⟩ : ∃ i1, i1 = i + 1 := ⟨_, rfl⟩
      obtain ⟨p0, hp0⟩ : ∃ x, x = r * i := ⟨_, rfl⟩
      obtain ⟨p1, hp1⟩ : ∃ x, x = r * i1 := ⟨_, rfl⟩
      obtain ⟨q0, hq0⟩ : ∃ x, x = p0 / g := ⟨_, rfl⟩
      obtain ⟨q1, hq1⟩ : ∃ x, x = p1 / g := ⟨_, rfl⟩
      obtain ⟨s, hs⟩ : ∃ x, x = Sd.sp r g i := ⟨_, rfl⟩
      have hs2 := Sd.sp_add r g i
      have hl0 := HL.out i hi
      have hl1 := HL.out i1 (by omega)
      rw [← hi1, ← hs, ← hp0, ← hp1, ← hq0, ← hq1] at hs2
      rw [← hp0, ← hq0] at hl0
      rw [← hp1, ← hq1] at hl1
      have j0 : IntKind.i64.wrap ((i : Int) + 1) = (i1 : Int) := by rw [IntKind.wrap_i64]; omega
      have m0 : IntKind.i64.wrap ((r : Int) * (i : Int)) = (p0 : Int) := by
        have e : (r : Int) * (i : Int) = (p0 : Int) := by rw [hp0]; simp
        rw [e, IntKind.wrap_i64]; omega
      have m1 : IntKind.i64.wrap ((r : Int) * (i1 : Int)) = (p1 : Int) := by
        have e : (r : Int) * (i1 : Int) = (p1 : Int) := by rw [hp1]; simp
        rw [e, IntKind.wrap_i64]; omega
      have v0 : (p0 : Int).tdiv (g : Int) = (q0 : Int) := by rw [Int.tdiv_eq_ediv_of_nonneg (by omega), hq0]; rfl
      have v1 : (p1 : Int).tdiv (g : Int) = (q1 : Int) := by rw [Int.tdiv_eq_ediv_of_nonneg (by omega), hq1]; rfl
      have u0 : IntKind.i64.wrap (q0 : Int) = (q0 : Int) := by rw [IntKind.wrap_i64]; omega
      have u1 : IntKind.i64.wrap (q1 : Int) = (q1 : Int) := by rw [IntKind.wrap_i64]; omega
      have u2 : IntKind.i64.wrap ((q1 : Int) - (q0 : Int)) = (s : Int) := by rw [IntKind.wrap_i64]; omega
      have HS : Hid (s = Sd.sp r g i ∧ i1 = i + 1) := ⟨hs, hi1⟩
      have c0 : W.cell? ⟨b, i, none⟩ = some (.int .i64 0) := HG.out.1.cell (Sd.mix_this hlt)
      have f0 : W.frozen? ⟨b, i, none⟩ = false := HG.out.1.fz _
      have lb : b < W.heap.size := HG.out.1.lt
      clear hs hs2 hl0 hl1 hp0 hp1 hq0 hq1 hi1
      go_wp2_with fail
      go_region_held3 (fun _ => True) (trivial) (fail)
      go_wp2_with fail
      go_roundg (g - (i + 1))
      case measure => omega
      case rel =>
        refine ⟨i1, _, rfl, by rw [HS.out.2], by have := HS.out.2; omega, by go_num, ?_, ?_⟩
        · have h := HG.out.1.set i s
          rw [HS.out.1, Sd.mix_set hlt, ← HS.out.2, ← HS.out.1] at h
          exact h
        · first
          | exact (HG.out.2.1.drew).setCell (p := ⟨b, i, none⟩) rfl _
          | exact (HG.out.2.1.setCell (p := ⟨b, i, none⟩) rfl _).drew
    · have t1 : decide ((i : Int) < (g : Int)) = false := decide_eq_false (by omega)
      have hin : i = g := by omega
      subst hin
      go_wp2_with fail
      go_ret
      refine ⟨some ⟨b, 0, none⟩, i, rfl, ?_, HG.out.2.2⟩
      have hn := HG.out.1
      rw [Sd.mix_full, ← Sd.all_eq] at hn
      have ho := nb_own hn (Nat.le_of_eq H2.out.2.2.symm) (by rw [Sd.all_len]; omega)
      rw [Sd.all_len] at ho
      exact ho
set_option maxRecDepth 100000 in
set_option maxHeartbeats 4000000 in
theorem refSpread_out (room gaps : Int) (w : World) (h : room < 0 ∨ 1048576 < room ∨ gaps < 1 ∨ 4096 < gaps) :
    Calls Try.prog 25 #[.int .i64 room, .int .i64 gaps] w (nlN [] 0 w) := by
  by_cases c1 : room < 0
  · go_enter Try.func25, Try.ntmps25
    go_wp2_with fail
    go_ret
    exact ⟨none, 0, rfl, own_nil _ _, Only.refl _ _⟩
  · have d1 : decide (room < 0) = false := decide_eq_false c1
    by_cases c2 : 1048576 < room
    · go_enter Try.func25, Try.ntmps25
      go_wp2_with fail
      go_ret
      exact ⟨none, 0, rfl, own_nil _ _, Only.refl _ _⟩
    · have d2 : decide (1048576 < room) = false := decide_eq_false c2
      by_cases c3 : gaps < 1
      · go_enter Try.func25, Try.ntmps25
        go_wp2_with fail
        go_ret
        exact ⟨none, 0, rfl, own_nil _ _, Only.refl _ _⟩
      · have d3 : decide (gaps < 1) = false := decide_eq_false c3
        have c4 : 4096 < gaps := by omega
        go_enter Try.func25, Try.ntmps25
        go_wp2_with fail
        go_ret
        exact ⟨none, 0, rfl, own_nil _ _, Only.refl _ _⟩
set_option maxRecDepth 100000 in
set_option maxHeartbeats 4000000 in
theorem refSpread_in (r g : Nat) (w : World) (hr : r ≤ 1048576) (hg : 1 ≤ g) (hg2 : g ≤ 4096) :
    Calls Try.prog 25 #[.int .i64 (r : Int), .int .i64 (g : Int)] w (nlN (Sd.all r g) g w) := by
  have d1 : decide ((r : Int) < 0) = false := decide_eq_false (by omega)
  have d2 : decide (1048576 < (r : Int)) = false := decide_eq_false (by omega)
  have d3 : decide ((g : Int) < 1) = false := decide_eq_false (by omega)
  have d4 : decide (4096 < (g : Int)) = false := decide_eq_false (by omega)
  have hg0 : ¬ g = 0 := by omega
  have HL : Hid (∀ i, i ≤ g → r * i ≤ 4294967296 ∧ r * i / g ≤ r) := fun i hi => ⟨Nat.le_trans (Nat.mul_le_mul hr (show i ≤ 4096 by omega)) (by decide), Sd.upto_le (by omega) hi⟩
  go_enter Try.func25, Try.ntmps25
  go_wp2_with fail
  clear d1 d2 d3 d4
  go_loopg [5, 6, 7, 8] g (fun gh v5 v6 v7 v8 wr => ∃ (i i1 q : Nat) (al : Option Addr) (c : Nat) (W : World), W = wr ∧ gh = g - i ∧ i ≤ g ∧ i1 = i + 1 ∧ v5 = .slice al i c ∧ v6 = .int .i64 (q : Int) ∧ v7 = .int .i64 (i1 : Int) ∧ q = r * i / g ∧ W.ownsRow w.heap.size 3 1 (.slice al i c) i (natI ((Sd.all r g).take i)) ∧ Only (fun g => w.heap.size ≤ g) w W)
  case atStart => exact ⟨0, 1, 0, _, _, _, rfl, rfl, Nat.zero_le _, rfl, rfl, rfl, rfl, by simp, own_nil _ _, Only.refl _ _⟩
  case round =>
    obtain ⟨i, i1, q0, al, c, W, hW, rfl, hi, hi1, rfl, rfl, rfl, hq0, hown, hoW⟩ := hrel
    subst hW
    have HG : Hid (W.ownsRow w.heap.size 3 1 (.slice al i c) i (natI ((Sd.all r g).take i)) ∧ Only (fun g => w.heap.size ≤ g) w W ∧ i1 = i + 1) := ⟨hown, hoW, hi1⟩
    have hsz := hoW.size
    clear hown hoW
    by_cases hlt : i < g
    · have t1 : (i1 : Int) ≤ (g : Int) := by omega
      obtain ⟨p1, hp1⟩ : ∃ x, x = r * i1 := ⟨_, rfl⟩
      obtain ⟨q1, hq1⟩ : ∃ x, x = p1 / g := ⟨_, rfl⟩
      obtain ⟨s, hs⟩ : ∃ x, x = Sd.sp r g i := ⟨_, rfl⟩
      have hs2 := Sd.sp_add r g i
      have hl0 := HL.out i hi
      have hl1 := HL.out i1 (by omega)
      rw [← hi1, ← hs, ← hq0, ← hp1, ← hq1] at hs2
      rw [← hq0] at hl0
      rw [← hp1, ← hq1] at hl1
      obtain ⟨i2, hi2⟩ : ∃ x, x = i1 + 1 := ⟨_, rfl⟩
      have j0 : IntKind.i64.wrap ((i1 : Int) + 1) = (i2 : Int) := by rw [IntKind.wrap_i64]; omega
      have m1 : IntKind.i64.wrap ((r : Int) * (i1 : Int)) = (p1 : Int) := by
        have e : (r : Int) * (i1 : Int) = (p1 : Int) := by rw [hp1]; simp
        rw [e, IntKind.wrap_i64]; omega
      have v1 : (p1 : Int).tdiv (g : Int) = (q1 : Int) := by rw [Int.tdiv_eq_ediv_of_nonneg (by omega), hq1]; rfl
      have u1 : IntKind.i64.wrap (q1 : Int) = (q1 : Int) := by rw [IntKind.wrap_i64]; omega
      have u2 : IntKind.i64.wrap ((q1 : Int) - (q0 : Int)) = (s : Int) := by rw [IntKind.wrap_i64]; omega
      have HS : Hid (i2 = i1 + 1 ∧ q1 = r * i1 / g ∧ (Sd.all r g).take (i + 1) = (Sd.all r g).take i ++ [s]) := ⟨hi2, by rw [hq1, hp1], by rw [hs]; exact take_snoc (Sd.all_at hlt)⟩
      have HVA : Hid _ := heap_alloc_new W (.cells #[.int .i64 (s : Int)] 3)
      clear hs hs2 hl0 hl1 hp1 hq0 hq1 hi1 hi2
      go_wp2_with (at_builtin; (refine wpList_app1 rfl _ _ rfl w.heap.size al i c ((Sd.all r g).take i) rfl (HG.out.1.alloc _) W.heap.size 1 s rfl HVA.out (by omega) (by rw [size_alloc1]; omega) ?_; intro g5 cap5 w5 hown5 ho5; have H5 : Hid (w5.ownsRow w.heap.size 3 1 (.slice (some ⟨g5, 0, none⟩) (i + 1) cap5) (i + 1) (natI ((Sd.all r g).take (i + 1))) ∧ Only (fun g => w.heap.size ≤ g) w w5) := ⟨by rw [HS.out.2.2]; exact hown5, app1_only (HG.out.1.alloc _) ho5 (HG.out.2.1.alloc _)⟩; clear hown5 ho5))
      go_roundg (g - (i + 1))
      case measure => omega
      case rel => exact ⟨i + 1, i2, q1, _, _, _, rfl, rfl, by omega, by rw [HS.out.1, HG.out.2.2], rfl, rfl, by go_num, by rw [HS.out.2.1, HG.out.2.2], H5.out.1, H5.out.2⟩
    · have t1 : decide ((i1 : Int) ≤ (g : Int)) = false := decide_eq_false (by omega)
      have hin : i = g := by omega
      subst hin
      clear hq0
      go_wp2_with fail
      go_ret
      have h := HG.out.1
      rw [List.take_of_length_le (by rw [Sd.all_len]; exact Nat.le_refl _)] at h
      exact ⟨al, c, rfl, h, HG.out.2.1.old (fun g hg => Or.inl hg)⟩
end Go.Proofs.Ytegoadhnilmchaa
