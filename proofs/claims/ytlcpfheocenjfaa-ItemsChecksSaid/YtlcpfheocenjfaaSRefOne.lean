
/-
  What the reference's One returns at a place of the text: the sign that the plain functions tell; it makes memory of its own, and turns nothing that was there.
-/
import Derived.Test.YtlcpfheocenjfaaSBegins
namespace Go.Proofs.Ytlcpfheocenjfaa
open Go.RowKit

theorem agg3 {a a' b b' c c' : Int} (h1 : a = a') (h2 : b = b') (h3 : c = c') : Ending.returned (.agg #[.int .i32 a, .int .i64 b, .int .i64 c]) = .returned (.agg #[.int .i32 a', .int .i64 b', .int .i64 c']) := by rw [h1, h2, h3]
theorem num_bad {m : Nat} {y : Nat → Nat} (h : Sg.cnt m y ≠ Sg.sz (y 0)) : Sg.num m y = 65533 := by
  unfold Sg.num Sg.whole; rw [beq_eq_false_iff_ne.2 h]; rfl
theorem cnt_none {m : Nat} {y : Nat → Nat} (h : Sg.sz (y 0) = 0) : Sg.cnt m y = 1 := by
  unfold Sg.cnt; rw [h, if_neg (by omega)]

theorem and_mask (c : Nat) (h : c < 256) (i : Nat) (hi : i ≤ 31) : bits .and .i32 (c : Int) ((2 : Int) ^ i - 1) = ((c % 2 ^ i : Nat) : Int) := by
  have := bits_mask .i32 31 (by decide) wraps_i32 i hi (c : Int) (by omega) (by omega)
  rw [this]; simp
theorem masks_at (c i : Nat) (h : c < 256) (h1 : 1 ≤ i) (h4 : i ≤ 4) : ∃ M : Int, [Value.int IntKind.i32 0, Value.int IntKind.i32 127, Value.int IntKind.i32 31, Value.int IntKind.i32 15, Value.int IntKind.i32 7][i]? = some (.int .i32 M) ∧ bits .and .i32 (c : Int) M = (Sg.fst i c : Nat) := by
  obtain rfl | rfl | rfl | rfl : i = 1 ∨ i = 2 ∨ i = 3 ∨ i = 4 := by omega
  · exact ⟨127, rfl, and_mask c h 7 (by omega)⟩
  · exact ⟨31, rfl, and_mask c h 5 (by omega)⟩
  · exact ⟨15, rfl, and_mask c h 4 (by omega)⟩
  · exact ⟨7, rfl, and_mask c h 3 (by omega)⟩

set_option maxRecDepth 100000 in
set_option maxHeartbeats 2000000 in
theorem refOne_in (n : Nat) (x : Nat → Nat) (b off cap k : Nat) (w : World) (hk : k < n) (hcap : n ≤ cap) (hmax : n ≤ 9223372036854775807)
    (hb : b < w.heap.size) (hx : ∀ j, x j < 256)
    (hc : ∀ j, j < n → w.cell? ⟨b, off + j, none⟩ = some (.int .u8 (x j : Nat))) :
    Calls Try.prog 40 #[.slice (some ⟨b, off, none⟩) n cap, .int .i64 k] w fun e w' => e = .returned (.agg #[.int .i32 (Sg.num (n - k) (fun j => x (k + j)) : Nat), .int .i64 k, .int .i64 (Sg.cnt (n - k) (fun j => x (k + j)) : Nat)]) ∧ Below w.heap.size w w' := by
  have hcA : ∀ o j, j < n → (w.alloc o).cell? ⟨b, off + j, none⟩ = some (.int .u8 (x j : Nat)) := fun o j hj => (World.cell?_alloc_past o b _ hb).trans (hc j hj)
  have hcH : Hid (∀ o j, j < n → (w.alloc o).cell? ⟨b, off + j, none⟩ = some (.int .u8 (x j : Nat))) := hcA
  have hck : w.cell? ⟨b, off + k, none⟩ = some (.int .u8 (x k : Nat)) := hc k hk
  clear hc hcA
  have g1 : decide ((k : Int) < 0) = false := decide_eq_false (by omega)
  have g2 : decide (n ≤ k) = false := decide_eq_false (by omega)
  have hsz4 := Sg.sz_le (x k)
  go_enter Try.func40, Try.ntmps40
  go_wp2_with fail
  go_loop [5] (fun vn => ∃ i : Nat, i ≤ 4 ∧ i ≤ n - k ∧ vn = .int .i64 i ∧ (i = 0 ∨ Sg.beg i (fun j => x (k + j)) = true)) (fun vn => 4 - (intOf vn).toNat)
  case atStart => exact ⟨0, by omega, by omega, rfl, Or.inl rfl⟩
  case round =>
    obtain ⟨i, hi1, hi2, rfl, hbg⟩ := hrel
    have hB : Hid (i = 0 ∨ Sg.beg i (fun j => x (k + j)) = true) := hbg
    clear hbg
    by_cases hgo : i < 4 ∧ i < n - k ∧ Sg.beg (i + 1) (fun j => x (k + j)) = true
    · obtain ⟨c1, c2, c3⟩ := hgo
      have c3' : Sg.beg (k + i + 1 - k) (fun j => x (k + j)) = true := by rw [show k + i + 1 - k = i + 1 by omega]; exact c3
      have hC3 : Hid (Sg.beg (i + 1) (fun j => x (k + j)) = true) := c3
      clear c3
      go_wp2_with (go_at_call 47; refine (begins_any _ (fun j => x (k + j)) _ _ _ _ (by omega) (fun j hj => by rw [Nat.add_assoc]; exact hcH.out _ _ (by omega))).mono ?_; rintro e w' ⟨rfl, rfl⟩)
      go_round
      case rel => exact ⟨i + 1, by omega, by omega, by go_num, Or.inr hC3.out⟩
      case measure => simp [intOf]; omega
    · have hfin : Hid ((i = 0 ∧ Sg.sz (x k) = 0) ∨ (1 ≤ i ∧ i ≤ Sg.sz (x k) ∧ Sg.cnt (n - k) (fun j => x (k + j)) = i ∧ ∀ j, 1 ≤ j → j < i → 128 ≤ x (k + j) ∧ x (k + j) ≤ 191)) := by
        rcases hB.out with h | h
        · subst h
          exact Or.inl ⟨rfl, Sg.beg_none (x := fun j => x (k + j)) (by omega) hgo⟩
        · have h' := of_decide_eq_true h
          exact Or.inr ⟨h'.1, h'.2.1, Sg.beg_cnt h'.1 hi2 h hgo, fun j => Sg.beg_cont (x := fun j => x (k + j)) h⟩
      have htest : Hid (¬ i < 4 ∨ (i < 4 ∧ ¬ i < n - k) ∨ (i < 4 ∧ i < n - k ∧ Sg.beg (k + i + 1 - k) (fun j => x (k + j)) = false)) := by
        have : Sg.beg (k + i + 1 - k) (fun j => x (k + j)) = Sg.beg (i + 1) (fun j => x (k + j)) := by rw [show k + i + 1 - k = i + 1 by omega]
        rw [this]
        by_cases a1 : i < 4
        · by_cases a2 : i < n - k
          · exact Or.inr (Or.inr ⟨a1, a2, by cases hh : Sg.beg (i + 1) (fun j => x (k + j)) with | false => rfl | true => exact absurd ⟨a1, a2, hh⟩ hgo⟩)
          · exact Or.inr (Or.inl ⟨a1, a2⟩)
        · exact Or.inl a1
      clear hgo hB
      rcases hfin.out with ⟨z1, z2⟩ | ⟨z1, z2, z3, z4⟩
      · have i0 : ((i : Int) == 0) = true := beq_iff_eq.2 (by omega)
        have hZ : Hid (i = 0) := z1
        have hZ2 : Hid (Sg.sz (x k) = 0) := z2
        rcases htest.out with c | ⟨c, c'⟩ | ⟨c, c', c3⟩
        · omega
        · omega
        · clear z1 z2 hfin htest
          go_wp2_with (go_at_call 47; refine (begins_any _ (fun j => x (k + j)) _ _ _ _ (by omega) (fun j hj => by rw [Nat.add_assoc]; exact hcH.out _ _ (by omega))).mono ?_; rintro e w' ⟨rfl, rfl⟩)
          exact bodyPost_ret (v := .agg #[.int .i32 65533, .int .i64 k, .int .i64 1]) (by simp [results, Try.results40, go_sem]) rfl ⟨agg3 (by rw [num_bad (by rw [cnt_none (by exact hZ2.out)]; have := hZ2.out; simp; omega)]; rfl) rfl (by rw [cnt_none (by exact hZ2.out)]; rfl), (Below.refl _ _).alloc (Nat.le_refl _) _⟩
      · have i0 : ((i : Int) == 0) = false := beq_eq_false_iff_ne.2 (by omega)
        have hZ3 : Hid (Sg.cnt (n - k) (fun j => x (k + j)) = i) := z3
        have hZ4 : Hid (∀ j, 1 ≤ j → j < i → 128 ≤ x (k + j) ∧ x (k + j) ≤ 191) := z4
        clear z3 z4 hfin
        by_cases hlt : i < Sg.sz (x k)
        · rcases htest.out with c | ⟨c, c'⟩ | ⟨c, c', c3⟩
          · omega
          all_goals
            clear htest
            go_wp2_with (first | (go_at_call 47; refine (begins_any _ (fun j => x (k + j)) _ _ _ _ (by omega) (fun j hj => by rw [Nat.add_assoc]; exact hcH.out _ _ (by omega))).mono ?_; rintro e w' ⟨rfl, rfl⟩) | (go_at_call 48; refine (length_any _ _).mono ?_; rintro e w' ⟨rfl, rfl⟩))
            exact bodyPost_ret (v := .agg #[.int .i32 65533, .int .i64 k, .int .i64 i]) (by simp [results, Try.results40, go_sem]) rfl ⟨agg3 (by rw [num_bad (by rw [hZ3.out]; simp; omega)]; rfl) rfl (by rw [hZ3.out]), (Below.refl _ _).alloc (Nat.le_refl _) _⟩
        · have hiz : Hid (i = Sg.sz (x k)) := (by omega : i = Sg.sz (x k))
          have hxk := hx k
          have hxH : Hid (∀ j, x j < 256) := hx
          clear hx
          obtain ⟨M, hM, hbits⟩ := masks_at (x k) i hxk z1 hi1
          have hM2 : ∀ h, [Value.int IntKind.i32 0, Value.int IntKind.i32 127, Value.int IntKind.i32 31, Value.int IntKind.i32 15, Value.int IntKind.i32 7][i]'h = .int .i32 M := fun h => by
            have e := hM; rw [List.getElem?_eq_getElem h] at e; exact Option.some.inj e
          obtain ⟨P, hP⟩ : ∃ P, P = Sg.fst i (x k) := ⟨_, rfl⟩
          rw [← hP] at hbits
          have HP : Hid (P = Sg.fst i (x k)) := hP
          clear hP
          rcases htest.out with c | ⟨c, c'⟩ | ⟨c, c', c3⟩
          all_goals
            clear htest
            go_wp2_with (first | (go_at_call 47; refine (begins_any _ (fun j => x (k + j)) _ _ _ _ (by omega) (fun j hj => by rw [Nat.add_assoc]; exact hcH.out _ _ (by omega))).mono ?_; rintro e w' ⟨rfl, rfl⟩) | (go_at_call 48; refine (length_any _ _).mono ?_; rintro e w' ⟨rfl, rfl⟩))
            go_loop [6, 8] (fun vr vj => ∃ j : Nat, 1 ≤ j ∧ j ≤ i ∧ vj = .int .i64 j ∧ vr = .int .i32 (Sg.pv (fun j => x (k + j)) i j : Nat)) (fun _ vj => i - (intOf vj).toNat)
            case atStart => exact ⟨1, by omega, by omega, rfl, by rw [HP.out]; rfl⟩
            case round =>
              obtain ⟨j, hj1, hj2, rfl, rfl⟩ := hrel
              by_cases cj : j < i
              · have hcj : ∀ o o', ((w.alloc o).alloc o').cell? ⟨b, off + (k + j), none⟩ = some (.int .u8 (x (k + j) : Nat)) := fun o o' => (World.cell?_alloc_past o' b _ (by simp; omega)).trans (hcH.out o _ (by omega))
                have hpb := Sg.pv_bd (fun j => x (k + j)) i j hj1 cj hi1 hZ4.out
                obtain ⟨hy1, hy2⟩ := hZ4.out j hj1 cj
                obtain ⟨V, hV⟩ : ∃ V, V = Sg.pv (fun j => x (k + j)) i j := ⟨_, rfl⟩
                rw [← hV] at hpb
                rw [← hV]
                have HV : Hid (V = Sg.pv (fun j => x (k + j)) i j) := hV
                clear hV
                go_wp2
                go_round
                case rel => exact ⟨j + 1, by omega, by omega, by go_num, by rw [Sg.pv_step _ _ _ hj1, ← HV.out]; go_num⟩
                case measure => simp [intOf]; omega
              · have hji : Hid (j = i) := (by omega : j = i)
                obtain ⟨V, hV⟩ : ∃ V, V = Sg.pv (fun j => x (k + j)) i j := ⟨_, rfl⟩
                rw [← hV]
                have HV : Hid (V = Sg.pv (fun j => x (k + j)) i j) := hV
                clear hV
                go_wp2
                refine bodyPost_ret (v := .agg #[.int .i32 V, .int .i64 k, .int .i64 i]) (by simp [results, Try.results40, go_sem]) rfl ⟨agg3 ?_ rfl (by rw [hZ3.out]), ((Below.refl _ _).alloc (Nat.le_refl _) _).alloc (by simp) _⟩
                rw [Sg.num_val hZ3.out (by exact hiz.out), HV.out, hji.out, Sg.pv_val _ i z1 hi1 (fun h => Sg.sz_one (c := x k) (by rw [← hiz.out]; exact h)) hZ4.out]
end Go.Proofs.Ytlcpfheocenjfaa
