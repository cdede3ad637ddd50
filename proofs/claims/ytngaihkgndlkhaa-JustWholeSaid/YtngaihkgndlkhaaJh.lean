/-
  stanzalaw18.JustWhole: its walk.
-/
import Derived.Test.YtngaihkgndlkhaaJe
namespace Go.Proofs.Ytngaihkgndlkhaa.justWhole
open Go.RowKit Go.Maps
set_option linter.unusedVariables false
set_option linter.unusedSimpArgs false
set_option maxRecDepth 100000 in
set_option maxHeartbeats 4000000 in
theorem walk (roI eaI gaI : Int) (w : World) (h0 : 0 ≤ roI ∧ roI ≤ 65535) (h1 : 0 ≤ eaI ∧ eaI ≤ 65535) (h2 : 0 ≤ gaI ∧ gaI ≤ 255) :
    Calls Try.prog 7 #[.int .u16 roI, .int .u16 eaI, .int .u8 gaI] w fun e w' => e = .returned (.bool true) ∧ Only (fun _ => False) w w' := by
  obtain ⟨ro, rfl⟩ : ∃ n : Nat, roI = (n : Int) := ⟨roI.toNat, by omega⟩
  obtain ⟨ea, rfl⟩ : ∃ n : Nat, eaI = (n : Int) := ⟨eaI.toNat, by omega⟩
  obtain ⟨ga, rfl⟩ : ∃ n : Nat, gaI = (n : Int) := ⟨gaI.toNat, by omega⟩
  obtain ⟨r, hr⟩ : ∃ x, x = ro % 5000 := ⟨_, rfl⟩
  obtain ⟨k, hk⟩ : ∃ x, x = ea % 200 := ⟨_, rfl⟩
  obtain ⟨g, hg⟩ : ∃ x, x = 1 + ga := ⟨_, rfl⟩
  obtain ⟨kg, hkg⟩ : ∃ x, x = k * g := ⟨_, rfl⟩
  obtain ⟨z, hz⟩ : ∃ x, x = r + kg := ⟨_, rfl⟩
  have hkl : kg ≤ 52000 := by rw [hkg]; exact Nat.le_trans (Nat.mul_le_mul (show k ≤ 200 by omega) (show g ≤ 256 by omega)) (by decide)
  have p1 : (ro : Int).tmod 5000 = (r : Int) := by rw [Int.tmod_eq_emod_of_nonneg (by omega)]; omega
  have p2 : (ea : Int).tmod 200 = (k : Int) := by rw [Int.tmod_eq_emod_of_nonneg (by omega)]; omega
  have p3 : IntKind.i64.wrap (1 + (ga : Int)) = (g : Int) := by rw [IntKind.wrap_i64]; omega
  have p4 : IntKind.i64.wrap (r : Int) = (r : Int) := wrapN r (by omega)
  have p5 : IntKind.i64.wrap (k : Int) = (k : Int) := wrapN k (by omega)
  have p6 : IntKind.i64.wrap (ga : Int) = (ga : Int) := wrapN ga (by omega)
  have p7 : IntKind.i64.wrap ((k : Int) * (g : Int)) = (kg : Int) := by
    have e : (k : Int) * (g : Int) = (kg : Int) := by rw [hkg]; simp
    rw [e]
    exact wrapN kg (by omega)
  have p8 : IntKind.i64.wrap ((r : Int) + (kg : Int)) = (z : Int) := by rw [IntKind.wrap_i64]; omega
  have hg1 : 1 ≤ g := by omega
  have hg2 : g ≤ 256 := by omega
  have hk2 : k ≤ 200 := by omega
  have hr2 : r ≤ 5000 := by omega
  have HM : Hid (∀ i, Sd.sp kg g i = k ∧ Sd.sp z g i = Sd.sp r g i + k) := fun i => by
    rw [hz, hkg]
    exact ⟨Sd.sp_each hg1 i, Sd.sp_whole hg1 i⟩
  have HA : Hid (∀ W, Calls Try.prog 10 #[.int .i64 (kg : Int), .int .i64 (g : Int)] W (nlN (Sd.all kg g) g W)) := fun W => spread_in kg g W (by omega) (by omega) (by omega)
  have HB : Hid (∀ W, Calls Try.prog 10 #[.int .i64 (r : Int), .int .i64 (g : Int)] W (nlN (Sd.all r g) g W)) := fun W => spread_in r g W (by omega) (by omega) (by omega)
  have HC : Hid (∀ W, Calls Try.prog 10 #[.int .i64 (z : Int), .int .i64 (g : Int)] W (nlN (Sd.all z g) g W)) := fun W => spread_in z g W (by omega) (by omega) (by omega)
  unfold nlN at HA HB HC
  clear hr hk hg hkg hz h0 h1 h2
  go_enter Try.func7, Try.ntmps7
  go_wp2_with fail
  refine Calls.mono (awake18_any _) ?_
  rintro e w1 ⟨rfl, ho1⟩
  have HO1 : Hid (Only (fun _ => False) w w1) := ho1
  clear ho1
  go_wp2_with fail
  refine Calls.mono (HA.out _) ?_
  rintro e w2 ⟨aA, cA, rfl, hownA, ho2⟩
  have HO2 : Hid (w2.ownsRow w1.heap.size 3 1 (.slice aA g cA) g (natI (Sd.all kg g)) ∧ Only (fun _ => False) w w2) := ⟨hownA, HO1.out.trans ho2⟩
  clear hownA ho2
  go_wp2_with fail
  refine Calls.mono (HB.out _) ?_
  rintro e w3 ⟨aB, cB, rfl, hownB, ho3⟩
  have HO3 : Hid (w3.ownsRow w1.heap.size 3 1 (.slice aA g cA) g (natI (Sd.all kg g)) ∧ w3.ownsRow w2.heap.size 3 1 (.slice aB g cB) g (natI (Sd.all r g)) ∧ Only (fun _ => False) w w3) := ⟨own_only HO2.out.1 ho3 (fun _ _ h => h), hownB, HO2.out.2.trans ho3⟩
  clear hownB ho3
  go_wp2_with fail
  refine Calls.mono (HC.out _) ?_
  rintro e w4 ⟨aC, cC, rfl, hownC, ho4⟩
  have HO4 : Hid (w4.ownsRow w1.heap.size 3 1 (.slice aA g cA) g (natI (Sd.all kg g)) ∧ w4.ownsRow w2.heap.size 3 1 (.slice aB g cB) g (natI (Sd.all r g)) ∧ w4.ownsRow w3.heap.size 3 1 (.slice aC g cC) g (natI (Sd.all z g)) ∧ Only (fun _ => False) w w4) := ⟨own_only HO3.out.1 ho4 (fun _ _ h => h), own_only HO3.out.2.1 ho4 (fun _ _ h => h), hownC, HO3.out.2.2.trans ho4⟩
  clear hownC ho4
  have m5 : ((g : Int) != (g : Int)) = false := by simp
  go_wp2_with fail
  go_loopg [13, 58] g (fun gh v13 v58 wr => ∃ (i : Nat) (W : World), W = wr ∧ gh = g - i ∧ i ≤ g ∧ v58 = .int .i64 (i : Int) ∧ Only (fun _ => False) w4 W)
  case atStart => exact ⟨0, _, rfl, rfl, Nat.zero_le _, rfl, Only.refl _ _⟩
  case round =>
    obtain ⟨i, W, hW, rfl, hig, rfl, hoW⟩ := hrel
    subst hW
    have HG : Hid (Only (fun _ => False) w4 W) := hoW
    clear hoW
    by_cases hlt : i < g
    · have t1 : (i : Int) < (g : Int) := by omega
      obtain ⟨x, hx⟩ : ∃ x, x = Sd.sp r g i := ⟨_, rfl⟩
      obtain ⟨y, hy⟩ : ∃ y, y = x + k := ⟨_, rfl⟩
      have hxl : x ≤ 5000 := by rw [hx]; exact Nat.le_trans (Sd.sp_le hg1 hlt) hr2
      obtain ⟨bA, capA, hvA, hcA⟩ := natI_at (own_only HO4.out.1 HG.out (fun _ _ h => h)) (Sd.all_len kg g).symm (Sd.all_at hlt)
      obtain ⟨bB, capB, hvB, hcB⟩ := natI_at (own_only HO4.out.2.1 HG.out (fun _ _ h => h)) (Sd.all_len r g).symm (Sd.all_at hlt)
      obtain ⟨bC, capC, hvC, hcC⟩ := natI_at (own_only HO4.out.2.2.1 HG.out (fun _ _ h => h)) (Sd.all_len z g).symm (Sd.all_at hlt)
      rw [(HM.out i).1] at hcA
      rw [← hx] at hcB
      rw [(HM.out i).2, ← hx, ← hy] at hcC
      have eA : aA = some ⟨bA, 0, none⟩ := by injection hvA
      have eB : aB = some ⟨bB, 0, none⟩ := by injection hvB
      have eC : aC = some ⟨bC, 0, none⟩ := by injection hvC
      subst eA eB eC
      have m1 : IntKind.i64.wrap ((x : Int) + (k : Int)) = (y : Int) := by rw [IntKind.wrap_i64]; omega
      have m2 : ((k : Int) != (k : Int)) = false := by simp
      have m3 : ((y : Int) != (y : Int)) = false := by simp
      clear hvA hvB hvC hx hy
      go_wp2_with fail
      go_quiet (fail)
      go_wp2_with fail
      go_roundg (g - (i + 1))
      case measure => omega
      case rel => exact ⟨i + 1, _, rfl, rfl, by omega, by go_num, HG.out.drewN _⟩
    · have t1 : decide ((i : Int) < (g : Int)) = false := decide_eq_false (by omega)
      go_wp2_with fail
      go_ret
      exact ⟨rfl, HO4.out.2.2.2.trans HG.out⟩
end Go.Proofs.Ytngaihkgndlkhaa.justWhole
