/-
  What (*auto.places).chain does.
-/
import Derived.Test.YtfbcijnacbfjpaaPlc
import Derived.Deep.RegionWith
namespace Go.Proofs.Ytfbcijnacbfjpaa
open Go.RowKit Go.Maps
set_option linter.unusedVariables false
set_option linter.unusedSimpArgs false
/-- what may be next, with more behind the first k places of A. -/
def chn (nx : Nat → Nat) (A N k : Nat) : Nat → Nat := fun i => if i < k ∧ A.testBit i = true then nx i ||| N else nx i
theorem chn_zero (nx : Nat → Nat) (A N : Nat) : chn nx A N 0 = nx := funext fun i => if_neg (by omega)
theorem chn_none (nx : Nat → Nat) (A k : Nat) : chn nx A 0 k = nx := funext fun i => by unfold chn; split <;> simp
theorem chn_in (nx : Nat → Nat) (A N k : Nat) (h : A.testBit k = true) : chn nx A N (k + 1) = upd (chn nx A N k) k (chn nx A N k k ||| N) := funext fun i => by
  unfold upd chn
  by_cases e : i = k
  · subst e
    rw [if_pos ⟨by omega, h⟩, if_pos rfl, if_neg (by omega)]
  · rw [if_neg e]
    by_cases h1 : i < k ∧ A.testBit i = true
    · rw [if_pos h1, if_pos ⟨by omega, h1.2⟩]
    · rw [if_neg h1, if_neg (fun h2 => h1 ⟨by omega, h2.2⟩)]
theorem chn_out (nx : Nat → Nat) (A N k : Nat) (h : A.testBit k = false) : chn nx A N (k + 1) = chn nx A N k := funext fun i => by
  unfold chn
  by_cases e : i = k
  · subst e
    rw [if_neg (by rw [h]; simp), if_neg (by omega)]
  · by_cases h1 : i < k ∧ A.testBit i = true
    · rw [if_pos h1, if_pos ⟨by omega, h1.2⟩]
    · rw [if_neg h1, if_neg (fun h2 => h1 ⟨by omega, h2.2⟩)]
/-- a set in a block of its own. -/
def Sb (w : World) (g S : Nat) : Prop := w.heap[g]? = some (.cells (sC S) 73 (0, 0))
theorem Sb.c {w : World} {g S : Nat} (h : Sb w g S) (k : Nat) (hk : k < 4) : w.cell? ⟨g, k, none⟩ = some (.int .u64 (wd S k : Int)) := (cell_blk h).trans (sC_at S k hk)
theorem Sb.lt {w : World} {g S : Nat} (h : Sb w g S) : g < w.heap.size := (Array.getElem?_eq_some_iff.1 h).1
theorem Sb.only {w w' : World} {g S : Nat} {P : Nat → Prop} (h : Sb w g S) (ho : Only P w w') (hn : ¬ P g) : Sb w' g S := (ho.block g h.lt hn).trans h
theorem Sb.new (w : World) (S : Nat) : Sb (w.alloc (.cells (sC S) 73)) w.heap.size S := heap_alloc_new _ _
theorem Sb.alloc {w : World} {g S : Nat} (h : Sb w g S) (o : Obj) : Sb (w.alloc o) g S := (Below.heap_alloc _ _ _ h.lt).trans h
theorem eqz {N : Nat} (hN : N < 2 ^ 256) (w : World) : (Op.equalIn 10000 73 (.agg #[.int .u64 (wd N 0 : Int), .int .u64 (wd N 1 : Int), .int .u64 (wd N 2 : Int), .int .u64 (wd N 3 : Int)]) (.agg #[.int .u64 0, .int .u64 0, .int .u64 0, .int .u64 0])).run Try.prog w = .ok (decide (N = 0)) w := by
  have h := eq73 hN (show 0 < 2 ^ 256 by decide) w
  unfold sV sC at h
  rw [wd_zero, wd_zero, wd_zero, wd_zero] at h
  exact h
set_option maxRecDepth 100000 in
set_option maxHeartbeats 4000000 in
theorem chain_any (g cl n : Nat) (b nx : Nat → Nat) (fs : Nat) (vL : Value) (em A N : Nat) (w : World) (hP : Plb w g cl n b nx fs vL em) (hn : n ≤ 200) (hN : N < 2 ^ 256) :
    Calls Try.prog 74 #[.pointer (some ⟨g, 0, none⟩), sV A, sV N] w fun e w' => e = .returned (.tuple #[]) ∧ Plb w' g cl n b (chn nx A N n) fs vL em ∧ Only (· = g) w w' := by
  have hsv : ∀ S, sV S = .agg #[.int .u64 (wd S 0 : Int), .int .u64 (wd S 1 : Int), .int .u64 (wd S 2 : Int), .int .u64 (wd S 3 : Int)] := fun _ => rfl
  have hlt := hP.lt
  have HP : Hid (Plb w g cl n b nx fs vL em) := hP
  have hc1 := hP.c1
  clear hP
  rw [hsv A, hsv N]
  clear hsv
  have HO0 : Hid (Only (· = g) w ((w.alloc (.cells (sC A) 73)).alloc (.cells (sC N) 73))) := ((Only.refl _ _).alloc _).alloc _
  by_cases hz : N = 0
  · have hq : ∀ w, (Op.equalIn 10000 73 (.agg #[.int .u64 (wd N 0 : Int), .int .u64 (wd N 1 : Int), .int .u64 (wd N 2 : Int), .int .u64 (wd N 3 : Int)]) (.agg #[.int .u64 0, .int .u64 0, .int .u64 0, .int .u64 0])).run Try.prog w = .ok true w := fun w => by rw [eqz hN, decide_eq_true hz]
    have HZ : Hid (N = 0) := hz
    clear hz
    go_enter Try.func74, Try.ntmps74
    go_wp2_with fail
    refine bodyPost_ret (results_none rfl _ _ _) rfl ?_
    refine ⟨rfl, ?_, HO0.out⟩
    rw [HZ.out, chn_none]
    exact HP.out.only (P := fun _ => False) (((Only.refl _ _).alloc _).alloc _) (fun h => h)
  · have hq : ∀ w, (Op.equalIn 10000 73 (.agg #[.int .u64 (wd N 0 : Int), .int .u64 (wd N 1 : Int), .int .u64 (wd N 2 : Int), .int .u64 (wd N 3 : Int)]) (.agg #[.int .u64 0, .int .u64 0, .int .u64 0, .int .u64 0])).run Try.prog w = .ok false w := fun w => by rw [eqz hN, decide_eq_false hz]
    clear hz
    have S0 : Hid (Sb ((w.alloc (.cells (sC A) 73)).alloc (.cells (sC N) 73)) w.heap.size A) := (Sb.new w A).alloc _
    have S1 : Hid (Sb ((w.alloc (.cells (sC A) 73)).alloc (.cells (sC N) 73)) (w.heap.size + 1) N) := heap_alloc2_new _ _ _
    have P0 : Hid (Plb ((w.alloc (.cells (sC A) 73)).alloc (.cells (sC N) 73)) g cl n b nx fs vL em) := HP.out.only (P := fun _ => False) (((Only.refl _ _).alloc _).alloc _) (fun h => h)
    go_enter Try.func74, Try.ntmps74
    go_wp2_with fail
    go_loopg [14] n (fun gh v wr => ∃ (k : Nat) (W : World), W = wr ∧ gh = n - k ∧ k ≤ n ∧ v = .int .i64 (k : Int) ∧ Plb W g cl n b (chn nx A N k) fs vL em ∧ Sb W w.heap.size A ∧ Sb W (w.heap.size + 1) N ∧ Only (· = g) w W)
    case atStart => exact ⟨0, _, rfl, rfl, Nat.zero_le _, rfl, by rw [chn_zero]; exact P0.out, S0.out, S1.out, HO0.out⟩
    case round =>
      obtain ⟨k, W, hW, rfl, hk, rfl, hPk, hA, hB, hO⟩ := hrel
      subst hW
      have HPK : Hid (Plb W g cl n b (chn nx A N k) fs vL em) := hPk
      have HA : Hid (Sb W w.heap.size A) := hA
      have HB : Hid (Sb W (w.heap.size + 1) N) := hB
      have HO : Hid (Only (· = g) w W) := hO
      clear hPk hA hB hO
      by_cases hlt4 : k < n
      · have t1 : (k : Int) < (n : Int) := by omega
        have a0 := HA.out.c 0 (by decide)
        have a1 := HA.out.c 1 (by decide)
        have a2 := HA.out.c 2 (by decide)
        have a3 := HA.out.c 3 (by decide)
        by_cases hbit : A.testBit k = true
        · go_wp2_with (go_at_call 59; refine (has_any A k (by omega) _).mono ?_; rintro e w1 ⟨rfl, ho1⟩; have HO1 : Hid (Only (fun _ => False) W w1) := ho1; have b0 := (HB.out.only ho1 (fun h => h)).c 0 (by decide); have b1 := (HB.out.only ho1 (fun h => h)).c 1 (by decide); have b2 := (HB.out.only ho1 (fun h => h)).c 2 (by decide); have b3 := (HB.out.only ho1 (fun h => h)).c 3 (by decide); clear ho1)
          go_region_with (go_at_call 42; refine (add_any g (98 + k * 4) (chn nx A N k k) N _ 78 _ (HPK.out.only (HO1.out.drew) (fun h => h)) (by rw [Nat.mul_comm]; exact pC_next _ _ _ _ _ _ _ k (by omega))).mono ?_; rintro e w2 ⟨rfl, hp2, ho2⟩)
          all_goals
            go_wp2_with fail
            go_roundg (n - (k + 1))
            case measure => omega
            case rel => exact ⟨k + 1, _, rfl, rfl, by omega, by go_num, by rw [Nat.mul_comm, pC_putNext _ _ _ _ _ _ _ k _ (by omega), ← chn_in _ _ _ _ hbit] at hp2; exact hp2, (HA.out.only HO1.out.drew (fun h => h)).only ho2 (by omega), (HB.out.only HO1.out.drew (fun h => h)).only ho2 (by omega), (HO.out.trans (HO1.out.drew.mono (fun _ h => h.elim))).trans ho2⟩
        · have hbf : A.testBit k = false := by simpa using hbit
          go_wp2_with (go_at_call 59; refine (has_any A k (by omega) _).mono ?_; rintro e w1 ⟨rfl, ho1⟩)
          go_roundg (n - (k + 1))
          case measure => omega
          case rel => exact ⟨k + 1, _, rfl, rfl, by omega, by go_num, by rw [chn_out _ _ _ _ hbf]; exact HPK.out.only ho1 (fun h => h), HA.out.only ho1 (fun h => h), HB.out.only ho1 (fun h => h), HO.out.trans (ho1.mono (fun _ h => h.elim))⟩
      · have t2 : decide ((k : Int) < (n : Int)) = false := decide_eq_false (by omega)
        obtain rfl : k = n := by omega
        go_wp2_with fail
        go_end0
        exact ⟨rfl, HPK.out, HO.out⟩
end Go.Proofs.Ytfbcijnacbfjpaa
