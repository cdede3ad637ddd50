/-
  Check of what is no automaton: false.
-/
import Derived.Test.YtelifjeppegcmaaCk
namespace Go.Proofs.Ytelifjeppegcmaa
open Go.RowKit Go.Maps
set_option linter.unusedVariables false
set_option linter.unusedSimpArgs false
set_option maxRecDepth 100000 in
set_option maxHeartbeats 4000000 in
theorem check_none (aN aO : Option Addr) (nO cO cN : Nat) (w : World) :
    Calls Try.prog 10 #[.agg #[.slice aN 0 cN, .slice aO nO cO]] w fun e w' => e = .returned (.bool false) ∧ Only (fun _ => False) w w' := by
  go_enter Try.func10, Try.ntmps10
  go_wp2_with fail
  go_ret
  exact ⟨rfl, (Only.refl _ _).alloc _⟩
set_option maxRecDepth 100000 in
set_option maxHeartbeats 4000000 in
theorem check_outs (aN aO : Option Addr) (n nO cO cN : Nat) (w : World) (h0 : 0 < n) (hne : nO ≠ n) :
    Calls Try.prog 10 #[.agg #[.slice aN n cN, .slice aO nO cO]] w fun e w' => e = .returned (.bool false) ∧ Only (fun _ => False) w w' := by
  have e0 : ((n : Int) == 0) = false := by rw [beq_eq_false_iff_ne]; omega
  have e1 : ((nO : Int) == (n : Int)) = false := by rw [beq_eq_false_iff_ne]; omega
  go_enter Try.func10, Try.ntmps10
  go_wp2_with fail
  go_ret
  exact ⟨rfl, (Only.refl _ _).alloc _⟩
/-- rows of numbers, whatever they are, in memory. -/
def Any (W : World) (n bn on : Nat) (len : Nat → Nat) (val : Nat → Nat → Int) : Prop := ∀ s, s < n → ∃ a c, W.cell? ⟨bn, on + s, none⟩ = some (.slice a (len s) c) ∧ ∀ k, k < len s → ∃ b o, a = some ⟨b, o, none⟩ ∧ W.cell? ⟨b, o + k, none⟩ = some (.int .i64 (val s k))
theorem Any.keep {w W : World} {n bn on : Nat} {len : Nat → Nat} {val : Nat → Nat → Int} (h : Any w n bn on len val) (ho : Only (fun _ => False) w W) : Any W n bn on len val := fun s hs => by
  obtain ⟨a, c, h1, h2⟩ := h s hs
  have kk : ∀ b i v, w.cell? ⟨b, i, none⟩ = some v → W.cell? ⟨b, i, none⟩ = some v := fun b i v hv => (World.cell?_of_block (a := ⟨b, i, none⟩) (ho.block b (World.block_lt_of_cell? w _ hv) (fun h => h))).trans hv
  refine ⟨a, c, kk _ _ _ h1, fun k hk => ?_⟩
  obtain ⟨b, o, e, e1⟩ := h2 k hk
  exact ⟨b, o, e, kk _ _ _ e1⟩
/-- a row is as the document asks. -/
def Good (n : Nat) (len : Nat → Nat) (val : Nat → Nat → Int) (s : Nat) : Prop := len s = len 0 ∧ ∀ k, k < len s → 0 ≤ val s k ∧ val s k < n
set_option maxRecDepth 100000 in
set_option maxHeartbeats 4000000 in
theorem check_bad (aO : Option Addr) (cO n bn on cN : Nat) (len : Nat → Nat) (val : Nat → Nat → Int) (w : World) (h0 : 0 < n) (hn : n ≤ 100000) (hc : ∀ s, s < n → len s ≤ 100000) (hN : Any w n bn on len val) (hbad : ∃ s, s < n ∧ ¬ Good n len val s) :
    Calls Try.prog 10 #[.agg #[.slice (some ⟨bn, on, none⟩) n cN, .slice aO n cO]] w fun e w' => e = .returned (.bool false) ∧ Only (fun _ => False) w w' := by
  have HN : Hid (Any w n bn on len val) := hN
  have HB : Hid (∃ s, s < n ∧ ¬ Good n len val s) := hbad
  obtain ⟨a0, c0, hc0, _⟩ := hN 0 h0
  rw [Nat.add_zero] at hc0
  have lbn := World.block_lt_of_cell? w _ hc0
  have t0 : (0 : Int) < (n : Int) := by omega
  have e0 : ((n : Int) == 0) = false := by rw [beq_eq_false_iff_ne]; omega
  have e1 : ((n : Int) == (n : Int)) = true := by simp
  clear hN hbad
  obtain ⟨W, hW⟩ : ∃ W, W = w.alloc (.cells #[.slice (some ⟨bn, on, none⟩) n cN, .slice aO n cO] 27) := ⟨_, rfl⟩
  have HW : Hid (W.heap[w.heap.size]? = some (.cells #[.slice (some ⟨bn, on, none⟩) n cN, .slice aO n cO] 27 (0, 0)) ∧ Only (fun _ => False) w W) := by rw [hW]; exact ⟨heap_alloc_new w _, (Only.refl _ _).alloc _⟩
  have p0 : W.cell? ⟨w.heap.size, 0, none⟩ = some (.slice (some ⟨bn, on, none⟩) n cN) := cell_blk HW.out.1
  have p1 : W.cell? ⟨w.heap.size, 1, none⟩ = some (.slice aO n cO) := cell_blk HW.out.1
  have lp := World.block_lt_of_cell? W _ p0
  have p2 : W.cell? ⟨bn, on, none⟩ = some (.slice a0 (len 0) c0) := (World.cell?_of_block (a := ⟨bn, on, none⟩) (HW.out.2.block bn lbn (fun h => h))).trans hc0
  have lbW := World.block_lt_of_cell? W _ p2
  go_enter Try.func10, Try.ntmps10
  go_wp2_with fail
  rw [← hW]
  clear hW hc0
  go_loopg [23] n (fun gh v wr => ∃ (s : Nat), W = wr ∧ gh = n - s ∧ s ≤ n ∧ v = .int .i64 (s : Int) ∧ ∀ x, x < s → Good n len val x)
  case atStart => exact ⟨0, rfl, rfl, Nat.zero_le _, rfl, fun x h => by omega⟩
  case round =>
    obtain ⟨s, hY, rfl, hs, rfl, hgd⟩ := hrel
    subst hY
    have HG : Hid (∀ x, x < s → Good n len val x) := hgd
    clear hgd
    by_cases hlt : s < n
    · have t1 : (s : Int) < (n : Int) := by omega
      obtain ⟨a1, c1, n1, n2⟩ := (HN.out.keep HW.out.2) s hlt
      have HN2 : Hid (∀ k, k < len s → ∃ b o, a1 = some ⟨b, o, none⟩ ∧ W.cell? ⟨b, o + k, none⟩ = some (.int .i64 (val s k))) := n2
      have l1 := World.block_lt_of_cell? W _ n1
      have hcs := hc s hlt
      clear n2
      by_cases hle : len s = len 0
      · have e2 : ((len s : Int) == (len 0 : Int)) = true := by rw [hle]; simp
        go_wp2_with fail
        go_loopg [37] (len s) (fun gh v wr => ∃ (k : Nat), W = wr ∧ gh = len s - k ∧ k ≤ len s ∧ v = .int .i64 (k : Int) ∧ ∀ x, x < k → 0 ≤ val s x ∧ val s x < n)
        case atStart => exact ⟨0, rfl, rfl, Nat.zero_le _, rfl, fun x h => by omega⟩
        case round =>
          obtain ⟨k, hY, rfl, hk, rfl, hgk⟩ := hrel
          subst hY
          have HK : Hid (∀ x, x < k → 0 ≤ val s x ∧ val s x < n) := hgk
          clear hgk
          by_cases hlt2 : k < len s
          · have t3 : (k : Int) < (len s : Int) := by omega
            obtain ⟨b, o, rfl, q1⟩ := HN2.out k hlt2
            have l2 := World.block_lt_of_cell? W _ q1
            by_cases hlo : val s k < 0
            · go_wp2_with fail
              go_ret
              exact ⟨rfl, HW.out.2⟩
            · have t4 : decide (val s k < 0) = false := decide_eq_false hlo
              by_cases hhi : (n : Int) ≤ val s k
              · go_wp2_with fail
                go_ret
                exact ⟨rfl, HW.out.2⟩
              · have t5 : decide ((n : Int) ≤ val s k) = false := decide_eq_false hhi
                go_wp2_with fail
                go_roundg (len s - (k + 1))
                case measure => omega
                case rel =>
                  refine ⟨k + 1, rfl, rfl, by omega, by go_num, fun x hx => ?_⟩
                  by_cases e : x = k
                  · subst e; omega
                  · exact HK.out x (by omega)
          · have t4 : decide ((k : Int) < (len s : Int)) = false := decide_eq_false (by omega)
            go_wp2_with fail
            go_roundg (n - (s + 1))
            case measure => omega
            case rel =>
              refine ⟨s + 1, rfl, rfl, by omega, by go_num, fun x hx => ?_⟩
              by_cases e : x = s
              · subst e; exact ⟨hle, fun y hy => HK.out y (by omega)⟩
              · exact HG.out x (by omega)
      · have e2 : ((len s : Int) == (len 0 : Int)) = false := by rw [beq_eq_false_iff_ne]; omega
        go_wp2_with fail
        go_ret
        exact ⟨rfl, HW.out.2⟩
    · exfalso
      obtain ⟨x, h1, h2⟩ := HB.out
      exact h2 (HG.out x (by omega))
end Go.Proofs.Ytelifjeppegcmaa
