/-
  count: 0, 1, 2 and so on.
-/
import Derived.Test.YtelifjeppegcmaaLn0
import Derived.Test.YtelifjeppegcmaaCp0
namespace Go.Proofs.Ytelifjeppegcmaa
open Go.RowKit Go.Maps
set_option linter.unusedVariables false
set_option linter.unusedSimpArgs false
def cnP (n : Nat) (w : World) (e : Ending) (w' : World) : Prop := ∃ (a : Option Addr) (c : Nat), e = .returned (.slice a n c) ∧ w'.ownsRow w.heap.size 3 1 (.slice a n c) n (natI (List.range n)) ∧ Only (fun _ => False) w w'
set_option maxRecDepth 100000 in
set_option maxHeartbeats 4000000 in
theorem count_any (n : Nat) (hn : n ≤ 1000) (w : World) : Calls Try.prog 18 #[.int .i64 (n : Int)] w (cnP n w) := by
  obtain ⟨i3, g3, g30, g31, g32⟩ := info_parts info3b
  go_enter Try.func18, Try.ntmps18
  go_wp2_with fail
  go_loopg [3, 6] n (fun gh v3 v6 wr => ∃ (i : Nat) (a : Option Addr) (c : Nat) (W : World), W = wr ∧ gh = n - i ∧ i ≤ n ∧ v3 = .slice a i c ∧ v6 = .int .i64 (i : Int) ∧ W.ownsRow w.heap.size 3 1 (.slice a i c) i (natI (List.range i)) ∧ Only (fun b => w.heap.size ≤ b) w W)
  case atStart => exact ⟨0, none, 0, _, rfl, rfl, Nat.zero_le _, rfl, rfl, ⟨rfl, Or.inl ⟨rfl, rfl⟩⟩, Only.refl _ _⟩
  case round =>
    obtain ⟨i, a, c, W, hW, rfl, hi, rfl, rfl, hown, hoW⟩ := hrel
    subst hW
    have HG : Hid (W.ownsRow w.heap.size 3 1 (.slice a i c) i (natI (List.range i)) ∧ Only (fun b => w.heap.size ≤ b) w W) := ⟨hown, hoW⟩
    have hsz := hoW.size
    clear hown hoW
    by_cases hlt : i < n
    · have t1 : (i : Int) < (n : Int) := by omega
      have HVA : Hid ((W.alloc (.cells #[.int .i64 (i : Int)] 3)).heap[W.heap.size]? = some (.cells #[.int .i64 (i : Int)] 3 (0, 0)) ∧ (W.alloc (.cells #[.int .i64 (i : Int)] 3)).heap.size = W.heap.size + 1) := ⟨heap_alloc_new W _, by simp⟩
      go_wp2_with (at_builtin; (refine wpList_append_lies _ rfl _ _ 23 rfl w.heap.size 3 i3 (.int .i64 0) 1 8 Try.underlying23 g3 g30 g31 g32 rfl (by decide) (.slice a i c) i (natI (List.range i)) rfl (HG.out.1.alloc _) ⟨W.heap.size, 0, none⟩ 1 1 [.int .i64 (i : Int)] rfl rfl (World.news_of_block (cs := #[.int .i64 (i : Int)]) HVA.out.1) (fun u hu => by simp at hu; rcases hu with rfl; rfl) (by decide) (by unfold maxLen; omega) (by omega) (by rw [HVA.out.2]; omega) (W.heap.size + 1) HVA.out.2 ?_; intro g5 cap5 w5 hown5 hgrow5 hat5 hlt5; have hoo : Only (fun b => (Value.slice a i c).ownBlock = some b) W w5 := (((Only.refl (fun b => (Value.slice a i c).ownBlock = some b) W).alloc _)).grown hgrow5 (fun k hk => hk); have H5 : Hid (w5.ownsRow w.heap.size 3 1 (.slice (some ⟨g5, 0, none⟩) (i + 1) cap5) (i + 1) (natI (List.range (i + 1))) ∧ Only (fun b => w.heap.size ≤ b) w w5) := ⟨by rw [List.range_succ, natI_snoc]; exact hown5, HG.out.2.trans (hoo.mono (fun b hb => (own_own HG.out.1 hb).1))⟩; clear hown5 hgrow5 hat5 hoo))
      go_roundg (n - (i + 1))
      case measure => omega
      case rel => exact ⟨i + 1, _, _, _, rfl, rfl, by omega, rfl, by go_num, H5.out.1, H5.out.2⟩
    · have t1 : decide ((i : Int) < (n : Int)) = false := decide_eq_false (by omega)
      have hin : i = n := by omega
      subst hin
      go_wp2_with fail
      go_ret
      exact ⟨a, c, rfl, HG.out.1, HG.out.2.old (fun b hb => Or.inl hb)⟩
end Go.Proofs.Ytelifjeppegcmaa
