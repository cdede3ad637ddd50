/-
  copy of a row of bools; stanzaref04.more; Ends of an expression, kind by kind.
-/
import Derived.Test.YtfbcijnacbfjpaaEn0x
import Derived.Test.YtfbcijnacbfjpaaRox
import Derived.Test.YtfbcijnacbfjpaaSts0x
import Derived.Test.YtfbcijnacbfjpaaRm0x
import Derived.Laws.CopyOwn
import Derived.Deep.RegionHeld3
namespace Go.Proofs.Ytfbcijnacbfjpaa
open Go.RowKit Go.Maps
set_option linter.unusedVariables false
set_option linter.unusedSimpArgs false
open Rl (Ex)
theorem size4 : (Try.prog.info? 4).map (·.size) = some 1 := by kernel_rfl
theorem wpList_copy_bk {w : World} {ops : Array Oper} {rest : List Oper} {o : Oper} {a : Act} {Q : Exit → Act → World → Prop} (hgd : o.guard = none) (d s : Operand)
    (ho : o.op = .call { callee := .builtin .copy, args := #[d, s], argTypes := #[86, 86] }) (g n dc x b sc t : Nat) (hd : a.eval d = .slice (some ⟨g, 0, none⟩) n dc) (hs : a.eval s = .slice (some ⟨b, 0, none⟩) n sc) (hg : Bk w g n x) (hb : Bn w b n t)
    (h : ∀ w', Bk w' g n t → Only (· = g) w w' → wpList Try.prog ops Q rest (a.put o.dst (goInt n)) w') : wpList Try.prog ops Q (o :: rest) a w := by
  refine wpList_copy_own hgd d s 86 86 ho 4 Try.underlying86 size4 g 0 n dc ⟨b, 0, none⟩ n sc hd hs (bA n x) 4 hg (blL n t) (by rw [blL_len]; simp) hb.news (by rw [blL_len, bA_size]; omega) (blL_cell n t) ?_
  rw [blL_len]
  have e : ((bA n x).toList.take 0 ++ (blL n t ++ (bA n x).toList.drop (0 + n))).toArray = bA n t := by
    rw [List.take_zero, List.nil_append, Nat.zero_add, List.drop_eq_nil_of_le (by rw [Array.length_toList, bA_size]; exact Nat.le_refl _), List.append_nil]
    unfold blL
    rw [Array.toArray_toList]
  rw [e]
  refine h _ (setRow_heap w g _ _ 4 _ hg) ?_
  exact ⟨rfl, rfl, rfl, by simp [World.setRow], fun k hk hn => Go.setRow_other w g k _ hn⟩
set_option maxRecDepth 100000 in
set_option maxHeartbeats 4000000 in
theorem more_any (b1 b2 n c1 c2 s t : Nat) (w : World) (h1 : Bn w b1 n s) (h2 : Bn w b2 n t) (hn : n ≤ 200) :
    Calls Try.prog 48 #[.slice (some ⟨b1, 0, none⟩) n c1, .slice (some ⟨b2, 0, none⟩) n c2] w fun e w' => ∃ b, e = .returned (.bool b) ∧ (b = true ↔ ∃ j, j < n ∧ t.testBit j = true ∧ s.testBit j = false) ∧ Only (fun _ => False) w w' := by
  have H1 : Hid (Bn w b1 n s) := h1
  have H2 : Hid (Bn w b2 n t) := h2
  have l1 := h1.1
  have l2 := h2.1
  clear h1 h2
  go_enter Try.func48, Try.ntmps48
  go_wp2_with fail
  go_loopg [5] n (fun gh v wr => ∃ (i : Nat), w = wr ∧ gh = n - i ∧ i ≤ n ∧ v = .int .i64 (i : Int) ∧ ∀ j, j < i → t.testBit j = true → s.testBit j = true)
  case atStart => exact ⟨0, rfl, rfl, by omega, rfl, fun j hj => absurd hj (Nat.not_lt_zero _)⟩
  case round =>
    obtain ⟨i, rfl, rfl, hi, rfl, hb⟩ := hrel
    have HB : Hid (∀ j, j < i → t.testBit j = true → s.testBit j = true) := hb
    clear hb
    by_cases hlt : i < n
    · have t1 : (i : Int) < (n : Int) := by omega
      have k1 := H1.out.2 i hlt
      have k2 := H2.out.2 i hlt
      cases ht : t.testBit i with
      | false =>
        rw [ht] at k2
        have HT : Hid (t.testBit i = false) := ht
        clear ht k1
        go_wp2_with fail
        go_roundg (n - (i + 1))
        case measure => omega
        case rel =>
          refine ⟨i + 1, rfl, rfl, by omega, by go_num, fun j hj hx => ?_⟩
          by_cases e : j = i
          · subst e; rw [HT.out] at hx; cases hx
          · exact HB.out j (by omega) hx
      | true =>
        rw [ht] at k2
        cases hs : s.testBit i with
        | false =>
          rw [hs] at k1
          have HT : Hid (t.testBit i = true ∧ s.testBit i = false) := ⟨ht, hs⟩
          clear ht hs
          go_wp2_with fail
          go_ret
          exact ⟨true, rfl, ⟨fun _ => ⟨i, hlt, HT.out.1, HT.out.2⟩, fun _ => rfl⟩, Only.refl _ _⟩
        | true =>
          rw [hs] at k1
          have HT : Hid (s.testBit i = true) := hs
          clear ht hs
          go_wp2_with fail
          go_roundg (n - (i + 1))
          case measure => omega
          case rel =>
            refine ⟨i + 1, rfl, rfl, by omega, by go_num, fun j hj hx => ?_⟩
            by_cases e : j = i
            · subst e; exact HT.out
            · exact HB.out j (by omega) hx
    · have t2 : decide ((i : Int) < (n : Int)) = false := decide_eq_false (by omega)
      go_wp2_with fail
      go_ret
      refine ⟨false, rfl, ⟨fun h => (by cases h), fun ⟨j, a, b, c⟩ => ?_⟩, Only.refl _ _⟩
      rw [HB.out j (by omega) b] at c
      cases c
end Go.Proofs.Ytfbcijnacbfjpaa
