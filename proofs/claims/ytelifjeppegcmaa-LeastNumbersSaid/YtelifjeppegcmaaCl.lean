/-
  slices.Clone of numbers.
-/
import Derived.Test.YtelifjeppegcmaaCb
namespace Go.Proofs.Ytelifjeppegcmaa
open Go.RowKit Go.Maps
set_option linter.unusedVariables false
set_option linter.unusedSimpArgs false
set_option maxRecDepth 100000 in
set_option maxHeartbeats 2000000 in
theorem clone_any (b o m c : Nat) (D : List Nat) (w : World) (h0 : 0 < m) (hm : m ≤ 100000) (hD : D.length = m) (hc : ∀ (j x : Nat), D[j]? = some x → w.cell? ⟨b, o + j, none⟩ = some (.int .i64 (x : Int))) :
    Calls Try.prog 28 #[.slice (some ⟨b, o, none⟩) m c] w fun e w' => ∃ g cap, e = .returned (.slice (some ⟨g, 0, none⟩) m cap) ∧ w'.ownsRow w.heap.size 3 1 (.slice (some ⟨g, 0, none⟩) m cap) m (nums D).toList ∧ Only (fun _ => False) w w' := by
  obtain ⟨i3, g3, g30, g31, g32⟩ := info_parts info3
  have HC : Hid (∀ (j x : Nat), D[j]? = some x → w.cell? ⟨b, o + j, none⟩ = some (.int .i64 (x : Int))) := hc
  have HD : Hid (D.length = m) := hD
  clear hc hD
  have HOWN : Hid ((w.alloc (.cells #[] 3)).ownsRow w.heap.size 3 1 (.slice (some ⟨w.heap.size, 0, none⟩) 0 0) 0 []) := ⟨rfl, Or.inr ⟨w.heap.size, 0, #[], rfl, Nat.le_refl _, heap_alloc_new w _, Nat.le_refl _, by unfold maxLen; omega, rfl, rfl⟩⟩
  have HN : Hid (∀ (j : Nat) (u : Value), (nums D).toList[j]? = some u → (w.alloc (.cells #[] 3)).cell? ((⟨b, o, none⟩ : Addr).add j) = some u) := fun j u hj => by
    rw [Array.getElem?_toList, nums_at] at hj
    cases hx : D[j]? with
    | none => rw [hx] at hj; cases hj
    | some x =>
      rw [hx] at hj
      injection hj with hj
      subst hj
      have h1 := HC.out j x hx
      have hb := World.block_lt_of_cell? w _ h1
      rw [Addr.add_mid]
      exact (World.cell?_of_block (a := ⟨b, o + j, none⟩) (Below.heap_alloc _ _ _ hb)).trans h1
  have hq : ∀ W, (binOp .eql 23 (.slice (some ⟨b, o, none⟩) m c) (.slice none 0 0)).run Try.prog W = .ok (.bool false) W := fun W => Lib.run_eql_slice_nil W 23 3 (some ⟨b, o, none⟩) m c 0 0 Try.underlying23
  go_enter Try.func28, Try.ntmps28
  go_wp2_with (first | (at_builtin; refine wpList_append_own_at _ rfl _ _ 23 rfl w.heap.size 3 i3 (.int .i64 0) 1 8 Try.underlying23 g3 g30 g31 g32 rfl (by decide) (.slice (some ⟨w.heap.size, 0, none⟩) 0 0) 0 [] rfl HOWN.out ⟨b, o, none⟩ m c (nums D).toList rfl (by rw [Array.length_toList, nums_size, HD.out]; omega) HN.out (fun u hu => by unfold nums at hu; simp at hu; obtain ⟨x, _, rfl⟩ := hu; rfl) (by unfold maxLen; omega) (by omega) (by simp) ?_; intro v3 w3 ho3 hg3 _ hat3; have HO3 : Hid (w3.ownsRow w.heap.size 3 1 v3 m (nums D).toList) := (by rw [Nat.zero_add, List.nil_append] at ho3; exact ho3); have HK3 : Hid (Only (fun _ => False) w w3) := ((((Only.refl (fun b => w.heap.size ≤ b) w).alloc _).grown hg3 (fun q hq => by injection hq with hq; subst hq; exact Nat.le_refl _)).old (fun g hg => Or.inl hg)); clear ho3 hg3 hat3))
  go_ret
  obtain ⟨g, cap, rfl, _⟩ := row_form HO3.out h0
  exact ⟨g, cap, rfl, HO3.out, HK3.out⟩
end Go.Proofs.Ytelifjeppegcmaa
