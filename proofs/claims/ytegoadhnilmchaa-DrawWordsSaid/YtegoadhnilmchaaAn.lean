/-
  One number more, behind a row that may be nil.
-/
import Derived.Test.YtegoadhnilmchaaAi
namespace Go.Proofs.Ytegoadhnilmchaa
open Go.RowKit Go.Maps
set_option linter.unusedVariables false
set_option linter.unusedSimpArgs false
theorem wp_app1 {o : Oper} {a : Act} {w : World} {K : Act → World → Prop} {Q : Exit → Act → World → Prop} (s x : Operand)
    (hop : o.op = .call { callee := .builtin .append, args := #[s, x], argTypes := #[58, 58] }) (base : Nat) (al : Option Addr) (n c : Nat) (D : List Nat) (hs : a.eval s = .slice al n c) (hown : w.ownsRow base 3 1 (.slice al n c) n (natI D))
    (g1 c1 v : Nat) (hx : a.eval x = .slice (some ⟨g1, 0, none⟩) 1 c1) (hb : w.heap[g1]? = some (.cells #[.int .i64 (v : Int)] 3 (0, 0))) (hsz : n ≤ 1000000) (hbase : base ≤ w.heap.size)
    (h : ∀ g cap w', w'.ownsRow base 3 1 (.slice (some ⟨g, 0, none⟩) (n + 1) cap) (n + 1) (natI (D ++ [v])) → Only (fun q => (Value.slice al n c).ownBlock = some q) w w' → K (a.put o.dst (.slice (some ⟨g, 0, none⟩) (n + 1) cap)) w') :
    Oper.wp Try.prog o a w K Q := by
  obtain ⟨i3, g3, g30, g31, g32⟩ := info_parts info3
  obtain ⟨v', w', hr, h2, h3, h4, h5⟩ := run_append_own_at (P := Try.prog) (w := w) base 58 o.type 3 i3 _ 1 8 Try.underlying58 g3 g30 g31 g32 rfl (by decide) _ n (natI D) hown ⟨g1, 0, none⟩ 1 c1 [.int .i64 (v : Int)] rfl (World.news_of_block (cs := #[.int .i64 (v : Int)]) hb) (fun u hu => by simp at hu; subst hu; rfl) (by unfold maxLen; omega) (by omega) hbase
  obtain ⟨g, cap, rfl, hg1, hg2, hg3⟩ := own_addr h2 (fun e => by have := (h4.1 e).2; omega)
  unfold Oper.wp execOp
  simp only [hop, resolve, invoke, builtin, Sem.run_bind, Sem.run_pure, Result.andThen_ok, List.map_toArray, List.map_cons, List.map_nil, hs, hx, hr]
  exact h g cap w' (by rw [natI_snoc]; exact h2) ((Only.refl (fun q => (Value.slice al n c).ownBlock = some q) w).grown h3 (fun k hk => hk))
theorem wpList_app1 {ops : Array Oper} {rest : List Oper} {o : Oper} {a : Act} {w : World} {Q : Exit → Act → World → Prop} (hgd : o.guard = none) (s x : Operand)
    (hop : o.op = .call { callee := .builtin .append, args := #[s, x], argTypes := #[58, 58] }) (base : Nat) (al : Option Addr) (n c : Nat) (D : List Nat) (hs : a.eval s = .slice al n c) (hown : w.ownsRow base 3 1 (.slice al n c) n (natI D))
    (g1 c1 v : Nat) (hx : a.eval x = .slice (some ⟨g1, 0, none⟩) 1 c1) (hb : w.heap[g1]? = some (.cells #[.int .i64 (v : Int)] 3 (0, 0))) (hsz : n ≤ 1000000) (hbase : base ≤ w.heap.size)
    (h : ∀ g cap w', w'.ownsRow base 3 1 (.slice (some ⟨g, 0, none⟩) (n + 1) cap) (n + 1) (natI (D ++ [v])) → Only (fun q => (Value.slice al n c).ownBlock = some q) w w' → wpList Try.prog ops Q rest (a.put o.dst (.slice (some ⟨g, 0, none⟩) (n + 1) cap)) w') :
    wpList Try.prog ops Q (o :: rest) a w :=
  wpList_plain hgd fun _ hK => wp_app1 s x hop base al n c D hs hown g1 c1 v hx hb hsz hbase (fun g cap w' h1 h2 => hK _ _ (h g cap w' h1 h2))
/-- what such an append leaves as it was. -/
theorem app1_only {W w w' : World} {al : Option Addr} {n c : Nat} {D : List Nat} (hown : w.ownsRow W.heap.size 3 1 (.slice al n c) n (natI D)) (h : Only (fun q => (Value.slice al n c).ownBlock = some q) w w') (ho : Only (fun g => W.heap.size ≤ g) W w) : Only (fun g => W.heap.size ≤ g) W w' := ho.trans (h.mono (fun g hg => (own_own hown hg).1))
theorem pow_wrap (d : Nat) (h : d ≤ 9) : wrap64 (2 ^ d) = ((2 ^ d : Nat) : Int) := by
  have e : ((2 : Int) ^ d) = ((2 ^ d : Nat) : Int) := by push_cast; rfl
  have hl : (2 : Nat) ^ d ≤ 512 := Nat.pow_le_pow_right (by decide) h
  rw [e]
  generalize (2 : Nat) ^ d = z at hl
  exact IntWalk.wrap64_in _ (by omega)
theorem and64 (q j : Nat) (hq : q ≤ 512) : (bits .and .i64 ((q : Int) / 2 ^ j) 1 == 1) = decide (q / 2 ^ j % 2 = 1) := by
  have e : ((q : Int) / 2 ^ j) = ((q / 2 ^ j : Nat) : Int) := by push_cast; rfl
  have hl : q / 2 ^ j ≤ 512 := Nat.le_trans (Nat.div_le_self _ _) hq
  rw [e]
  generalize q / 2 ^ j = z at hl
  have h : bits .and .i64 (z : Int) 1 = ((z % 2 : Nat) : Int) := by
    show IntKind.i64.wrap ((BitVec.ofInt 64 ((z : Nat) : Int) &&& BitVec.ofInt 64 ((1 : Nat) : Int)).toNat : Int) = _
    rw [BitVec.toNat_and, BitVec.ofInt_natCast, BitVec.ofInt_natCast, BitVec.toNat_ofNat, BitVec.toNat_ofNat, show 1 % 2 ^ 64 = 1 from rfl, Nat.and_one_is_mod, IntKind.wrap_i64]
    omega
  rw [h]
  rcases Nat.mod_two_eq_zero_or_one z with h0 | h0 <;> rw [h0] <;> rfl
end Go.Proofs.Ytegoadhnilmchaa
