/-
  One bit, shifted.
-/
import Derived.Test.YtahoepmnekconabClass
namespace Go.Proofs.Ytahoepmnekconab
open Go.RowKit Go.Maps
set_option linter.unusedVariables false
set_option linter.unusedSimpArgs false
theorem wrap_pow (n : Nat) (hn : n ≤ 24) : IntKind.u32.wrap (1 * 2 ^ n) = 2 ^ n := by
  rw [IntKind.wrap_u32, Int.one_mul]
  exact (pow24 ⟨n, by omega⟩).2.1
set_option maxRecDepth 100000 in
theorem shl_op {a : Act} {o : Oper} {t : Operand} {n : Nat} (ho : o.op = .binOp .shl 25 (.const (.int .u32 1)) t 3) (ht : a.eval t = .int .i64 (n : Int)) (hn : n ≤ 24) (w : World) : (execOp a.eval o).run Try.prog w = .ok (.value (.int .u32 (2 ^ n))) w := by
  have hc : a.eval (.const (.int .u32 1)) = .int .u32 1 := rfl
  unfold execOp
  rw [ho]
  simp only [ht, hc]
  simp [go_sem]
  have := wrap_pow n hn
  rw [Int.one_mul] at this
  exact this
theorem wp_put0 {P : Program} (w : World) {o : Oper} {a : Act} {K : Act → World → Prop} {Q : Exit → Act → World → Prop} (hd : o.dst = none) (m x v : Operand) (t : TypeId) (hop : o.op = Op.mapUpdate t m x v)
    (k e : TypeId) (L : Keyed P k) (ht : P.underlying t = some (.map k e)) (R : Value → Option (DataW Unit × List MemPlace)) (b n : Nat) (D : DataW Unit)
    (hm : a.eval m = .map (some b)) (hown : w.ownsMap P k R b n D) (hn : n < maxLen) (key val : Value) (kl : Lit) (hx : a.eval x = key) (hv : a.eval v = val) (hkey : keyOf P k key = some kl)
    (d : DataW Unit) (ps : List MemPlace) (hval : R val = some (d, ps))
    (h : ∀ w', w'.ownsMap P k R b (n + 1) (D.put kl d) → w.grownBy w' (some b) → K a w') : o.wp P a w K Q :=
  wp_put w m x v t hop k e L ht R b n D hm hown hn key val kl hx hv hkey d ps hval (fun w' h1 h2 => by rw [hd]; exact h w' h1 h2)
theorem ready_put {P : Program} {md : Region.Mode} {ops : Array Oper} {Q : Exit → Act → World → Prop} {S : World → Prop} {fuel : Nat} {listed : Array Bool} {a : Act} {w : World} {i : Nat} {o : Oper} (ho : ops[i]? = some o) (hgd : o.guard = none) (hd : o.dst = none) (m x v : Operand) (t : TypeId) (hop : o.op = Op.mapUpdate t m x v)
    (k e : TypeId) (L : Keyed P k) (ht : P.underlying t = some (.map k e)) (R : Value → Option (DataW Unit × List MemPlace)) (b n : Nat) (D : DataW Unit)
    (hm : a.eval m = .map (some b)) (hown : w.ownsMap P k R b n D) (hn : n < maxLen) (key val : Value) (kl : Lit) (hx : a.eval x = key) (hv : a.eval v = val) (hkey : keyOf P k key = some kl)
    (d : DataW Unit) (ps : List MemPlace) (hval : R val = some (d, ps))
    (h : ∀ w', w'.ownsMap P k R b (n + 1) (D.put kl d) → w.grownBy w' (some b) → S w' ∧ wpAnyH P md ops Q S fuel (listed.setIfInBounds i true) a w') : AllReadyH P md ops Q S fuel listed a w [i] :=
  AllReadyH.cons ho (fun K hK => step_of_wp hgd (wp_put0 w hd m x v t hop k e L ht R b n D hm hown hn key val kl hx hv hkey d ps hval (fun w' h1 h2 => hK.out a w' (h w' h1 h2).1 (fun _ => (h w' h1 h2).2)))) AllReadyH.nil
theorem pow_range (n : Nat) (hn : n ≤ 24) : 0 ≤ (2 : Int) ^ n ∧ (2 : Int) ^ n < 4294967296 := by
  have h := pow24 ⟨n, by omega⟩
  have h1 : 1 ≤ (2 : Int) ^ n := h.2.2.1
  have h2 : (2 : Int) ^ n ≤ 16777216 := h.2.2.2
  generalize (2 : Int) ^ n = b at h1 h2 ⊢
  omega
end Go.Proofs.Ytahoepmnekconab
