/-
  What Para makes, as a text that can be read.
-/
import Derived.Test.YtegoadhnilmchaaPa
import Derived.Test.YtegoadhnilmchaaSa2
namespace Go.Proofs.Ytegoadhnilmchaa
open Go.RowKit Go.Maps
set_option linter.unusedVariables false
set_option linter.unusedSimpArgs false
theorem cts_ok : ∀ (L : List Bt) (p : Nat), Cok (Pa.cts L p)
  | [], p => fun c hc => absurd hc List.not_mem_nil
  | b :: L, p => fun c hc => by
    rcases List.mem_cons.1 hc with rfl | hc
    · refine ⟨?_, ?_, ?_⟩ <;> simp only <;> omega
    · exact cts_ok L _ c hc
theorem ops_lt (L : List Bt) (m : Nat) : ∀ x ∈ Pa.ops L m ++ [2], x < 4 := fun x hx => by
  rw [List.mem_append] at hx
  rcases hx with hx | hx
  · unfold Pa.ops at hx
    obtain ⟨i, _, rfl⟩ := List.mem_map.1 hx
    unfold Pa.op
    by_cases h : i = 0
    · rw [if_pos h]; omega
    · rw [if_neg h]; omega
  · simp at hx; omega
/-- the answer of Para: clusters, and one boundary more. -/
theorem pa_pv {L : List Bt} {k : Nat} {w w' : World} {aC aO : Option Addr} {cC cO : Nat} (hk : k ≤ 1000) (hl : k ≤ L.length)
    (hC : w'.ownsRow w.heap.size 53 4 (.slice aC (Pa.cts (L.take k) 0).length cC) (Pa.cts (L.take k) 0).length (ctC (Pa.cts (L.take k) 0)))
    (hO : w'.ownsRow w.heap.size 41 1 (.slice aO (Pa.ops L k ++ [2]).length cO) (Pa.ops L k ++ [2]).length (u8s (Pa.ops L k ++ [2]))) :
    Pv w' (Pa.cts (L.take k) 0) (Pa.ops L k ++ [2]) k (k + 1) aC aO cC cO := by
  have e1 : (Pa.cts (L.take k) 0).length = k := by rw [Pa.cts_len, List.length_take]; omega
  have e2 : (Pa.ops L k ++ [2]).length = k + 1 := by rw [List.length_append, Pa.ops_len]; rfl
  exact ⟨e1.symm, e2.symm, own_vw hC, by rw [← e1]; exact own_le hC, own_cap hC, own_vw hO, cts_ok _ _, fun x hx => Nat.lt_of_lt_of_le (ops_lt L k x hx) (by decide), by omega, by omega⟩
/-- Para of at most 1000 bits. -/
theorem para_pv (L : List Bt) (n0 : Nat) (a0 : Option Addr) (c0 : Nat) (w : World) (hn : n0 = L.length) (hV : Vw w a0 (btC L)) (hB : ∀ b ∈ L, b.cells < 256 ∧ b.kind < 256 ∧ b.len < 256 ∧ b.opp < 256) (h1 : n0 ≤ 1000) :
    Calls Try.prog 14 #[.slice a0 n0 c0] w fun e w' => ∃ k aC aO cC cO, e = .returned (.agg #[.slice aC k cC, .slice aO (k + 1) cO]) ∧ k ≤ n0 ∧ (k = n0 ∨ 4000 ≤ It.sum (Pa.cts (L.take k) 0)) ∧ Pv w' (Pa.cts (L.take k) 0) (Pa.ops L k ++ [2]) k (k + 1) aC aO cC cO ∧ Only (fun _ => False) w w' := by
  subst hn
  refine (para_any L a0 c0 w hV hB h1).mono ?_
  rintro e w' ⟨k, hk, ⟨_, hs⟩, aC, aO, cC, cO, he, hC, hO, ho⟩
  have e1 : (Pa.cts (L.take k) 0).length = k := by rw [Pa.cts_len, List.length_take]; omega
  have e2 : (Pa.ops L k ++ [2]).length = k + 1 := by rw [List.length_append, Pa.ops_len]; rfl
  refine ⟨k, aC, aO, cC, cO, ?_, hk, hs, pa_pv (by omega) hk hC hO, ho⟩
  rw [he, e1, e2]
theorem cts_sum : ∀ (L : List Bt) (p : Nat), It.sum (Pa.cts L p) ≤ 4 * L.length
  | [], p => Nat.le_refl _
  | b :: L, p => by
    have := cts_sum L (p + (1 + b.len % 4))
    simp only [Pa.cts, It.sum, List.length_cons]
    omega
end Go.Proofs.Ytegoadhnilmchaa

