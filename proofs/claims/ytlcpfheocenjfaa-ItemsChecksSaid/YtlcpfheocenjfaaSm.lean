/-
  Lists that are the same: clusters, numbers.
-/
import Derived.Test.YtlcpfheocenjfaaCe3
namespace Go.Proofs.Ytlcpfheocenjfaa
open Go.RowKit Go.Maps
set_option linter.unusedVariables false
set_option linter.unusedSimpArgs false
set_option maxRecDepth 100000 in
set_option maxHeartbeats 4000000 in
theorem sameNats_any (l : List Nat) (B B' : Nat) (a a' : Option Addr) (c c' : Nat) (w : World) (h1 : w.ownsRow B 3 1 (.slice a l.length c) l.length (natI l)) (h2 : w.ownsRow B' 3 1 (.slice a' l.length c') l.length (natI l)) (hl : l.length ≤ 1000000) :
    Calls Try.prog 22 #[.slice a l.length c, .slice a' l.length c'] w fun e w' => e = .returned (.bool true) ∧ ∃ n, w' = w.drewN n := by
  have H1 : Hid (w.ownsRow B 3 1 (.slice a l.length c) l.length (natI l)) := h1
  have H2 : Hid (w.ownsRow B' 3 1 (.slice a' l.length c') l.length (natI l)) := h2
  clear h1 h2
  obtain ⟨n, hn⟩ : ∃ n, n = l.length := ⟨_, rfl⟩
  have Hn : Hid (n = l.length) := hn
  rw [← hn] at hl ⊢
  rw [← hn] at H1 H2
  clear hn
  go_enter Try.func22, Try.ntmps22
  go_wp2_with fail
  go_loopg [5] n (fun g v wr => ∃ (k m : Nat), g = n - k ∧ k ≤ n ∧ v = .int .i64 (k : Int) ∧ wr = w.drewN m)
  case atStart => exact ⟨0, 0, rfl, Nat.zero_le _, rfl, rfl⟩
  case round =>
    obtain ⟨k, m, rfl, hk, rfl, rfl⟩ := hrel
    by_cases hlt : k < n
    · have t1 : (k : Int) < (n : Int) := by omega
      obtain ⟨x, hx⟩ : ∃ x, l[k]? = some x := ⟨l[k]'(by rw [← Hn.out]; omega), List.getElem?_eq_getElem _⟩
      obtain ⟨g, cap, hv, hc⟩ := natI_at H1.out Hn.out hx
      obtain ⟨g', cap', hv', hc'⟩ := natI_at H2.out Hn.out hx
      have e0 : a = some ⟨g, 0, none⟩ := by injection hv
      have e0' : a' = some ⟨g', 0, none⟩ := by injection hv'
      subst e0 e0'
      clear hv hv' hx
      go_wp2_with fail
      go_quiet (fail)
      go_wp2_with fail
      go_roundg (n - (k + 1))
      case measure => omega
      case rel => exact ⟨k + 1, _, rfl, by omega, by go_num, rfl⟩
    · have t2 : decide ((k : Int) < (n : Int)) = false := decide_eq_false (by omega)
      go_wp2_with fail
      go_ret
      exact ⟨rfl, m, rfl⟩
theorem Vw.cluster {w : World} {a : Option Addr} {S : List Ct} {k : Nat} {s : Ct} (h : Vw w a (ctC S)) (hk : S[k]? = some s) : ∃ b off, a = some ⟨b, off, none⟩ ∧ b < w.heap.size ∧ w.cell? ⟨b, off + k * 4, none⟩ = some (.int .i64 (s.pl : Int)) ∧ w.cell? ⟨b, off + k * 4 + 1, none⟩ = some (.int .i64 (s.len : Int)) ∧ w.cell? ⟨b, off + k * 4 + 2, none⟩ = some (.int .i64 s.cells) ∧ w.cell? ⟨b, off + k * 4 + 3, none⟩ = some (.int .u8 (s.kind : Int)) := by
  have hl := (List.getElem?_eq_some_iff.1 hk).1
  obtain ⟨b, off, e, hb, hc⟩ := h.cells (by rw [ctC_len]; omega)
  obtain ⟨q0, q1, q2, q3⟩ := ctC_at S k s hk
  exact ⟨b, off, e, hb, hc _ _ q0, hc _ _ q1, hc _ _ q2, hc _ _ q3⟩
set_option maxRecDepth 100000 in
set_option maxHeartbeats 4000000 in
theorem same_any (C : List Ct) (a a' : Option Addr) (c c' : Nat) (w : World) (h1 : Vw w a (ctC C)) (h2 : Vw w a' (ctC C)) (hl : C.length ≤ 1000000) :
    Calls Try.prog 21 #[.slice a C.length c, .slice a' C.length c'] w fun e w' => e = .returned (.bool true) ∧ Only (fun _ => False) w w' := by
  have H1 : Hid (Vw w a (ctC C) ∧ Vw w a' (ctC C)) := ⟨h1, h2⟩
  clear h1 h2
  obtain ⟨n, hn⟩ : ∃ n, n = C.length := ⟨_, rfl⟩
  have Hn : Hid (n = C.length) := hn
  rw [← hn] at hl ⊢
  clear hn
  go_enter Try.func21, Try.ntmps21
  go_wp2_with fail
  go_loopg [13] n (fun gh v wr => ∃ (k m : Nat), gh = n - k ∧ k ≤ n ∧ v = .int .i64 (k : Int) ∧ wr = w.drewN m)
  case atStart => exact ⟨0, 0, rfl, Nat.zero_le _, rfl, rfl⟩
  case round =>
    obtain ⟨k, m, rfl, hk, rfl, rfl⟩ := hrel
    by_cases hlt : k < n
    · have t1 : (k : Int) < (n : Int) := by omega
      obtain ⟨x, hx⟩ : ∃ x, C[k]? = some x := ⟨_, List.getElem?_eq_getElem (by rw [← Hn.out]; exact hlt)⟩
      obtain ⟨b, off, rfl, hb, c0, c1, c2, c3⟩ := H1.out.1.cluster hx
      obtain ⟨b', off', rfl, hb', d0, d1, d2, d3⟩ := H1.out.2.cluster hx
      obtain ⟨xp, xl, xc, xk⟩ := x
      simp only at c0 c1 c2 c3 d0 d1 d2 d3
      clear hx
      go_wp2_with fail
      go_quiet (fail)
      go_wp2_with fail
      go_roundg (n - (k + 1))
      case measure => omega
      case rel => exact ⟨k + 1, _, rfl, by omega, by go_num, rfl⟩
    · have t2 : decide ((k : Int) < (n : Int)) = false := decide_eq_false (by omega)
      go_wp2_with fail
      go_ret
      exact ⟨rfl, (Only.refl _ _).drewN m⟩
end Go.Proofs.Ytlcpfheocenjfaa
