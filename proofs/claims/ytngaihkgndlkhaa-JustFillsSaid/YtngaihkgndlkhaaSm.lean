/-
  Lists of numbers that are the same.
-/
import Derived.Test.YtngaihkgndlkhaaVb
namespace Go.Proofs.Ytngaihkgndlkhaa
open Go.RowKit Go.Maps
set_option linter.unusedVariables false
set_option linter.unusedSimpArgs false
set_option maxRecDepth 100000 in
set_option maxHeartbeats 4000000 in
theorem sameNats_any (l : List Nat) (B B' : Nat) (a a' : Option Addr) (c c' : Nat) (w : World) (h1 : w.ownsRow B 3 1 (.slice a l.length c) l.length (natI l)) (h2 : w.ownsRow B' 3 1 (.slice a' l.length c') l.length (natI l)) (hl : l.length ≤ 1000000) :
    Calls Try.prog 9 #[.slice a l.length c, .slice a' l.length c'] w fun e w' => e = .returned (.bool true) ∧ ∃ n, w' = w.drewN n := by
  have H1 : Hid (w.ownsRow B 3 1 (.slice a l.length c) l.length (natI l)) := h1
  have H2 : Hid (w.ownsRow B' 3 1 (.slice a' l.length c') l.length (natI l)) := h2
  clear h1 h2
  obtain ⟨n, hn⟩ : ∃ n, n = l.length := ⟨_, rfl⟩
  have Hn : Hid (n = l.length) := hn
  rw [← hn] at hl ⊢
  rw [← hn] at H1 H2
  clear hn
  go_enter Try.func9, Try.ntmps9
  go_wp2_with fail
  go_loopg [5] n (fun g v wr => ∃ (k m : Nat), g = n - k ∧ k ≤ n ∧ v = .int .i64 (k : Int) ∧ wr = w.drewN m)
  case atStart => exact ⟨0, 0, rfl, Nat.zero_le _, rfl, rfl⟩
  case round =>
    obtain ⟨k, m, rfl, hk, rfl, rfl⟩ := hrel
    by_cases hlt : k < n
    · have t1 : (k : Int) < (n : Int) := by omega
      obtain ⟨x, hx⟩ : ∃ x, l[k]? = some x := ⟨l[k]'(by rw [← Hn.out]; omega), List.getElem?_eq_getElem _⟩
      obtain ⟨g, cap, hv, hc⟩ := natI_at H1.out Hn.out hx
      obtain ⟨g', cap', hv', hc'⟩ := natI_at H2.out Hn.out hx
      have e0 : a = some ⟨g, 0, none⟩ := by injection hv
      have e0' : a' = some ⟨g', 0, none⟩ := by injection hv'
      subst e0 e0'
      clear hv hv' hx
      go_wp2_with fail
      go_quiet (fail)
      go_wp2_with fail
      go_roundg (n - (k + 1))
      case measure => omega
      case rel => exact ⟨k + 1, _, rfl, by omega, by go_num, rfl⟩
    · have t2 : decide ((k : Int) < (n : Int)) = false := decide_eq_false (by omega)
      go_wp2_with fail
      go_ret
      exact ⟨rfl, m, rfl⟩
end Go.Proofs.Ytngaihkgndlkhaa

