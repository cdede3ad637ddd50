/-
  stanzaref10.SameParas, where both are alike.
-/
import Derived.Test.YtlcpfheocenjfaaSm
import Derived.Test.YtlcpfheocenjfaaVg
namespace Go.Proofs.Ytlcpfheocenjfaa
open Go.RowKit Go.Maps
set_option linter.unusedVariables false
set_option linter.unusedSimpArgs false
set_option maxRecDepth 100000 in
set_option maxHeartbeats 4000000 in
theorem sameParas_any (C : List Ct) (O : List Nat) (a a' d d' : Option Addr) (c c' e e' : Nat) (w : World) (h1 : Vw w a (ctC C)) (h2 : Vw w a' (ctC C)) (h3 : Vw w d (u8s O)) (h4 : Vw w d' (u8s O)) (hB : ∀ x ∈ O, x < 256) (hl : C.length ≤ 100000) (ho : O.length ≤ 100001) :
    Calls Try.prog 27 #[.agg #[.slice a C.length c, .slice d O.length e], .agg #[.slice a' C.length c', .slice d' O.length e']] w fun e w' => e = .returned (.bool true) ∧ Only (fun _ => False) w w' := by
  have H1 : Hid (Vw w a (ctC C) ∧ Vw w a' (ctC C) ∧ Vw w d (u8s O) ∧ Vw w d' (u8s O) ∧ ∀ x ∈ O, x < 256) := ⟨h1, h2, h3, h4, hB⟩
  clear h1 h2 h3 h4 hB
  obtain ⟨n, hn⟩ : ∃ n, n = C.length := ⟨_, rfl⟩
  obtain ⟨m, hm⟩ : ∃ n, n = O.length := ⟨_, rfl⟩
  have Hn : Hid (n = C.length ∧ m = O.length) := ⟨hn, hm⟩
  rw [← hn] at hl ⊢
  rw [← hm] at ho ⊢
  clear hn hm
  go_enter Try.func27, Try.ntmps27
  go_wp2_with fail
  obtain ⟨R, hR⟩ : ∃ b, b = w.heap.size := ⟨_, rfl⟩
  obtain ⟨R', hR'⟩ : ∃ b, b = w.heap.size + 1 := ⟨_, rfl⟩
  obtain ⟨w0, hw0⟩ : ∃ Z, Z = (w.alloc (.cells #[.slice a n c, .slice d m e] 62)).alloc (.cells #[.slice a' n c', .slice d' m e'] 62) := ⟨_, rfl⟩
  rw [← hw0, ← hR', ← hR]
  have H0 : Hid (w0.heap[R]? = some (.cells #[.slice a n c, .slice d m e] 62 (0, 0)) ∧ w0.heap[R']? = some (.cells #[.slice a' n c', .slice d' m e'] 62 (0, 0)) ∧ Only (fun _ => False) w w0) := by
    rw [hw0, hR, hR']
    exact ⟨bx_made w _ _, heap_alloc2_new w _ _, ((Only.refl _ _).alloc _).alloc _⟩
  clear hw0 hR hR'
  have HC : Hid (∀ m, (w0.drewN m).heap = w0.heap) := fun m => by induction m with
    | zero => rfl
    | succ k ih => exact ih
  obtain ⟨p0, p1, pl⟩ := blk_two H0.out.1
  obtain ⟨p0', p1', pl'⟩ := blk_two H0.out.2.1
  go_loopg [5] n (fun gh v wr => ∃ (k q : Nat), gh = n - k ∧ k ≤ n ∧ v = .int .i64 (k : Int) ∧ wr = w0.drewN q)
  case atStart => exact ⟨0, 0, rfl, Nat.zero_le _, rfl, rfl⟩
  case round =>
    obtain ⟨k, q, rfl, hk, rfl, rfl⟩ := hrel
    by_cases hlt : k < n
    · have t1 : (k : Int) < (n : Int) := by omega
      obtain ⟨x, hx⟩ : ∃ x, C[k]? = some x := ⟨_, List.getElem?_eq_getElem (by rw [← Hn.out.1]; exact hlt)⟩
      obtain ⟨b, off, rfl, hb, c0, c1, c2, c3⟩ := (H1.out.1.keep H0.out.2.2).cluster hx
      obtain ⟨b', off', rfl, hb', d0, d1, d2, d3⟩ := (H1.out.2.1.keep H0.out.2.2).cluster hx
      obtain ⟨xp, xl, xc, xk⟩ := x
      simp only at c0 c1 c2 c3 d0 d1 d2 d3
      clear hx
      go_wp2_with fail
      go_quiet (fail)
      go_wp2_with fail
      go_roundg (n - (k + 1))
      case measure => omega
      case rel => exact ⟨k + 1, _, rfl, by omega, by go_num, rfl⟩
    · have t2 : decide ((k : Int) < (n : Int)) = false := decide_eq_false (by omega)
      go_wp2_with fail
      go_loopg [6] m (fun gh v wr => ∃ (j q : Nat), gh = m - j ∧ j ≤ m ∧ v = .int .i64 (j : Int) ∧ wr = w0.drewN q)
      case atStart => exact ⟨0, q, rfl, Nat.zero_le _, rfl, rfl⟩
      case round =>
        obtain ⟨j, q2, rfl, hj, rfl, rfl⟩ := hrel
        by_cases hlj : j < m
        · have t1 : (j : Int) < (m : Int) := by omega
          obtain ⟨x, hx⟩ : ∃ x, O[j]? = some x := ⟨_, List.getElem?_eq_getElem (by rw [← Hn.out.2]; exact hlj)⟩
          obtain ⟨b, off, rfl, hb, hc⟩ := (H1.out.2.2.1.keep H0.out.2.2).cells (by rw [u8s_len, ← Hn.out.2]; omega)
          obtain ⟨b', off', rfl, hb', hc'⟩ := (H1.out.2.2.2.1.keep H0.out.2.2).cells (by rw [u8s_len, ← Hn.out.2]; omega)
          have c0 := hc j _ (u8s_at hx)
          have d0 := hc' j _ (u8s_at hx)
          clear hx hc hc'
          go_wp2_with fail
          go_quiet (fail)
          go_wp2_with fail
          go_roundg (m - (j + 1))
          case measure => omega
          case rel => exact ⟨j + 1, _, rfl, by omega, by go_num, rfl⟩
        · have t3 : decide ((j : Int) < (m : Int)) = false := decide_eq_false (by omega)
          go_wp2_with fail
          go_ret
          exact ⟨rfl, H0.out.2.2.drewN q2⟩
end Go.Proofs.Ytlcpfheocenjfaa
