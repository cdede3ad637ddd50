/-
  Which row of ends ends sooner: stanzaref13.before, stanzalaw15.sooner.
-/
import Derived.Test.YtdepjmneoplicaaSa2
import Derived.Test.YtdepjmneoplicaaDs
namespace Go.Proofs.Ytdepjmneoplicaa
open Go.RowKit Go.Maps
set_option linter.unusedVariables false
set_option linter.unusedSimpArgs false
theorem bef_step {E F : List Nat} {i x y : Nat} (hx : E[i]? = some x) (hy : F[i]? = some y) : Ds.bef (E.drop i) (F.drop i) = (decide (x < y) || (decide (x = y) && Ds.bef (E.drop (i + 1)) (F.drop (i + 1)))) := by
  obtain ⟨h1, e1⟩ := List.getElem?_eq_some_iff.1 hx
  obtain ⟨h2, e2⟩ := List.getElem?_eq_some_iff.1 hy
  rw [List.drop_eq_getElem_cons h1, List.drop_eq_getElem_cons h2, e1, e2]
  rfl
theorem bef_over {E F : List Nat} {i : Nat} (h : E.length ≤ i ∨ F.length ≤ i) (h1 : i ≤ E.length) (h2 : i ≤ F.length) : Ds.bef (E.drop i) (F.drop i) = decide (E.length < F.length) := by
  rcases Nat.lt_or_ge i E.length with a | a
  · have e : F.drop i = [] := List.drop_of_length_le (by omega)
    rw [e, List.drop_eq_getElem_cons a, decide_eq_false (by omega)]
    rfl
  · have e : E.drop i = [] := List.drop_of_length_le (by omega)
    rw [e]
    rcases Nat.lt_or_ge i F.length with c | c
    · rw [List.drop_eq_getElem_cons c, decide_eq_true (by omega)]
      rfl
    · rw [List.drop_of_length_le c, decide_eq_false (by omega)]
      rfl
set_option maxRecDepth 100000 in
set_option maxHeartbeats 4000000 in
theorem before_any (E F : List Nat) (n1 n2 : Nat) (a1 a2 : Option Addr) (c1 c2 : Nat) (w : World) (h1 : n1 = E.length) (h2 : n2 = F.length) (hE : Vw w a1 (natI E)) (hF : Vw w a2 (natI F)) (l1 : n1 ≤ 1000000) (l2 : n2 ≤ 1000000) :
    Calls Try.prog 52 #[.slice a1 n1 c1, .slice a2 n2 c2] w fun e w' => e = .returned (.bool (Ds.bef E F)) ∧ Only (fun _ => False) w w' := by
  have HV : Hid (Vw w a1 (natI E) ∧ Vw w a2 (natI F) ∧ n1 = E.length ∧ n2 = F.length) := ⟨hE, hF, h1, h2⟩
  obtain ⟨rs, hrs⟩ : ∃ r, r = Ds.bef E F := ⟨_, rfl⟩
  rw [← hrs]
  have HR : Hid (rs = Ds.bef E F) := hrs
  clear hE hF h1 h2 hrs
  go_enter Try.func52, Try.ntmps52
  go_wp2_with fail
  go_loopg [5] n1 (fun gh v wr => ∃ (i m : Nat), gh = n1 - i ∧ i ≤ n1 ∧ i ≤ n2 ∧ v = .int .i64 (i : Int) ∧ rs = Ds.bef (E.drop i) (F.drop i) ∧ wr = w.drewN m)
  case atStart => exact ⟨0, 0, rfl, Nat.zero_le _, Nat.zero_le _, rfl, HR.out, rfl⟩
  case round =>
    obtain ⟨i, m, rfl, hi1, hi2, rfl, hb, rfl⟩ := hrel
    have HB : Hid (rs = Ds.bef (E.drop i) (F.drop i)) := hb
    clear hb
    by_cases hlt : i < n1
    · have t1 : (i : Int) < (n1 : Int) := by omega
      by_cases hlt2 : i < n2
      · have t2 : (i : Int) < (n2 : Int) := by omega
        obtain ⟨x, hx⟩ : ∃ x, E[i]? = some x := ⟨_, List.getElem?_eq_getElem (by rw [← HV.out.2.2.1]; exact hlt)⟩
        obtain ⟨y, hy⟩ : ∃ y, F[i]? = some y := ⟨_, List.getElem?_eq_getElem (by rw [← HV.out.2.2.2]; exact hlt2)⟩
        obtain ⟨b, off, rfl, hb, hc⟩ := HV.out.1.cells (by rw [natI_len, ← HV.out.2.2.1]; omega)
        obtain ⟨b', off', rfl, hb', hc'⟩ := HV.out.2.1.cells (by rw [natI_len, ← HV.out.2.2.2]; omega)
        have c0 := hc i _ (natI_get hx)
        have d0 := hc' i _ (natI_get hy)
        have HS : Hid (rs = (decide (x < y) || (decide (x = y) && Ds.bef (E.drop (i + 1)) (F.drop (i + 1))))) := by rw [HB.out]; exact bef_step hx hy
        clear hx hy hc hc'
        by_cases hxy : x = y
        · have t3 : ((x : Int) != (y : Int)) = false := by simp; omega
          have HS2 : Hid (rs = Ds.bef (E.drop (i + 1)) (F.drop (i + 1))) := (by rw [HS.out, decide_eq_false (show ¬ x < y by omega), decide_eq_true hxy]; simp : rs = Ds.bef (E.drop (i + 1)) (F.drop (i + 1)))
          clear hxy
          go_wp2_with fail
          go_quiet (fail)
          go_wp2_with fail
          go_roundg (n1 - (i + 1))
          case measure => omega
          case rel => exact ⟨i + 1, _, rfl, by omega, by omega, by go_num, HS2.out, rfl⟩
        · have t3 : ((x : Int) != (y : Int)) = true := by simp; omega
          have HS2 : Hid (rs = decide ((x : Int) < (y : Int))) := (by rw [HS.out, decide_eq_false hxy]; simp : rs = decide ((x : Int) < (y : Int)))
          clear hxy
          go_wp2_with fail
          go_quiet (fail)
          go_wp2_with fail
          go_quiet (fail)
          go_wp2_with fail
          go_ret
          exact ⟨by rw [HS2.out]; simp, (((Only.refl _ _).drewN _).drewN _).drewN _⟩
      · have t2 : decide ((i : Int) < (n2 : Int)) = false := decide_eq_false (by omega)
        have HS2 : Hid (rs = decide ((n1 : Int) < (n2 : Int))) := (by rw [HB.out, bef_over (Or.inr (by rw [← HV.out.2.2.2]; omega)) (by rw [← HV.out.2.2.1]; omega) (by rw [← HV.out.2.2.2]; omega), ← HV.out.2.2.1, ← HV.out.2.2.2]; simp : rs = decide ((n1 : Int) < (n2 : Int)))
        go_wp2_with fail
        go_ret
        exact ⟨by rw [HS2.out]; simp, (Only.refl _ _).drewN _⟩
    · have t1 : decide ((i : Int) < (n1 : Int)) = false := decide_eq_false (by omega)
      have HS2 : Hid (rs = decide ((n1 : Int) < (n2 : Int))) := (by rw [HB.out, bef_over (Or.inl (by rw [← HV.out.2.2.1]; omega)) (by rw [← HV.out.2.2.1]; omega) (by rw [← HV.out.2.2.2]; omega), ← HV.out.2.2.1, ← HV.out.2.2.2]; simp : rs = decide ((n1 : Int) < (n2 : Int)))
      go_wp2_with fail
      go_ret
      exact ⟨by rw [HS2.out]; simp, (Only.refl _ _).drewN _⟩
end Go.Proofs.Ytdepjmneoplicaa

