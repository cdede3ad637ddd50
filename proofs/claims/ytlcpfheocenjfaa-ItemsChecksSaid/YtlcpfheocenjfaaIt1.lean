/-
  items.ahead, items.Make.
-/
import Derived.Test.YtlcpfheocenjfaaIt0
import Derived.Test.YtlcpfheocenjfaaMko
import Derived.Deep.OwnRows
namespace Go.Proofs.Ytlcpfheocenjfaa
open Go.RowKit Go.Maps
set_option linter.unusedVariables false
set_option linter.unusedSimpArgs false
def bools (L : List Bool) : List Value := L.map fun x => .bool x
theorem bools_len (L : List Bool) : (bools L).length = L.length := by simp [bools]
theorem bools_at {L : List Bool} {k : Nat} {x : Bool} (h : L[k]? = some x) : (bools L)[k]? = some (.bool x) := by
  unfold bools
  rw [List.getElem?_map, h]; rfl
set_option maxRecDepth 100000 in
set_option maxHeartbeats 4000000 in
theorem ahead_any (i : Nat) (Bk : List Nat) (Pt : List Bool) (aB aP : Option Addr) (cB cP : Nat) (w : World) (hi : i ≤ 1000000) (hB : Vw w aB (u8s Bk)) (hBB : ∀ x ∈ Bk, x < 256) (hP : Vw w aP (bools Pt)) (hBm : Bk.length ≤ maxLen) (hPm : Pt.length ≤ maxLen) :
    Calls Try.prog 44 #[.int .i64 (i : Int), .slice aB Bk.length cB, .slice aP Pt.length cP] w fun e w' => e = .returned (.int .u8 (It.ah Bk Pt i : Int)) ∧ w' = w := by
  have HB : Hid (Vw w aB (u8s Bk) ∧ Vw w aP (bools Pt) ∧ ∀ x ∈ Bk, x < 256) := ⟨hB, hP, hBB⟩
  obtain ⟨nB, hnB⟩ : ∃ n, n = Bk.length := ⟨_, rfl⟩
  obtain ⟨nP, hnP⟩ : ∃ n, n = Pt.length := ⟨_, rfl⟩
  have HN : Hid (nB = Bk.length ∧ nP = Pt.length) := ⟨hnB, hnP⟩
  rw [← hnB] at hBm ⊢
  rw [← hnP] at hPm ⊢
  unfold maxLen at hBm hPm
  clear hB hP hBB hnB hnP
  by_cases h1 : i < nB
  · have t1 : decide ((nB : Int) ≤ (i : Int)) = false := decide_eq_false (by omega)
    have t1n : decide (nB ≤ i) = false := decide_eq_false (by omega)
    have t1i : (i : Int) < (nB : Int) := by omega
    obtain ⟨x, hx⟩ : ∃ x, Bk[i]? = some x := ⟨_, List.getElem?_eq_getElem (by rw [← HN.out.1]; exact h1)⟩
    obtain ⟨b, off, rfl, hb, hc⟩ := HB.out.1.cells (by rw [u8s_len, ← HN.out.1]; omega)
    have c1 := hc i _ (u8s_at hx)
    have hx8 : x < 256 := HB.out.2.2 x (List.mem_of_getElem? hx)
    have hgd : Bk.getD i 0 = x := by rw [List.getD_eq_getElem?_getD, hx]; rfl
    by_cases hx0 : x = 0
    · have t2 : ((x : Int) == 0) = true := by rw [beq_iff_eq]; omega
      by_cases h2 : i < nP
      · have t3 : (i : Int) < (nP : Int) := by omega
        obtain ⟨y, hy⟩ : ∃ y, Pt[i]? = some y := ⟨_, List.getElem?_eq_getElem (by rw [← HN.out.2]; exact h2)⟩
        obtain ⟨b2, off2, rfl, hb2, hc2⟩ := HB.out.2.1.cells (by rw [bools_len, ← HN.out.2]; omega)
        have d1 := hc2 i _ (bools_at hy)
        have hgp : Pt.getD i false = y := by rw [List.getD_eq_getElem?_getD, hy]; rfl
        cases y with
        | true =>
          have HE : Hid ((3 : Int) = (It.ah Bk Pt i : Int)) := (by unfold It.ah; rw [if_pos (by rw [← HN.out.1]; exact h1), if_pos ⟨by rw [hgd]; exact hx0, hgp⟩]; rfl : (3 : Int) = (It.ah Bk Pt i : Int))
          clear hx hc hgd hx0 hy hc2 hgp
          go_enter Try.func44, Try.ntmps44
          go_wp2_with fail
          go_ret
          exact ⟨ret_u8 HE.out, rfl⟩
        | false =>
          have HE : Hid ((x : Int) = (It.ah Bk Pt i : Int)) := (by unfold It.ah; rw [if_pos (by rw [← HN.out.1]; exact h1), if_neg (by rw [hgp]; simp), hgd] : (x : Int) = (It.ah Bk Pt i : Int))
          clear hx hc hgd hx0 hy hc2 hgp
          go_enter Try.func44, Try.ntmps44
          go_wp2_with fail
          go_ret
          exact ⟨ret_u8 HE.out, rfl⟩
      · have t3 : decide ((i : Int) < (nP : Int)) = false := decide_eq_false (by omega)
        have hgp : Pt.getD i false = false := by rw [List.getD_eq_getElem?_getD, List.getElem?_eq_none (by rw [← HN.out.2]; omega)]; rfl
        have HE : Hid ((x : Int) = (It.ah Bk Pt i : Int)) := (by unfold It.ah; rw [if_pos (by rw [← HN.out.1]; exact h1), if_neg (by rw [hgp]; simp), hgd] : (x : Int) = (It.ah Bk Pt i : Int))
        clear hx hc hgd hx0 hgp
        go_enter Try.func44, Try.ntmps44
        go_wp2_with fail
        go_ret
        exact ⟨ret_u8 HE.out, rfl⟩
    · have t2 : ((x : Int) == 0) = false := by rw [beq_eq_false_iff_ne]; omega
      have HE : Hid ((x : Int) = (It.ah Bk Pt i : Int)) := (by unfold It.ah; rw [if_pos (by rw [← HN.out.1]; exact h1), if_neg (by rw [hgd]; exact fun h => hx0 h.1), hgd] : (x : Int) = (It.ah Bk Pt i : Int))
      clear hx hc hgd hx0
      go_enter Try.func44, Try.ntmps44
      go_wp2_with fail
      go_ret
      exact ⟨ret_u8 HE.out, rfl⟩
  · have t1 : (nB : Int) ≤ (i : Int) := by omega
    have t1n : decide (nB ≤ i) = true := decide_eq_true (by omega)
    have HE : Hid ((0 : Int) = (It.ah Bk Pt i : Int)) := (by unfold It.ah; rw [if_neg (by rw [← HN.out.1]; exact h1)]; rfl : (0 : Int) = (It.ah Bk Pt i : Int))
    go_enter Try.func44, Try.ntmps44
    go_wp2_with fail
    go_ret
    exact ⟨ret_u8 HE.out, rfl⟩
end Go.Proofs.Ytlcpfheocenjfaa
