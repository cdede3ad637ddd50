/-
  Run of an automaton of one's own: the states behind some classes.
-/
import Derived.Test.YtelifjeppegcmaaLm0
import Derived.Test.YtelifjeppegcmaaVw
namespace Go.Proofs.Ytelifjeppegcmaa
open Go.RowKit Go.Maps
set_option linter.unusedVariables false
set_option linter.unusedSimpArgs false
def castL (L : List Nat) : List Int := L.map (fun (x : Nat) => (x : Int))
/-- the states behind each class. -/
def stL (d : Nat → Nat → Nat) : Nat → List Nat → List Nat
  | _, [] => []
  | s, c :: cs => d s c :: stL d (d s c) cs
theorem stL_len (d : Nat → Nat → Nat) : ∀ (D : List Nat) (s : Nat), (stL d s D).length = D.length
  | [], _ => rfl
  | c :: cs, s => by show (stL d (d s c) cs).length + 1 = cs.length + 1; rw [stL_len d cs]
theorem stL_at (d : Nat → Nat → Nat) : ∀ (D : List Nat) (s i : Nat), i ≤ D.length → (s :: stL d s D)[i]? = some ((D.take i).foldl d s)
  | D, s, 0, _ => rfl
  | [], s, i + 1, h => by simp at h
  | c :: cs, s, i + 1, h => by
    show (stL d s (c :: cs))[i]? = _
    have := stL_at d cs (d s c) i (by simpa using h)
    exact this
/-- ways as they lie, and rows. -/
def Wr (ws : List Wy) (rows : List (List Nat)) : Prop := ws.length = rows.length ∧ ∀ (s : Nat) (row : List Nat), rows[s]? = some row → ∃ x, ws[s]? = some x ∧ x.n = row.length ∧ x.L = castL row
theorem run_st {ws : List Wy} {rows : List (List Nat)} {outs : List Nat} {k : Nat} (hw : Wr ws rows) (hk : Hm.Ok rows outs k) : ∀ (D : List Nat) (s : Nat), s < rows.length → (∀ c ∈ D, c < k) → run ws (s : Int) (castL D) = castL (stL (Hm.dR rows) s D)
  | [], s, _, _ => rfl
  | c :: cs, s, hs, hD => by
    have hc : c < k := hD c (by simp)
    obtain ⟨row, x, e1, e2, e3, e4⟩ := hk.d hs hc
    obtain ⟨y, f1, f2, f3⟩ := hw.2 s row e1
    have hwy : wy ws (s : Int) = y := by
      unfold wy
      rw [if_pos (by omega), Int.toNat_natCast, f1]
      rfl
    have hlen := hk.rlen s row e1
    have hL : y.L[c]?.getD 0 = (x : Int) := by
      rw [f3]
      unfold castL
      rw [List.getElem?_map, e2]
      rfl
    show run ws (s : Int) ((c : Int) :: castL cs) = _
    unfold run
    rw [hwy, if_pos ⟨by omega, by rw [f2, hlen]; omega⟩, Int.toNat_natCast, hL]
    have ih := run_st hw hk cs x e4 (fun z hz => hD z (by simp [hz]))
    rw [ih]
    show _ = castL (Hm.dR rows s c :: stL (Hm.dR rows) (Hm.dR rows s c) cs)
    rw [e3]
    rfl
theorem Ra.nw {W : World} {lo aN' : Nat} {aN : Option Addr} {n cN : Nat} {vO : Value} {rows : List (List Nat)} {outs : List Nat} (h : Ra W lo (.agg #[.slice aN n cN, vO]) rows outs) (hl : ∀ L ∈ rows, L.length ≤ 1000) : ∃ ws, Nw W aN n ws ∧ Wr ws rows := by
  obtain ⟨vX, vO', rws, e, h2, h3, h4, h5⟩ := h
  injection e with e
  injection e with e
  injection e with e1 e2
  subst e1
  obtain ⟨aX, kX, ef⟩ := own_form h3
  injection ef with ef1 ef2 ef3
  have each : ∀ i, i < rws.length → ∃ x : Wy, (Iw W x.a x.n x.L ∧ x.n ≤ maxLen ∧ rws[i]? = some (.slice x.a x.n x.c)) ∧ ∀ row, rows[i]? = some row → x.n = row.length ∧ x.L = castL row := fun i hi => by
    have er : rws[i]? = some (rws[i]'hi) := List.getElem?_eq_getElem hi
    have eL : rows[i]? = some (rows[i]'(by omega)) := List.getElem?_eq_getElem _
    have ho := h4 i _ _ er eL
    obtain ⟨a, c, ev⟩ := own_form ho
    refine ⟨⟨a, (rows[i]'(by omega)).length, c, castL (rows[i]'(by omega))⟩, ⟨⟨by simp [castL], ?_⟩, ?_, by rw [er, ev]⟩, fun row hr => ?_⟩
    · by_cases h0 : 0 < (rows[i]'(by omega)).length
      · obtain ⟨g, cap, e3, _, hg, _, hcc⟩ := row_form ho h0
        rw [ev] at e3
        injection e3 with e3
        refine ⟨g, 0, fun _ => ⟨e3, hg⟩, fun j x hj => ?_⟩
        have hjl := (List.getElem?_eq_some_iff.1 hj).1
        have hjl2 : j < (rows[i]'(by omega)).length := by simpa [castL] using hjl
        rw [Nat.zero_add, hcc j (by omega)]
        unfold natI
        unfold castL at hj
        rw [List.getElem?_map] at hj ⊢
        cases hx : (rows[i]'(by omega))[j]? with
        | none => rw [hx] at hj; cases hj
        | some z =>
          rw [hx] at hj
          injection hj with hj
          subst hj
          rfl
      · refine ⟨0, 0, fun h => absurd h h0, fun j x hj => ?_⟩
        have hjl := (List.getElem?_eq_some_iff.1 hj).1
        have hjl2 : j < (rows[i]'(by omega)).length := by simpa [castL] using hjl
        omega
    · have := hl _ (List.getElem_mem (l := rows) (by omega : i < rows.length))
      show (rows[i]'(by omega)).length ≤ maxLen
      unfold maxLen
      omega
    · rw [eL] at hr
      injection hr with hr
      subst hr
      exact ⟨rfl, rfl⟩
  have hInh : Inhabited Wy := ⟨wy0⟩
  obtain ⟨F, hF⟩ := Deep.choose_lt each
  refine ⟨(List.range rws.length).map F, ⟨by simp [ef2], ?_⟩, ⟨by simp [h2], fun s row hr => ?_⟩⟩
  · by_cases h0 : 0 < rws.length
    · obtain ⟨g, cap, e3, _, hg, _, hcc⟩ := row_form h3 h0
      injection e3 with e3
      refine ⟨g, 0, fun _ => ⟨e3, hg⟩, fun j x hj => ?_⟩
      have hjl := (List.getElem?_eq_some_iff.1 hj).1
      simp at hjl
      rw [List.getElem?_map, List.getElem?_range hjl] at hj
      injection hj with hj
      subst hj
      obtain ⟨⟨p1, p2, p3⟩, _⟩ := hF j hjl
      exact ⟨p1, p2, by rw [Nat.zero_add, hcc j (by omega), p3]⟩
    · refine ⟨0, 0, fun h => absurd h (by omega), fun j x hj => ?_⟩
      have hjl := (List.getElem?_eq_some_iff.1 hj).1
      simp at hjl
      omega
  · have hs := (List.getElem?_eq_some_iff.1 hr).1
    exact ⟨F s, by rw [List.getElem?_map, List.getElem?_range (by omega)]; rfl, (hF s (by omega)).2 row hr⟩
/-- Run of an automaton of one's own. -/
theorem run_ra (lo : Nat) (aN : Option Addr) (n cN : Nat) (aO : Option Addr) (nO cO k : Nat) (rows : List (List Nat)) (outs : List Nat) (aC : Option Addr) (nC cC : Nat) (D : List Nat) (w : World) (h : Ra w lo (.agg #[.slice aN n cN, .slice aO nO cO]) rows outs) (hk : Hm.Ok rows outs k) (hk3 : k ≤ 1000) (hn : rows.length = n) (hn1 : n ≤ 100000) (hC : Iw w aC nC (castL D)) (hnC : nC ≤ 1000000) (hD : ∀ c ∈ D, c < k) :
    Calls Try.prog 16 #[.agg #[.slice aN n cN, .slice aO nO cO], .slice aC nC cC] w fun e w' => ∃ g cap, e = .returned (.slice (some ⟨g, 0, none⟩) (D.length + 1) cap) ∧ (∀ i x : Nat, (0 :: stL (Hm.dR rows) 0 D)[i]? = some x → w'.cell? ⟨g, i, none⟩ = some (.int .i64 (x : Int))) ∧ Only (fun _ => False) w w' := by
  obtain ⟨ws, hN, hW⟩ := h.nw (aN' := 0) (Ok_len hk hk3)
  have hp := hk.pos
  refine (run_any aN n cN aO nO cO ws aC nC cC (castL D) w hN (by unfold maxLen; omega) (by omega) hC hnC).mono ?_
  rintro e w' ⟨v, rfl, hown, ho⟩
  have hr := run_st hW hk D 0 hp hD
  have hr2 : run ws 0 (castL D) = castL (stL (Hm.dR rows) 0 D) := hr
  rw [hr2] at hown
  have hlen : (castL (stL (Hm.dR rows) 0 D)).length = D.length := by unfold castL; rw [List.length_map, stL_len]
  rw [hlen] at hown
  obtain ⟨g, cap, rfl, _, _, _, hcc⟩ := row_form hown (by omega)
  refine ⟨g, cap, rfl, fun i x hx => ?_, ho⟩
  have hi := (List.getElem?_eq_some_iff.1 hx).1
  rw [List.length_cons, stL_len] at hi
  rw [hcc i (by omega)]
  have e0 : ints (0 :: castL (stL (Hm.dR rows) 0 D)) = (0 :: stL (Hm.dR rows) 0 D).map (fun (x : Nat) => Value.int .i64 (x : Int)) := by
    unfold ints castL
    simp
  rw [e0, List.getElem?_map, hx]
  rfl
end Go.Proofs.Ytelifjeppegcmaa
