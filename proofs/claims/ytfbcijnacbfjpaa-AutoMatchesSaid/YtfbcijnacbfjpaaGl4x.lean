/-
  The automaton that is made: which state stands for which places; no program in it.
-/
import Derived.Test.YtfbcijnacbfjpaaGl3x
namespace Go.Proofs.Ytfbcijnacbfjpaa
set_option linter.unusedVariables false
set_option linter.unusedSimpArgs false
namespace Au
open Rl (Ex)
theorem ways_says (p : Pl) (m : Nat) : ∀ (cs found w found1 w1 : List Nat), found.length ≤ 300 → ways p m cs found w = some (found1, w1) →
    ∃ (ext u : List Nat), found1 = found ++ ext ∧ found1.length ≤ 300 ∧ w1 = w ++ u ∧ u.length = cs.length ∧ ∀ (j c : Nat), cs[j]? = some c → ∃ t : Nat, u[j]? = some t ∧ found1[t]? = some (m &&& by' p c)
  | [], found, w, found1, w1, hl, h => by
    simp only [ways] at h
    injection h with h
    injection h with h1 h2
    subst h1 h2
    exact ⟨[], [], by simp, hl, by simp, rfl, fun j c h => by simp at h⟩
  | c :: cs, found, w, found1, w1, hl, h => by
    simp only [ways] at h
    split at h
    · rename_i hm
      obtain ⟨ext, u, h1, h2, h3, h4, h5⟩ := ways_says p m cs found _ found1 w1 hl h
      refine ⟨ext, found.idxOf (m &&& by' p c) :: u, h1, h2, by rw [h3]; simp, by simp [h4], ?_⟩
      intro j d hj
      cases j with
      | zero =>
        simp only [List.getElem?_cons_zero, Option.some.injEq] at hj
        subst hj
        refine ⟨_, rfl, ?_⟩
        have hlt := List.idxOf_lt_length_of_mem hm
        rw [h1, List.getElem?_append_left hlt, List.getElem?_eq_getElem hlt, List.getElem_idxOf hlt]
      | succ j =>
        simp only [List.getElem?_cons_succ] at hj ⊢
        exact h5 j d hj
    · split at h
      · cases h
      · rename_i hm hl3
        obtain ⟨ext, u, h1, h2, h3, h4, h5⟩ := ways_says p m cs (found ++ [m &&& by' p c]) _ found1 w1 (by rw [List.length_append]; simp; omega) h
        refine ⟨(m &&& by' p c) :: ext, found.length :: u, by rw [h1]; simp, h2, by rw [h3]; simp, by simp [h4], ?_⟩
        intro j d hj
        cases j with
        | zero =>
          simp only [List.getElem?_cons_zero, Option.some.injEq] at hj
          subst hj
          refine ⟨_, rfl, ?_⟩
          rw [h1]
          simp
        | succ j =>
          simp only [List.getElem?_cons_succ] at hj ⊢
          exact h5 j d hj
/-- of the n-th state. -/
def Okst (p : Pl) (l : List Nd) (F classes : Nat) (Fd : List Nat) (nx : List (List Nat)) (o : List Nat) (n : Nat) : Prop :=
  ∃ S w, Fd[n]? = some S ∧ nx[n]? = some w ∧ w.length = classes ∧ o[n]? = some (out l S) ∧ ∀ c, c < classes → ∃ t, w[c]? = some t ∧ Fd[t]? = some (may p F S &&& by' p c)
theorem states_says (p : Pl) (l : List Nd) (F classes : Nat) : ∀ (f n : Nat) (found : List Nat) (nx : List (List Nat)) (o : List Nat) (nx1 : List (List Nat)) (o1 : List Nat), f + n = 301 → found.length ≤ 300 → n ≤ found.length → nx.length = n → o.length = n → (∀ k, k < n → Okst p l F classes found nx o k) →
    states p l F classes f n found nx o = some (nx1, o1) → ∃ ext, let Fd := found ++ ext; nx1.length = Fd.length ∧ o1.length = Fd.length ∧ Fd.length ≤ 300 ∧ ∀ k, k < Fd.length → Okst p l F classes Fd nx1 o1 k
  | 0, n, found, nx, o, nx1, o1, hf, hl, hn, h1, h2, hk, h => by omega
  | f + 1, n, found, nx, o, nx1, o1, hf, hl, hn, h1, h2, hk, h => by
    simp only [states] at h
    cases hs : found[n]? with
    | none =>
      rw [hs] at h
      injection h with h
      injection h with e1 e2
      subst e1 e2
      have := List.getElem?_eq_none_iff.1 hs
      obtain rfl : n = found.length := by omega
      exact ⟨[], by simpa using ⟨h1, h2, hl, hk⟩⟩
    | some S =>
      rw [hs] at h
      simp only at h
      cases hw : ways p (may p F S) (List.range classes) found [] with
      | none => rw [hw] at h; cases h
      | some r =>
        obtain ⟨found1, w⟩ := r
        rw [hw] at h
        simp only at h
        obtain ⟨ext, u, a1, a2, a3, a4, a5⟩ := ways_says p _ _ _ _ _ _ hl hw
        rw [List.nil_append] at a3
        subst a3
        have hnl : n < found.length := (List.getElem?_eq_some_iff.1 hs).1
        have up : ∀ k x, found[k]? = some x → found1[k]? = some x := fun k x hx => by
          rw [a1, List.getElem?_append_left (List.getElem?_eq_some_iff.1 hx).1]; exact hx
        obtain ⟨ext2, b⟩ := states_says p l F classes f (n + 1) found1 (nx ++ [w]) (o ++ [out l S]) nx1 o1 (by omega) a2 (by rw [a1, List.length_append]; omega) (by simp [h1]) (by simp [h2]) (by
          intro k hkn
          by_cases e : k = n
          · subst e
            refine ⟨S, w, up _ _ hs, by rw [← h1]; simp, by rw [a4]; simp, by rw [← h2]; simp, ?_⟩
            intro c hc
            obtain ⟨t, t1, t2⟩ := a5 c c (by rw [List.getElem?_range hc])
            exact ⟨t, t1, t2⟩
          · obtain ⟨S', w', c1, c2, c3, c4, c5⟩ := hk k (by omega)
            refine ⟨S', w', up _ _ c1, ?_, c3, ?_, ?_⟩
            · rw [List.getElem?_append_left (by omega)]; exact c2
            · rw [List.getElem?_append_left (by omega)]; exact c4
            · intro c hc
              obtain ⟨t, t1, t2⟩ := c5 c hc
              exact ⟨t, t1, up _ _ t2⟩) h
        refine ⟨ext ++ ext2, ?_⟩
        rw [← List.append_assoc, ← a1]
        exact b
theorem make_says (es : List Ex) (classes : Int) (nx : List (List Nat)) (o : List Nat) (h : make es classes = .ok (nx, o)) :
    1 ≤ classes ∧ classes ≤ 24 ∧ es.length ≤ 24 ∧ ∃ nds p Fd, all es [] pl0 = some (nds, p) ∧ Fd[0]? = some 0 ∧ nx.length = Fd.length ∧ o.length = Fd.length ∧ Fd.length ≤ 300 ∧ ∀ k, k < Fd.length → Okst p nds (nds.foldl (fun m x => m ||| x.first) 0) classes.toNat Fd nx o k := by
  unfold make at h
  split at h
  · cases h
  · rename_i hc
    cases ha : all es [] pl0 with
    | none => rw [ha] at h; cases h
    | some r =>
      obtain ⟨nds, p⟩ := r
      rw [ha] at h
      simp only at h
      cases hs : states p nds (nds.foldl (fun m x => m ||| x.first) 0) classes.toNat 301 0 [0] [] [] with
      | none => rw [hs] at h; cases h
      | some r =>
        obtain ⟨nx1, o1⟩ := r
        rw [hs] at h
        injection h with h
        injection h with e1 e2
        subst e1 e2
        obtain ⟨ext, a1, a2, a3, a4⟩ := states_says p nds _ _ 301 0 [0] [] [] _ _ rfl (by simp) (by simp) rfl rfl (fun k hk => absurd hk (Nat.not_lt_zero k)) hs
        exact ⟨by omega, by omega, by omega, nds, p, [0] ++ ext, rfl, rfl, a1, a2, a3, a4⟩
/-- the states behind classes. -/
def runs (nx : List (List Nat)) : Nat → List Int → List Nat
  | _, [] => []
  | s, c :: cs => (((nx[s]?.getD [])[c.toNat]?).getD 0) :: runs nx (((nx[s]?.getD [])[c.toNat]?).getD 0) cs
theorem runs_len (nx : List (List Nat)) : ∀ (C : List Int) (s : Nat), (runs nx s C).length = C.length
  | [], s => rfl
  | c :: cs, s => by simp [runs, runs_len nx cs]
theorem runs_says {p : Pl} {l : List Nd} {F classes : Nat} {Fd : List Nat} {nx : List (List Nat)} {o : List Nat} (hk : ∀ k, k < Fd.length → Okst p l F classes Fd nx o k) : ∀ (C D : List Int) (s : Nat), (∀ c ∈ C, 0 ≤ c ∧ c < (classes : Int)) → Fd[s]? = some (sset p F D) →
    ∀ k x, (s :: runs nx s C)[k]? = some x → Fd[x]? = some (sset p F (D ++ C.take k))
  | [], D, s, hC, hs, k, x, h => by
    cases k with
    | zero =>
      simp only [List.getElem?_cons_zero, Option.some.injEq] at h
      subst h
      simpa using hs
    | succ k => simp [runs] at h
  | c :: cs, D, s, hC, hs, k, x, h => by
    cases k with
    | zero =>
      simp only [List.getElem?_cons_zero, Option.some.injEq] at h
      subst h
      simpa using hs
    | succ k =>
      have hc := hC c (by simp)
      obtain ⟨S, w, a1, a2, a3, a4, a5⟩ := hk s (List.getElem?_eq_some_iff.1 hs).1
      rw [hs] at a1
      injection a1 with a1
      subst a1
      obtain ⟨t, t1, t2⟩ := a5 c.toNat (by omega)
      have e : (((nx[s]?.getD [])[c.toNat]?).getD 0) = t := by rw [a2, Option.getD_some, t1, Option.getD_some]
      simp only [runs, e, List.getElem?_cons_succ] at h
      have := runs_says hk cs (D ++ [c]) t (fun c h => hC c (by simp [h])) (by rw [sset_snoc]; exact t2) k x h
      rw [this, List.take_succ_cons, List.append_assoc]
      rfl
/-- .. and what they tell. -/
theorem make_tells (es : List Ex) (classes : Int) (nx : List (List Nat)) (o : List Nat) (h : make es classes = .ok (nx, o)) (C : List Int) (hC : ∀ c ∈ C, 0 ≤ c ∧ c < classes) (k s : Nat) (hs : (0 :: runs nx 0 C)[k]? = some s) :
    s < nx.length ∧ ∃ O, o[s]? = some O ∧ ∀ r e, es[r]? = some e → (O.testBit r = true ↔ ∃ i, mt (C.take k) e i (C.take k).length) := by
  obtain ⟨c1, c2, c3, nds, p, Fd, ha, h0, hn, ho, hl, hk⟩ := make_says es classes nx o h
  have hC' : ∀ c ∈ C, 0 ≤ c ∧ c < (classes.toNat : Int) := fun c hc => by have := hC c hc; omega
  have hF := runs_says hk C [] 0 hC' (by rw [h0]; rfl) k s hs
  rw [List.nil_append] at hF
  have hsl := (List.getElem?_eq_some_iff.1 hF).1
  obtain ⟨S, w, a1, a2, a3, a4, a5⟩ := hk s hsl
  rw [hF] at a1
  injection a1 with a1
  subst a1
  refine ⟨by omega, _, a4, fun r e hr => ?_⟩
  exact out_says es nds p ha classes.toNat (by omega) (C.take k) (fun c hc => hC' c (List.mem_of_mem_take hc)) r e hr
end Au
end Go.Proofs.Ytfbcijnacbfjpaa
