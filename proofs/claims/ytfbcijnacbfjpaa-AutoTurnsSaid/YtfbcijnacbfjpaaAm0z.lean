/-
  Rows of numbers in a region that draws its order.
-/
import Derived.Test.YtfbcijnacbfjpaaEn5z
import Derived.Test.YtfbcijnacbfjpaaGlz
import Derived.Test.YtfbcijnacbfjpaaAwkz
import Derived.Maps.AppendAt
import Derived.Deep.AppendLies
namespace Go.Proofs.Ytfbcijnacbfjpaa
open Go.RowKit Go.Maps
set_option linter.unusedVariables false
set_option linter.unusedSimpArgs false
theorem own_addr {w : World} {base e size n : Nat} {v : Value} {xs : List Value} (h : w.ownsRow base e size v n xs) (hv : v ≠ .slice none 0 0) : ∃ g cap, v = .slice (some ⟨g, 0, none⟩) n cap ∧ base ≤ g ∧ g < w.heap.size ∧ n ≤ cap := by
  obtain ⟨_, ⟨e, _⟩ | ⟨g, cap, cur, e, hb, hh, hc, _⟩⟩ := h
  · exact (hv e).elim
  · exact ⟨g, cap, e, hb, (Array.getElem?_eq_some_iff.1 hh).1, hc⟩
theorem ints_one (C : List Int) : ∀ u ∈ ints C, u.oneCell' = true := by
  intro u hu
  obtain ⟨x, _, rfl⟩ := List.mem_map.1 hu
  rfl
theorem step_app {ops : Array Oper} {o : Oper} {a : Act} {w : World} {K : Act → World → Prop} {Q : Exit → Act → World → Prop} {E : Prop} (hgd : o.guard = none) (s x : Operand)
    (ho : o.op = .call { callee := .builtin .append, args := #[s, x], argTypes := #[43, 43] })
    (base g0 n c0 : Nat) (xs : List Int) (hs : a.eval s = .slice (some ⟨g0, 0, none⟩) n c0) (hown : w.ownsRow base 3 1 (.slice (some ⟨g0, 0, none⟩) n c0) n (ints xs))
    (ad : Addr) (m c : Nat) (ys : List Int) (hx : a.eval x = .slice (some ad) m c) (hl : ys.length = m) (hnews : ∀ j u, (ints ys)[j]? = some u → w.cell? (ad.add j) = some u) (N : Nat) (hN : n + m = N) (hsz : N ≤ 1000) (hbase : base ≤ w.heap.size)
    (h : ∀ g cap w', w'.ownsRow base 3 1 (.slice (some ⟨g, 0, none⟩) N cap) N (ints (xs ++ ys)) → w.grownBy w' (some g0) → (g = g0 ∨ g = w.heap.size) → N ≤ cap → base ≤ g → g < w'.heap.size → K (a.put o.dst (.slice (some ⟨g, 0, none⟩) N cap)) w') :
    if Region.wanted o (yielded ops a.tmps) = true then Oper.wp Try.prog o a w K Q else E := by
  have hw : Region.wanted o (yielded ops a.tmps) = true := by simp [Region.wanted, hgd]
  rw [if_pos hw]
  subst hN
  obtain ⟨i4, g4, g40, g41, g42⟩ := info_parts info3'
  obtain ⟨v', w', hr, h2, h3, h4, h5⟩ := run_append_own_at (P := Try.prog) w base 43 o.type 3 i4 (.int .i64 0) 1 8 Try.underlying43 g4 g40 g41 g42 rfl (by decide) _ n (ints xs) hown ad m c (ints ys) (by simp [ints, hl]) hnews (ints_one ys) (by unfold maxLen; omega) (by omega) hbase
  obtain ⟨g, cap, rfl, hg1, hg2, hg3⟩ := own_addr h2 (fun e => by have := (h4.1 e).1; cases this)
  unfold Oper.wp execOp
  simp only [ho, resolve, invoke, builtin, Sem.run_bind, Sem.run_pure, Result.andThen_ok, List.map_toArray, List.map_cons, List.map_nil, hs, hx, hr]
  refine h g cap w' (by have e : ints xs ++ ints ys = ints (xs ++ ys) := by simp [ints]
                        rw [← e]; exact h2) h3 ?_ hg3 hg1 hg2
  rcases h5 with h5 | h5
  · left
    injection h5 with h5
  · right
    simpa [Value.ownBlock] using h5
theorem own_e0 {w : World} {base g : Nat} (h : w.heap[g]? = some (.cells #[] 3 (0, 0))) (hb : base ≤ g) : w.ownsRow base 3 1 (.slice (some ⟨g, 0, none⟩) 0 0) 0 (ints []) :=
  ⟨rfl, Or.inr ⟨g, 0, #[], rfl, hb, h, Nat.le_refl _, Nat.zero_le _, rfl, rfl⟩⟩
theorem own_e1 {w : World} {base g : Nat} {r : Int} (h : w.heap[g]? = some (.cells #[.int .i64 r] 3 (0, 0))) (hb : base ≤ g) : w.ownsRow base 3 1 (.slice (some ⟨g, 0, none⟩) 1 1) 1 (ints [r]) :=
  ⟨rfl, Or.inr ⟨g, 1, #[.int .i64 r], rfl, hb, h, Nat.le_refl _, by unfold maxLen; omega, rfl, rfl⟩⟩
theorem grow_keep {w w' : World} {b : Nat} (h : w.grownBy w' (some b)) : ∀ g o, w.heap[g]? = some o → g ≠ b → w'.heap[g]? = some o := fun g o hg hn => by
  have ho : Only (· = b) w w' := (Only.refl (· = b) w).grown h (fun k h => by injection h with h; exact h.symm)
  exact (ho.block g (Array.getElem?_eq_some_iff.1 hg).1 hn).trans hg
theorem grow_only {W w w' : World} {b : Nat} (ho : Only (fun _ => False) W w) (hb : W.heap.size ≤ b) (h : w.grownBy w' (some b)) : Only (fun _ => False) W w' := by
  have h1 : Only (· = b) w w' := (Only.refl (· = b) w).grown h (fun k h => by injection h with h; exact h.symm)
  have h2 : Only (· = b) W w' := (ho.mono (fun _ h => h.elim)).trans h1
  exact ⟨h2.os, h2.tape, h2.output, h2.size, fun g hg _ => h2.block g hg (by omega)⟩
theorem heap_two (w : World) (o p : Obj) : ((w.alloc o).alloc p).heap[w.heap.size + 1]? = some p := by
  have := heap_alloc_new (w.alloc o) p
  rw [show (w.alloc o).heap.size = w.heap.size + 1 by simp] at this
  exact this
theorem news_take {W w : World} {b off L : Nat} {D : List Int} (h : Iw W (some ⟨b, off, none⟩) L D) (ho : Only (fun _ => False) W w) (i : Nat) : ∀ j u, (ints (D.take i))[j]? = some u → w.cell? ((⟨b, off, none⟩ : Addr).add j) = some u := fun j u hj => by
  unfold ints at hj
  rw [List.getElem?_map] at hj
  cases hx : (D.take i)[j]? with
  | none => rw [hx] at hj; cases hj
  | some x =>
    rw [hx] at hj
    injection hj with hj
    subst hj
    have hx' : D[j]? = some x := by
      rw [List.getElem?_take] at hx
      split at hx
      · exact hx
      · cases hx
    obtain ⟨hl, b', off', h1, h2⟩ := h.keep ho
    have h0 : 0 < L := by have := (List.getElem?_eq_some_iff.1 hx').1; omega
    obtain ⟨e, _⟩ := h1 h0
    injection e with e
    injection e with e1 e2
    subst e1 e2
    rw [Addr.add_mid]
    exact h2 j x hx'
theorem news_drop {W w : World} {b off L : Nat} {D : List Int} (h : Iw W (some ⟨b, off, none⟩) L D) (ho : Only (fun _ => False) W w) (i k : Nat) (hk : i < L → k = off + i) : ∀ j u, (ints (D.drop i))[j]? = some u → w.cell? ((⟨b, k, none⟩ : Addr).add j) = some u := fun j u hj => by
  unfold ints at hj
  rw [List.getElem?_map] at hj
  cases hx : (D.drop i)[j]? with
  | none => rw [hx] at hj; cases hj
  | some x =>
    rw [hx] at hj
    injection hj with hj
    subst hj
    have hx' : D[i + j]? = some x := by
      rw [List.getElem?_drop] at hx
      exact hx
    obtain ⟨hl, b', off', h1, h2⟩ := h.keep ho
    have hij := (List.getElem?_eq_some_iff.1 hx').1
    obtain ⟨e, _⟩ := h1 (by omega)
    injection e with e
    injection e with e1 e2
    subst e1 e2
    rw [Addr.add_mid, hk (by omega)]
    show w.cell? ⟨b, off + i + j, none⟩ = _
    rw [Nat.add_assoc]
    exact h2 (i + j) x hx'
theorem own_news {w : World} {base g n cap : Nat} {C : List Int} (h : w.ownsRow base 3 1 (.slice (some ⟨g, 0, none⟩) n cap) n (ints C)) (hn : C.length = n) : ∀ j u, (ints C)[j]? = some u → w.cell? ((⟨g, 0, none⟩ : Addr).add j) = some u := fun j u hj => by
  unfold ints at hj
  rw [List.getElem?_map] at hj
  cases hx : C[j]? with
  | none => rw [hx] at hj; cases hj
  | some x =>
    rw [hx] at hj
    injection hj with hj
    subst hj
    obtain ⟨_, ⟨hv, _⟩ | ⟨g', cap', cur, hv, hb, hh, h1, h2, h3, h4⟩⟩ := h
    · cases hv
    · injection hv with e1 _ e2
      injection e1 with e1
      injection e1 with e1
      subst e1
      rw [Addr.add_mid]
      refine (cell_of_row _ _ _ _ _ _ hh).trans ?_
      have hjl := (List.getElem?_eq_some_iff.1 hx).1
      have h5 : (cur.toList.take (n * 1))[0 + j]? = some (.int .i64 x) := by
        rw [h4]
        unfold ints
        rw [Nat.zero_add, List.getElem?_map, hx]
        rfl
      rw [List.getElem?_take, if_pos (by omega), Array.getElem?_toList] at h5
      exact h5
end Go.Proofs.Ytfbcijnacbfjpaa
namespace Go.Proofs.Ytfbcijnacbfjpaa
open Go.RowKit Go.Maps
set_option linter.unusedVariables false
set_option linter.unusedSimpArgs false
open Rl (Ex)
theorem own_cells {w : World} {base e n : Nat} {v : Value} {xs : List Value} (h : w.ownsRow base e 1 v n xs) (hn : 0 < n) : ∃ g cap, v = .slice (some ⟨g, 0, none⟩) n cap ∧ g < w.heap.size ∧ n ≤ maxLen ∧ ∀ j u, xs[j]? = some u → w.cell? ⟨g, j, none⟩ = some u := by
  obtain ⟨hl, ⟨hv, h0⟩ | ⟨g, cap, cur, hv, hb, hh, h1, h2, h3, h4⟩⟩ := h
  · omega
  · refine ⟨g, cap, hv, (Array.getElem?_eq_some_iff.1 hh).1, by omega, fun j u hj => ?_⟩
    refine (cell_of_row _ _ _ _ _ _ hh).trans ?_
    have hjl := (List.getElem?_eq_some_iff.1 hj).1
    rw [← h4, List.getElem?_take] at hj
    split at hj
    · rw [Array.getElem?_toList] at hj
      exact hj
    · cases hj
def wyOf (r : Nat × List Nat) (cl : Nat) : Wy := ⟨some ⟨r.1, 0, none⟩, cl, cl, r.2.map (fun (t : Nat) => (t : Int))⟩
theorem aut_nw {w : World} {lo cl : Nat} {aN : Option Addr} {nN cN : Nat} {aO : Option Addr} {nO cO : Nat} {nx : List (List Nat)} {o : List Nat} (h : Aut w lo cl (.agg #[.slice aN nN cN, .slice aO nO cO]) nx o) (hcl : cl ≤ 24) (h0 : 0 < nx.length) (h1 : 0 < o.length) :
    ∃ ws, Nw w aN nN ws ∧ nN = nx.length ∧ nO = o.length ∧ nN ≤ maxLen ∧ (∀ (s : Nat) (L : List Nat), nx[s]? = some L → ∃ y, ws[s]? = some y ∧ y.n = cl ∧ y.L = L.map (fun (t : Nat) => (t : Int))) ∧ ∃ g, aO = some ⟨g, 0, none⟩ ∧ g < w.heap.size ∧ ∀ (s x : Nat), o[s]? = some x → w.cell? ⟨g, s, none⟩ = some (.int .u32 (x : Int)) := by
  obtain ⟨rows, vN, vO, e, rfl, h3, h4, h5⟩ := h
  simp only [Value.agg.injEq, Array.mk.injEq, List.cons.injEq, and_true] at e
  obtain ⟨rfl, rfl⟩ := e
  have hrl : 0 < rows.length := by simpa using h0
  obtain ⟨g, cap, hv, hg, hm, hc⟩ := own_cells h3 hrl
  obtain ⟨g', cap', hv', hg', hm', hc'⟩ := own_cells h4 h1
  injection hv with e1 e2 e3
  injection hv' with f1 f2 f3
  subst e1 e2 f1 f2
  refine ⟨rows.map (fun r => wyOf r cl), ⟨by simp, g, 0, fun _ => ⟨rfl, hg⟩, fun j x hj => ?_⟩, by simp, rfl, hm, fun s L hL => ?_, g', rfl, hg', fun s x hx => ?_⟩
  · rw [List.getElem?_map] at hj
    cases hr : rows[j]? with
    | none => rw [hr] at hj; cases hj
    | some r =>
      rw [hr] at hj
      injection hj with hj
      subst hj
      obtain ⟨b1, b2, b3⟩ := h5 r (List.mem_of_getElem? hr)
      refine ⟨⟨by simp [wyOf, b3], r.1, 0, fun _ => ⟨rfl, (Array.getElem?_eq_some_iff.1 b2).1⟩, fun i y hi => ?_⟩, by unfold wyOf maxLen; simp; omega, ?_⟩
      · simp only [wyOf] at hi
        rw [List.getElem?_map] at hi
        cases ht : r.2[i]? with
        | none => rw [ht] at hi; cases hi
        | some t =>
          rw [ht] at hi
          injection hi with hi
          subst hi
          have hil := (List.getElem?_eq_some_iff.1 ht).1
          rw [Nat.zero_add]
          refine (cell_of_row _ _ _ _ _ _ b2).trans ?_
          rw [wcs_at _ _ _ (by omega), ht]
          rfl
      · rw [Nat.zero_add]
        refine (hc j (rowV cl r) (by rw [List.getElem?_map, hr]; rfl)).trans ?_
        rfl
  · rw [List.getElem?_map] at hL
    cases hr : rows[s]? with
    | none => rw [hr] at hL; cases hL
    | some r =>
      rw [hr] at hL
      injection hL with hL
      subst hL
      exact ⟨wyOf r cl, by rw [List.getElem?_map, hr]; rfl, rfl, rfl⟩
  · exact hc' s (u32V x) (by rw [List.getElem?_map, hx]; rfl)
theorem run_runs {ws : List Wy} {nx : List (List Nat)} {cl : Nat} (h1 : ∀ (s : Nat) (L : List Nat), nx[s]? = some L → ∃ y, ws[s]? = some y ∧ y.n = cl ∧ y.L = L.map (fun (t : Nat) => (t : Int)))
    (h2 : ∀ s, s < nx.length → ∃ w, nx[s]? = some w ∧ ∀ c, c < cl → ∃ t, w[c]? = some t ∧ t < nx.length) : ∀ (C : List Int) (s : Nat), s < nx.length → (∀ c ∈ C, 0 ≤ c ∧ c < (cl : Int)) → run ws (s : Int) C = (Au.runs nx s C).map (fun (t : Nat) => (t : Int))
  | [], s, hs, hC => by simp [run, Au.runs]
  | c :: cs, s, hs, hC => by
    obtain ⟨w, hw, hk⟩ := h2 s hs
    obtain ⟨y, hy, hyn, hyL⟩ := h1 s w hw
    have hc := hC c (by simp)
    obtain ⟨t, ht, htl⟩ := hk c.toNat (by omega)
    have hwy : wy ws (s : Int) = y := by
      unfold wy
      rw [if_pos (by omega), Int.toNat_natCast, hy]
      rfl
    have e1 : (((nx[s]?.getD [])[c.toNat]?).getD 0) = t := by rw [hw, Option.getD_some, ht, Option.getD_some]
    have e2 : (y.L[c.toNat]?).getD 0 = (t : Int) := by rw [hyL, List.getElem?_map, ht]; rfl
    unfold run Au.runs
    rw [hwy, if_pos (by rw [hyn]; exact hc), e1, e2, List.map_cons, run_runs h1 h2 cs t htl (fun c h => hC c (by simp [h]))]
theorem ok_nexts {p : Au.Pl} {l : List Au.Nd} {F classes : Nat} {Fd : List Nat} {nx : List (List Nat)} {o : List Nat} (hl : nx.length = Fd.length) (hk : ∀ k, k < Fd.length → Au.Okst p l F classes Fd nx o k) : ∀ s, s < nx.length → ∃ w, nx[s]? = some w ∧ ∀ c, c < classes → ∃ t, w[c]? = some t ∧ t < nx.length := fun s hs => by
  obtain ⟨S, w, a1, a2, a3, a4, a5⟩ := hk s (by omega)
  refine ⟨w, a2, fun c hc => ?_⟩
  obtain ⟨t, t1, t2⟩ := a5 c hc
  exact ⟨t, t1, by have := (List.getElem?_eq_some_iff.1 t2).1; omega⟩
end Go.Proofs.Ytfbcijnacbfjpaa
