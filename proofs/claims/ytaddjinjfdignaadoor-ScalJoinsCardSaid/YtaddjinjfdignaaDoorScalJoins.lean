/-
  stanzalaw01.ScalJoins returns true at every slice of int32 and every slice of bytes, and both read afterwards as they read before; unicode/utf8's two tables are as the program's text lays them (the card ties them).
-/
import Derived.Test.YtaddjinjfdignaaDoorCards
import Derived.Test.YtaddjinjfdignaaDoorTie
import Derived.Test.YtaddjinjfdignaaDoorView
import Derived.Test.YtaddjinjfdignaaDoorJoin
import Derived.Test.YtaddjinjfdignaaDoorFind
import Derived.Deep.RegionWith
namespace Go.Proofs.YtaddjinjfdignaaDoor.scalJoins
open Go.ChangeShapes Go.WideShapes Go.ChangeAt Go.RowKit
set_option linter.unusedVariables false

/-- the numbers that are put. -/
def csTo (R : Nat → Int) (i : Nat) : List Nat := (List.range i).map fun j => nrm (R j)
theorem csTo_succ (R : Nat → Int) (i : Nat) : csTo R (i + 1) = csTo R i ++ [nrm (R i)] := by simp [csTo, List.range_succ]
theorem csTo_length (R : Nat → Int) (i : Nat) : (csTo R i).length = i := by simp [csTo]
theorem csTo_right (R : Nat → Int) (i : Nat) : ∀ c ∈ csTo R i, Right c := by
  intro c h
  obtain ⟨j, _, rfl⟩ := List.mem_map.1 h
  exact nrm_right _
theorem csTo_at (R : Nat → Int) (N i : Nat) (h : i < N) : (csTo R N)[i]? = some (nrm (R i)) := by simp [csTo, h]
theorem made_empty (w : World) : (w.alloc (.cells #[] 5)).ownsRow w.heap.size 5 1 (.slice (some ⟨w.heap.size, 0, none⟩) 0 0) 0 [] := by
  refine ⟨rfl, Or.inr ⟨w.heap.size, 0, #[], rfl, Nat.le_refl _, ?_, Nat.le_refl _, Nat.zero_le _, rfl, rfl⟩⟩
  show (w.heap.push (.cells #[] 5))[w.heap.size]? = _
  simp

theorem row_none {w : World} {base e size n : Nat} {xs : List Value} {a : Option Addr} {m c : Nat} (h : w.ownsRow base e size (.slice a m c) n xs) (ha : a = none) : m = 0 ∧ c = 0 := by
  subst ha
  obtain ⟨_, ⟨hv, _⟩ | ⟨g, cap, cur, hv, _⟩⟩ := h
  · cases hv; exact ⟨rfl, rfl⟩
  · cases hv
theorem get_lt {l : List Value} {j : Nat} {u : Value} (h : l[j]? = some u) : j < l.length := by
  by_cases hh : j < l.length
  · exact hh
  · rw [List.getElem?_eq_none (by omega)] at h; cases h
theorem joined_at (T : List Nat) (n : Nat) (x : Nat → Nat) (j : Nat) (h : j < T.length + n) : (cl T ++ byCells n x)[j]? = some (.int .u8 (both T.length (nth T) x j : Nat)) := by
  unfold both
  by_cases hj : j < T.length
  · rw [List.getElem?_append_left (by rw [cl_length]; exact hj), cl_at T j hj, if_pos hj]
  · rw [List.getElem?_append_right (by rw [cl_length]; omega), cl_length, byCells_at n x _ (by omega), if_neg hj]

/-- a string's bytes lie in memory, and stay there. -/
def StrIs (W : World) (v : Value) (S : ByteArray) : Prop := ∀ W', Below W.heap.size W W' → (convert 22 9 v).run Tryd.prog W' = .ok (.string S) W'
theorem after_put {W W' : World} {L base : Nat} {X : Nat → Nat} {v : Value} (ho : W'.ownsRow base 5 1 v L (byCells L X)) (hb : Below W.heap.size W W') :
    (convert 22 9 v).run Tryd.prog W' = .ok (.string (strOf L X)) W' ∧ Hid (StrIs W' v (strOf L X)) ∧ Hid (Below W.heap.size W W') := by
  obtain ⟨a3, g3, c3, rfl, hc3, ha3, hg3, hgb3, hcc3⟩ := row_view ho
  have k : StrIs W' (.slice a3 L c3) (strOf L X) := fun W2 hb2 => conv_bytes W2 a3 L c3 g3 0 X ha3 (fun j hj => by rw [Nat.zero_add]; exact (hb2.cell (p := ⟨g3, j, none⟩) (hg3 (by omega))).trans ((hcc3 j (by omega)).trans (byCells_at _ _ j hj)))
  exact ⟨k W' (Below.refl _ _), k, hb⟩

set_option maxRecDepth 100000 in
set_option maxHeartbeats 8000000 in
theorem walk (la : Option Addr) (N lcap : Nat) (R : Nat → Int) (bl offl : Nat) (a : Option Addr) (n cap : Nat) (x : Nat → Nat) (b off : Nat) (w : World)
    (hla : 0 < N → la = some ⟨bl, offl, none⟩) (hbl : 0 < N → bl < w.heap.size) (hR : ∀ j, -2147483648 ≤ R j ∧ R j ≤ 2147483647) (hcl : ∀ j, j < N → w.cell? ⟨bl, offl + j, none⟩ = some (.int .i32 (R j)))
    (hlmax : lcap ≤ maxLen) (hNl : N ≤ lcap)
    (hcap : n ≤ cap) (hmax : cap ≤ maxLen) (ha : 0 < n → a = some ⟨b, off, none⟩) (han : a = none → n = 0 ∧ cap = 0)
    (hb : 0 < n → b < w.heap.size) (hz : 2 ≤ w.heap.size) (hx : ∀ j, x j < 256) (hT : Lib.Utf8Tabs 0 1 w)
    (hc : ∀ j, j < n → w.cell? ⟨b, off + j, none⟩ = some (.int .u8 (x j : Nat))) :
    Calls Tryd.prog 8 #[.slice la N lcap, .slice a n cap] w fun e w' => e = .returned (.bool true) ∧ Below w.heap.size w w' := by
  have hclH : Hid (∀ j, j < N → w.cell? ⟨bl, offl + j, none⟩ = some (.int .i32 (R j))) := hcl
  have hlaH : Hid (0 < N → la = some ⟨bl, offl, none⟩) := hla
  have hblH : Hid (0 < N → bl < w.heap.size) := hbl
  have hRH : Hid (∀ j, -2147483648 ≤ R j ∧ R j ≤ 2147483647) := hR
  have hcH : Hid (∀ j, j < n → w.cell? ⟨b, off + j, none⟩ = some (.int .u8 (x j : Nat))) := hc
  have hTH : Hid (Lib.Utf8Tabs 0 1 w) := hT
  have hxH : Hid (∀ j, x j < 256) := hx
  have haH : Hid (0 < n → a = some ⟨b, off, none⟩) := ha
  have hanH : Hid (a = none → n = 0 ∧ cap = 0) := han
  have hbH : Hid (0 < n → b < w.heap.size) := hb
  clear hc hT hx ha hb hcl hla hbl hR han
  unfold maxLen at hmax hlmax
  obtain ⟨i0, hi, hz0, hz1, hz2⟩ := info_parts info5
  by_cases hbig : 1000 < N
  · go_enter Tryd.func8, Tryd.ntmps8
    go_wp2_with (go_at_call 9; refine (awake_any _ hz hTH.out).mono ?_; rintro e w1 ⟨rfl, hb1⟩)
    go_ret
    exact ⟨rfl, by assumption⟩
  by_cases hbig2 : 1000 < n
  · go_enter Tryd.func8, Tryd.ntmps8
    go_wp2_with (go_at_call 9; refine (awake_any _ hz hTH.out).mono ?_; rintro e w1 ⟨rfl, hb1⟩)
    go_ret
    exact ⟨rfl, by assumption⟩
  have g1 : decide ((1000 : Int) < (N : Int)) = false := decide_eq_false (by omega)
  have g2 : decide ((1000 : Int) < (n : Int)) = false := decide_eq_false (by omega)
  go_enter Tryd.func8, Tryd.ntmps8
  go_wp2_with (go_at_call 9; refine (awake_any _ hz hTH.out).mono ?_; rintro e w1 ⟨rfl, hb1⟩)
  have hs1 := hb1.size
  have hB1 : Hid (Below w.heap.size w w1) := hb1
  clear hb1
  go_loopw [5, 27] (fun vt vi wr => ∃ (i : Nat) (l : Value), l = vt ∧ i ≤ N ∧ vi = .int .i64 i ∧ wr.ownsRow w1.heap.size 5 1 l (txt (csTo R i)).length (cl (txt (csTo R i))) ∧ Below w1.heap.size w1 wr) (fun _ vi _ => N - (intOf vi).toNat)
  case atStart => exact ⟨0, _, rfl, by omega, rfl, World.ownsRow_nil _ _ _ _, Below.refl _ _⟩
  case round =>
    obtain ⟨i, v, rfl, hiN, rfl, hown, hbel⟩ := hrel
    have hsr := hbel.size
    have hOH : Hid (wr.ownsRow w1.heap.size 5 1 v (txt (csTo R i)).length (cl (txt (csTo R i)))) := hown
    have hBr : Hid (Below w1.heap.size w1 wr) := hbel
    clear hown hbel
    by_cases hlt : i < N
    · obtain rfl := hlaH.out (by omega)
      have hblw := hblH.out (by omega)
      have d0 : wr.cell? ⟨bl, offl + i, none⟩ = some (.int .i32 (R i)) := (hBr.out.cell (p := ⟨bl, offl + i, none⟩) (show bl < _ by omega)).trans ((hB1.out.cell (p := ⟨bl, offl + i, none⟩) hblw).trans (hclH.out i hlt))
      have htl := txt_len (csTo R i)
      rw [csTo_length] at htl
      have hpl := pb_len (nrm (R i))
      go_wp2_with fail
      refine (put_any (R i) wr (hRH.out i).1 (hRH.out i).2).mono ?_
      rintro e w3 ⟨v3, rfl, ho3, hb3⟩
      have hs3 := hb3.size
      have hown3 : w3.ownsRow w1.heap.size 5 1 v (txt (csTo R i)).length (cl (txt (csTo R i))) := ownsRow_below hOH.out hb3
      have hB3 : Hid (Below w1.heap.size w1 w3) := hBr.out.trans (hb3.mono hsr)
      rw [cl_by] at ho3
      obtain ⟨a3, g3, c3, rfl, hc3, ha3, hg3, hgb3, hcc3⟩ := row_view ho3
      clear ho3 hb3
      go_wp2_with (at_builtin; refine wpList_append_src rfl _ _ 22 rfl w1.heap.size 5 i0 (.int .u8 0) 1 1 Tryd.underlying22 hi hz0 hz1 hz2 rfl (by decide) _ _ _ rfl hown3 a3 _ c3 (cl (pb (nrm (R i)))) rfl ?e0 ?e1 ?e2 ?e3 ?e4 ?e5 ?e6 ?_)
      case e0 => intro h; rw [ha3 (by omega)] at h; cases h
      case e1 => rw [cl_length, Nat.mul_one]
      case e2 =>
        intro y hy j u hj
        obtain rfl : y = ⟨g3, 0, none⟩ := Option.some.inj (hy.symm.trans (ha3 (by omega)))
        have hjl : j < (pb (nrm (R i))).length := by
          by_cases h : j < (pb (nrm (R i))).length
          · exact h
          · rw [List.getElem?_eq_none (by rw [cl_length]; omega)] at hj; cases hj
        rw [Go.WideShapes.add_plain, Nat.zero_add, hcc3 j (by omega)]
        exact hj
      case e3 => exact cl_one _
      case e4 => unfold maxLen; omega
      case e5 => omega
      case e6 => omega
      intro v' w4 hown4 hg4
      have hO4 : Hid (w4.ownsRow w1.heap.size 5 1 v' (txt (csTo R (i + 1))).length (cl (txt (csTo R (i + 1))))) := (by rw [csTo_succ, txt_snoc, cl_append, List.length_append]; exact hown4 : w4.ownsRow w1.heap.size 5 1 v' (txt (csTo R (i + 1))).length (cl (txt (csTo R (i + 1)))))
      have hB4 : Hid (Below w1.heap.size w1 w4) := hB3.out.grown hg4 (by omega) (fun g e => (hown3.lt g e).1)
      clear hown4 hg4 hown3 hcc3 ha3 hg3 hgb3
      go_wp2
      go_roundw
      case rel => exact ⟨i + 1, v', rfl, by omega, by go_num, hO4.out, hB4.out⟩
      case measure => simp [intOf]; omega
    · have hiN' : Hid (i = N) := (by omega : i = N)
      have htl := txt_len (csTo R N)
      rw [csTo_length] at htl
      have hO1 : wr.ownsRow w1.heap.size 5 1 v (txt (csTo R N)).length (cl (txt (csTo R N))) := (by rw [← hiN'.out]; exact hOH.out : wr.ownsRow w1.heap.size 5 1 v (txt (csTo R N)).length (cl (txt (csTo R N))))
      have hcsr : Hid (∀ c ∈ csTo R N, Right c) := csTo_right R N
      have hcsl : Hid ((csTo R N).length = N) := csTo_length R N
      have hcsa : Hid (∀ i, i < N → (csTo R N)[i]? = some (nrm (R i))) := fun i h => csTo_at R N i h
      generalize csTo R N = cs at *
      obtain ⟨at1, gt1, ct1, rfl, hct1, hat1, hgt1, hgb1, hcc1⟩ := row_view hO1
      have hn1 : Hid (at1 = none → (txt cs).length = 0 ∧ ct1 = 0) := row_none hO1
      have hnews1 : Hid (∀ y, at1 = some y → ∀ j u, (cl (txt cs))[j]? = some u → (wr.alloc (.cells #[] 5)).cell? (y.add j) = some u) := fun y hy j u hj => by
        have hjl := get_lt hj
        rw [cl_length] at hjl
        obtain rfl : y = ⟨gt1, 0, none⟩ := Option.some.inj (hy.symm.trans (hat1 (by omega)))
        rw [Go.WideShapes.add_plain, Nat.zero_add]
        exact (World.cell?_alloc_past _ gt1 _ (hgt1 (by omega))).trans ((hcc1 j (by omega)).trans hj)
      have hBW : Hid (Below w.heap.size w wr) := hB1.out.trans (hBr.out.mono hs1)
      have hnews2 : Hid (∀ w5, (wr.alloc (.cells #[] 5)).grownBy w5 (some wr.heap.size) → ∀ y, a = some y → ∀ j u, (byCells n x)[j]? = some u → w5.cell? (y.add j) = some u) := fun w5 hg y hy j u hj => by
        have hjl := get_lt hj
        rw [byCells_length] at hjl
        obtain rfl : y = ⟨b, off, none⟩ := Option.some.inj (hy.symm.trans (haH.out (by omega)))
        have hbw := hbH.out (by omega)
        rw [Go.WideShapes.add_plain]
        rw [byCells_at n x j hjl] at hj
        cases hj
        refine hg.cell (a := ⟨b, off + j, none⟩) ((World.cell?_alloc_past _ b _ (by omega)).trans ((hBW.out.cell (p := ⟨b, off + j, none⟩) hbw).trans (hcH.out j hjl))) (fun e => ?_)
        have : b = wr.heap.size := Option.some.inj e
        omega
      have hlen1 : (cl (txt cs)).length = (txt cs).length * 1 := by rw [cl_length, Nat.mul_one]
      have hlen2 : (byCells n x).length = n * 1 := by rw [byCells_length, Nat.mul_one]
      have hlen1H : Hid ((cl (txt cs)).length = (txt cs).length * 1) := hlen1
      have hlen2H : Hid ((byCells n x).length = n * 1) := hlen2
      have hk : Hid (∀ M : Nat, M ≤ 4000 → M + n ≤ maxLen ∧ (M + n) * 1 ≤ 140737488355328 ∧ 0 + M ≤ maxLen ∧ (0 + M) * 1 ≤ 140737488355328) := fun M hM => ⟨by unfold maxLen; omega, by omega, by unfold maxLen; omega, by omega⟩
      have hM4 : (txt cs).length ≤ 4000 := by omega
      clear hO1 hlen1 hlen2 hat1 hgt1 hgb1 hcc1
      go_wp2_with (first | (at_builtin; refine wpList_append_src rfl (.tmp 36) (.tmp 37) 22 rfl wr.heap.size 5 i0 (.int .u8 0) 1 1 Tryd.underlying22 hi hz0 hz1 hz2 rfl (by decide) _ _ _ rfl (made_empty wr) at1 _ ct1 (cl (txt cs)) rfl hn1.out hlen1H.out hnews1.out (cl_one _) (hk.out _ hM4).2.2.1 (hk.out _ hM4).2.2.2 (by simp) ?_; intro v5 w5 hown5 hg5; simp only [Nat.zero_add, List.nil_append] at hown5) | (at_builtin; refine wpList_append_src rfl (.tmp 38) (.tmp 39) 22 rfl wr.heap.size 5 i0 (.int .u8 0) 1 1 Tryd.underlying22 hi hz0 hz1 hz2 rfl (by decide) _ _ _ rfl hown5 a _ cap (byCells n x) rfl hanH.out hlen2H.out (hnews2.out _ hg5) (byCells_one _ _) (hk.out _ hM4).1 (hk.out _ hM4).2.1 (Nat.le_trans (by simp) hg5.size) ?_; intro v6 w6 hown6 hg6))
      have hg5' : (wr.alloc (.cells #[] 5)).grownBy w5 (some wr.heap.size) := hg5
      have hg6' : w5.grownBy w6 v5.ownBlock := hg6
      have hB6 : Hid (Below w.heap.size w w6) := ((hBW.out.alloc (by omega) _).grown hg5' (by simp; omega) (fun k hk => by cases hk; omega)).grown hg6' (Nat.le_trans (by simp; omega) hg5'.size) (fun k hk => Nat.le_trans (by omega) (hown5.lt k hk).1)
      have hs6 : w.heap.size ≤ w6.heap.size := hB6.out.size
      obtain ⟨a6, g6, c6, rfl, hc6, ha6, hg6w, hgb6, hcc6⟩ := row_view hown6
      have hcc6H : Hid (∀ j, j < (txt cs).length + n → w6.cell? ⟨g6, j, none⟩ = some (.int .u8 (both (txt cs).length (nth (txt cs)) x j : Nat))) := fun j hj => (hcc6 j (by omega)).trans (joined_at (txt cs) n x j hj)
      have hall : Hid (Sg.all ((txt cs).length + n) (both (txt cs).length (nth (txt cs)) x) = sgs cs 0 ++ (Sg.all n x).map fun s => (s.1, s.2.1 + (txt cs).length, s.2.2)) := all_both cs n x hcsr.out
      have hZlt : Hid (∀ j, both (txt cs).length (nth (txt cs)) x j < 256) := both_lt (nth_lt (txt_all cs hcsr.out)) hxH.out
      clear hg5 hg6 hg5' hg6' hown5 hown6 hcc6 hgb6
      generalize hM : (txt cs).length = M at *
      generalize hZ : both M (nth (txt cs)) x = Z at *
      clear hM hZ
      refine (all_any (M + n) Z a6 g6 0 c6 w6 hc6 (by omega) ha6 hg6w (by omega) hZlt.out (tabs_below hTH.out hz hB6.out) (fun j hj => by rw [Nat.zero_add]; exact hcc6H.out j hj)).mono ?_
      rintro e w7 ⟨v7, rfl, ho7, hb7⟩
      have hs7 := hb7.size
      have hB7 : Hid (Below w.heap.size w w7) := hB6.out.trans (hb7.mono hs6)
      rw [hall.out] at ho7
      go_wp2_with fail
      refine (all_any n x a b off cap w7 hcap (by omega) haH.out (fun h => Nat.lt_of_lt_of_le (hbH.out h) (by omega)) (by omega) hxH.out (tabs_below hTH.out hz hB7.out) (fun j hj => (hB7.out.cell (p := ⟨b, off + j, none⟩) (hbH.out (by omega))).trans (hcH.out j hj))).mono ?_
      rintro e w8 ⟨v8, rfl, ho8, hb8⟩
      have hs8 := hb8.size
      have hB8 : Hid (Below w.heap.size w w8) := hB7.out.trans (hb8.mono (by omega))
      have ho7' := ownsRow_below ho7 hb8
      have hKn : (Sg.all n x).length ≤ 1000 := Nat.le_trans (Sg.rest_len n x n 0 (by omega)) (by omega)
      clear ho7 hb7 hb8 hall hcc6H
      have hsm : Hid (EndsSmall (Sg.all n x)) := all_small n x (by omega)
      generalize Sg.all n x = D at *
      rw [List.length_append, sgs_length, List.length_map, hcsl.out] at ho7'
      obtain ⟨K, hK⟩ : ∃ K, K = D.length := ⟨_, rfl⟩
      rw [← hK] at ho7' ho8 hKn
      obtain ⟨a7, g7, c7, rfl, hc7, ha7, hg7, hgb7, hcc7⟩ := row_view ho7'
      obtain ⟨a8, g8, c8, rfl, hc8, ha8, hg8, hgb8, hcc8⟩ := row_view ho8
      have hKH : Hid (K = D.length) := hK
      have ha7H : Hid (0 < N + K → a7 = some ⟨g7, 0, none⟩) := ha7
      have hg7H : Hid (0 < N + K → g7 < w8.heap.size) := hg7
      have hcc7H : Hid (∀ j, j < (N + K) * 3 → w8.cell? ⟨g7, j, none⟩ = (sgCells (sgs cs 0 ++ D.map fun s => (s.1, s.2.1 + M, s.2.2)))[j]?) := hcc7
      have ha8H : Hid (0 < K → a8 = some ⟨g8, 0, none⟩) := ha8
      have hg8H : Hid (0 < K → g8 < w8.heap.size) := hg8
      have hcc8H : Hid (∀ j, j < K * 3 → w8.cell? ⟨g8, j, none⟩ = (sgCells D)[j]?) := hcc8
      clear ho7' ho8 hK ha7 hg7 hcc7 ha8 hg8 hcc8 hgb7 hgb8 ha6 hg6w
      have t1 : ((N : Int) + (K : Int) != (N : Int) + (K : Int)) = false := by simp
      go_wp2_with fail
      go_loopw [54] (fun vj wq => ∃ (j : Nat) (W : World), W = wq ∧ j ≤ K ∧ vj = .int .i64 j ∧ Below w8.heap.size w8 W) (fun vj _ => K - (intOf vj).toNat)
      case atStart => exact ⟨0, _, rfl, by omega, rfl, Below.refl _ _⟩
      case round =>
        obtain ⟨j, wq, rfl, hjK, rfl, hbq⟩ := hrel
        have hBq : Hid (Below w8.heap.size w8 wq) := hbq
        have hsq := hbq.size
        clear hbq
        by_cases hjl : j < K
        · obtain ⟨s, hs⟩ : ∃ s, D[j]? = some s := ⟨D[j]'(by have := hKH.out; omega), List.getElem?_eq_getElem (by have := hKH.out; omega)⟩
          have hsE := hsm.out j s hs
          have q8 := sgCells_at D j s hs
          have q7 := sgCells_at (sgs cs 0 ++ D.map fun s => (s.1, s.2.1 + M, s.2.2)) (N + j) (s.1, s.2.1 + M, s.2.2) (by
            rw [List.getElem?_append_right (by rw [sgs_length, hcsl.out]; omega), sgs_length, hcsl.out, Nat.add_sub_cancel_left, List.getElem?_map, hs]; rfl)
          obtain ⟨R1, A1, L1⟩ := s
          simp only at hsE q7 q8
          obtain rfl := ha7H.out (by omega)
          obtain rfl := ha8H.out (by omega)
          have hg7w := hg7H.out (by omega)
          have hg8w := hg8H.out (by omega)
          have d0 : wq.cell? ⟨g8, j * 3, none⟩ = some (.int .i32 (R1 : Nat)) := (hBq.out.cell (p := ⟨g8, j * 3, none⟩) hg8w).trans ((hcc8H.out _ (by omega)).trans q8.1)
          have d1 : wq.cell? ⟨g8, j * 3 + 1, none⟩ = some (.int .i64 (A1 : Nat)) := (hBq.out.cell (p := ⟨g8, j * 3 + 1, none⟩) hg8w).trans ((hcc8H.out _ (by omega)).trans q8.2.1)
          have d2 : wq.cell? ⟨g8, j * 3 + 2, none⟩ = some (.int .i64 (L1 : Nat)) := (hBq.out.cell (p := ⟨g8, j * 3 + 2, none⟩) hg8w).trans ((hcc8H.out _ (by omega)).trans q8.2.2)
          have e0 : wq.cell? ⟨g7, (N + j) * 3, none⟩ = some (.int .i32 (R1 : Nat)) := (hBq.out.cell (p := ⟨g7, (N + j) * 3, none⟩) hg7w).trans ((hcc7H.out _ (by omega)).trans q7.1)
          have e1 : wq.cell? ⟨g7, (N + j) * 3 + 1, none⟩ = some (.int .i64 ((A1 : Nat) + (M : Nat) : Int)) := (hBq.out.cell (p := ⟨g7, (N + j) * 3 + 1, none⟩) hg7w).trans ((hcc7H.out _ (by omega)).trans (by rw [q7.2.1]; rfl))
          have e2 : wq.cell? ⟨g7, (N + j) * 3 + 2, none⟩ = some (.int .i64 (L1 : Nat)) := (hBq.out.cell (p := ⟨g7, (N + j) * 3 + 2, none⟩) hg7w).trans ((hcc7H.out _ (by omega)).trans q7.2.2)
          have hg7q : g7 < wq.heap.size := by omega
          have hg8q : g8 < wq.heap.size := by omega
          have t2 : ((R1 : Int) != (R1 : Int)) = false := by simp
          have t3 : ((L1 : Int) != (L1 : Int)) = false := by simp
          have t4 : ((A1 : Int) + (M : Int) != (A1 : Int) + (M : Int)) = false := by simp
          clear q7 q8 hs
          go_wp2
          go_roundw
          case rel => exact ⟨j + 1, _, rfl, by omega, by go_num, hBq.out.trans (((Below.refl _ _).alloc (Nat.le_refl _) _).alloc (by simp) _ |>.mono hsq)⟩
          case measure => simp [intOf]; omega
        · go_wp2_with fail
          go_loopw [91] (fun vt wz => ∃ (t : Nat) (W : World), W = wz ∧ t ≤ N ∧ vt = .int .i64 t ∧ Below w8.heap.size w8 W) (fun vt _ => N - (intOf vt).toNat)
          case atStart => exact ⟨0, _, rfl, by omega, rfl, hBq.out⟩
          case round =>
            obtain ⟨t, wz, rfl, htN, rfl, hbz⟩ := hrel
            have hBz : Hid (Below w8.heap.size w8 wz) := hbz
            have hsz := hbz.size
            clear hbz
            by_cases htl2 : t < N
            · obtain ⟨r, hr⟩ : ∃ r, r = R t := ⟨_, rfl⟩
              obtain ⟨c, hc⟩ : ∃ c, c = nrm r := ⟨_, rfl⟩
              have hcr : Right c := by rw [hc]; exact nrm_right _
              obtain ⟨aa, ll, hsg⟩ := sgs_at cs 0 t c (by rw [hc, hr]; exact hcsa.out t htl2)
              have q7 := sgCells_at (sgs cs 0 ++ D.map fun s => (s.1, s.2.1 + M, s.2.2)) t (c, aa, ll) (by rw [List.getElem?_append_left (by rw [sgs_length, hcsl.out]; omega)]; exact hsg)
              simp only at q7
              obtain rfl := ha7H.out (by omega)
              obtain rfl := hlaH.out (by omega)
              have hg7w := hg7H.out (by omega)
              have hblw := hblH.out (by omega)
              have d0 : wz.cell? ⟨g7, t * 3, none⟩ = some (.int .i32 (c : Nat)) := (hBz.out.cell (p := ⟨g7, t * 3, none⟩) hg7w).trans ((hcc7H.out _ (by omega)).trans q7.1)
              have d1 : wz.cell? ⟨bl, offl + t, none⟩ = some (.int .i32 r) := by rw [hr]; exact (hBz.out.cell (p := ⟨bl, offl + t, none⟩) (show bl < _ by omega)).trans ((hB8.out.cell (p := ⟨bl, offl + t, none⟩) hblw).trans (hclH.out t htl2))
              obtain ⟨hr0, hr1⟩ : -2147483648 ≤ r ∧ r ≤ 2147483647 := by rw [hr]; exact hRH.out t
              have hcb : (c : Int) ≤ 1114111 := by unfold Right at hcr; omega
              have hP2 : ∀ W, Calls Tryd.prog 16 #[.int .i32 r] W fun e w' => ∃ v, e = .returned v ∧ w'.ownsRow W.heap.size 5 1 v (pb c).length (byCells (pb c).length (nth (pb c))) ∧ Below W.heap.size W w' := fun W => by rw [hc]; exact put_any r W hr0 hr1
              have hP1 : ∀ W, Calls Tryd.prog 16 #[.int .i32 (c : Nat)] W fun e w' => ∃ v, e = .returned v ∧ w'.ownsRow W.heap.size 5 1 v (pb c).length (byCells (pb c).length (nth (pb c))) ∧ Below W.heap.size W w' := fun W => by
                have := put_any (c : Nat) W (by omega) (by omega)
                rw [nrm_of c hcr] at this
                exact this
              generalize (pb c).length = L at *
              generalize nth (pb c) = X at *
              have hP1H : Hid (∀ W, Calls Tryd.prog 16 #[.int .i32 (c : Nat)] W fun e w' => ∃ v, e = .returned v ∧ w'.ownsRow W.heap.size 5 1 v L (byCells L X) ∧ Below W.heap.size W w') := hP1
              have hP2H : Hid (∀ W, Calls Tryd.prog 16 #[.int .i32 r] W fun e w' => ∃ v, e = .returned v ∧ w'.ownsRow W.heap.size 5 1 v L (byCells L X) ∧ Below W.heap.size W w') := hP2
              clear hP1 hP2 hr hc hcr hsg q7
              have htlI : (t : Int) < (N : Int) + (K : Int) := by omega
              have htNK : t < N + K := by omega
              go_wp2_with fail
              go_region_with (first | (go_at_call_of 16 (Value.int IntKind.i32 r); refine (hP2H.out _).mono ?_; rintro e wn2 ⟨v2, rfl, ho2, hb2⟩; obtain ⟨k2, hS2, HB2⟩ := after_put ho2 hb2; have k1' := hS1.out _ HB2.out; clear ho2 hb2) | (go_at_call 16; refine (hP1H.out _).mono ?_; rintro e wn1 ⟨v1, rfl, ho1, hb1⟩; obtain ⟨k1, hS1, HB1⟩ := after_put ho1 hb1; clear ho1 hb1))
              all_goals
                clear k1 k1' k2
                have hB9 : Hid (Below w8.heap.size w8 wn2) := Below.trans (b := wz.drew) ⟨hBz.out.os, hBz.out.tape, hBz.out.output, hBz.out.size, hBz.out.block⟩ ((HB1.out.mono (show w8.heap.size ≤ wz.drew.heap.size from hsz)).trans (HB2.out.mono (Nat.le_trans (show w8.heap.size ≤ wz.drew.heap.size from hsz) HB1.out.size)))
                go_wp2
                go_roundw
                case rel => exact ⟨t + 1, _, rfl, by omega, by go_num, hB9.out⟩
                case measure => simp [intOf]; omega
            · go_wp2
              go_ret
              exact ⟨rfl, hB8.out.trans (hBz.out.mono (by omega))⟩
/-- What a slice of int32 that came in holds. -/
theorem ints_view {H : Type} {enc : TypeId × Value → H} {W : World} {a : Option Addr} {len cap : Nat} {d : DataW H} {p : List MemPlace}
    (h : DataW.Trod enc Tryd.prog W 0 (fun _ => true) true 37 (Value.slice a len cap) d p) :
    ∃ (R : Nat → Int) (b off : Nat), len ≤ cap ∧ cap ≤ maxLen ∧ (0 < len → a = some ⟨b, off, none⟩) ∧ (0 < len → b < W.heap.size) ∧ (∀ j, -2147483648 ≤ R j ∧ R j ≤ 2147483647) ∧ ∀ j, j < len → W.cell? ⟨b, off + j, none⟩ = some (.int .i32 (R j)) := by
  obtain ⟨fuel, hf⟩ := h
  rcases open_ints Tryd.underlying37 Tryd.underlying21 (by kernel_rfl) hf with ⟨hcs, _⟩ | ⟨y, l, c, zs, hcs, _, hl, hm, hz, _, hcell, hwz⟩
  · simp [Value.cells] at hcs
    obtain ⟨rfl, rfl, rfl⟩ := hcs
    exact ⟨fun _ => 0, 0, 0, by omega, by simp [maxLen], fun h => by omega, fun h => by omega, fun _ => ⟨show (-2147483648 : Int) ≤ 0 by decide, show (0 : Int) ≤ 2147483647 by decide⟩, fun j hj => by omega⟩
  · simp [Value.cells] at hcs
    obtain ⟨rfl, rfl, rfl⟩ := hcs
    have hz' : zs.length = cap := by simpa using hz
    have hb := range_i32 hwz
    by_cases h0 : 0 < len
    · obtain ⟨b, off, rfl, hcc⟩ := ints_at hcell (by omega)
      refine ⟨fun j => zs[j]?.getD 0, b, off, hl, hm, fun _ => rfl, fun _ => World.block_lt_of_cell? W ⟨b, off + 0, none⟩ (hcc 0 (by omega)), fun j => hb j, fun j hj => ?_⟩
      rw [hcc j (by omega), List.getD_eq_getElem?_getD]
    · exact ⟨fun _ => 0, 0, 0, hl, hm, fun h => absurd h h0, fun h => absurd h h0, fun _ => ⟨show (-2147483648 : Int) ≤ 0 by decide, show (0 : Int) ≤ 2147483647 by decide⟩, fun j hj => by omega⟩

theorem contract (H : Type) (enc : TypeId × Value → H) (W : World) (base : Nat) (args : Array Value) (ds gs : List (DataW H)) (before : List MemPlace)
    (hval : ∀ (j : Nat) t v, Tryd.f8.params[j]? = some t → args[j]? = some v → Value.okWide Tryd.prog W .any base t v)
    (hW : DataW.Whole enc Tryd.prog Tryd.f8.params.toList Rows.scalJoinsSpec.vars false W args.toList ds gs before) (hL : laidMetH Tryd.prog Rows.scalJoinsRow.laid W) :
    Calls Tryd.prog 8 args W fun e W' => ∃ v, e = .returned v ∧ Rows.scalJoinsSpec.post enc Tryd.prog Tryd.f8 false true false false W args v W' := by
  have hW' := hW
  obtain ⟨p, q, hA0, hV, rfl, hfz, hnd⟩ := hW
  have hA : DataW.TrodAll enc Tryd.prog W 0 (fun _ => true) true Tryd.f8.params.toList args.toList ds p := hA0
  rw [Tryd.params8] at hA hval
  obtain ⟨v0, vs0, d0, ds0, p0, q0, hargs, rfl, rfl, h0, r0⟩ := trodAll_cons hA
  obtain ⟨v1, vs1, d1, ds1, p1, q1, rfl, rfl, rfl, h1, r1⟩ := trodAll_cons r0
  obtain ⟨rfl, rfl, rfl⟩ := trodAll_nil r1
  obtain rfl : args = #[v0, v1] := by cases args; simp_all
  obtain ⟨rfl, rfl⟩ := trodVars_none hV
  obtain ⟨a0, len0, cap0, rfl⟩ := okWide_slice Tryd.underlying37 (hval 0 37 v0 rfl rfl)
  have k0 := h0
  have lt0 : ∀ x ∈ p0, x.block < W.heap.size := by obtain ⟨m, hm⟩ := k0; exact DataW.trod_lt m _ _ _ hm
  obtain ⟨x0, b0, off0, hcap0, hmax0, ha0, hb0, hx0, hc0⟩ := ints_view h0
  obtain ⟨a1, len1, cap1, rfl⟩ := okWide_slice Tryd.underlying22 (hval 1 22 v1 rfl rfl)
  have k1 := h1
  have lt1 : ∀ x ∈ p1, x.block < W.heap.size := by obtain ⟨m, hm⟩ := k1; exact DataW.trod_lt m _ _ _ hm
  have hnone1 := fun (h : a1 = none) => bytes_none h1 h
  obtain ⟨x1, b1, off1, hcap1, hmax1, ha1, hb1, hx1, hc1⟩ := bytes_view h1
  clear hA0
  obtain ⟨hT, hz⟩ := tabs_of hL
  refine (walk a0 len0 cap0 x0 b0 off0 a1 len1 cap1 x1 b1 off1 W ha0 hb0 hx0 hc0 hmax0 hcap0 hcap1 hmax1 ha1 hnone1 hb1 hz hx1 hT hc1).mono fun e W' ⟨he, bel⟩ => ?_
  subst he
  exact ⟨_, rfl, _, _, _, [], _, [], hW', trodAll_mk1 (shut_bool Tryd.underlying4 _), (trodAll_cons_mk (Below.trod laidOut (by kernel_rfl) (of_decide_eq_true (by kernel_rfl)) k0 bel lt0) (trodAll_cons_mk (Below.trod laidOut (by kernel_rfl) (of_decide_eq_true (by kernel_rfl)) k1 bel lt1) trodAll_mk0)), rfl, bel.frame _, fun h => by cases h⟩

theorem reads (os : Os) {H : Type} (enc : TypeId × Value → H) : ∃ places, DataW.whole enc Tryd.prog ((laidWorld Tryd.prog os).forCall (fun _ _ => 0) ⟨#[], #[.slice none 0 0, .slice none 0 0], []⟩).memory Tryd.f8.params.toList Rows.scalJoinsSpec.vars false (#[.slice none 0 0, .slice none 0 0] : Array Value).toList 8 = some ([.nil, .nil], [], places) :=
  ⟨[], by kernel_rfl⟩

set_option maxRecDepth 100000 in
theorem lifted (os : Os) (started : os.Started) (H : Type) (enc : TypeId × Value → H) (F : Stop.Interp) :
    ReturnsInHanded {} Tryd.checked os 8 .any ((OpenSpec.ofChange Rows.scalJoinsSpec).preRow enc Tryd.prog Tryd.f8 Rows.scalJoinsRow.domain false Rows.scalJoinsRow.laid) (((OpenSpec.ofChange Rows.scalJoinsSpec).at F).post enc Tryd.prog Tryd.f8 false true false false) := by
  obtain ⟨places, hx⟩ := reads os enc
  refine returnsInHanded_of_row (C := Tryd.checked) (s := OpenSpec.ofChange Rows.scalJoinsSpec) own started (by kernel_rfl) Tryd.func8
    (witness_row_at (enc := enc) (C := Tryd.checked) false (laidWorld Tryd.prog os) #[.slice none 0 0, .slice none 0 0] rfl (by kernel_rfl) (by kernel_rfl) (by kernel_rfl)
      (OpenSpec.preRow_of_cond 8 hx (by kernel_rfl) (fun k hk => by cases hk) (by kernel_rfl) (laid_met os _))) ?_
  intro W base args ds gs before hval hW _ _ _ hL _ _
  exact contract H enc W base args ds gs before hval hW hL

theorem said : Rows.ScalJoinsSaid :=
  OpenClaim.holds_of_cond 8 Tryd.f8 rfl rfl rfl rfl rfl rfl rfl ⟨rfl, rfl, rfl, rfl, rfl⟩ rfl rfl rfl rfl rfl (by kernel_rfl) Tryd.func8 (by kernel_rfl)
    (of_decide_eq_true (by kernel_rfl)) (by unfold Func.isWrapper; first | (rw [if_pos (by decide +kernel)]; kernel_rfl) | (rw [if_neg (by decide +kernel)]; exact ⟨rfl, rfl⟩))
    (fun os started H enc _ F => by rw [OpenClaim.pre_eq_preRow]; exact lifted os started H enc F)

theorem plain (f : FuncId) (fn : Func) (hf : Tryd.pinned.checked.prog.funcNamed "stanza/stanzalaw01.ScalJoins" = some f) (hfn : Tryd.pinned.checked.prog.funcs[f]? = some fn) :
    false = Tryd.pinned.checked.prog.looks [] ∧ ∀ (j : Nat) t, fn.params[j]? = some t → Tryd.pinned.checked.prog.wantsStandIn t = false := by
  obtain rfl : f = 8 := Option.some.inj ((show Tryd.prog.funcNamed "stanza/stanzalaw01.ScalJoins" = some 8 by kernel_rfl).symm.trans hf) |>.symm
  obtain rfl : fn = Tryd.f8 := (Option.some.inj (Tryd.func8.symm.trans hfn)).symm
  refine ⟨by kernel_rfl, fun j t ht => ?_⟩
  rw [Tryd.params8] at ht
  have hm : t ∈ [37, 22] := by simpa using Array.mem_of_getElem? ht
  have hall : ([37, 22].all fun u => !Tryd.prog.wantsStandIn u) = true := by kernel_rfl
  exact (show Tryd.prog.wantsStandIn t = false by simpa using List.all_eq_true.1 hall t hm)

/-- THE CARD. -/
theorem card : Rows.ScalJoinsCardSaid :=
  Claim7.holds_tied_plain_at .later [] _ _ _ _ said (fun _ h => by cases h) (by kernel_rfl) (fun _ h => by cases h) scalJoins_row_tie rfl ⟨rfl, rfl⟩ (by kernel_rfl) rfl plain (by kernel_rfl)
end Go.Proofs.YtaddjinjfdignaaDoor.scalJoins
namespace Go.Proofs.YtaddjinjfdignaaDoor
/-- THE STATEMENT. -/
theorem scalJoinsCard_holds : Rows.ScalJoinsCardSaid := scalJoins.card
#print axioms scalJoinsCard_holds
end Go.Proofs.YtaddjinjfdignaaDoor
