/-
  The reference's SameAuto, of two automata that are the same; its Make as a whole.
-/
import Derived.Test.YtfbcijnacbfjpaaRm0x
import Derived.Test.YtfbcijnacbfjpaaAwkx
import Derived.Deep.QuietTactic
import Derived.BigQuiet
import Derived.Test.YtfbcijnacbfjpaaRm2x
namespace Go.Proofs.Ytfbcijnacbfjpaa
open Go.RowKit Go.Maps
set_option linter.unusedVariables false
set_option linter.unusedSimpArgs false
open Rl (Ex)
theorem natI_at {w : World} {base n : Nat} {v : Value} {l : List Nat} (h : w.ownsRow base 3 1 v n (natI l)) (hn : n = l.length) {k x : Nat} (hk : l[k]? = some x) : ∃ g cap, v = .slice (some ⟨g, 0, none⟩) n cap ∧ w.cell? ⟨g, k, none⟩ = some (.int .i64 (x : Int)) := by
  have hlt : k < l.length := (List.getElem?_eq_some_iff.1 hk).1
  obtain ⟨g, cap, hv, _, _, _, hc⟩ := row_form h (by omega)
  refine ⟨g, cap, hv, ?_⟩
  rw [hc k (by omega)]
  unfold natI
  rw [List.getElem?_map, hk]; rfl
set_option maxRecDepth 100000 in
set_option maxHeartbeats 4000000 in
theorem sameNats_any (l : List Nat) (B B' : Nat) (a a' : Option Addr) (c c' : Nat) (w : World) (h1 : w.ownsRow B 3 1 (.slice a l.length c) l.length (natI l)) (h2 : w.ownsRow B' 3 1 (.slice a' l.length c') l.length (natI l)) (hl : l.length ≤ 1000) :
    Calls Try.prog 22 #[.slice a l.length c, .slice a' l.length c'] w fun e w' => e = .returned (.bool true) ∧ ∃ n, w' = w.drewN n := by
  have H1 : Hid (w.ownsRow B 3 1 (.slice a l.length c) l.length (natI l)) := h1
  have H2 : Hid (w.ownsRow B' 3 1 (.slice a' l.length c') l.length (natI l)) := h2
  clear h1 h2
  obtain ⟨n, hn⟩ : ∃ n, n = l.length := ⟨_, rfl⟩
  have Hn : Hid (n = l.length) := hn
  rw [← hn] at hl ⊢
  rw [← hn] at H1 H2
  clear hn
  go_enter Try.func22, Try.ntmps22
  go_wp2_with fail
  go_loopg [5] n (fun g v wr => ∃ (k m : Nat), g = n - k ∧ k ≤ n ∧ v = .int .i64 (k : Int) ∧ wr = w.drewN m)
  case atStart => exact ⟨0, 0, rfl, Nat.zero_le _, rfl, rfl⟩
  case round =>
    obtain ⟨k, m, rfl, hk, rfl, rfl⟩ := hrel
    by_cases hlt : k < n
    · have t1 : (k : Int) < (n : Int) := by omega
      obtain ⟨x, hx⟩ : ∃ x, l[k]? = some x := ⟨l[k]'(by rw [← Hn.out]; omega), List.getElem?_eq_getElem _⟩
      obtain ⟨g, cap, hv, hc⟩ := natI_at H1.out Hn.out hx
      obtain ⟨g', cap', hv', hc'⟩ := natI_at H2.out Hn.out hx
      have e0 : a = some ⟨g, 0, none⟩ := by injection hv
      have e0' : a' = some ⟨g', 0, none⟩ := by injection hv'
      subst e0 e0'
      clear hv hv' hx
      go_wp2_with fail
      go_quiet (fail)
      go_wp2_with fail
      go_roundg (n - (k + 1))
      case measure => omega
      case rel => exact ⟨k + 1, _, rfl, by omega, by go_num, rfl⟩
    · have t2 : decide ((k : Int) < (n : Int)) = false := decide_eq_false (by omega)
      go_wp2_with fail
      go_ret
      exact ⟨rfl, m, rfl⟩
theorem Ra.keep {w w' : World} {lo : Nat} {v : Value} {nx : List (List Nat)} {o : List Nat} (h : Ra w lo v nx o) (ho : Only (fun _ => False) w w') : Ra w' lo v nx o := by
  obtain ⟨vX, vO, rows, h1, h2, h3, h4, h5⟩ := h
  exact ⟨vX, vO, rows, h1, h2, own_only h3 ho (fun _ _ h => h), fun i r L hr hL => own_only (h4 i r L hr hL) ho (fun _ _ h => h), own_only h5 ho (fun _ _ h => h)⟩
theorem Ra.none (w : World) (lo : Nat) : Ra w lo noAut [] [] := ⟨_, _, [], rfl, rfl, World.ownsRow_nil _ _ _ _, (fun i r L h => by cases h), World.ownsRow_nil _ _ _ _⟩
theorem Aut.ra {W : World} {lo cl : Nat} {v : Value} {nx : List (List Nat)} {o : List Nat} (h : Aut W lo cl v nx o) (hcl : cl ≤ 24) : Ra W lo v nx o ∧ ∀ L ∈ nx, L.length ≤ 1000 := by
  obtain ⟨rows, vN, vO, h1, h2, h3, h4, h5⟩ := h
  subst h2
  refine ⟨⟨vN, vO, rows.map (rowV cl), h1, by simp, by rw [List.length_map]; exact h3, fun i r L hr hL => ?_, h4⟩, fun L hL => ?_⟩
  · rw [List.getElem?_map] at hr hL
    cases hx : rows[i]? with
    | none => rw [hx] at hr; cases hr
    | some x =>
      rw [hx] at hr hL
      injection hr with hr
      injection hL with hL
      subst hr hL
      obtain ⟨b1, b2, b3⟩ := h5 x (List.mem_of_getElem? hx)
      rw [b3]
      refine ⟨by simp [natI, b3], Or.inr ⟨x.1, cl, wcs x.2 cl, rfl, b1, b2, Nat.le_refl _, by unfold maxLen; omega, by rw [wcs_size, Nat.mul_one], ?_⟩⟩
      apply List.ext_getElem?
      intro j
      rw [List.getElem?_take]
      by_cases hj : j < cl
      · rw [if_pos (by omega), Array.getElem?_toList, wcs_at _ _ _ hj]
        unfold natI
        rw [List.getElem?_map, List.getElem?_eq_getElem (by rw [b3]; exact hj)]
        rfl
      · rw [if_neg (by omega)]
        unfold natI
        rw [List.getElem?_map, List.getElem?_eq_none (by rw [b3]; omega)]
        rfl
  · obtain ⟨x, hx, rfl⟩ := List.mem_map.1 hL
    rw [(h5 x hx).2.2]
    omega
theorem own_max {w : World} {base e size n : Nat} {v : Value} {xs : List Value} (h : w.ownsRow base e size v n xs) : n ≤ maxLen := by
  obtain ⟨_, ⟨_, h0⟩ | ⟨g, cap, cur, _, _, _, h1, h2, _⟩⟩ := h
  · rw [h0]; exact Nat.zero_le _
  · exact Nat.le_trans h1 h2
set_option maxRecDepth 100000 in
set_option maxHeartbeats 4000000 in
theorem same_auto (lo lo' : Nat) (v v' : Value) (nx : List (List Nat)) (o : List Nat) (w : World) (h : Ra w lo v nx o) (h' : Ra w lo' v' nx o) (hL : ∀ L ∈ nx, L.length ≤ 1000) :
    Calls Try.prog 13 #[v, v'] w fun e w' => e = .returned (.bool true) ∧ Only (fun _ => False) w w' := by
  obtain ⟨vX, vO, rows, rfl, h2, h3, h4, h5⟩ := h
  obtain ⟨vX', vO', rows', rfl, h2', h3', h4', h5'⟩ := h'
  have hm1 := own_max h3
  have hm2 := own_max h5
  have H3 : Hid (w.ownsRow lo 43 1 vX rows.length rows) := h3
  have H3' : Hid (w.ownsRow lo' 43 1 vX' rows'.length rows') := h3'
  have H4 : Hid (∀ (i : Nat) (r : Value) (L : List Nat), rows[i]? = some r → nx[i]? = some L → w.ownsRow lo 3 1 r L.length (natI L)) := h4
  have H4' : Hid (∀ (i : Nat) (r : Value) (L : List Nat), rows'[i]? = some r → nx[i]? = some L → w.ownsRow lo' 3 1 r L.length (natI L)) := h4'
  have H5 : Hid (w.ownsRow lo 47 1 vO o.length (o.map u32V)) := h5
  have H5' : Hid (w.ownsRow lo' 47 1 vO' o.length (o.map u32V)) := h5'
  have HLL : Hid (∀ L ∈ nx, L.length ≤ 1000) := hL
  obtain ⟨aX, cX, rfl⟩ := own_form h3
  obtain ⟨aX', cX', rfl⟩ := own_form h3'
  obtain ⟨aO, cO, rfl⟩ := own_form h5
  obtain ⟨aO', cO', rfl⟩ := own_form h5'
  rw [h2'] at H3' ⊢
  rw [h2] at H3 hm1 ⊢
  obtain ⟨n, hn⟩ : ∃ n, n = nx.length := ⟨_, rfl⟩
  have HN : Hid (n = nx.length) := hn
  have HR : Hid (rows.length = n ∧ rows'.length = n) := ⟨by rw [h2, hn], by rw [h2', hn]⟩
  rw [← hn] at H3 H3' hm1 ⊢
  obtain ⟨k, hk⟩ : ∃ k, k = o.length := ⟨_, rfl⟩
  have HK : Hid (k = o.length) := hk
  rw [← hk] at H5 H5' hm2 ⊢
  unfold maxLen at hm1 hm2
  clear h2 h2' h3 h3' h4 h4' h5 h5' hL hn hk
  have B0 : Hid (((w.alloc (.cells #[.slice aX n cX, .slice aO k cO] 33)).alloc (.cells #[.slice aX' n cX', .slice aO' k cO'] 33)).heap[w.heap.size]? = some (.cells #[.slice aX n cX, .slice aO k cO] 33 (0, 0))) := (Below.heap_alloc _ _ _ (by simp)).trans (heap_alloc_new _ _)
  have B1 : Hid (((w.alloc (.cells #[.slice aX n cX, .slice aO k cO] 33)).alloc (.cells #[.slice aX' n cX', .slice aO' k cO'] 33)).heap[w.heap.size + 1]? = some (.cells #[.slice aX' n cX', .slice aO' k cO'] 33 (0, 0))) := heap_alloc2_new _ _ _
  have OA : Hid (Only (fun _ => False) w ((w.alloc (.cells #[.slice aX n cX, .slice aO k cO] 33)).alloc (.cells #[.slice aX' n cX', .slice aO' k cO'] 33))) := ((Only.refl _ _).alloc _).alloc _
  go_enter Try.func13, Try.ntmps13
  go_wp2_with fail
  go_loopg [5] k (fun gh v wr => ∃ (i : Nat) (W : World), W = wr ∧ gh = k - i ∧ i ≤ k ∧ v = .int .i64 (i : Int) ∧ Only (fun _ => False) w W ∧ W.heap[w.heap.size]? = some (.cells #[.slice aX n cX, .slice aO k cO] 33 (0, 0)) ∧ W.heap[w.heap.size + 1]? = some (.cells #[.slice aX' n cX', .slice aO' k cO'] 33 (0, 0)))
  case atStart => exact ⟨0, _, rfl, rfl, Nat.zero_le _, rfl, OA.out, B0.out, B1.out⟩
  case round =>
    obtain ⟨i, W, hW, rfl, hi, rfl, hO, hb0, hb1⟩ := hrel
    subst hW
    have HO : Hid (Only (fun _ => False) w W) := hO
    have HB0 : Hid (W.heap[w.heap.size]? = some (.cells #[.slice aX n cX, .slice aO k cO] 33 (0, 0))) := hb0
    have HB1 : Hid (W.heap[w.heap.size + 1]? = some (.cells #[.slice aX' n cX', .slice aO' k cO'] 33 (0, 0))) := hb1
    have y0 : W.cell? ⟨w.heap.size, 0, none⟩ = some (.slice aX n cX) := cell_blk hb0
    have y1 : W.cell? ⟨w.heap.size, 1, none⟩ = some (.slice aO k cO) := cell_blk hb0
    have y2 : W.cell? ⟨w.heap.size + 1, 0, none⟩ = some (.slice aX' n cX') := cell_blk hb1
    have y3 : W.cell? ⟨w.heap.size + 1, 1, none⟩ = some (.slice aO' k cO') := cell_blk hb1
    have hl1 : w.heap.size + 1 < W.heap.size := (Array.getElem?_eq_some_iff.1 hb1).1
    have hl0 : w.heap.size < W.heap.size := by omega
    clear hO hb0 hb1 B0 B1 OA
    by_cases hlt : i < k
    · have t1 : (i : Int) < (k : Int) := by omega
      obtain ⟨x, hx⟩ : ∃ x, o[i]? = some x := ⟨_, List.getElem?_eq_getElem (by rw [← HK.out]; omega)⟩
      obtain ⟨g, cap, hv, _, hgl, _, hc⟩ := row_form H5.out (by omega)
      obtain ⟨g', cap', hv', _, hgl', _, hc'⟩ := row_form H5'.out (by omega)
      have e1 : aO = some ⟨g, 0, none⟩ := by injection hv
      have e1' : aO' = some ⟨g', 0, none⟩ := by injection hv'
      subst e1 e1'
      clear hv hv'
      have z0 := keep0 HO.out (show w.cell? ⟨g, i, none⟩ = some (.int .u32 (x : Int)) by rw [hc i (by omega), List.getElem?_map, hx]; rfl)
      have z1 := keep0 HO.out (show w.cell? ⟨g', i, none⟩ = some (.int .u32 (x : Int)) by rw [hc' i (by omega), List.getElem?_map, hx]; rfl)
      have g1 : g < W.heap.size := World.block_lt_of_cell? W _ z0
      have g2 : g' < W.heap.size := World.block_lt_of_cell? W _ z1
      clear hc hc' hx
      go_wp2_with fail
      go_quiet (fail)
      go_wp2_with fail
      go_roundg (k - (i + 1))
      case measure => omega
      case rel => exact ⟨i + 1, _, rfl, rfl, by omega, by go_num, HO.out.drewN _, HB0.out, HB1.out⟩
    · have t2 : decide ((i : Int) < (k : Int)) = false := decide_eq_false (by omega)
      go_wp2_with fail
      go_loopg [6] n (fun gh v wr => ∃ (j : Nat) (V : World), V = wr ∧ gh = n - j ∧ j ≤ n ∧ v = .int .i64 (j : Int) ∧ Only (fun _ => False) w V ∧ V.heap[w.heap.size]? = some (.cells #[.slice aX n cX, .slice aO k cO] 33 (0, 0)) ∧ V.heap[w.heap.size + 1]? = some (.cells #[.slice aX' n cX', .slice aO' k cO'] 33 (0, 0)))
      case atStart => exact ⟨0, _, rfl, rfl, Nat.zero_le _, rfl, HO.out, HB0.out, HB1.out⟩
      case round =>
        obtain ⟨j, V, hV, rfl, hj, rfl, hO2, hb0, hb1⟩ := hrel
        subst hV
        have HO2 : Hid (Only (fun _ => False) w V) := hO2
        have HB0' : Hid (V.heap[w.heap.size]? = some (.cells #[.slice aX n cX, .slice aO k cO] 33 (0, 0))) := hb0
        have HB1' : Hid (V.heap[w.heap.size + 1]? = some (.cells #[.slice aX' n cX', .slice aO' k cO'] 33 (0, 0))) := hb1
        have x0 : V.cell? ⟨w.heap.size, 0, none⟩ = some (.slice aX n cX) := cell_blk hb0
        have x2 : V.cell? ⟨w.heap.size + 1, 0, none⟩ = some (.slice aX' n cX') := cell_blk hb1
        have hv1 : w.heap.size + 1 < V.heap.size := (Array.getElem?_eq_some_iff.1 hb1).1
        have hv0 : w.heap.size < V.heap.size := by omega
        clear hO2 hb0 hb1 y0 y1 y2 y3 hl0 hl1 HB0 HB1
        by_cases hltj : j < n
        · have t3 : (j : Int) < (n : Int) := by omega
          obtain ⟨L, hLx⟩ : ∃ L, nx[j]? = some L := ⟨_, List.getElem?_eq_getElem (by rw [← HN.out]; omega)⟩
          obtain ⟨r, hr⟩ : ∃ r, rows[j]? = some r := ⟨_, List.getElem?_eq_getElem (by rw [HR.out.1]; omega)⟩
          obtain ⟨r', hr'⟩ : ∃ r, rows'[j]? = some r := ⟨_, List.getElem?_eq_getElem (by rw [HR.out.2]; omega)⟩
          have q1 := H4.out j r L hr hLx
          have q2 := H4'.out j r' L hr' hLx
          obtain ⟨ar, cr, rfl⟩ := own_form q1
          obtain ⟨ar', cr', rfl⟩ := own_form q2
          obtain ⟨g, cap, hv, _, hgl, _, hc⟩ := row_form H3.out (by omega)
          obtain ⟨g', cap', hv', _, hgl', _, hc'⟩ := row_form H3'.out (by omega)
          have e1 : aX = some ⟨g, 0, none⟩ := by injection hv
          have e1' : aX' = some ⟨g', 0, none⟩ := by injection hv'
          subst e1 e1'
          clear hv hv'
          have z0 := keep0 HO2.out (show w.cell? ⟨g, j, none⟩ = some (.slice ar L.length cr) by rw [hc j (by omega)]; exact hr)
          have z1 := keep0 HO2.out (show w.cell? ⟨g', j, none⟩ = some (.slice ar' L.length cr') by rw [hc' j (by omega)]; exact hr')
          have g1 : g < V.heap.size := World.block_lt_of_cell? V _ z0
          have g2 : g' < V.heap.size := World.block_lt_of_cell? V _ z1
          have HQ : Hid (∀ m, Calls Try.prog 22 #[.slice ar L.length cr, .slice ar' L.length cr'] (V.drewN m) fun e w' => e = .returned (.bool true) ∧ ∃ n, w' = (V.drewN m).drewN n) := fun m => sameNats_any L lo lo' ar ar' cr cr' (V.drewN m) (own_drewN (own_only q1 HO2.out (fun _ _ h => h)) m) (own_drewN (own_only q2 HO2.out (fun _ _ h => h)) m) (HLL.out L (List.mem_of_getElem? hLx))
          clear hc hc' hr hr' hLx q1 q2
          go_wp2_with fail
          go_region_with (go_at_call 22; refine (HQ.out 1).mono ?_; rintro e w9 ⟨rfl, m9, rfl⟩)
          all_goals
            go_wp2_with fail
            go_roundg (n - (j + 1))
            case measure => omega
            case rel => exact ⟨j + 1, _, rfl, rfl, by omega, by go_num, HO2.out.drewN _, HB0'.out, HB1'.out⟩
        · have t4 : decide ((j : Int) < (n : Int)) = false := decide_eq_false (by omega)
          go_wp2_with fail
          go_ret
          exact ⟨rfl, HO2.out⟩
end Go.Proofs.Ytfbcijnacbfjpaa
namespace Go.Proofs.Ytfbcijnacbfjpaa
open Go.RowKit Go.Maps
set_option linter.unusedVariables false
set_option linter.unusedSimpArgs false
open Rl (Ex)
theorem rmake_all (F : Nat → Prop) (es : List Ex) (a : Option Addr) (c : Nat) (cl : Int) (w : World) (hL : Lex w F es a c) (hF : ∀ b, F b → b < w.heap.size) (hN : Nns es) (hT : Au.cnts es ≤ 1000000000000000) :
    Calls Try.prog 12 #[.slice a es.length c, .int .i64 cl] w (rmakeP w (Au.make es cl)) := by
  by_cases h : cl < 1 ∨ 24 < cl ∨ 24 < es.length
  · have e : Au.make es cl = .error 1 := by unfold Au.make; rw [if_pos h]
    rw [e]
    exact rmake_range a es.length c cl w (by omega)
  · obtain ⟨n, rfl⟩ : ∃ n : Nat, cl = (n : Int) := ⟨cl.toNat, by omega⟩
    have hmk : Au.make es (n : Int) = match Au.all es [] Au.pl0 with
      | none => .error 2
      | some (nd, p) => match Au.states p nd (orF nd) n 301 0 [0] [] [] with
        | none => .error 3
        | some r => .ok r := by
      unfold Au.make
      rw [if_neg h]
      rfl
    have hc := all_cnt es [] Au.pl0 (by decide)
    have h0 : Au.pl0.sets.length = 0 := rfl
    rw [hmk]
    cases ha : Au.all es [] Au.pl0 with
    | none =>
      rw [ha] at hc
      simp only [h0] at hc
      exact rmake_places F es a c n w hL (by omega) (by omega) (by omega) hN hT (by omega)
    | some r =>
      obtain ⟨l, p⟩ := r
      rw [ha] at hc
      simp only [h0] at hc
      exact rmake_in F es a c n w hL hF (by omega) (by omega) (by omega) hN (by omega) l p ha _ rfl
theorem Lex.keep {w w' : World} {F F' : Nat → Prop} {es : List Ex} {a : Option Addr} {c : Nat} (h : Lex w F es a c) (ho : Only (fun _ => False) w w') (hF : ∀ b, F b → F' b) : Lex w' F' es a c := by
  refine ⟨h.1, fun hn => ?_⟩
  obtain ⟨b, off, h1, h2, h3⟩ := h.2 hn
  exact ⟨b, off, h1, hF b h2, Tes.keep (Kp.only ho (fun _ _ h => h)) hF es b off h2 h3⟩
/-- both makers, one behind the other: what is held against one another is the same. -/
theorem mk_both (es : List Ex) (a : Option Addr) (c : Nat) (cl : Int) (w : World) (hL : Lex w (fun b => b < w.heap.size) es a c) (hN : Nns es) (hT : Au.cnts es ≤ 1000000000000000) (hD : ∀ e ∈ es, Au.dp e ≤ 1000000) :
    Calls Try.prog 11 #[.slice a es.length c, .int .i64 cl] w fun e w1 => ∃ (aN : Option Addr) (nN cN : Nat) (aO : Option Addr) (nO cO : Nat) (k : Int), e = .returned (.tuple #[.agg #[.slice aN nN cN, .slice aO nO cO], .int .i64 k]) ∧ Only (fun _ => False) w w1 ∧ ∀ w1', w1' = w1.alloc (.cells #[.slice aN nN cN, .slice aO nO cO] 33) →
      Calls Try.prog 12 #[.slice a es.length c, .int .i64 cl] w1' fun e w2 => ∃ (aM : Option Addr) (nM cM : Nat) (aP : Option Addr) (nP cP : Nat), e = .returned (.tuple #[.agg #[.slice aM nM cM, .slice aP nP cP], .int .i64 k]) ∧ Only (fun _ => False) w1' w2 ∧ ∀ w2', w2' = w2.alloc (.cells #[.slice aM nM cM, .slice aP nP cP] 33) →
        Calls Try.prog 13 #[.agg #[.slice aN nN cN, .slice aO nO cO], .agg #[.slice aM nM cM, .slice aP nP cP]] w2' fun e w3 => e = .returned (.bool true) ∧ Only (fun _ => False) w2' w3 := by
  refine (make_all (fun b => b < w.heap.size) es a c cl w hL (fun _ h => h) hD).mono ?_
  rintro e w1 ⟨h1, ho1⟩
  have hrm : ∀ w1', Only (fun _ => False) w w1' → Calls Try.prog 12 #[.slice a es.length c, .int .i64 cl] w1' (rmakeP w1' (Au.make es cl)) := fun w1' ho => rmake_all (fun b => b < w1'.heap.size) es a c cl w1' (hL.keep ho (fun b hb => Nat.lt_of_lt_of_le hb ho.size)) (fun _ h => h) hN hT
  cases hm : Au.make es cl with
  | error k =>
    rw [hm] at h1 hrm
    simp only at h1
    subst h1
    refine ⟨none, 0, 0, none, 0, 0, errN k, rfl, ho1, ?_⟩
    rintro w1' rfl
    refine (hrm _ (ho1.alloc _)).mono ?_
    rintro e w2 ⟨h2, ho2⟩
    simp only at h2
    subst h2
    refine ⟨none, 0, 0, none, 0, 0, rfl, ho2, ?_⟩
    rintro w2' rfl
    exact same_auto 0 0 noAut noAut [] [] _ (Ra.none _ _) (Ra.none _ _) (fun L hL => by cases hL)
  | ok r =>
    obtain ⟨nx, o⟩ := r
    have hcl : cl.toNat ≤ 24 := by
      unfold Au.make at hm
      split at hm
      · cases hm
      · omega
    rw [hm] at h1 hrm
    obtain ⟨v, rfl, hA⟩ := h1
    obtain ⟨hR, hLs⟩ := hA.ra hcl
    obtain ⟨aN, cN, aO, cO, rfl⟩ := hA.form
    refine ⟨aN, _, cN, aO, _, cO, 0, rfl, ho1, ?_⟩
    rintro w1' rfl
    refine (hrm _ (ho1.alloc _)).mono ?_
    rintro e w2 ⟨⟨v2, rfl, hR2⟩, ho2⟩
    have hR2' := hR2
    obtain ⟨vX, vO, rows, rfl, q1, q2, q3, q4⟩ := hR2
    obtain ⟨aM, cM, rfl⟩ := own_form q2
    obtain ⟨aP, cP, rfl⟩ := own_form q4
    refine ⟨aM, _, cM, aP, _, cP, rfl, ho2, ?_⟩
    rintro w2' rfl
    exact same_auto _ _ _ _ nx o _ (((hR.keep ((Only.refl _ _).alloc _)).keep ho2).keep ((Only.refl _ _).alloc _)) (hR2'.keep ((Only.refl _ _).alloc _)) hLs
end Go.Proofs.Ytfbcijnacbfjpaa
