/-
  The reference's SameAuto, of two automata that are the same.
-/
import Derived.Test.YtelifjeppegcmaaNm
import Derived.Deep.QuietTactic
import Derived.BigQuiet
namespace Go.Proofs.Ytelifjeppegcmaa
open Go.RowKit Go.Maps
set_option linter.unusedVariables false
set_option linter.unusedSimpArgs false
theorem keep0 {w w' : World} {b k : Nat} {v : Value} (h : Only (fun _ => False) w w') (hc : w.cell? ⟨b, k, none⟩ = some v) : w'.cell? ⟨b, k, none⟩ = some v := (World.cell?_of_block (a := ⟨b, k, none⟩) (h.block b (World.block_lt_of_cell? w _ hc) (fun h => h))).trans hc
theorem own_drewN {w : World} {base e size n : Nat} {v : Value} {xs : List Value} (h : w.ownsRow base e size v n xs) (m : Nat) : (w.drewN m).ownsRow base e size v n xs := own_only h ((Only.refl (fun _ => False) w).drewN m) (fun _ _ h => h)
theorem heap_alloc2_new (w : World) (o p : Obj) : ((w.alloc o).alloc p).heap[w.heap.size + 1]? = some p := by
  have := heap_alloc_new (w.alloc o) p
  rw [show (w.alloc o).heap.size = w.heap.size + 1 by simp] at this
  exact this
theorem natI_at {w : World} {base n : Nat} {v : Value} {l : List Nat} (h : w.ownsRow base 3 1 v n (natI l)) (hn : n = l.length) {k x : Nat} (hk : l[k]? = some x) : ∃ g cap, v = .slice (some ⟨g, 0, none⟩) n cap ∧ w.cell? ⟨g, k, none⟩ = some (.int .i64 (x : Int)) := by
  have hlt : k < l.length := (List.getElem?_eq_some_iff.1 hk).1
  obtain ⟨g, cap, hv, _, _, _, hc⟩ := row_form h (by omega)
  refine ⟨g, cap, hv, ?_⟩
  rw [hc k (by omega)]
  unfold natI
  rw [List.getElem?_map, hk]; rfl
set_option maxRecDepth 100000 in
set_option maxHeartbeats 4000000 in
theorem sameNats_any (l : List Nat) (B B' : Nat) (a a' : Option Addr) (c c' : Nat) (w : World) (h1 : w.ownsRow B 3 1 (.slice a l.length c) l.length (natI l)) (h2 : w.ownsRow B' 3 1 (.slice a' l.length c') l.length (natI l)) (hl : l.length ≤ 1000) :
    Calls Try.prog 17 #[.slice a l.length c, .slice a' l.length c'] w fun e w' => e = .returned (.bool true) ∧ ∃ n, w' = w.drewN n := by
  have H1 : Hid (w.ownsRow B 3 1 (.slice a l.length c) l.length (natI l)) := h1
  have H2 : Hid (w.ownsRow B' 3 1 (.slice a' l.length c') l.length (natI l)) := h2
  clear h1 h2
  obtain ⟨n, hn⟩ : ∃ n, n = l.length := ⟨_, rfl⟩
  have Hn : Hid (n = l.length) := hn
  rw [← hn] at hl ⊢
  rw [← hn] at H1 H2
  clear hn
  go_enter Try.func17, Try.ntmps17
  go_wp2_with fail
  go_loopg [5] n (fun g v wr => ∃ (k m : Nat), g = n - k ∧ k ≤ n ∧ v = .int .i64 (k : Int) ∧ wr = w.drewN m)
  case atStart => exact ⟨0, 0, rfl, Nat.zero_le _, rfl, rfl⟩
  case round =>
    obtain ⟨k, m, rfl, hk, rfl, rfl⟩ := hrel
    by_cases hlt : k < n
    · have t1 : (k : Int) < (n : Int) := by omega
      obtain ⟨x, hx⟩ : ∃ x, l[k]? = some x := ⟨l[k]'(by rw [← Hn.out]; omega), List.getElem?_eq_getElem _⟩
      obtain ⟨g, cap, hv, hc⟩ := natI_at H1.out Hn.out hx
      obtain ⟨g', cap', hv', hc'⟩ := natI_at H2.out Hn.out hx
      have e0 : a = some ⟨g, 0, none⟩ := by injection hv
      have e0' : a' = some ⟨g', 0, none⟩ := by injection hv'
      subst e0 e0'
      clear hv hv' hx
      go_wp2_with fail
      go_quiet (fail)
      go_wp2_with fail
      go_roundg (n - (k + 1))
      case measure => omega
      case rel => exact ⟨k + 1, _, rfl, by omega, by go_num, rfl⟩
    · have t2 : decide ((k : Int) < (n : Int)) = false := decide_eq_false (by omega)
      go_wp2_with fail
      go_ret
      exact ⟨rfl, m, rfl⟩
theorem own_max {w : World} {base e size n : Nat} {v : Value} {xs : List Value} (h : w.ownsRow base e size v n xs) : n ≤ maxLen := by
  obtain ⟨_, ⟨_, h0⟩ | ⟨g, cap, cur, _, _, _, h1, h2, _⟩⟩ := h
  · rw [h0]; exact Nat.zero_le _
  · exact Nat.le_trans h1 h2
set_option maxRecDepth 100000 in
set_option maxHeartbeats 4000000 in
theorem same_auto (lo lo' : Nat) (v v' : Value) (nx : List (List Nat)) (o : List Nat) (w : World) (h : Ra w lo v nx o) (h' : Ra w lo' v' nx o) (hL : ∀ L ∈ nx, L.length ≤ 1000) :
    Calls Try.prog 13 #[v, v'] w fun e w' => e = .returned (.bool true) ∧ Only (fun _ => False) w w' := by
  obtain ⟨vX, vO, rows, rfl, h2, h3, h4, h5⟩ := h
  obtain ⟨vX', vO', rows', rfl, h2', h3', h4', h5'⟩ := h'
  have hm1 := own_max h3
  have hm2 := own_max h5
  have H3 : Hid (w.ownsRow lo 23 1 vX rows.length rows) := h3
  have H3' : Hid (w.ownsRow lo' 23 1 vX' rows'.length rows') := h3'
  have H4 : Hid (∀ (i : Nat) (r : Value) (L : List Nat), rows[i]? = some r → nx[i]? = some L → w.ownsRow lo 3 1 r L.length (natI L)) := h4
  have H4' : Hid (∀ (i : Nat) (r : Value) (L : List Nat), rows'[i]? = some r → nx[i]? = some L → w.ownsRow lo' 3 1 r L.length (natI L)) := h4'
  have H5 : Hid (w.ownsRow lo 38 1 vO o.length (o.map u32V)) := h5
  have H5' : Hid (w.ownsRow lo' 38 1 vO' o.length (o.map u32V)) := h5'
  have HLL : Hid (∀ L ∈ nx, L.length ≤ 1000) := hL
  obtain ⟨aX, cX, rfl⟩ := own_form h3
  obtain ⟨aX', cX', rfl⟩ := own_form h3'
  obtain ⟨aO, cO, rfl⟩ := own_form h5
  obtain ⟨aO', cO', rfl⟩ := own_form h5'
  rw [h2'] at H3' ⊢
  rw [h2] at H3 hm1 ⊢
  obtain ⟨n, hn⟩ : ∃ n, n = nx.length := ⟨_, rfl⟩
  have HN : Hid (n = nx.length) := hn
  have HR : Hid (rows.length = n ∧ rows'.length = n) := ⟨by rw [h2, hn], by rw [h2', hn]⟩
  rw [← hn] at H3 H3' hm1 ⊢
  obtain ⟨k, hk⟩ : ∃ k, k = o.length := ⟨_, rfl⟩
  have HK : Hid (k = o.length) := hk
  rw [← hk] at H5 H5' hm2 ⊢
  unfold maxLen at hm1 hm2
  clear h2 h2' h3 h3' h4 h4' h5 h5' hL hn hk
  have B0 : Hid (((w.alloc (.cells #[.slice aX n cX, .slice aO k cO] 27)).alloc (.cells #[.slice aX' n cX', .slice aO' k cO'] 27)).heap[w.heap.size]? = some (.cells #[.slice aX n cX, .slice aO k cO] 27 (0, 0))) := (Below.heap_alloc _ _ _ (by simp)).trans (heap_alloc_new _ _)
  have B1 : Hid (((w.alloc (.cells #[.slice aX n cX, .slice aO k cO] 27)).alloc (.cells #[.slice aX' n cX', .slice aO' k cO'] 27)).heap[w.heap.size + 1]? = some (.cells #[.slice aX' n cX', .slice aO' k cO'] 27 (0, 0))) := heap_alloc2_new _ _ _
  have OA : Hid (Only (fun _ => False) w ((w.alloc (.cells #[.slice aX n cX, .slice aO k cO] 27)).alloc (.cells #[.slice aX' n cX', .slice aO' k cO'] 27))) := ((Only.refl _ _).alloc _).alloc _
  go_enter Try.func13, Try.ntmps13
  go_wp2_with fail
  go_loopg [5] k (fun gh v wr => ∃ (i : Nat) (W : World), W = wr ∧ gh = k - i ∧ i ≤ k ∧ v = .int .i64 (i : Int) ∧ Only (fun _ => False) w W ∧ W.heap[w.heap.size]? = some (.cells #[.slice aX n cX, .slice aO k cO] 27 (0, 0)) ∧ W.heap[w.heap.size + 1]? = some (.cells #[.slice aX' n cX', .slice aO' k cO'] 27 (0, 0)))
  case atStart => exact ⟨0, _, rfl, rfl, Nat.zero_le _, rfl, OA.out, B0.out, B1.out⟩
  case round =>
    obtain ⟨i, W, hW, rfl, hi, rfl, hO, hb0, hb1⟩ := hrel
    subst hW
    have HO : Hid (Only (fun _ => False) w W) := hO
    have HB0 : Hid (W.heap[w.heap.size]? = some (.cells #[.slice aX n cX, .slice aO k cO] 27 (0, 0))) := hb0
    have HB1 : Hid (W.heap[w.heap.size + 1]? = some (.cells #[.slice aX' n cX', .slice aO' k cO'] 27 (0, 0))) := hb1
    have y0 : W.cell? ⟨w.heap.size, 0, none⟩ = some (.slice aX n cX) := cell_blk hb0
    have y1 : W.cell? ⟨w.heap.size, 1, none⟩ = some (.slice aO k cO) := cell_blk hb0
    have y2 : W.cell? ⟨w.heap.size + 1, 0, none⟩ = some (.slice aX' n cX') := cell_blk hb1
    have y3 : W.cell? ⟨w.heap.size + 1, 1, none⟩ = some (.slice aO' k cO') := cell_blk hb1
    have hl1 : w.heap.size + 1 < W.heap.size := (Array.getElem?_eq_some_iff.1 hb1).1
    have hl0 : w.heap.size < W.heap.size := by omega
    clear hO hb0 hb1 B0 B1 OA
    by_cases hlt : i < k
    · have t1 : (i : Int) < (k : Int) := by omega
      obtain ⟨x, hx⟩ : ∃ x, o[i]? = some x := ⟨_, List.getElem?_eq_getElem (by rw [← HK.out]; omega)⟩
      obtain ⟨g, cap, hv, _, hgl, _, hc⟩ := row_form H5.out (by omega)
      obtain ⟨g', cap', hv', _, hgl', _, hc'⟩ := row_form H5'.out (by omega)
      have e1 : aO = some ⟨g, 0, none⟩ := by injection hv
      have e1' : aO' = some ⟨g', 0, none⟩ := by injection hv'
      subst e1 e1'
      clear hv hv'
      have z0 := keep0 HO.out (show w.cell? ⟨g, i, none⟩ = some (.int .u32 (x : Int)) by rw [hc i (by omega), List.getElem?_map, hx]; rfl)
      have z1 := keep0 HO.out (show w.cell? ⟨g', i, none⟩ = some (.int .u32 (x : Int)) by rw [hc' i (by omega), List.getElem?_map, hx]; rfl)
      have g1 : g < W.heap.size := World.block_lt_of_cell? W _ z0
      have g2 : g' < W.heap.size := World.block_lt_of_cell? W _ z1
      clear hc hc' hx
      go_wp2_with fail
      go_quiet (fail)
      go_wp2_with fail
      go_roundg (k - (i + 1))
      case measure => omega
      case rel => exact ⟨i + 1, _, rfl, rfl, by omega, by go_num, HO.out.drewN _, HB0.out, HB1.out⟩
    · have t2 : decide ((i : Int) < (k : Int)) = false := decide_eq_false (by omega)
      go_wp2_with fail
      go_loopg [6] n (fun gh v wr => ∃ (j : Nat) (V : World), V = wr ∧ gh = n - j ∧ j ≤ n ∧ v = .int .i64 (j : Int) ∧ Only (fun _ => False) w V ∧ V.heap[w.heap.size]? = some (.cells #[.slice aX n cX, .slice aO k cO] 27 (0, 0)) ∧ V.heap[w.heap.size + 1]? = some (.cells #[.slice aX' n cX', .slice aO' k cO'] 27 (0, 0)))
      case atStart => exact ⟨0, _, rfl, rfl, Nat.zero_le _, rfl, HO.out, HB0.out, HB1.out⟩
      case round =>
        obtain ⟨j, V, hV, rfl, hj, rfl, hO2, hb0, hb1⟩ := hrel
        subst hV
        have HO2 : Hid (Only (fun _ => False) w V) := hO2
        have HB0' : Hid (V.heap[w.heap.size]? = some (.cells #[.slice aX n cX, .slice aO k cO] 27 (0, 0))) := hb0
        have HB1' : Hid (V.heap[w.heap.size + 1]? = some (.cells #[.slice aX' n cX', .slice aO' k cO'] 27 (0, 0))) := hb1
        have x0 : V.cell? ⟨w.heap.size, 0, none⟩ = some (.slice aX n cX) := cell_blk hb0
        have x2 : V.cell? ⟨w.heap.size + 1, 0, none⟩ = some (.slice aX' n cX') := cell_blk hb1
        have hv1 : w.heap.size + 1 < V.heap.size := (Array.getElem?_eq_some_iff.1 hb1).1
        have hv0 : w.heap.size < V.heap.size := by omega
        clear hO2 hb0 hb1 y0 y1 y2 y3 hl0 hl1 HB0 HB1
        by_cases hltj : j < n
        · have t3 : (j : Int) < (n : Int) := by omega
          obtain ⟨L, hLx⟩ : ∃ L, nx[j]? = some L := ⟨_, List.getElem?_eq_getElem (by rw [← HN.out]; omega)⟩
          obtain ⟨r, hr⟩ : ∃ r, rows[j]? = some r := ⟨_, List.getElem?_eq_getElem (by rw [HR.out.1]; omega)⟩
          obtain ⟨r', hr'⟩ : ∃ r, rows'[j]? = some r := ⟨_, List.getElem?_eq_getElem (by rw [HR.out.2]; omega)⟩
          have q1 := H4.out j r L hr hLx
          have q2 := H4'.out j r' L hr' hLx
          obtain ⟨ar, cr, rfl⟩ := own_form q1
          obtain ⟨ar', cr', rfl⟩ := own_form q2
          obtain ⟨g, cap, hv, _, hgl, _, hc⟩ := row_form H3.out (by omega)
          obtain ⟨g', cap', hv', _, hgl', _, hc'⟩ := row_form H3'.out (by omega)
          have e1 : aX = some ⟨g, 0, none⟩ := by injection hv
          have e1' : aX' = some ⟨g', 0, none⟩ := by injection hv'
          subst e1 e1'
          clear hv hv'
          have z0 := keep0 HO2.out (show w.cell? ⟨g, j, none⟩ = some (.slice ar L.length cr) by rw [hc j (by omega)]; exact hr)
          have z1 := keep0 HO2.out (show w.cell? ⟨g', j, none⟩ = some (.slice ar' L.length cr') by rw [hc' j (by omega)]; exact hr')
          have g1 : g < V.heap.size := World.block_lt_of_cell? V _ z0
          have g2 : g' < V.heap.size := World.block_lt_of_cell? V _ z1
          have HQ : Hid (∀ m, Calls Try.prog 17 #[.slice ar L.length cr, .slice ar' L.length cr'] (V.drewN m) fun e w' => e = .returned (.bool true) ∧ ∃ n, w' = (V.drewN m).drewN n) := fun m => sameNats_any L lo lo' ar ar' cr cr' (V.drewN m) (own_drewN (own_only q1 HO2.out (fun _ _ h => h)) m) (own_drewN (own_only q2 HO2.out (fun _ _ h => h)) m) (HLL.out L (List.mem_of_getElem? hLx))
          clear hc hc' hr hr' hLx q1 q2
          go_wp2_with fail
          go_region_with (go_at_call 17; refine (HQ.out 1).mono ?_; rintro e w9 ⟨rfl, m9, rfl⟩)
          all_goals
            go_wp2_with fail
            go_roundg (n - (j + 1))
            case measure => omega
            case rel => exact ⟨j + 1, _, rfl, rfl, by omega, by go_num, HO2.out.drewN _, HB0'.out, HB1'.out⟩
        · have t4 : decide ((j : Int) < (n : Int)) = false := decide_eq_false (by omega)
          go_wp2_with fail
          go_ret
          exact ⟨rfl, HO2.out⟩
end Go.Proofs.Ytelifjeppegcmaa
