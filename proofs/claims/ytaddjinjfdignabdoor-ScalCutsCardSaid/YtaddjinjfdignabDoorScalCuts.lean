/-
  stanzalaw01.ScalCuts returns true at every slice of bytes and every int, and both read afterwards as they read before; unicode/utf8's two tables are as the program's text lays them (the card ties them).
-/
import Derived.Test.YtaddjinjfdignabDoorCards
import Derived.Test.YtaddjinjfdignabDoorTie
import Derived.Test.YtaddjinjfdignabDoorView
import Derived.Test.YtaddjinjfdignabDoorCut
import Derived.Deep.RegionWith
namespace Go.Proofs.YtaddjinjfdignabDoor.scalCuts
open Go.ChangeShapes Go.WideShapes Go.ChangeAt Go.RowKit
set_option linter.unusedVariables false

theorem rem_fits (cut : Int) (N : Nat) (hN : N ≤ 3000) : ∃ k : Nat, k ≤ N ∧ wrap64 ((IntKind.u64.wrap cut).tmod ((N : Int) + 1)) = (k : Int) := by
  have h0 : 0 ≤ IntKind.u64.wrap cut := by
    simp only [IntKind.wrap, IntKind.bits, IntKind.signed]
    exact Int.emod_nonneg _ (by decide)
  have h1 := Int.tmod_nonneg ((N : Int) + 1) h0
  have h2 := Int.tmod_lt_of_pos (IntKind.u64.wrap cut) (show (0 : Int) < (N : Int) + 1 by omega)
  generalize (IntKind.u64.wrap cut).tmod ((N : Int) + 1) = m at *
  refine ⟨m.toNat, by omega, ?_⟩
  unfold wrap64
  omega

theorem rest_place (n : Nat) (x : Nat → Nat) : ∀ f q, n - q ≤ f → ∀ (t : Nat) (s : Nat × Nat × Nat), (Sg.rest n x q)[t]? = some s → s.2.1 ≤ n := by
  intro f
  induction f with
  | zero => intro q h t s e; rw [Sg.rest_end _ _ _ (by omega)] at e; simp at e
  | succ f ih =>
    intro q h t s e
    by_cases hq : q < n
    · rw [Sg.rest_step _ _ _ hq] at e
      have h1 := Sg.cnt_pos (n - q) (fun j => x (q + j))
      cases t with
      | zero => simp at e; subst e; simp only; omega
      | succ t => exact ih (q + Sg.cnt (n - q) (fun j => x (q + j))) (by omega) t s (by simpa using e)
    · rw [Sg.rest_end _ _ _ (by omega)] at e; simp at e
theorem place_le (n : Nat) (x : Nat → Nat) (t : Nat) (s : Nat × Nat × Nat) (e : (Sg.all n x)[t]? = some s) : s.2.1 ≤ n := rest_place n x n 0 (by omega) t s e

set_option maxRecDepth 100000 in
set_option maxHeartbeats 8000000 in
theorem walk (a : Option Addr) (n cap : Nat) (x : Nat → Nat) (b off : Nat) (cut : Int) (w : World) (hcut : -9223372036854775808 ≤ cut ∧ cut ≤ 9223372036854775807) (hcap : n ≤ cap) (hmax : cap ≤ maxLen) (ha : 0 < n → a = some ⟨b, off, none⟩) (han : a = none → n = 0 ∧ cap = 0)
    (hb : 0 < n → b < w.heap.size) (hz : 2 ≤ w.heap.size) (hx : ∀ j, x j < 256) (hT : Lib.Utf8Tabs 0 1 w)
    (hc : ∀ j, j < n → w.cell? ⟨b, off + j, none⟩ = some (.int .u8 (x j : Nat))) :
    Calls Tryd.prog 3 #[.slice a n cap, .int .i64 cut] w fun e w' => e = .returned (.bool true) ∧ Below w.heap.size w w' := by
  have hcH : Hid (∀ j, j < n → w.cell? ⟨b, off + j, none⟩ = some (.int .u8 (x j : Nat))) := hc
  have hTH : Hid (Lib.Utf8Tabs 0 1 w) := hT
  have hxH : Hid (∀ j, x j < 256) := hx
  have haH : Hid (0 < n → a = some ⟨b, off, none⟩) := ha
  have hanH : Hid (a = none → n = 0 ∧ cap = 0) := han
  have hbH : Hid (0 < n → b < w.heap.size) := hb
  have hcutH : Hid (-9223372036854775808 ≤ cut ∧ cut ≤ 9223372036854775807) := hcut
  clear hc hT hx ha hb han hcut
  unfold maxLen at hmax
  obtain ⟨i0, hi, hz0, hz1, hz2⟩ := info_parts info28
  by_cases hbig : 3000 < n
  · go_enter Tryd.func3, Tryd.ntmps3
    go_wp2_with (go_at_call 5; refine (awake_any _ hz hTH.out).mono ?_; rintro e w1 ⟨rfl, hb1⟩)
    go_ret
    exact ⟨rfl, by assumption⟩
  have hbig' : decide ((3000 : Int) < (n : Int)) = false := decide_eq_false (by omega)
  go_enter Tryd.func3, Tryd.ntmps3
  go_wp2_with (go_at_call 5; refine (awake_any _ hz hTH.out).mono ?_; rintro e w1 ⟨rfl, hb1⟩)
  have hs1 := hb1.size
  refine (all_any n x a b off cap w1 hcap (by omega) haH.out (fun h => Nat.lt_of_lt_of_le (hbH.out h) hs1) (by omega) hxH.out (tabs_below hTH.out hz hb1) (fun j hj => (hb1.cell (p := ⟨b, off + j, none⟩) (hbH.out (by omega))).trans (hcH.out j hj))).mono ?_
  rintro e w2 ⟨v2, rfl, ho2, hb2⟩
  have hs2 := hb2.size
  have hB2 : Hid (Below w.heap.size w w2) := hb1.trans (hb2.mono hs1)
  obtain ⟨a2, g2, c2, rfl, hc2, ha2, hg2, hgb2, hcc2⟩ := row_view ho2
  have hN : (Sg.all n x).length ≤ 3000 := Nat.le_trans (Sg.rest_len n x n 0 (by omega)) (by omega)
  have hcf : Hid (∀ k, ∃ p, p ≤ n ∧ (Sg.all n x).take k = Sg.all p x ∧ (Sg.all n x).drop k = (Sg.all (n - p) (fun j => x (p + j))).map (fun s => (s.1, s.2.1 + p, s.2.2)) ∧ (k < (Sg.all n x).length → p < n ∧ ∃ R L, (Sg.all n x)[k]? = some (R, p, L)) ∧ (k = (Sg.all n x).length → p = n)) := cut_facts n x
  clear ho2 hb1 hb2
  generalize Sg.all n x = D at *
  obtain ⟨N, hNN⟩ : ∃ N, N = D.length := ⟨_, rfl⟩
  rw [← hNN] at hN hc2 ha2 hg2 hcc2 hgb2 ⊢
  have ha2H : Hid (0 < N → a2 = some ⟨g2, 0, none⟩) := ha2
  have hg2H : Hid (0 < N → g2 < w2.heap.size) := hg2
  have hcc2H : Hid (∀ j, j < N * 3 → w2.cell? ⟨g2, j, none⟩ = (sgCells D)[j]?) := hcc2
  have hNH : Hid (N = D.length) := hNN
  clear ha2 hg2 hcc2 hgb2 hNN
  obtain ⟨k, hkN, hkk⟩ := rem_fits cut N hN
  obtain ⟨p, hpn, htk, hdk, hlt1, heq1⟩ := hcf.out k
  have hBd : Hid (Below w2.heap.size w2 w2.drew) := (Below.refl _ _).drew
  have hcW : Hid (∀ W, Below w2.heap.size w2 W → ∀ j, j < n → W.cell? ⟨b, off + j, none⟩ = some (.int .u8 (x j : Nat))) := fun W hW j hj => (hW.cell (p := ⟨b, off + j, none⟩) (Nat.lt_of_lt_of_le (hbH.out (by omega)) (by omega))).trans ((hB2.out.cell (p := ⟨b, off + j, none⟩) (hbH.out (by omega))).trans (hcH.out j hj))
  have hbW : Hid (∀ W, Below w2.heap.size w2 W → 0 < n → b < W.heap.size) := fun W hW h => Nat.lt_of_lt_of_le (hbH.out h) (Nat.le_trans (by omega) hW.size)
  have hTW : Hid (∀ W, Below w2.heap.size w2 W → Lib.Utf8Tabs 0 1 W ∧ 2 ≤ W.heap.size) := fun W hW => ⟨tabs_below (tabs_below hTH.out hz hB2.out) (by omega) hW, Nat.le_trans (by omega) hW.size⟩
  by_cases hkl : k < N
  · obtain ⟨hpn', R0, L0, hDk⟩ := hlt1 (by have := hNH.out; omega)
    have q0 := sgCells_at D k _ hDk
    obtain rfl := ha2H.out (by omega)
    have d1 : w2.cell? ⟨g2, k * 3 + 1, none⟩ = some (.int .i64 (p : Nat)) := (hcc2H.out _ (by omega)).trans q0.2.1
    obtain rfl := haH.out (by omega)
    have htkH : Hid (D.take k = Sg.all p x) := htk
    have hdkH : Hid (D.drop k = (Sg.all (n - p) (fun j => x (p + j))).map (fun s => (s.1, s.2.1 + p, s.2.2))) := hdk
    have hA1 : Hid (∀ W, Below w2.heap.size w2 W → Calls Tryd.prog 6 #[.slice (some ⟨b, off, none⟩) p cap] W fun e w' => ∃ v, e = .returned v ∧ w'.ownsRow W.heap.size 28 3 v (Sg.all p x).length (sgCells (Sg.all p x)) ∧ Below W.heap.size W w') := fun W hW => all_any p x _ b off cap W (by omega) (by omega) (fun _ => rfl) (fun h => hbW.out W hW (by omega)) (hTW.out W hW).2 hxH.out (hTW.out W hW).1 (fun j hj => hcW.out W hW j (by omega))
    have hA2 : Hid (∀ W, Below w2.heap.size w2 W → Calls Tryd.prog 6 #[.slice (some ⟨b, off + p, none⟩) (n - p) (cap - p)] W fun e w' => ∃ v, e = .returned v ∧ w'.ownsRow W.heap.size 28 3 v (Sg.all (n - p) (fun j => x (p + j))).length (sgCells (Sg.all (n - p) (fun j => x (p + j)))) ∧ Below W.heap.size W w') := fun W hW => all_any (n - p) (fun j => x (p + j)) _ b (off + p) (cap - p) W (by omega) (by omega) (fun _ => rfl) (fun h => hbW.out W hW (by omega)) (hTW.out W hW).2 (fun j => hxH.out _) (hTW.out W hW).1 (fun j hj => by rw [Nat.add_assoc]; exact hcW.out W hW _ (by omega))
    clear q0 hDk htk hdk hlt1 heq1 hcf
    go_wp2_with fail
    go_region_with (first | (go_at_call 6; have hq := HBx; refine (hA2.out wx hq.out).mono ?_; rintro e wy ⟨vy, rfl, hoy, hby⟩; have HBy : Hid (Below wx.heap.size wx wy) := hby; clear hby) | (go_at_call 6; refine (hA1.out w2.drew hBd.out).mono ?_; rintro e wx ⟨vx, rfl, hox, hbx⟩; have HBx : Hid (Below w2.heap.size w2 wx) := ⟨hbx.os, hbx.tape, hbx.output, hbx.size, hbx.block⟩; clear hbx))
    all_goals
      have hsx := HBx.out.size
      have hB1x : Hid (Below w.heap.size w wx) := hB2.out.trans (HBx.out.mono (by omega))
      have hKn : (Sg.all (n - p) (fun j => x (p + j))).length ≤ n - p := Sg.rest_len _ _ (n - p) 0 (by omega)
      have hlenD : Hid ((Sg.all p x).length + (Sg.all (n - p) (fun j => x (p + j))).length = N) := (by
        have h1 := congrArg List.length htkH.out
        have h2 := congrArg List.length hdkH.out
        rw [List.length_take] at h1
        rw [List.length_drop, List.length_map] at h2
        have := hNH.out
        omega : (Sg.all p x).length + (Sg.all (n - p) (fun j => x (p + j))).length = N)
      have hsmY : Hid (∀ (t : Nat) (s : Nat × Nat × Nat), (Sg.all (n - p) (fun j => x (p + j)))[t]? = some s → s.2.1 ≤ n - p) := fun t s e => place_le _ _ t s e
      generalize hY : Sg.all (n - p) (fun j => x (p + j)) = Y at *
      generalize hX : Sg.all p x = X at *
      clear hY hX
      obtain ⟨K, hK⟩ : ∃ K, K = Y.length := ⟨_, rfl⟩
      rw [← hK] at hoy hKn
      obtain ⟨ay, gy, cy, rfl, hcy, hay, hgy, hgby, hccy⟩ := row_view hoy
      have hayN : Hid (ay = none → K = 0 ∧ cy = 0) := row_none hoy
      have hayH : Hid (0 < K → ay = some ⟨gy, 0, none⟩) := hay
      have hgbyH : Hid (0 < K → wx.heap.size ≤ gy) := hgby
      have hoyH : Hid (wy.ownsRow wx.heap.size 28 3 (.slice ay K cy) K (sgCells Y)) := hoy
      have hoxH : Hid (wx.ownsRow w2.heap.size 28 3 vx X.length (sgCells X)) := hox
      have hKH : Hid (K = Y.length) := hK
      have HByH : Hid (Below wx.heap.size wx wy) := HBy.out
      clear hoy hox hK hay hgy hgby hccy
      go_wp2_with fail
      go_loopw [47] (fun vi wr => ∃ (i : Nat) (W : World), W = wr ∧ i ≤ K ∧ vi = .int .i64 i ∧ W.ownsRow wx.heap.size 28 3 (.slice ay K cy) K (sgCells (mix p i Y)) ∧ Below wx.heap.size wx W) (fun vi _ => K - (intOf vi).toNat)
      case atStart => exact ⟨0, _, rfl, by omega, rfl, hoyH.out, HByH.out⟩
      case round =>
        obtain ⟨i, W, rfl, hiK, rfl, hoi, hbi⟩ := hrel
        have hoiH : Hid (W.ownsRow wx.heap.size 28 3 (.slice ay K cy) K (sgCells (mix p i Y))) := hoi
        have hbiH : Hid (Below wx.heap.size wx W) := hbi
        have hsW := hbi.size
        clear hoi hbi
        by_cases hil : i < K
        · obtain ⟨s, hs⟩ : ∃ s, Y[i]? = some s := ⟨Y[i]'(by have := hKH.out; omega), List.getElem?_eq_getElem (by have := hKH.out; omega)⟩
          have hsb := hsmY.out i s hs
          obtain ⟨R1, A1, L1⟩ := s
          simp only at hsb
          obtain rfl := hayH.out (by omega)
          have qy := sgCells_at (mix p i Y) i (R1, A1, L1) ((mix_at p i Y).trans hs)
          have d0 : W.cell? ⟨gy, i * 3 + 1, none⟩ = some (.int .i64 (A1 : Nat)) := (hoiH.out.cellAt (i * 3 + 1) (by omega)).trans qy.2.1
          have f0 : W.frozen? ⟨gy, i * 3 + 1, none⟩ = false := hoiH.out.frozenAt _
          have hst := hoiH.out.stored (i * 3 + 1) (.int .i64 ((A1 + p : Nat) : Int))
          have hO' : Hid ((W.setCell ⟨gy, i * 3 + 1, none⟩ (.int .i64 ((A1 + p : Nat) : Int))).ownsRow wx.heap.size 28 3 (.slice (some ⟨gy, 0, none⟩) K cy) K (sgCells (mix p (i + 1) Y))) := (by
            have e := sgCells_set (mix p i Y) i (R1, A1, L1) (A1 + p) ((mix_at p i Y).trans hs)
            rw [mix_set p i Y (R1, A1, L1) hs] at e
            rw [← e]
            exact hst.1 : (W.setCell ⟨gy, i * 3 + 1, none⟩ (.int .i64 ((A1 + p : Nat) : Int))).ownsRow wx.heap.size 28 3 (.slice (some ⟨gy, 0, none⟩) K cy) K (sgCells (mix p (i + 1) Y)))
          have hB' : Hid (Below wx.heap.size wx (W.setCell ⟨gy, i * 3 + 1, none⟩ (.int .i64 ((A1 + p : Nat) : Int)))) := hbiH.out.setCell (hgbyH.out (by omega)) _
          rw [show ((A1 + p : Nat) : Int) = (A1 : Int) + (p : Int) by omega] at hO' hB'
          clear qy hst hs
          go_wp2
          go_roundw
          case rel => exact ⟨i + 1, _, rfl, by omega, by go_num, hO'.out, hB'.out⟩
          case measure => simp [intOf]; omega
        · have hnews : Hid (∀ y, ay = some y → ∀ j u, (sgCells (D.drop k))[j]? = some u → W.cell? (y.add j) = some u) := fun y hy j u hj => by
            have hjl := get_lt hj
            have hlD := congrArg List.length hdkH.out
            rw [List.length_map] at hlD
            rw [sgCells_length, hlD] at hjl
            have hK' := hKH.out
            obtain rfl : y = ⟨gy, 0, none⟩ := Option.some.inj (hy.symm.trans (hayH.out (by omega)))
            have hoi := hoiH.out
            rw [hayH.out (by omega)] at hoi
            rw [Go.WideShapes.add_plain, Nat.zero_add, hoi.cellAt j (by omega)]
            rw [show i = Y.length by omega, mix_all, ← hdkH.out]
            exact hj
          have hln : Hid ((sgCells (D.drop k)).length = K * 3) := (by
            have hlD := congrArg List.length hdkH.out
            rw [List.length_map] at hlD
            rw [sgCells_length, hlD, hKH.out] : (sgCells (D.drop k)).length = K * 3)
          have hownx : W.ownsRow w2.heap.size 28 3 vx X.length (sgCells X) := ownsRow_below hoxH.out hbiH.out
          have hXl : X.length + K ≤ 3000 := by have := hlenD.out; have := hKH.out; omega
          go_wp2_with (at_builtin; refine wpList_append_src rfl _ _ 24 rfl w2.heap.size 28 i0 (.agg #[.int .i32 0, .int .i64 0, .int .i64 0]) 3 24 Tryd.underlying24 hi hz0 hz1 hz2 rfl (by decide) _ _ _ rfl hownx ay _ cy (sgCells (D.drop k)) rfl hayN.out hln.out hnews.out (sgCells_one _) ?e4 ?e5 ?e6 ?_)
          case e4 => unfold maxLen; omega
          case e5 => omega
          case e6 => omega
          intro v10 w10 ho10 hg10
          have hB10 : Hid (Below w2.heap.size w2 w10) := (HBx.out.trans (hbiH.out.mono hsx)).grown hg10 (by omega) (fun g e => (hownx.lt g e).1)
          rw [← sgCells_append, ← htkH.out, List.take_append_drop, htkH.out, show X.length + K = N by have := hlenD.out; have := hKH.out; omega] at ho10
          obtain ⟨a10, g10, c10, rfl, hc10, ha10, hg10', hgb10, hcc10⟩ := row_view ho10
          clear ho10 hg10 hownx
          go_wp2_with fail
          refine (same_any D a10 (some ⟨g2, 0, none⟩) g10 g2 c10 c2 N w10 hNH.out.symm ha10 (fun _ => rfl) (by omega) hcc10 (fun j hj => (hB10.out.cell (p := ⟨g2, j, none⟩) (hg2H.out (by omega))).trans (hcc2H.out j hj))).mono ?_
          rintro e w11 ⟨rfl, hb11⟩
          have hB11 : Hid (Below w.heap.size w w11) := hB2.out.trans ((hB10.out.mono (by omega)).trans (hb11.mono (Nat.le_trans (by omega) hB10.out.size)))
          clear hcc10 ha10 hg10' hgb10 hb11
          go_wp2
          go_ret
          exact ⟨rfl, hB11.out⟩
  · obtain rfl : p = n := heq1 (by have := hNH.out; omega)
    have htkH : Hid (D.take k = Sg.all p x) := htk
    have hdkH : Hid (D.drop k = (Sg.all (p - p) (fun j => x (p + j))).map (fun s => (s.1, s.2.1 + p, s.2.2))) := hdk
    have hkD : decide ((k : Int) < (N : Int)) = false := decide_eq_false (by omega)
    clear htk hdk hlt1 heq1 hcf
    have hA1 : Hid (∀ W, Below w2.heap.size w2 W → Calls Tryd.prog 6 #[.slice a p cap] W fun e w' => ∃ v, e = .returned v ∧ w'.ownsRow W.heap.size 28 3 v (Sg.all p x).length (sgCells (Sg.all p x)) ∧ Below W.heap.size W w') := fun W hW => all_any p x _ b off cap W (by omega) (by omega) haH.out (fun h => hbW.out W hW (by omega)) (hTW.out W hW).2 hxH.out (hTW.out W hW).1 (fun j hj => hcW.out W hW j (by omega))
    have hA2 : Hid (∀ a' c' W, Below w2.heap.size w2 W → Calls Tryd.prog 6 #[.slice a' 0 c'] W fun e w' => ∃ v, e = .returned v ∧ w'.ownsRow W.heap.size 28 3 v (Sg.all (p - p) (fun j => x (p + j))).length (sgCells (Sg.all (p - p) (fun j => x (p + j)))) ∧ Below W.heap.size W w') := fun a' c' W hW => by
      have h := all_any 0 (fun j => x (p + j)) a' 0 0 c' W (by omega) (by omega) (fun h => by omega) (fun h => by omega) (hTW.out W hW).2 (fun j => hxH.out _) (hTW.out W hW).1 (fun j hj => by omega)
      rw [Nat.sub_self]
      exact h
    cases a with
    | none =>
      go_wp2_with fail
      go_region_with (first | (go_at_call 6; have hq := HBx; refine (hA2.out _ _ wx hq.out).mono ?_; rintro e wy ⟨vy, rfl, hoy, hby⟩; have HBy : Hid (Below wx.heap.size wx wy) := hby; clear hby) | (go_at_call 6; refine (hA1.out w2.drew hBd.out).mono ?_; rintro e wx ⟨vx, rfl, hox, hbx⟩; have HBx : Hid (Below w2.heap.size w2 wx) := ⟨hbx.os, hbx.tape, hbx.output, hbx.size, hbx.block⟩; clear hbx))
      all_goals
        have hsx := HBx.out.size
        have hB1x : Hid (Below w.heap.size w wx) := hB2.out.trans (HBx.out.mono (by omega))
        have hKn : (Sg.all (p - p) (fun j => x (p + j))).length ≤ p - p := Sg.rest_len _ _ (p - p) 0 (by omega)
        have hlenD : Hid ((Sg.all p x).length + (Sg.all (p - p) (fun j => x (p + j))).length = N) := (by
          have h1 := congrArg List.length htkH.out
          have h2 := congrArg List.length hdkH.out
          rw [List.length_take] at h1
          rw [List.length_drop, List.length_map] at h2
          have := hNH.out
          omega : (Sg.all p x).length + (Sg.all (p - p) (fun j => x (p + j))).length = N)
        have hsmY : Hid (∀ (t : Nat) (s : Nat × Nat × Nat), (Sg.all (p - p) (fun j => x (p + j)))[t]? = some s → s.2.1 ≤ p - p) := fun t s e => place_le _ _ t s e
        generalize hY : Sg.all (p - p) (fun j => x (p + j)) = Y at *
        generalize hX : Sg.all p x = X at *
        clear hY hX
        obtain ⟨K, hK⟩ : ∃ K, K = Y.length := ⟨_, rfl⟩
        rw [← hK] at hoy hKn
        obtain ⟨ay, gy, cy, rfl, hcy, hay, hgy, hgby, hccy⟩ := row_view hoy
        have hayN : Hid (ay = none → K = 0 ∧ cy = 0) := row_none hoy
        have hayH : Hid (0 < K → ay = some ⟨gy, 0, none⟩) := hay
        have hgbyH : Hid (0 < K → wx.heap.size ≤ gy) := hgby
        have hoyH : Hid (wy.ownsRow wx.heap.size 28 3 (.slice ay K cy) K (sgCells Y)) := hoy
        have hoxH : Hid (wx.ownsRow w2.heap.size 28 3 vx X.length (sgCells X)) := hox
        have hKH : Hid (K = Y.length) := hK
        have HByH : Hid (Below wx.heap.size wx wy) := HBy.out
        clear hoy hox hK hay hgy hgby hccy
        go_wp2_with fail
        go_loopw [47] (fun vi wr => ∃ (i : Nat) (W : World), W = wr ∧ i ≤ K ∧ vi = .int .i64 i ∧ W.ownsRow wx.heap.size 28 3 (.slice ay K cy) K (sgCells (mix p i Y)) ∧ Below wx.heap.size wx W) (fun vi _ => K - (intOf vi).toNat)
        case atStart => exact ⟨0, _, rfl, by omega, rfl, hoyH.out, HByH.out⟩
        case round =>
          obtain ⟨i, W, rfl, hiK, rfl, hoi, hbi⟩ := hrel
          have hoiH : Hid (W.ownsRow wx.heap.size 28 3 (.slice ay K cy) K (sgCells (mix p i Y))) := hoi
          have hbiH : Hid (Below wx.heap.size wx W) := hbi
          have hsW := hbi.size
          clear hoi hbi
          by_cases hil : i < K
          · exfalso; omega
          · have hnews : Hid (∀ y, ay = some y → ∀ j u, (sgCells (D.drop k))[j]? = some u → W.cell? (y.add j) = some u) := fun y hy j u hj => by
              have hjl := get_lt hj
              have hlD := congrArg List.length hdkH.out
              rw [List.length_map] at hlD
              rw [sgCells_length, hlD] at hjl
              have hK' := hKH.out
              obtain rfl : y = ⟨gy, 0, none⟩ := Option.some.inj (hy.symm.trans (hayH.out (by omega)))
              have hoi := hoiH.out
              rw [hayH.out (by omega)] at hoi
              rw [Go.WideShapes.add_plain, Nat.zero_add, hoi.cellAt j (by omega)]
              rw [show i = Y.length by omega, mix_all, ← hdkH.out]
              exact hj
            have hln : Hid ((sgCells (D.drop k)).length = K * 3) := (by
              have hlD := congrArg List.length hdkH.out
              rw [List.length_map] at hlD
              rw [sgCells_length, hlD, hKH.out] : (sgCells (D.drop k)).length = K * 3)
            have hownx : W.ownsRow w2.heap.size 28 3 vx X.length (sgCells X) := ownsRow_below hoxH.out hbiH.out
            have hXl : X.length + K ≤ 3000 := by have := hlenD.out; have := hKH.out; omega
            go_wp2_with (at_builtin; refine wpList_append_src rfl _ _ 24 rfl w2.heap.size 28 i0 (.agg #[.int .i32 0, .int .i64 0, .int .i64 0]) 3 24 Tryd.underlying24 hi hz0 hz1 hz2 rfl (by decide) _ _ _ rfl hownx ay _ cy (sgCells (D.drop k)) rfl hayN.out hln.out hnews.out (sgCells_one _) ?e4 ?e5 ?e6 ?_)
            case e4 => unfold maxLen; omega
            case e5 => omega
            case e6 => omega
            intro v10 w10 ho10 hg10
            have hB10 : Hid (Below w2.heap.size w2 w10) := (HBx.out.trans (hbiH.out.mono hsx)).grown hg10 (by omega) (fun g e => (hownx.lt g e).1)
            rw [← sgCells_append, ← htkH.out, List.take_append_drop, htkH.out, show X.length + K = N by have := hlenD.out; have := hKH.out; omega] at ho10
            obtain ⟨a10, g10, c10, rfl, hc10, ha10, hg10', hgb10, hcc10⟩ := row_view ho10
            clear ho10 hg10 hownx
            go_wp2_with fail
            refine (same_any D a10 a2 g10 g2 c10 c2 N w10 hNH.out.symm ha10 ha2H.out (by omega) hcc10 (fun j hj => (hB10.out.cell (p := ⟨g2, j, none⟩) (hg2H.out (by omega))).trans (hcc2H.out j hj))).mono ?_
            rintro e w11 ⟨rfl, hb11⟩
            have hB11 : Hid (Below w.heap.size w w11) := hB2.out.trans ((hB10.out.mono (by omega)).trans (hb11.mono (Nat.le_trans (by omega) hB10.out.size)))
            clear hcc10 ha10 hg10' hgb10 hb11
            go_wp2
            go_ret
            exact ⟨rfl, hB11.out⟩
    | some ad =>
      by_cases hpc : p < cap
      · go_wp2_with fail
        go_region_with (first | (go_at_call 6; have hq := HBx; refine (hA2.out _ _ wx hq.out).mono ?_; rintro e wy ⟨vy, rfl, hoy, hby⟩; have HBy : Hid (Below wx.heap.size wx wy) := hby; clear hby) | (go_at_call 6; refine (hA1.out w2.drew hBd.out).mono ?_; rintro e wx ⟨vx, rfl, hox, hbx⟩; have HBx : Hid (Below w2.heap.size w2 wx) := ⟨hbx.os, hbx.tape, hbx.output, hbx.size, hbx.block⟩; clear hbx))
        all_goals
          have hsx := HBx.out.size
          have hB1x : Hid (Below w.heap.size w wx) := hB2.out.trans (HBx.out.mono (by omega))
          have hKn : (Sg.all (p - p) (fun j => x (p + j))).length ≤ p - p := Sg.rest_len _ _ (p - p) 0 (by omega)
          have hlenD : Hid ((Sg.all p x).length + (Sg.all (p - p) (fun j => x (p + j))).length = N) := (by
            have h1 := congrArg List.length htkH.out
            have h2 := congrArg List.length hdkH.out
            rw [List.length_take] at h1
            rw [List.length_drop, List.length_map] at h2
            have := hNH.out
            omega : (Sg.all p x).length + (Sg.all (p - p) (fun j => x (p + j))).length = N)
          have hsmY : Hid (∀ (t : Nat) (s : Nat × Nat × Nat), (Sg.all (p - p) (fun j => x (p + j)))[t]? = some s → s.2.1 ≤ p - p) := fun t s e => place_le _ _ t s e
          generalize hY : Sg.all (p - p) (fun j => x (p + j)) = Y at *
          generalize hX : Sg.all p x = X at *
          clear hY hX
          obtain ⟨K, hK⟩ : ∃ K, K = Y.length := ⟨_, rfl⟩
          rw [← hK] at hoy hKn
          obtain ⟨ay, gy, cy, rfl, hcy, hay, hgy, hgby, hccy⟩ := row_view hoy
          have hayN : Hid (ay = none → K = 0 ∧ cy = 0) := row_none hoy
          have hayH : Hid (0 < K → ay = some ⟨gy, 0, none⟩) := hay
          have hgbyH : Hid (0 < K → wx.heap.size ≤ gy) := hgby
          have hoyH : Hid (wy.ownsRow wx.heap.size 28 3 (.slice ay K cy) K (sgCells Y)) := hoy
          have hoxH : Hid (wx.ownsRow w2.heap.size 28 3 vx X.length (sgCells X)) := hox
          have hKH : Hid (K = Y.length) := hK
          have HByH : Hid (Below wx.heap.size wx wy) := HBy.out
          clear hoy hox hK hay hgy hgby hccy
          go_wp2_with fail
          go_loopw [47] (fun vi wr => ∃ (i : Nat) (W : World), W = wr ∧ i ≤ K ∧ vi = .int .i64 i ∧ W.ownsRow wx.heap.size 28 3 (.slice ay K cy) K (sgCells (mix p i Y)) ∧ Below wx.heap.size wx W) (fun vi _ => K - (intOf vi).toNat)
          case atStart => exact ⟨0, _, rfl, by omega, rfl, hoyH.out, HByH.out⟩
          case round =>
            obtain ⟨i, W, rfl, hiK, rfl, hoi, hbi⟩ := hrel
            have hoiH : Hid (W.ownsRow wx.heap.size 28 3 (.slice ay K cy) K (sgCells (mix p i Y))) := hoi
            have hbiH : Hid (Below wx.heap.size wx W) := hbi
            have hsW := hbi.size
            clear hoi hbi
            by_cases hil : i < K
            · exfalso; omega
            · have hnews : Hid (∀ y, ay = some y → ∀ j u, (sgCells (D.drop k))[j]? = some u → W.cell? (y.add j) = some u) := fun y hy j u hj => by
                have hjl := get_lt hj
                have hlD := congrArg List.length hdkH.out
                rw [List.length_map] at hlD
                rw [sgCells_length, hlD] at hjl
                have hK' := hKH.out
                obtain rfl : y = ⟨gy, 0, none⟩ := Option.some.inj (hy.symm.trans (hayH.out (by omega)))
                have hoi := hoiH.out
                rw [hayH.out (by omega)] at hoi
                rw [Go.WideShapes.add_plain, Nat.zero_add, hoi.cellAt j (by omega)]
                rw [show i = Y.length by omega, mix_all, ← hdkH.out]
                exact hj
              have hln : Hid ((sgCells (D.drop k)).length = K * 3) := (by
                have hlD := congrArg List.length hdkH.out
                rw [List.length_map] at hlD
                rw [sgCells_length, hlD, hKH.out] : (sgCells (D.drop k)).length = K * 3)
              have hownx : W.ownsRow w2.heap.size 28 3 vx X.length (sgCells X) := ownsRow_below hoxH.out hbiH.out
              have hXl : X.length + K ≤ 3000 := by have := hlenD.out; have := hKH.out; omega
              go_wp2_with (at_builtin; refine wpList_append_src rfl _ _ 24 rfl w2.heap.size 28 i0 (.agg #[.int .i32 0, .int .i64 0, .int .i64 0]) 3 24 Tryd.underlying24 hi hz0 hz1 hz2 rfl (by decide) _ _ _ rfl hownx ay _ cy (sgCells (D.drop k)) rfl hayN.out hln.out hnews.out (sgCells_one _) ?e4 ?e5 ?e6 ?_)
              case e4 => unfold maxLen; omega
              case e5 => omega
              case e6 => omega
              intro v10 w10 ho10 hg10
              have hB10 : Hid (Below w2.heap.size w2 w10) := (HBx.out.trans (hbiH.out.mono hsx)).grown hg10 (by omega) (fun g e => (hownx.lt g e).1)
              rw [← sgCells_append, ← htkH.out, List.take_append_drop, htkH.out, show X.length + K = N by have := hlenD.out; have := hKH.out; omega] at ho10
              obtain ⟨a10, g10, c10, rfl, hc10, ha10, hg10', hgb10, hcc10⟩ := row_view ho10
              clear ho10 hg10 hownx
              go_wp2_with fail
              refine (same_any D a10 a2 g10 g2 c10 c2 N w10 hNH.out.symm ha10 ha2H.out (by omega) hcc10 (fun j hj => (hB10.out.cell (p := ⟨g2, j, none⟩) (hg2H.out (by omega))).trans (hcc2H.out j hj))).mono ?_
              rintro e w11 ⟨rfl, hb11⟩
              have hB11 : Hid (Below w.heap.size w w11) := hB2.out.trans ((hB10.out.mono (by omega)).trans (hb11.mono (Nat.le_trans (by omega) hB10.out.size)))
              clear hcc10 ha10 hg10' hgb10 hb11
              go_wp2
              go_ret
              exact ⟨rfl, hB11.out⟩
      · go_wp2_with fail
        go_region_with (first | (go_at_call 6; have hq := HBx; refine (hA2.out _ _ wx hq.out).mono ?_; rintro e wy ⟨vy, rfl, hoy, hby⟩; have HBy : Hid (Below wx.heap.size wx wy) := hby; clear hby) | (go_at_call 6; refine (hA1.out w2.drew hBd.out).mono ?_; rintro e wx ⟨vx, rfl, hox, hbx⟩; have HBx : Hid (Below w2.heap.size w2 wx) := ⟨hbx.os, hbx.tape, hbx.output, hbx.size, hbx.block⟩; clear hbx))
        all_goals
          have hsx := HBx.out.size
          have hB1x : Hid (Below w.heap.size w wx) := hB2.out.trans (HBx.out.mono (by omega))
          have hKn : (Sg.all (p - p) (fun j => x (p + j))).length ≤ p - p := Sg.rest_len _ _ (p - p) 0 (by omega)
          have hlenD : Hid ((Sg.all p x).length + (Sg.all (p - p) (fun j => x (p + j))).length = N) := (by
            have h1 := congrArg List.length htkH.out
            have h2 := congrArg List.length hdkH.out
            rw [List.length_take] at h1
            rw [List.length_drop, List.length_map] at h2
            have := hNH.out
            omega : (Sg.all p x).length + (Sg.all (p - p) (fun j => x (p + j))).length = N)
          have hsmY : Hid (∀ (t : Nat) (s : Nat × Nat × Nat), (Sg.all (p - p) (fun j => x (p + j)))[t]? = some s → s.2.1 ≤ p - p) := fun t s e => place_le _ _ t s e
          generalize hY : Sg.all (p - p) (fun j => x (p + j)) = Y at *
          generalize hX : Sg.all p x = X at *
          clear hY hX
          obtain ⟨K, hK⟩ : ∃ K, K = Y.length := ⟨_, rfl⟩
          rw [← hK] at hoy hKn
          obtain ⟨ay, gy, cy, rfl, hcy, hay, hgy, hgby, hccy⟩ := row_view hoy
          have hayN : Hid (ay = none → K = 0 ∧ cy = 0) := row_none hoy
          have hayH : Hid (0 < K → ay = some ⟨gy, 0, none⟩) := hay
          have hgbyH : Hid (0 < K → wx.heap.size ≤ gy) := hgby
          have hoyH : Hid (wy.ownsRow wx.heap.size 28 3 (.slice ay K cy) K (sgCells Y)) := hoy
          have hoxH : Hid (wx.ownsRow w2.heap.size 28 3 vx X.length (sgCells X)) := hox
          have hKH : Hid (K = Y.length) := hK
          have HByH : Hid (Below wx.heap.size wx wy) := HBy.out
          clear hoy hox hK hay hgy hgby hccy
          go_wp2_with fail
          go_loopw [47] (fun vi wr => ∃ (i : Nat) (W : World), W = wr ∧ i ≤ K ∧ vi = .int .i64 i ∧ W.ownsRow wx.heap.size 28 3 (.slice ay K cy) K (sgCells (mix p i Y)) ∧ Below wx.heap.size wx W) (fun vi _ => K - (intOf vi).toNat)
          case atStart => exact ⟨0, _, rfl, by omega, rfl, hoyH.out, HByH.out⟩
          case round =>
            obtain ⟨i, W, rfl, hiK, rfl, hoi, hbi⟩ := hrel
            have hoiH : Hid (W.ownsRow wx.heap.size 28 3 (.slice ay K cy) K (sgCells (mix p i Y))) := hoi
            have hbiH : Hid (Below wx.heap.size wx W) := hbi
            have hsW := hbi.size
            clear hoi hbi
            by_cases hil : i < K
            · exfalso; omega
            · have hnews : Hid (∀ y, ay = some y → ∀ j u, (sgCells (D.drop k))[j]? = some u → W.cell? (y.add j) = some u) := fun y hy j u hj => by
                have hjl := get_lt hj
                have hlD := congrArg List.length hdkH.out
                rw [List.length_map] at hlD
                rw [sgCells_length, hlD] at hjl
                have hK' := hKH.out
                obtain rfl : y = ⟨gy, 0, none⟩ := Option.some.inj (hy.symm.trans (hayH.out (by omega)))
                have hoi := hoiH.out
                rw [hayH.out (by omega)] at hoi
                rw [Go.WideShapes.add_plain, Nat.zero_add, hoi.cellAt j (by omega)]
                rw [show i = Y.length by omega, mix_all, ← hdkH.out]
                exact hj
              have hln : Hid ((sgCells (D.drop k)).length = K * 3) := (by
                have hlD := congrArg List.length hdkH.out
                rw [List.length_map] at hlD
                rw [sgCells_length, hlD, hKH.out] : (sgCells (D.drop k)).length = K * 3)
              have hownx : W.ownsRow w2.heap.size 28 3 vx X.length (sgCells X) := ownsRow_below hoxH.out hbiH.out
              have hXl : X.length + K ≤ 3000 := by have := hlenD.out; have := hKH.out; omega
              go_wp2_with (at_builtin; refine wpList_append_src rfl _ _ 24 rfl w2.heap.size 28 i0 (.agg #[.int .i32 0, .int .i64 0, .int .i64 0]) 3 24 Tryd.underlying24 hi hz0 hz1 hz2 rfl (by decide) _ _ _ rfl hownx ay _ cy (sgCells (D.drop k)) rfl hayN.out hln.out hnews.out (sgCells_one _) ?e4 ?e5 ?e6 ?_)
              case e4 => unfold maxLen; omega
              case e5 => omega
              case e6 => omega
              intro v10 w10 ho10 hg10
              have hB10 : Hid (Below w2.heap.size w2 w10) := (HBx.out.trans (hbiH.out.mono hsx)).grown hg10 (by omega) (fun g e => (hownx.lt g e).1)
              rw [← sgCells_append, ← htkH.out, List.take_append_drop, htkH.out, show X.length + K = N by have := hlenD.out; have := hKH.out; omega] at ho10
              obtain ⟨a10, g10, c10, rfl, hc10, ha10, hg10', hgb10, hcc10⟩ := row_view ho10
              clear ho10 hg10 hownx
              go_wp2_with fail
              refine (same_any D a10 a2 g10 g2 c10 c2 N w10 hNH.out.symm ha10 ha2H.out (by omega) hcc10 (fun j hj => (hB10.out.cell (p := ⟨g2, j, none⟩) (hg2H.out (by omega))).trans (hcc2H.out j hj))).mono ?_
              rintro e w11 ⟨rfl, hb11⟩
              have hB11 : Hid (Below w.heap.size w w11) := hB2.out.trans ((hB10.out.mono (by omega)).trans (hb11.mono (Nat.le_trans (by omega) hB10.out.size)))
              clear hcc10 ha10 hg10' hgb10 hb11
              go_wp2
              go_ret
              exact ⟨rfl, hB11.out⟩
theorem contract (H : Type) (enc : TypeId × Value → H) (W : World) (base : Nat) (args : Array Value) (ds gs : List (DataW H)) (before : List MemPlace)
    (hval : ∀ (j : Nat) t v, Tryd.f3.params[j]? = some t → args[j]? = some v → Value.okWide Tryd.prog W .any base t v)
    (hW : DataW.Whole enc Tryd.prog Tryd.f3.params.toList Rows.scalCutsSpec.vars false W args.toList ds gs before) (hL : laidMetH Tryd.prog Rows.scalCutsRow.laid W) :
    Calls Tryd.prog 3 args W fun e W' => ∃ v, e = .returned v ∧ Rows.scalCutsSpec.post enc Tryd.prog Tryd.f3 false true false false W args v W' := by
  have hW' := hW
  obtain ⟨p, q, hA0, hV, rfl, hfz, hnd⟩ := hW
  have hA : DataW.TrodAll enc Tryd.prog W 0 (fun _ => true) true Tryd.f3.params.toList args.toList ds p := hA0
  rw [Tryd.params3] at hA hval
  obtain ⟨v0, vs0, d0, ds0, p0, q0, hargs, rfl, rfl, h0, r0⟩ := trodAll_cons hA
  obtain ⟨v1, vs1, d1, ds1, p1, q1, rfl, rfl, rfl, h1, r1⟩ := trodAll_cons r0
  obtain ⟨rfl, rfl, rfl⟩ := trodAll_nil r1
  obtain rfl : args = #[v0, v1] := by cases args; simp_all
  obtain ⟨rfl, rfl⟩ := trodVars_none hV
  obtain ⟨a0, len0, cap0, rfl⟩ := okWide_slice Tryd.underlying22 (hval 0 22 v0 rfl rfl)
  have k0 := h0
  have lt0 : ∀ x ∈ p0, x.block < W.heap.size := by obtain ⟨m, hm⟩ := k0; exact DataW.trod_lt m _ _ _ hm
  have hnone0 := fun (h : a0 = none) => bytes_none h0 h
  obtain ⟨x0, b0, off0, hcap0, hmax0, ha0, hb0, hx0, hc0⟩ := bytes_view h0
  obtain ⟨a1, rfl, rfl, rfl, w1⟩ := open_int Tryd.underlying3 (hval 1 3 v1 rfl rfl) h1
  clear hA0
  obtain ⟨hT, hz⟩ := tabs_of hL
  refine (walk a0 len0 cap0 x0 b0 off0 a1 W (bounds_i64 w1) hcap0 hmax0 ha0 hnone0 hb0 hz hx0 hT hc0).mono fun e W' ⟨he, bel⟩ => ?_
  subst he
  exact ⟨_, rfl, _, _, _, [], _, [], hW', trodAll_mk1 (shut_bool Tryd.underlying4 _), (trodAll_cons_mk (Below.trod laidOut (by kernel_rfl) (of_decide_eq_true (by kernel_rfl)) k0 bel lt0) (trodAll_cons_mk (shut_int Tryd.underlying3 w1) trodAll_mk0)), rfl, bel.frame _, fun h => by cases h⟩

theorem reads (os : Os) {H : Type} (enc : TypeId × Value → H) : ∃ places, DataW.whole enc Tryd.prog ((laidWorld Tryd.prog os).forCall (fun _ _ => 0) ⟨#[], #[.slice none 0 0, .int .i64 0], []⟩).memory Tryd.f3.params.toList Rows.scalCutsSpec.vars false (#[.slice none 0 0, .int .i64 0] : Array Value).toList 8 = some ([.nil, .lit (.int .i64 0)], [], places) :=
  ⟨[], by kernel_rfl⟩

set_option maxRecDepth 100000 in
theorem lifted (os : Os) (started : os.Started) (H : Type) (enc : TypeId × Value → H) (F : Stop.Interp) :
    ReturnsInHanded {} Tryd.checked os 3 .any ((OpenSpec.ofChange Rows.scalCutsSpec).preRow enc Tryd.prog Tryd.f3 Rows.scalCutsRow.domain false Rows.scalCutsRow.laid) (((OpenSpec.ofChange Rows.scalCutsSpec).at F).post enc Tryd.prog Tryd.f3 false true false false) := by
  obtain ⟨places, hx⟩ := reads os enc
  refine returnsInHanded_of_row (C := Tryd.checked) (s := OpenSpec.ofChange Rows.scalCutsSpec) own started (by kernel_rfl) Tryd.func3
    (witness_row_at (enc := enc) (C := Tryd.checked) false (laidWorld Tryd.prog os) #[.slice none 0 0, .int .i64 0] rfl (by kernel_rfl) (by kernel_rfl) (by kernel_rfl)
      (OpenSpec.preRow_of_cond 8 hx (by kernel_rfl) (fun k hk => by cases hk) (by kernel_rfl) (laid_met os _))) ?_
  intro W base args ds gs before hval hW _ _ _ hL _ _
  exact contract H enc W base args ds gs before hval hW hL

theorem said : Rows.ScalCutsSaid :=
  OpenClaim.holds_of_cond 3 Tryd.f3 rfl rfl rfl rfl rfl rfl rfl ⟨rfl, rfl, rfl, rfl, rfl⟩ rfl rfl rfl rfl rfl (by kernel_rfl) Tryd.func3 (by kernel_rfl)
    (of_decide_eq_true (by kernel_rfl)) (by unfold Func.isWrapper; first | (rw [if_pos (by decide +kernel)]; kernel_rfl) | (rw [if_neg (by decide +kernel)]; exact ⟨rfl, rfl⟩))
    (fun os started H enc _ F => by rw [OpenClaim.pre_eq_preRow]; exact lifted os started H enc F)

theorem plain (f : FuncId) (fn : Func) (hf : Tryd.pinned.checked.prog.funcNamed "stanza/stanzalaw01.ScalCuts" = some f) (hfn : Tryd.pinned.checked.prog.funcs[f]? = some fn) :
    false = Tryd.pinned.checked.prog.looks [] ∧ ∀ (j : Nat) t, fn.params[j]? = some t → Tryd.pinned.checked.prog.wantsStandIn t = false := by
  obtain rfl : f = 3 := Option.some.inj ((show Tryd.prog.funcNamed "stanza/stanzalaw01.ScalCuts" = some 3 by kernel_rfl).symm.trans hf) |>.symm
  obtain rfl : fn = Tryd.f3 := (Option.some.inj (Tryd.func3.symm.trans hfn)).symm
  refine ⟨by kernel_rfl, fun j t ht => ?_⟩
  rw [Tryd.params3] at ht
  have hm : t ∈ [22, 3] := by simpa using Array.mem_of_getElem? ht
  have hall : ([22, 3].all fun u => !Tryd.prog.wantsStandIn u) = true := by kernel_rfl
  exact (show Tryd.prog.wantsStandIn t = false by simpa using List.all_eq_true.1 hall t hm)

/-- THE CARD. -/
theorem card : Rows.ScalCutsCardSaid :=
  Claim7.holds_tied_plain_at .later [] _ _ _ _ said (fun _ h => by cases h) (by kernel_rfl) (fun _ h => by cases h) scalCuts_row_tie rfl ⟨rfl, rfl⟩ (by kernel_rfl) rfl plain (by kernel_rfl)
end Go.Proofs.YtaddjinjfdignabDoor.scalCuts
namespace Go.Proofs.YtaddjinjfdignabDoor
/-- THE STATEMENT. -/
theorem scalCutsCard_holds : Rows.ScalCutsCardSaid := scalCuts.card
#print axioms scalCutsCard_holds
end Go.Proofs.YtaddjinjfdignabDoor
