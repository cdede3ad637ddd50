/-
  stanzalaw12.RatioMeans: its walk.
-/
import Derived.Test.YtihdfoigobijjaaRf
import Derived.Deep.Upon
namespace Go.Proofs.Ytihdfoigobijjaa
open Go.RowKit Go.Maps
set_option linter.unusedVariables false
set_option linter.unusedSimpArgs false
theorem src_none (w : World) (a : Option Addr) (c : Nat) {i : TypeInfo} (hs : i.size = 1) : Src Try.prog i.size 25 (.slice a 0 c) 0 [] w := by
  refine ⟨Or.inl ⟨22, Try.underlying25⟩, fun w' => ?_, ?_, ?_, by simp, fun u h => by cases h⟩
  · simp [Builtin.lenOf]
  · cases a <;> simp [Builtin.firstCells, loadCells, loadCellsFrom]
  · cases a <;> simp [Builtin.firstCells, loadCells, loadCellsFrom]
theorem wpList_app0 {ops : Array Oper} {rest : List Oper} {o : Oper} {a : Act} {Q : Exit → Act → World → Prop} (w : World) (hgd : o.guard = none) (s x : Operand) (ho : o.op = .call { callee := .builtin .append, args := #[s, x], argTypes := #[25, 25] }) (ba : Option Addr) (hs : a.eval s = .slice ba 0 0) (aX : Option Addr) (c : Nat) (hx : a.eval x = .slice aX 0 c) (h : wpList Try.prog ops Q rest (a.put o.dst (.slice ba 0 0)) w) : wpList Try.prog ops Q (o :: rest) a w := by
  obtain ⟨i22, g22, g220, g221, g222⟩ := info_parts info22
  have hr := run_append_nothing (P := Try.prog) w 25 25 o.type 22 i22 Try.underlying25 g22 ba 0 0 (Nat.le_refl _) (.slice aX 0 c) (src_none w aX c g221)
  refine wpList_plain hgd fun K hK => ?_
  unfold Oper.wp execOp
  simp only [ho, resolve, invoke, builtin, Sem.run_bind, Sem.run_pure, Result.andThen_ok, List.map_toArray, List.map_cons, List.map_nil, hs, hx, hr]
  exact hK _ _ h
namespace ratioMeans
set_option maxRecDepth 100000 in
set_option maxHeartbeats 4000000 in
theorem walk_big (L : List Nat) (a : Option Addr) (c : Nat) (w : World) (hV : Vw w a (fls L)) (hW : Wds L) (hn : ¬ L.length ≤ 3000) : Calls Try.prog 9 #[.slice a L.length c] w fun e w' => e = .returned (.bool true) ∧ Only (fun _ => False) w w' := by
  obtain ⟨i22, g22, g220, g221, g222⟩ := info_parts info22
  have HA : Hid (∀ w, Calls Try.prog 10 #[] w fun e w' => e = .returned (.bool true) ∧ Fl.Dr w w') := awake_any
  obtain ⟨n, hn0⟩ : ∃ n, n = L.length := ⟨_, rfl⟩
  rw [← hn0] at hn ⊢
  clear hn0 hV hW
  have t0 : (3000 : Int) < (n : Int) := by omega
  go_enter Try.func9, Try.ntmps9
  go_wp2_with fail
  refine Calls.mono (HA.out _) ?_
  rintro e w1 ⟨rfl, d1⟩
  have O1 : Hid (Only (fun _ => False) w w1) := d1.only
  clear d1
  go_wp2_with fail
  go_ret
  exact ⟨rfl, O1.out⟩
set_option maxRecDepth 100000 in
set_option maxHeartbeats 4000000 in
theorem walk_pos (L : List Nat) (a : Option Addr) (c : Nat) (w : World) (hV : Vw w a (fls L)) (hW : Wds L) (hn : L.length ≤ 3000) (h0 : 0 < L.length) : Calls Try.prog 9 #[.slice a L.length c] w fun e w' => e = .returned (.bool true) ∧ Only (fun _ => False) w w' := by
  obtain ⟨i22, g22, g220, g221, g222⟩ := info_parts info22
  have HA : Hid (∀ w, Calls Try.prog 10 #[] w fun e w' => e = .returned (.bool true) ∧ Fl.Dr w w') := awake_any
  have HO : Hid (∀ x y, x < 18446744073709551616 → y < 18446744073709551616 → ∀ w, Calls Try.prog 17 #[.float .f64 x, .float .f64 y] w fun e w' => e = .returned (.int .i64 (Fl.od x y)) ∧ ∃ n, w' = w.drewN n) := fun x y hx hy w => refOrder_any x y hx hy w
  have HV0 : Hid (Vw w a (fls L) ∧ Wds L) := ⟨hV, hW⟩
  clear hV hW
  obtain ⟨n, hn0⟩ : ∃ n, n = L.length := ⟨_, rfl⟩
  have HN : Hid (n = L.length) := hn0
  have HM1 : Hid (∀ (W : World) (a2 : Option Addr) (c2 : Nat), Vw W a2 (fls L) → Calls Try.prog 28 #[.slice a2 n c2] W (Fl.P (Fl.mnN L) W)) := fun W a2 c2 h => by rw [hn0]; exact mean_any L a2 c2 W h HV0.out.2 hn
  have HM2 : Hid (∀ (W : World), Vw W a (fls L) → Calls Try.prog 29 #[.slice a n c] W (Fl.P (Fl.mnN L) W)) := fun W h => by rw [hn0]; exact refMean_any L a c W h HV0.out.2 hn
  obtain ⟨f, hf⟩ : ∃ f : Nat → Nat, f = fun i => L.getD i 0 := ⟨_, rfl⟩
  have HF : Hid (f = fun i => L.getD i 0) := hf
  have HG1 : Hid (∀ (W : World), Vw W a (fls L) → Calls Try.prog 30 #[.slice a n c] W fun e w' => e = .returned (.int .i64 (Fl.gb f n)) ∧ Fl.Dr W w') := fun W h => by
    have := greatest_any L a c W h HV0.out.2 hn
    unfold Fl.gs at this
    rw [← hf, ← hn0] at this
    exact this
  rw [← hn0] at hn h0 ⊢
  clear hn0 hf
  have t0 : decide ((3000 : Int) < (n : Int)) = false := decide_eq_false (by omega)
  have HFL : Hid (n = (fls L).length) := by rw [fls_len]; exact HN.out
  go_enter Try.func9, Try.ntmps9
  go_wp2_with fail
  refine Calls.mono (HA.out _) ?_
  rintro e w1 ⟨rfl, d1⟩
  have O1 : Hid (Only (fun _ => False) w w1) := d1.only
  have HV : Hid (Vw w1 a (fls L) ∧ Wds L) := ⟨HV0.out.1.keep d1.only, HV0.out.2⟩
  clear d1
  go_wp2_with fail
  go_loopg [3, 13] n (fun gh v3 v8 wr => ∃ (k m : Nat), gh = n - k ∧ k ≤ n ∧ v3 = .int .i64 (Fl.gb f k) ∧ v8 = .int .i64 (k : Int) ∧ wr = w1.drewN m)
  case atStart => exact ⟨0, 0, rfl, Nat.zero_le _, rfl, rfl, rfl⟩
  case round =>
    obtain ⟨k, m, rfl, hk, rfl, rfl, rfl⟩ := hrel
    by_cases hlt : k < n
    · have t1 : (k : Int) < (n : Int) := by omega
      obtain ⟨x, hx⟩ := get_some HN.out hlt
      obtain ⟨b, off, rfl, hc⟩ := HV.out.1.fl hx
      have fx : f k = x := by rw [HF.out]; exact getD_of hx
      have HX : Hid (L[k]? = some x) := hx
      clear hx
      obtain ⟨g1, g2, g3⟩ := gb_le f k
      obtain ⟨g, hg⟩ : ∃ g, g = Fl.gb f k := ⟨_, rfl⟩
      have HG : Hid (Fl.gb f (k + 1) = if g < 0 ∨ 0 < Fl.od x (f g.toNat) then (k : Int) else g) := by
        rw [hg, ← fx]; rfl
      rw [← hg] at g1 g2 g3 ⊢
      clear hg fx
      by_cases hg0 : g < 0
      · have eg : Hid (Fl.gb f (k + 1) = (k : Int)) := by rw [HG.out, if_pos (Or.inl hg0)]; exact rfl
        go_wp2_with fail
        go_roundg (n - (k + 1))
        case measure => omega
        case rel => exact ⟨k + 1, m, rfl, hlt, by rw [eg.out], by go_num, rfl⟩
      · obtain ⟨p, rfl⟩ : ∃ p : Nat, g = (p : Int) := ⟨g.toNat, by omega⟩
        have hp : p < n := by omega
        obtain ⟨y, hy⟩ := get_some HN.out hp
        obtain ⟨b2, off2, e2, hc2⟩ := HV.out.1.fl hy
        have e3 : b = b2 ∧ off = off2 := by injection e2 with h; injection h with h1 h2; exact ⟨h1, h2⟩
        obtain ⟨rfl, rfl⟩ := e3
        clear e2
        have fy : f p = y := by rw [HF.out]; exact getD_of hy
        have HO2 : Hid (∀ w, Calls Try.prog 17 #[.float .f64 x, .float .f64 y] w fun e w' => e = .returned (.int .i64 (Fl.od x y)) ∧ ∃ n, w' = w.drewN n) := HO.out x y (HV.out.2.get HX.out) (HV.out.2.get hy)
        rw [Int.toNat_natCast, fy] at HG
        have b0 : decide ((p : Int) < 0) = false := decide_eq_false (by omega)
        obtain ⟨o1, o2⟩ := od_le x y
        obtain ⟨o, ho⟩ : ∃ o, o = Fl.od x y := ⟨_, rfl⟩
        rw [← ho] at HO2 HG o1 o2
        clear fy hy ho hg0 g1 g3
        by_cases h0 : 0 < o
        · have eg : Hid (Fl.gb f (k + 1) = (k : Int)) := by rw [HG.out, if_pos (Or.inr h0)]; exact rfl
          go_wp2_with fail
          refine Calls.mono (HO2.out _) ?_
          rintro e w3 ⟨rfl, m1, rfl⟩
          go_wp2_with fail
          go_roundg (n - (k + 1))
          case measure => omega
          case rel => exact ⟨k + 1, m + m1, rfl, hlt, by rw [eg.out], by go_num, by simp [World.drewN, Nat.add_assoc]⟩
        · have eg : Hid (Fl.gb f (k + 1) = (p : Int)) := by rw [HG.out, if_neg (by omega)]; exact rfl
          have b1 : decide (0 < o) = false := decide_eq_false h0
          go_wp2_with fail
          refine Calls.mono (HO2.out _) ?_
          rintro e w3 ⟨rfl, m1, rfl⟩
          go_wp2_with fail
          go_roundg (n - (k + 1))
          case measure => omega
          case rel => exact ⟨k + 1, m + m1, rfl, hlt, by rw [eg.out], by go_num, by simp [World.drewN, Nat.add_assoc]⟩
    · have t2 : decide ((k : Int) < (n : Int)) = false := decide_eq_false (by omega)
      have ek : k = n := by omega
      subst ek
      obtain ⟨b, off, ea, hcs⟩ := HV.out.1.cells (by rw [fls_len, ← HN.out]; exact h0)
      subst ea
      have HS : Hid (∀ (W : World), (W.alloc (.cells #[] 22)).ownsRow W.heap.size 22 1 (.slice (some ⟨W.heap.size, 0, none⟩) 0 0) 0 []) := fun W => World.ownsRow_lit (base := W.heap.size) (e := 22) (size := 1) W #[] 0 (Nat.le_refl _) (by decide) (by decide)
      have HC : Hid (∀ j u, (fls L)[j]? = some u → ((w1.drewN m).alloc (.cells #[] 22)).cell? ((⟨b, off, none⟩ : Addr).add j) = some u) := fun j u hj => by
        rw [Addr.add_mid]
        exact keep0 (((Only.refl (fun _ => False) w1).drewN m).alloc _) (hcs.2 j u hj)
      have HSz : ((w1.drewN m).alloc (.cells #[] 22)).heap.size = w1.heap.size + 1 := by simp [World.drewN]
      clear hcs
      go_wp2_with (at_builtin; (refine wpList_append_lies _ rfl _ _ 25 rfl w1.heap.size 22 i22 (.float .f64 0) 1 8 Try.underlying25 g22 g220 g221 g222 rfl (by decide) (.slice (some ⟨w1.heap.size, 0, none⟩) 0 0) 0 [] rfl (HS.out (w1.drewN m)) ⟨b, off, none⟩ k c (fls L) rfl (by rw [Nat.mul_one]; exact HFL.out.symm) HC.out (fls_one _) h0 (by unfold maxLen; omega) (by omega) (by rw [HSz]; omega) (w1.heap.size + 1) HSz ?_; intro g5 cap5 w6 hown5 hgrow5 hat5 hlt5; have H5 : Hid (Vw w6 (some ⟨g5, 0, none⟩) (fls L)) := own_vw (by simpa using hown5); have O6 : Hid (Only (fun _ => False) w1 w6) := grow_only (((Only.refl (fun _ => False) w1).drewN m).alloc _) (Nat.le_refl _) hgrow5; clear hown5 hgrow5 hat5 hlt5))
      (try rw [Nat.zero_add])
      refine Calls.mono (HM1.out _ _ _ H5.out) ?_
      rintro e w7 ⟨r, rfl, lr, sr, d7⟩
      have D7 : Hid (r < 18446744073709551616 ∧ Fl.Sm r (Fl.mnN L) ∧ Only (fun _ => False) w1 w7) := ⟨lr, sr, O6.out.trans d7.only⟩
      clear lr sr d7
      go_wp2_with fail
      refine Calls.mono (HM2.out _ (HV.out.1.keep D7.out.2.2)) ?_
      rintro e w8 ⟨q, rfl, lq, sq, d8⟩
      have D8 : Hid (Only (fun _ => False) w1 w8) := D7.out.2.2.trans d8.only
      have HSA : Hid (∀ w, Calls Try.prog 14 #[.float .f64 r, .float .f64 q] w fun e w' => e = .returned (.bool true) ∧ ∃ n, w' = w.drewN n) := by
        have := same_any r q D7.out.1 lq
        rw [Fl.sm_of (D7.out.2.1.trans sq.symm)] at this
        exact this
      clear lq sq d8
      go_wp2_with fail
      refine Calls.mono (HSA.out _) ?_
      rintro e w9 ⟨rfl, n9, rfl⟩
      go_wp2_with fail
      refine Calls.mono (HG1.out _ (HV.out.1.keep (D8.out.drewN n9))) ?_
      rintro e w10 ⟨rfl, d10⟩
      have D10 : Hid (Only (fun _ => False) w1 w10) := (D8.out.drewN n9).trans d10.only
      clear d10
      generalize Fl.gb f k = gg at *
      go_wp2_with fail
      go_ret
      exact ⟨rfl, O1.out.trans D10.out⟩
set_option maxRecDepth 100000 in
set_option maxHeartbeats 4000000 in
theorem walk_nil (L : List Nat) (a : Option Addr) (c : Nat) (w : World) (hV : Vw w a (fls L)) (hW : Wds L) (h0 : L.length = 0) : Calls Try.prog 9 #[.slice a L.length c] w fun e w' => e = .returned (.bool true) ∧ Only (fun _ => False) w w' := by
  obtain ⟨i22, g22, g220, g221, g222⟩ := info_parts info22
  have HA : Hid (∀ w, Calls Try.prog 10 #[] w fun e w' => e = .returned (.bool true) ∧ Fl.Dr w w') := awake_any
  have eL : L = [] := List.eq_nil_of_length_eq_zero h0
  subst eL
  clear hV hW h0
  show Calls Try.prog 9 #[.slice a 0 c] w _
  have HM1 : Hid (∀ (W : World) (a2 : Option Addr) (c2 : Nat), Calls Try.prog 28 #[.slice a2 0 c2] W (Fl.P (Fl.mnN []) W)) := fun W a2 c2 => mean_any [] a2 c2 W (Vw.nil _ _) (fun x hx => by cases hx) (by decide)
  have HM2 : Hid (∀ (W : World), Calls Try.prog 29 #[.slice a 0 c] W (Fl.P (Fl.mnN []) W)) := fun W => refMean_any [] a c W (Vw.nil _ _) (fun x hx => by cases hx) (by decide)
  have HG1 : Hid (∀ (W : World), Calls Try.prog 30 #[.slice a 0 c] W fun e w' => e = .returned (.int .i64 (-1)) ∧ Fl.Dr W w') := fun W => greatest_any [] a c W (Vw.nil _ _) (fun x hx => by cases hx) (by decide)
  go_enter Try.func9, Try.ntmps9
  go_wp2_with fail
  refine Calls.mono (HA.out _) ?_
  rintro e w1 ⟨rfl, d1⟩
  have O1 : Hid (Only (fun _ => False) w w1) := d1.only
  clear d1
  go_wp2_with fail
  go_loopg [3, 13] 0 (fun gh v3 v8 wr => v3 = .int .i64 (-1) ∧ v8 = .int .i64 0 ∧ w1 = wr)
  case atStart => exact ⟨rfl, rfl, rfl⟩
  case round =>
    obtain ⟨rfl, rfl, hW⟩ := hrel
    subst hW
    have O6 : Hid (Only (fun _ => False) w (w1.alloc (.cells #[] 22))) := O1.out.alloc _
    go_wp2_with (at_builtin; (refine wpList_app0 _ rfl _ _ rfl (some ⟨w1.heap.size, 0, none⟩) rfl a c rfl ?_))
    refine Calls.mono (HM1.out _ _ _) ?_
    rintro e w7 ⟨r, rfl, lr, sr, d7⟩
    have D7 : Hid (r < 18446744073709551616 ∧ Fl.Sm r (Fl.mnN []) ∧ Only (fun _ => False) w w7) := ⟨lr, sr, O6.out.trans d7.only⟩
    clear lr sr d7
    go_wp2_with fail
    refine Calls.mono (HM2.out _) ?_
    rintro e w8 ⟨q, rfl, lq, sq, d8⟩
    have D8 : Hid (Only (fun _ => False) w w8) := D7.out.2.2.trans d8.only
    have HSA : Hid (∀ w, Calls Try.prog 14 #[.float .f64 r, .float .f64 q] w fun e w' => e = .returned (.bool true) ∧ ∃ n, w' = w.drewN n) := by
      have := same_any r q D7.out.1 lq
      rw [Fl.sm_of (D7.out.2.1.trans sq.symm)] at this
      exact this
    clear lq sq d8
    go_wp2_with fail
    refine Calls.mono (HSA.out _) ?_
    rintro e w9 ⟨rfl, n9, rfl⟩
    go_wp2_with fail
    refine Calls.mono (HG1.out _) ?_
    rintro e w10 ⟨rfl, d10⟩
    have D10 : Hid (Only (fun _ => False) w w10) := (D8.out.drewN n9).trans d10.only
    clear d10
    go_wp2_with fail
    go_ret
    exact ⟨rfl, D10.out⟩
theorem walk {w : World} (L : List Nat) (a : Option Addr) (c : Nat) (hV : Vw w a (fls L)) (hW : Wds L) (hc : L.length ≤ c) (hm : c ≤ maxLen) : Calls Try.prog 9 #[.slice a L.length c] w fun e w' => e = .returned (.bool true) ∧ Only (fun _ => False) w w' := by
  by_cases h : L.length ≤ 3000
  · by_cases h0 : L.length = 0
    · exact walk_nil L a c w hV hW h0
    · exact walk_pos L a c w hV hW h (by omega)
  · exact walk_big L a c w hV hW h
end ratioMeans
end Go.Proofs.Ytihdfoigobijjaa
