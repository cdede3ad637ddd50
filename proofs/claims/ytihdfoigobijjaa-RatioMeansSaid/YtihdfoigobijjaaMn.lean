/-
  Layer 12: Mean, both ways; Greatest.
-/
import Derived.Test.YtihdfoigobijjaaRo
namespace Go.Proofs.Ytihdfoigobijjaa
open Go.RowKit Go.Maps
set_option linter.unusedVariables false
set_option linter.unusedSimpArgs false
/-- numbers as cells. -/
def fls (L : List Nat) : List Value := L.map fun x => .float .f64 x
theorem fls_len (L : List Nat) : (fls L).length = L.length := by simp [fls]
theorem fls_at {L : List Nat} {k x : Nat} (h : L[k]? = some x) : (fls L)[k]? = some (.float .f64 x) := by
  unfold fls; rw [List.getElem?_map, h]; rfl
/-- all are words. -/
def Wds (L : List Nat) : Prop := ∀ x ∈ L, x < 18446744073709551616
theorem Wds.get {L : List Nat} (h : Wds L) {k x : Nat} (hk : L[k]? = some x) : x < 18446744073709551616 := h x (List.mem_of_getElem? hk)
theorem Vw.fl {w : World} {a : Option Addr} {L : List Nat} {k x : Nat} (h : Vw w a (fls L)) (hk : L[k]? = some x) : ∃ b off, a = some ⟨b, off, none⟩ ∧ w.cell? ⟨b, off + k, none⟩ = some (.float .f64 x) := by
  have hl := (List.getElem?_eq_some_iff.1 hk).1
  obtain ⟨b, off, e, hb, hc⟩ := h.cells (by rw [fls_len]; omega)
  exact ⟨b, off, e, hc _ _ (fls_at hk)⟩
def Fl.sumN (L : List Nat) : Nat := L.foldl (Fl.opN .add) 0
theorem sum_snoc (L : List Nat) (x : Nat) : Fl.sumN (L ++ [x]) = Fl.opN .add (Fl.sumN L) x := by simp [Fl.sumN]
theorem sum_lt (L : List Nat) : Fl.sumN L < 18446744073709551616 := by
  rcases List.eq_nil_or_concat L with rfl | ⟨M, x, rfl⟩
  · decide
  · rw [List.concat_eq_append, sum_snoc]; exact Fl.opN_lt _ _ _
def Fl.mnN (L : List Nat) : Nat := Fl.opN .quo (Fl.sumN L) (floatOfInt .f64 (L.length : Int))
theorem get_some {L : List Nat} {n k : Nat} (hn : n = L.length) (h : k < n) : ∃ x, L[k]? = some x := ⟨L[k]'(by omega), List.getElem?_eq_getElem _⟩
set_option maxRecDepth 100000 in
set_option maxHeartbeats 2000000 in
theorem mean_any (L : List Nat) (a : Option Addr) (c : Nat) (w : World) (hV : Vw w a (fls L)) (hW : Wds L) (hn : L.length ≤ 3000) : Calls Try.prog 28 #[.slice a L.length c] w (Fl.P (Fl.mnN L) w) := by
  have HV : Hid (Vw w a (fls L) ∧ Wds L) := ⟨hV, hW⟩
  clear hV hW
  obtain ⟨n, hn0⟩ : ∃ n, n = L.length := ⟨_, rfl⟩
  have HN : Hid (n = L.length) := hn0
  have HM : Hid (Fl.mnN L = Fl.opN .quo (Fl.sumN L) (floatOfInt .f64 (n : Int))) := by rw [hn0]; rfl
  rw [← hn0] at hn ⊢
  clear hn0
  have HA : ∀ x y W, (binOp .add 22 (.float .f64 x) (.float .f64 y)).run Try.prog W = .ok (.float .f64 (Fl.fr .add x y W)) (Fl.fw .add x y W) := Fl.run_op (Or.inl rfl) 22
  have HQ : ∀ x y W, (binOp .quo 22 (.float .f64 x) (.float .f64 y)).run Try.prog W = .ok (.float .f64 (Fl.fr .quo x y W)) (Fl.fw .quo x y W) := Fl.run_op (Or.inr (Or.inr (Or.inr rfl))) 22
  go_enter Try.func28, Try.ntmps28
  go_wp2_with fail
  go_loopg [3, 8] n (fun gh v3 v8 wr => ∃ (k s m : Nat), gh = n - k ∧ k ≤ n ∧ v3 = .float .f64 s ∧ v8 = .int .i64 (k : Int) ∧ s < 18446744073709551616 ∧ Fl.Sm s (Fl.sumN (L.take k)) ∧ wr = w.drewN m)
  case atStart => exact ⟨0, 0, 0, rfl, Nat.zero_le _, rfl, rfl, by decide, Fl.Sm.refl _, rfl⟩
  case round =>
    obtain ⟨k, s, m, rfl, hk, rfl, rfl, hs, hS, rfl⟩ := hrel
    have HS : Hid (s < 18446744073709551616 ∧ Fl.Sm s (Fl.sumN (L.take k))) := ⟨hs, hS⟩
    clear hs hS
    by_cases hlt : k < n
    · have t1 : (k : Int) < (n : Int) := by omega
      obtain ⟨x, hx⟩ := get_some HN.out hlt
      obtain ⟨b, off, rfl, hc⟩ := HV.out.1.fl hx
      have HX : Hid (L[k]? = some x) := hx
      clear hx
      go_wp2_with fail
      go_roundg (n - (k + 1))
      case measure => omega
      case rel =>
        obtain ⟨m2, e2⟩ := Fl.Dr.trans (⟨m, rfl⟩ : Fl.Dr w (w.drewN m)) (Fl.fw_dr .add s x (w.drewN m))
        refine ⟨k + 1, _, m2, rfl, hlt, rfl, by go_num, (Fl.fr_ok _ _ _ _).1, ?_, e2⟩
        rw [take_snoc HX.out, sum_snoc]
        exact (Fl.fr_ok _ _ _ _).2.trans (Fl.opN_sm HS.out.1 (sum_lt _) (HV.out.2.get HX.out) (HV.out.2.get HX.out) HS.out.2 (Fl.Sm.refl _))
    · have t2 : decide ((k : Int) < (n : Int)) = false := decide_eq_false (by omega)
      go_wp2_with fail
      go_ret
      have eL : L.take k = L := List.take_of_length_le (by have := HN.out; omega)
      have h2 := HS.out.2
      rw [eL] at h2
      refine ⟨_, rfl, (Fl.fr_ok _ _ _ _).1, ?_, Fl.Dr.trans (⟨m, rfl⟩ : Fl.Dr w (w.drewN m)) (Fl.fw_dr _ _ _ _)⟩
      rw [HM.out]
      exact (Fl.fr_ok _ _ _ _).2.trans (Fl.opN_sm HS.out.1 (sum_lt _) (Fl.ofI_lt _) (Fl.ofI_lt _) h2 (Fl.Sm.refl _))
set_option maxRecDepth 100000 in
set_option maxHeartbeats 2000000 in
theorem refMean_any (L : List Nat) (a : Option Addr) (c : Nat) (w : World) (hV : Vw w a (fls L)) (hW : Wds L) (hn : L.length ≤ 3000) : Calls Try.prog 29 #[.slice a L.length c] w (Fl.P (Fl.mnN L) w) := by
  have HV : Hid (Vw w a (fls L) ∧ Wds L) := ⟨hV, hW⟩
  clear hV hW
  obtain ⟨n, hn0⟩ : ∃ n, n = L.length := ⟨_, rfl⟩
  have HN : Hid (n = L.length) := hn0
  have HM : Hid (Fl.mnN L = Fl.opN .quo (Fl.sumN L) (floatOfInt .f64 (n : Int))) := by rw [hn0]; rfl
  rw [← hn0] at hn ⊢
  clear hn0
  have HA : ∀ x y W, (binOp .add 22 (.float .f64 x) (.float .f64 y)).run Try.prog W = .ok (.float .f64 (Fl.fr .add x y W)) (Fl.fw .add x y W) := Fl.run_op (Or.inl rfl) 22
  have HQ : ∀ x y W, (binOp .quo 22 (.float .f64 x) (.float .f64 y)).run Try.prog W = .ok (.float .f64 (Fl.fr .quo x y W)) (Fl.fw .quo x y W) := Fl.run_op (Or.inr (Or.inr (Or.inr rfl))) 22
  go_enter Try.func29, Try.ntmps29
  go_wp2_with fail
  go_loopg [3, 4] n (fun gh v3 v8 wr => ∃ (k s m : Nat), gh = n - k ∧ k ≤ n ∧ v3 = .float .f64 s ∧ v8 = .int .i64 (k : Int) ∧ s < 18446744073709551616 ∧ Fl.Sm s (Fl.sumN (L.take k)) ∧ wr = w.drewN m)
  case atStart => exact ⟨0, 0, 0, rfl, Nat.zero_le _, rfl, rfl, by decide, Fl.Sm.refl _, rfl⟩
  case round =>
    obtain ⟨k, s, m, rfl, hk, rfl, rfl, hs, hS, rfl⟩ := hrel
    have HS : Hid (s < 18446744073709551616 ∧ Fl.Sm s (Fl.sumN (L.take k))) := ⟨hs, hS⟩
    clear hs hS
    by_cases hlt : k < n
    · have t1 : (k : Int) < (n : Int) := by omega
      obtain ⟨x, hx⟩ := get_some HN.out hlt
      obtain ⟨b, off, rfl, hc⟩ := HV.out.1.fl hx
      have HX : Hid (L[k]? = some x) := hx
      clear hx
      go_wp2_with fail
      go_roundg (n - (k + 1))
      case measure => omega
      case rel =>
        obtain ⟨m2, e2⟩ := Fl.Dr.trans (⟨m, rfl⟩ : Fl.Dr w (w.drewN m)) (Fl.fw_dr .add s x (w.drewN m))
        refine ⟨k + 1, _, m2, rfl, hlt, rfl, by go_num, (Fl.fr_ok _ _ _ _).1, ?_, e2⟩
        rw [take_snoc HX.out, sum_snoc]
        exact (Fl.fr_ok _ _ _ _).2.trans (Fl.opN_sm HS.out.1 (sum_lt _) (HV.out.2.get HX.out) (HV.out.2.get HX.out) HS.out.2 (Fl.Sm.refl _))
    · have t2 : decide ((k : Int) < (n : Int)) = false := decide_eq_false (by omega)
      go_wp2_with fail
      go_ret
      have eL : L.take k = L := List.take_of_length_le (by have := HN.out; omega)
      have h2 := HS.out.2
      rw [eL] at h2
      refine ⟨_, rfl, (Fl.fr_ok _ _ _ _).1, ?_, Fl.Dr.trans (⟨m, rfl⟩ : Fl.Dr w (w.drewN m)) (Fl.fw_dr _ _ _ _)⟩
      rw [HM.out]
      exact (Fl.fr_ok _ _ _ _).2.trans (Fl.opN_sm HS.out.1 (sum_lt _) (Fl.ofI_lt _) (Fl.ofI_lt _) h2 (Fl.Sm.refl _))
/-- the place of the greatest one of the first k. -/
def Fl.gb (f : Nat → Nat) : Nat → Int
  | 0 => -1
  | k + 1 => if Fl.gb f k < 0 ∨ 0 < Fl.od (f k) (f (Fl.gb f k).toNat) then (k : Int) else Fl.gb f k
theorem gb_le (f : Nat → Nat) : ∀ k, -1 ≤ Fl.gb f k ∧ Fl.gb f k < k ∧ (0 < k → 0 ≤ Fl.gb f k)
  | 0 => by simp [Fl.gb]
  | k + 1 => by
    have ih := gb_le f k
    unfold Fl.gb
    split
    · omega
    · rename_i h
      simp only [not_or] at h
      omega
theorem od_le (x y : Nat) : -1 ≤ Fl.od x y ∧ Fl.od x y ≤ 1 := by
  unfold Fl.od
  (repeat' split) <;> omega
def Fl.gs (L : List Nat) : Int := Fl.gb (fun i => L.getD i 0) L.length
theorem getD_of {L : List Nat} {k x : Nat} (h : L[k]? = some x) : L.getD k 0 = x := by simp [List.getD, h]
set_option maxRecDepth 100000 in
set_option maxHeartbeats 2000000 in
theorem greatest_any (L : List Nat) (a : Option Addr) (c : Nat) (w : World) (hV : Vw w a (fls L)) (hW : Wds L) (hn : L.length ≤ 3000) : Calls Try.prog 30 #[.slice a L.length c] w fun e w' => e = .returned (.int .i64 (Fl.gs L)) ∧ Fl.Dr w w' := by
  have HV : Hid (Vw w a (fls L) ∧ Wds L) := ⟨hV, hW⟩
  have HO : Hid (∀ x y, x < 18446744073709551616 → y < 18446744073709551616 → ∀ w, Calls Try.prog 16 #[.float .f64 x, .float .f64 y] w fun e w' => e = .returned (.int .i64 (Fl.od x y)) ∧ ∃ n, w' = w.drewN n) := fun x y hx hy w => order_any x y hx hy w
  clear hV hW
  obtain ⟨n, hn0⟩ : ∃ n, n = L.length := ⟨_, rfl⟩
  have HN : Hid (n = L.length) := hn0
  unfold Fl.gs
  rw [← hn0] at hn ⊢
  clear hn0
  obtain ⟨f, hf⟩ : ∃ f : Nat → Nat, f = fun i => L.getD i 0 := ⟨_, rfl⟩
  have HF : Hid (f = fun i => L.getD i 0) := hf
  rw [← hf]
  clear hf
  go_enter Try.func30, Try.ntmps30
  go_wp2_with fail
  go_loopg [3, 8] n (fun gh v3 v8 wr => ∃ (k m : Nat), gh = n - k ∧ k ≤ n ∧ v3 = .int .i64 (Fl.gb f k) ∧ v8 = .int .i64 (k : Int) ∧ wr = w.drewN m)
  case atStart => exact ⟨0, 0, rfl, Nat.zero_le _, rfl, rfl, rfl⟩
  case round =>
    obtain ⟨k, m, rfl, hk, rfl, rfl, rfl⟩ := hrel
    by_cases hlt : k < n
    · have t1 : (k : Int) < (n : Int) := by omega
      obtain ⟨x, hx⟩ := get_some HN.out hlt
      obtain ⟨b, off, rfl, hc⟩ := HV.out.1.fl hx
      have fx : f k = x := by rw [HF.out]; exact getD_of hx
      have HX : Hid (L[k]? = some x) := hx
      clear hx
      obtain ⟨g1, g2, g3⟩ := gb_le f k
      obtain ⟨g, hg⟩ : ∃ g, g = Fl.gb f k := ⟨_, rfl⟩
      have HG : Hid (Fl.gb f (k + 1) = if g < 0 ∨ 0 < Fl.od x (f g.toNat) then (k : Int) else g) := by
        rw [hg, ← fx]; rfl
      rw [← hg] at g1 g2 g3 ⊢
      clear hg fx
      by_cases hg0 : g < 0
      · have eg : Hid (Fl.gb f (k + 1) = (k : Int)) := by rw [HG.out, if_pos (Or.inl hg0)]; exact rfl
        go_wp2_with fail
        go_roundg (n - (k + 1))
        case measure => omega
        case rel => exact ⟨k + 1, m, rfl, hlt, by rw [eg.out], by go_num, rfl⟩
      · obtain ⟨p, rfl⟩ : ∃ p : Nat, g = (p : Int) := ⟨g.toNat, by omega⟩
        have hp : p < n := by omega
        obtain ⟨y, hy⟩ := get_some HN.out hp
        obtain ⟨b2, off2, e2, hc2⟩ := HV.out.1.fl hy
        have e3 : b = b2 ∧ off = off2 := by injection e2 with h; injection h with h1 h2; exact ⟨h1, h2⟩
        obtain ⟨rfl, rfl⟩ := e3
        clear e2
        have fy : f p = y := by rw [HF.out]; exact getD_of hy
        have HO2 : Hid (∀ w, Calls Try.prog 16 #[.float .f64 x, .float .f64 y] w fun e w' => e = .returned (.int .i64 (Fl.od x y)) ∧ ∃ n, w' = w.drewN n) := HO.out x y (HV.out.2.get HX.out) (HV.out.2.get hy)
        rw [Int.toNat_natCast, fy] at HG
        have b0 : decide ((p : Int) < 0) = false := decide_eq_false (by omega)
        obtain ⟨o1, o2⟩ := od_le x y
        obtain ⟨o, ho⟩ : ∃ o, o = Fl.od x y := ⟨_, rfl⟩
        rw [← ho] at HO2 HG o1 o2
        clear fy hy ho hg0 g1 g3
        by_cases h0 : 0 < o
        · have eg : Hid (Fl.gb f (k + 1) = (k : Int)) := by rw [HG.out, if_pos (Or.inr h0)]; exact rfl
          go_wp2_with fail
          refine Calls.mono (HO2.out _) ?_
          rintro e w1 ⟨rfl, m1, rfl⟩
          go_wp2_with fail
          go_roundg (n - (k + 1))
          case measure => omega
          case rel => exact ⟨k + 1, m + m1, rfl, hlt, by rw [eg.out], by go_num, by simp [World.drewN, Nat.add_assoc]⟩
        · have eg : Hid (Fl.gb f (k + 1) = (p : Int)) := by rw [HG.out, if_neg (by omega)]; exact rfl
          have b1 : decide (0 < o) = false := decide_eq_false h0
          go_wp2_with fail
          refine Calls.mono (HO2.out _) ?_
          rintro e w1 ⟨rfl, m1, rfl⟩
          go_wp2_with fail
          go_roundg (n - (k + 1))
          case measure => omega
          case rel => exact ⟨k + 1, m + m1, rfl, hlt, by rw [eg.out], by go_num, by simp [World.drewN, Nat.add_assoc]⟩
    · have t2 : decide ((k : Int) < (n : Int)) = false := decide_eq_false (by omega)
      go_wp2_with fail
      go_ret
      have ek : k = n := by omega
      exact ⟨by rw [ek]; rfl, m, rfl⟩
end Go.Proofs.Ytihdfoigobijjaa
