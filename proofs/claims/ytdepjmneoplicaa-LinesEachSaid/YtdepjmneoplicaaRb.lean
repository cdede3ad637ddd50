/-
  stanzaref13.Best: the document's search.
-/
import Derived.Test.YtdepjmneoplicaaCo
import Derived.Test.YtdepjmneoplicaaBf
import Derived.Test.YtdepjmneoplicaaBm
namespace Go.Proofs.Ytdepjmneoplicaa
open Go.RowKit Go.Maps
set_option linter.unusedVariables false
set_option linter.unusedSimpArgs false
/-- what the line from i to k costs, in a part that ends at b. -/
def bsF (C : List Ct) (O : List Nat) (t wi hy pr lo b : Nat) (i k : Nat) : Option Nat := Sp.cos C O t wi hy pr lo (decide (k = b)) i k
/-- lines of ends. -/
def mkL (C : List Ct) (O : List Nat) (t : Nat) : Nat → List Nat → List Ln
  | _, [] => []
  | a, k :: E => ⟨a, k, Sp.wde C t a k (O.getD k 0), O.getD k 0⟩ :: mkL C O t k E
theorem mkL_len (C : List Ct) (O : List Nat) (t : Nat) : ∀ (a : Nat) (E : List Nat), (mkL C O t a E).length = E.length
  | _, [] => rfl
  | a, k :: E => by simp [mkL, mkL_len C O t k E]
/-- what a search answers. -/
def bsP (f : Nat → Nat → Option Nat) (C : List Ct) (O : List Nat) (t b a : Nat) (w : World) (e : Ending) (w' : World) : Prop :=
  (∃ (E : List Nat) (s : Nat) (al : Option Addr) (n c : Nat), Ds.Best f b a E s ∧ n = E.length ∧ e = .returned (.tuple #[.slice al n c, .bool true]) ∧ w'.ownsRow w.heap.size 54 4 (.slice al n c) n (lnC (mkL C O t a E)) ∧ Only (fun _ => False) w w') ∨
  (Ds.No f b a ∧ e = .returned (.tuple #[.slice none 0 0, .bool false]) ∧ Only (fun _ => False) w w')
theorem made_row (z : Value) (n : Nat) : madeCells #[z] n = rowOf n (fun _ => z) := by
  apply Array.ext_getElem?
  intro i
  by_cases h : i < n
  · rw [rowOf_at _ h]
    rw [Array.getElem?_eq_getElem (by rw [size_madeCells]; exact h)]
    simp [madeCells, Nat.mod_one]
  · rw [Array.getElem?_eq_none (by rw [size_madeCells]; omega), Array.getElem?_eq_none (by rw [rowOf_size]; omega)]
theorem infoSl : (Try.prog.info? 47).map (fun i => (i.zero, i.size, i.bytes)) = some (some (.slice none 0 0), 1, 24) := by kernel_rfl
theorem cos_le {C : List Ct} {O : List Nat} {t wi hy pr lo i k y : Nat} {la : Bool} (h1 : hy ≤ 2097152) (h2 : pr ≤ 1048576) (h : Sp.cos C O t wi hy pr lo la i k = some y) : y ≤ 200000000 ∧ i < k ∧ 100 ≤ y := by
  have hx : Sp.ext O hy pr i k ≤ 4000000 := by
    unfold Sp.ext
    split
    · split <;> omega
    · omega
  have hb := Fl.badN_le (Sp.rat C O t wi i k)
  have hb2 := Nat.mul_le_mul hb hb
  cases hc : Sp.can C O t wi i k with
  | false => rw [Sp.cos_no hc] at h; cases h
  | true =>
    have hik : i < k := by
      unfold Sp.can at hc
      rw [Bool.and_eq_true] at hc
      exact of_decide_eq_true hc.1
    cases la with
    | true =>
      rw [Sp.cos_last hc] at h
      injection h with h
      exact ⟨by omega, hik, by omega⟩
    | false =>
      cases hl : Fl.loose lo (Sp.rat C O t wi i k) with
      | true => rw [Sp.cos_loose hc hl] at h; cases h
      | false =>
        rw [Sp.cos_fit hc hl] at h
        injection h with h
        exact ⟨by omega, hik, by omega⟩
set_option maxRecDepth 100000 in
set_option maxHeartbeats 16000000 in
theorem refBest_any (C : List Ct) (O : List Nat) (n m : Nat) (aC aO : Option Addr) (cC cO a b wi t mo hy pr lo : Nat) (w : World) (hP : Pv w C O n m aC aO cC cO) (hm : n < m) (hab : a ≤ b) (hb : b ≤ n) (hw : wi ≤ 1048576) (h0 : 0 < t) (ht : t ≤ 1000) (hhy : hy ≤ 2097152) (hpr : pr ≤ 1048576) :
    Calls Try.prog 39 #[.agg #[.slice aC n cC, .slice aO m cO], .int .i64 (a : Int), .int .i64 (b : Int), .agg #[.int .i64 (wi : Int), .int .i64 (t : Int), .int .u8 (mo : Int), .int .i64 (hy : Int), .int .i64 (pr : Int), .float .f64 lo]] w (bsP (bsF C O t wi hy pr lo b) C O t b a w) := by
  have h1 := hP.few
  have hfO := hP.fewO
  have HOL : Hid (m = O.length) := hP.hm
  obtain ⟨bo, oo, rfl, hbo, hco⟩ := hP.vO.cells (by rw [u8s_len, ← hP.hm]; omega)
  have HCO : Hid (∀ W', Only (fun _ => False) w W' → ∀ k e : Nat, O[k]? = some e → W'.cell? ⟨bo, oo + k, none⟩ = some (.int .u8 (e : Int))) := fun W' ho k e hk => keep0 ho (hco k _ (u8s_at hk))
  have HP : Hid (Pv w C O n m aC (some ⟨bo, oo, none⟩) cC cO) := hP
  obtain ⟨f, hf⟩ : ∃ f, f = bsF C O t wi hy pr lo b := ⟨_, rfl⟩
  rw [← hf]
  have HF : Hid (f = bsF C O t wi hy pr lo b) := hf
  have HFM : Hid (∀ i j y, f i j = some y → y ≤ 200000000) := fun i j y h => by rw [hf] at h; exact (cos_le hhy hpr h).1
  have HCS : Hid (∀ W' i k (la : Bool), Only (fun _ => False) w W' → i ≤ n → k ≤ n → la = decide (k = b) → Calls Try.prog 25 #[.agg #[.slice aC n cC, .slice (some ⟨bo, oo, none⟩) m cO], .int .i64 ((i : Nat) : Int), .int .i64 ((k : Nat) : Int), .bool la, .agg #[.int .i64 (wi : Int), .int .i64 (t : Int), .int .u8 (mo : Int), .int .i64 (hy : Int), .int .i64 (pr : Int), .float .f64 lo]] W' fun e w' => e = .returned (Sp.cosV (f i k)) ∧ Only (fun _ => False) W' w') := fun W' i k la ho hi hk hla => by
    rw [hf]
    unfold bsF
    rw [← hla]
    exact refCost_any C O n m aC _ cC cO i k wi t mo hy pr lo la W' (HP.out.keep ho) hm hi hk hw h0 ht hhy hpr
  clear hP hbo hco hf
  go_enter Try.func39, Try.ntmps39
  go_upto_region 1 with fail
  obtain ⟨R, B, w0, hw0, hB, hR, H0, lRB, lB, lB0⟩ := box26 w (.slice aC n cC) (.slice (some ⟨bo, oo, none⟩) m cO) (.int .i64 (wi : Int)) (.int .i64 (t : Int)) (.int .u8 (mo : Int)) (.int .i64 (hy : Int)) (.int .i64 (pr : Int)) (.float .f64 lo) 31 35
  rw [hw0, hB, hR]
  clear hw0 hB hR
  by_cases hlt : a < b
  · have t0 : decide ((b : Int) ≤ (a : Int)) = false := decide_eq_false (by omega)
    obtain ⟨nd, hnd⟩ : ∃ x, x = b - a := ⟨_, rfl⟩
    have e1 : (b : Int) - (a : Int) = (nd : Int) := by omega
    have hndl : nd ≤ 100000 := by omega
    have hndp : a + nd = b := by omega
    have hmkI : ∀ w : World, (Instr.makeSlice 47 (.int .i64 ((nd : Int) + 1)) (.int .i64 ((nd : Int) + 1))).run Try.prog w = .ok (.slice (some ⟨w.heap.size, 0, none⟩) (nd + 1) (nd + 1)) (w.alloc (.cells (rowOf (nd + 1) fun _ => .int .i64 0) 3)) := fun w => by
      rw [← made_row]
      exact run_make_row' (P := Try.prog) 47 3 (.int .i64 0) 8 Try.underlying47 info3 rfl .i64 .i64 (nd + 1) (by omega) (by omega) w
    have hmkE : ∀ w : World, (Instr.makeSlice 90 (.int .i64 ((nd : Int) + 1)) (.int .i64 ((nd : Int) + 1))).run Try.prog w = .ok (.slice (some ⟨w.heap.size, 0, none⟩) (nd + 1) (nd + 1)) (w.alloc (.cells (rowOf (nd + 1) fun _ => .slice none 0 0) 47)) := fun w => by
      rw [← made_row]
      exact run_make_row' (P := Try.prog) 90 47 (.slice none 0 0) 24 Try.underlying90 infoSl rfl .i64 .i64 (nd + 1) (by omega) (by omega) w
    clear hnd
    go_wp2_with fail
    obtain ⟨sb, hsb⟩ : ∃ x, x = w0.heap.size := ⟨_, rfl⟩
    obtain ⟨eb, heb⟩ : ∃ x, x = w0.heap.size + 1 := ⟨_, rfl⟩
    obtain ⟨w2, hw2⟩ : ∃ Z, Z = (w0.alloc (.cells (rowOf (nd + 1) fun _ => .int .i64 0) 3)).alloc (.cells (rowOf (nd + 1) fun _ => .slice none 0 0) 47) := ⟨_, rfl⟩
    obtain ⟨lim, hlim⟩ : ∃ x, x = w2.heap.size := ⟨_, rfl⟩
    have HB2 : Hid (Bm w0 w2 sb eb (nd + 1) lim (fun _ => 0) (fun _ => [])) := by
      rw [hlim, hw2, hsb, heb]
      refine ⟨bx_made w0 _ _, ⟨fun _ => .slice none 0 0, heap_alloc2_new w0 _ _, fun j hj => ⟨none, 0, rfl, Or.inl rfl⟩⟩, ((Only.refl _ _).alloc _).alloc _, Nat.le_refl _, Nat.lt_succ_self _, ?_, Nat.le_refl _⟩
      rw [size_alloc1, size_alloc1]
      omega
    rw [← hw2, ← heb, ← hsb]
    clear hw2 heb hsb hlim hmkI hmkE
    have HS : Hid (∀ W', Only (fun _ => False) w0 W' → (W'.cell? ⟨R, 0, none⟩ = some (.slice aC n cC) ∧ W'.cell? ⟨R, 1, none⟩ = some (.slice (some ⟨bo, oo, none⟩) m cO)) ∧ (W'.cell? ⟨B, 0, none⟩ = some (.int .i64 (wi : Int)) ∧ W'.cell? ⟨B, 1, none⟩ = some (.int .i64 (t : Int)) ∧ W'.cell? ⟨B, 2, none⟩ = some (.int .u8 (mo : Int)) ∧ W'.cell? ⟨B, 3, none⟩ = some (.int .i64 (hy : Int)) ∧ W'.cell? ⟨B, 4, none⟩ = some (.int .i64 (pr : Int)) ∧ W'.cell? ⟨B, 5, none⟩ = some (.float .f64 lo)) ∧ R < W'.heap.size ∧ B < W'.heap.size) := fun W' ho => ⟨⟨(blk_two (blk_keep ho H0.out.1)).1, (blk_two (blk_keep ho H0.out.1)).2.1⟩, blk_six (blk_keep ho H0.out.2.1), (blk_two (blk_keep ho H0.out.1)).2.2, (Array.getElem?_eq_some_iff.1 (blk_keep ho H0.out.2.1)).1⟩
    go_loopg [12] nd (fun gh v12 wr => ∃ (k : Nat) (S : Nat → Nat) (E : Nat → List Nat) (Z : World), Z = wr ∧ gh = b + 1 - k ∧ a < k ∧ k ≤ b + 1 ∧ v12 = .int .i64 (k : Int) ∧ Bm w0 Z sb eb (nd + 1) lim S E ∧ (∀ j, a ≤ j → j < k → Ds.St f a j (E (j - a)) (S (j - a))) ∧ (∀ j, k ≤ j → E (j - a) = []))
    case atStart => exact ⟨a + 1, fun _ => 0, fun _ => [], _, rfl, by omega, by omega, by omega, by go_num, HB2.out, fun j h1 h2 => Or.inl ⟨by omega, rfl, rfl⟩, fun _ _ => rfl⟩
    case round =>
      obtain ⟨k, S, E, Z, hZ, rfl, hk1, hk2, rfl, hbm, hst, hno⟩ := hrel
      subst hZ
      have HK : Hid (Bm w0 Z sb eb (nd + 1) lim S E ∧ (∀ j, a ≤ j → j < k → Ds.St f a j (E (j - a)) (S (j - a))) ∧ (∀ j, k ≤ j → E (j - a) = [])) := ⟨hbm, hst, hno⟩
      clear hbm hst hno
      by_cases hkb : k ≤ b
      · have t1 : (k : Int) ≤ (b : Int) := by omega
        obtain ⟨dk, hdk⟩ : ∃ x, x = k - a := ⟨_, rfl⟩
        have HDK : Hid (dk = k - a) := hdk
        have hdk2 : dk ≤ nd := by omega
        have e3 : (k : Int) - (a : Int) = (dk : Int) := by omega
        clear hdk
        go_wp2_with fail
        go_loopg [13] (k - a) (fun gh v13 wr => ∃ (i : Nat) (S : Nat → Nat) (E : Nat → List Nat) (Y : World), Y = wr ∧ gh = k - i ∧ a ≤ i ∧ i ≤ k ∧ v13 = .int .i64 (i : Int) ∧ Bm w0 Y sb eb (nd + 1) lim S E ∧ (∀ j, a ≤ j → j < k → Ds.St f a j (E (j - a)) (S (j - a))) ∧ Ds.In f a k i (E (k - a)) (S (k - a)) ∧ (∀ j, k < j → E (j - a) = []))
        case atStart => exact ⟨a, S, E, _, rfl, rfl, Nat.le_refl _, by omega, rfl, HK.out.1, HK.out.2.1, by rw [HK.out.2.2 k (Nat.le_refl _)]; exact Ds.In.start f a k _, fun j hj => HK.out.2.2 j (by omega)⟩
        case round =>
          clear HK
          obtain ⟨i, S, E, Y, hY, rfl, hi1, hi2, rfl, hbm, hst, hin, hno⟩ := hrel
          subst hY
          have HK : Hid (Bm w0 Y sb eb (nd + 1) lim S E ∧ (∀ j, a ≤ j → j < k → Ds.St f a j (E (j - a)) (S (j - a))) ∧ Ds.In f a k i (E (k - a)) (S (k - a)) ∧ (∀ j, k < j → E (j - a) = [])) := ⟨hbm, hst, hin, hno⟩
          clear hbm hst hin hno
          have HWY : Hid (Only (fun _ => False) w Y ∧ Only (fun _ => False) w0 Y) := ⟨H0.out.2.2.trans HK.out.1.old, HK.out.1.old⟩
          by_cases hik : i < k
          · have t2 : (i : Int) < (k : Int) := by omega
            obtain ⟨d, hd⟩ : ∃ x, x = i - a := ⟨_, rfl⟩
            have e2 : (i : Int) - (a : Int) = (d : Int) := by omega
            have hdN : d < nd + 1 := by omega
            have hdkN : dk < nd + 1 := by omega
            have hdI : (d : Int) < (nd : Int) + 1 := by omega
            have hdkI : (dk : Int) < (nd : Int) + 1 := by omega
            have hst := HK.out.2.1 i hi1 hik
            obtain ⟨El, hEl⟩ : ∃ x, x = E d := ⟨_, rfl⟩
            obtain ⟨Sl, hSl⟩ : ∃ x, x = S d := ⟨_, rfl⟩
            obtain ⟨Ek, hEk⟩ : ∃ x, x = E dk := ⟨_, rfl⟩
            obtain ⟨Sk, hSk⟩ : ∃ x, x = S dk := ⟨_, rfl⟩
            obtain ⟨al, cl, cE, vE⟩ := HK.out.1.getE hdN
            obtain ⟨ak, ck, cEk, vEk⟩ := HK.out.1.getE hdkN
            have cS := HK.out.1.getS hdN
            have cSk := HK.out.1.getS hdkN
            rw [← hEl] at cE vE
            rw [← hEk] at cEk vEk
            rw [← hSl] at cS
            rw [← hSk] at cSk
            rw [← hd, ← hEl, ← hSl] at hst
            obtain ⟨ne, hne⟩ : ∃ x, x = El.length := ⟨_, rfl⟩
            obtain ⟨nk, hnk⟩ : ∃ x, x = Ek.length := ⟨_, rfl⟩
            rw [← hne] at cE
            rw [← hnk] at cEk
            have HI : Hid (Ds.In f a k i Ek Sk ∧ Ds.St f a i El Sl ∧ ne = El.length ∧ nk = Ek.length ∧ E = E ∧ dk = k - a) := ⟨by rw [hEk, hSk, HDK.out]; exact HK.out.2.2.1, hst, hne, hnk, rfl, HDK.out⟩
            have HEK : Hid (Ek = E dk ∧ Sk = S dk) := ⟨hEk, hSk⟩
            have hnkl : nk ≤ 1000000 := by
              rcases HI.out.1 with ⟨h, _⟩ | ⟨i0, E0, s0, x0, g1, g2, g3, g4, g5, g6, g7⟩
              · rw [HI.out.2.2.2.1, h]; exact Nat.zero_le _
              · rw [HI.out.2.2.2.1, g5, List.length_append]
                have := Ds.Row.length g3.row
                simp only [List.length_cons, List.length_nil]
                omega
            have hSkl : Ek ≠ [] → Sk ≤ 20000400000000 := fun hne => by
              rcases HI.out.1 with ⟨h, _⟩ | ⟨i0, E0, s0, x0, g1, g2, g3, g4, g5, g6, g7⟩
              · exact absurd h hne
              · have q1 := Ds.cst_le HFM.out E0 g3.cost
                have q2 := Ds.Row.length g3.row
                have q3 := HFM.out _ _ _ g4
                have q4 := Nat.le_trans q1 (Nat.mul_le_mul_right 200000000 (show E0.length ≤ 100000 by omega))
                rw [g6]
                omega
            clear hSkl
            have HVE : Hid (Vx Y lim al (natI El) ∧ Vx Y lim ak (natI Ek)) := ⟨vE, vEk⟩
            obtain ⟨⟨r0, r1⟩, ⟨k0, k1, k2, k3, k4, k5⟩, lR, lBz⟩ := HS.out Y HWY.out.2
            obtain ⟨lsb, leb⟩ := HK.out.1.lt
            have HSKIP : Hid (f i k = none ∨ Ds.No f i a → ∀ Y', Only (fun _ => False) Y Y' → Bm w0 Y' sb eb (nd + 1) lim S E ∧ (∀ j, a ≤ j → j < k → Ds.St f a j (E (j - a)) (S (j - a))) ∧ Ds.In f a k (i + 1) (E (k - a)) (S (k - a)) ∧ (∀ j, k < j → E (j - a) = [])) := fun h Y' ho => ⟨HK.out.1.grow ho, HK.out.2.1, HK.out.2.2.1.skip h, HK.out.2.2.2⟩
            clear hEl hSl hEk hSk hst vE vEk hne hnk hd
            by_cases hsk : a < i ∧ ne = 0
            · have t3 : (a : Int) < (i : Int) := by have := hsk.1; omega
              have t4 : ((ne : Int) == 0) = true := by rw [beq_iff_eq]; have := hsk.2; omega
              have HN : Hid (Ds.No f i a) := HI.out.2.1.no hsk.1 (List.eq_nil_of_length_eq_zero (by rw [← HI.out.2.2.1]; exact hsk.2))
              clear hsk
              go_wp2_with fail
              go_roundg (k - (i + 1))
              case measure => omega
              case rel => exact ⟨i + 1, S, E, _, rfl, rfl, by omega, by omega, by go_num, HSKIP.out (Or.inr HN.out) _ (Only.refl _ _)⟩
            · have HBE : Hid (Ds.Best f i a El Sl) := HI.out.2.1.best (by
                by_cases h : i = a
                · exact Or.inl h
                · refine Or.inr (fun e => hsk ⟨by omega, ?_⟩)
                  rw [HI.out.2.2.1, e]
                  rfl)
              have hSll : Sl ≤ 20000200000000 := by
                have h2 := Ds.cst_le HFM.out El HBE.out.cost
                have h3 := Ds.Row.length HBE.out.row
                exact Nat.le_trans h2 (Nat.le_trans (Nat.mul_le_mul_right _ (show El.length ≤ 100000 by omega)) (by decide))
              have hnel : ne ≤ 100000 := by rw [HI.out.2.2.1]; have := Ds.Row.length HBE.out.row; omega
              have HTT : Hid (decide ((a : Int) < (i : Int)) = false ∨ ((a : Int) < (i : Int) ∧ ((ne : Int) == 0) = false)) := by
                by_cases h : a < i
                · refine Or.inr ⟨by omega, ?_⟩
                  rw [beq_eq_false_iff_ne]
                  intro h2
                  exact hsk ⟨h, by omega⟩
                · exact Or.inl (decide_eq_false (by omega))
              clear hsk
              obtain ⟨lb, hlb⟩ : ∃ q : Bool, q = decide (k = b) := ⟨_, rfl⟩
              have t5 : ((k : Int) == (b : Int)) = lb := by
                rw [hlb]
                by_cases h : k = b
                · rw [decide_eq_true h, beq_iff_eq]; omega
                · rw [decide_eq_false h, beq_eq_false_iff_ne]; omega
              have HCL : Hid (Calls Try.prog 25 #[.agg #[.slice aC n cC, .slice (some ⟨bo, oo, none⟩) m cO], .int .i64 (i : Int), .int .i64 (k : Int), .bool lb, .agg #[.int .i64 (wi : Int), .int .i64 (t : Int), .int .u8 (mo : Int), .int .i64 (hy : Int), .int .i64 (pr : Int), .float .f64 lo]] Y fun e w' => e = .returned (Sp.cosV (f i k)) ∧ Only (fun _ => False) Y w') := HCS.out Y i k lb HWY.out.1 (by omega) (by omega) hlb
              clear hlb
              cases hfx : f i k with
              | none =>
                rw [hfx] at HCL
                have HN : Hid (f i k = none) := hfx
                clear hfx
                rcases HTT.out with t3 | ⟨t3, t4⟩
                · have t3' : i ≤ a := by have := of_decide_eq_false t3; omega
                  go_wp2_with fail
                  refine Calls.mono HCL.out ?_
                  rintro e Y2 ⟨rfl, ho2⟩
                  have H2 : Hid (Only (fun _ => False) Y Y2) := ho2
                  clear ho2
                  unfold Sp.cosV
                  go_wp2_with fail
                  go_roundg (k - (i + 1))
                  case measure => omega
                  case rel => exact ⟨i + 1, S, E, _, rfl, rfl, by omega, by omega, by go_num, HSKIP.out (Or.inl HN.out) _ H2.out⟩
                · skip
                  go_wp2_with fail
                  refine Calls.mono HCL.out ?_
                  rintro e Y2 ⟨rfl, ho2⟩
                  have H2 : Hid (Only (fun _ => False) Y Y2) := ho2
                  clear ho2
                  unfold Sp.cosV
                  go_wp2_with fail
                  go_roundg (k - (i + 1))
                  case measure => omega
                  case rel => exact ⟨i + 1, S, E, _, rfl, rfl, by omega, by omega, by go_num, HSKIP.out (Or.inl HN.out) _ H2.out⟩
              | some x =>
                rw [hfx] at HCL
                have HX : Hid (f i k = some x) := hfx
                have hx2 : x ≤ 200000000 := HFM.out i k x hfx
                clear hfx
                obtain ⟨sm, hsm⟩ : ∃ q, q = Sl + x := ⟨_, rfl⟩
                have e5 : (Sl : Int) + (x : Int) = (sm : Int) := by omega
                have HSM : Hid (sm = Sl + x) := hsm
                have hsml : sm ≤ 20000400000000 := by omega
                clear hsm
                rcases HTT.out with t3 | ⟨t3, t4⟩
                · have t3' : i ≤ a := by have := of_decide_eq_false t3; omega
                  go_wp2_with fail
                  refine Calls.mono HCL.out ?_
                  rintro e Y2 ⟨rfl, ho2⟩
                  have HB3 : Hid (Bm w0 Y2 sb eb (nd + 1) lim S E ∧ Vx Y2 lim al (natI El) ∧ Vx Y2 lim ak (natI Ek) ∧ Only (fun _ => False) Y Y2) := ⟨HK.out.1.grow ho2, HVE.out.1.keep (ho2.mono (fun _ h => h.elim)), HVE.out.2.keep (ho2.mono (fun _ h => h.elim)), ho2⟩
                  have cS2 := keep0 ho2 cS
                  have cSk2 := keep0 ho2 cSk
                  have cE2 := keep0 ho2 cE
                  have cEk2 := keep0 ho2 cEk
                  have lsb2 : sb < Y2.heap.size := HB3.out.1.lt.1
                  have leb2 : eb < Y2.heap.size := HB3.out.1.lt.2
                  clear ho2 cS cSk cE cEk lsb leb r0 r1 k0 k1 k2 k3 k4 k5 lR lBz
                  unfold Sp.cosV
                  go_upto_region 15 with fail
                  go_upto_region 16 with (first | (refine wpList_appI rfl (.tmp 82) (.tmp 88) rfl Y2 ((Only.refl _ _).alloc _) Y2.heap.size 0 0 [] rfl (own_e0I (heap_alloc_new Y2 _) (Nat.le_refl _)) al ne cl El rfl HI.out.2.2.1 (HB3.out.2.1.vw.keep ((Only.refl _ _).alloc _)) ne (Nat.zero_add _) (by omega) ?_; intro g1 cap1 y3 hown1 ho3; have H3 : Hid (Only (fun _ => False) Y2 y3 ∧ y3.ownsRow Y2.heap.size 3 1 (.slice (some ⟨g1, 0, none⟩) ne cap1) ne (natI ([] ++ El))) := ⟨ho3, hown1⟩; clear ho3 hown1) | (refine wpList_appI rfl (.tmp 89) (.tmp 91) rfl Y2 (H3.out.1.alloc _) g1 ne cap1 ([] ++ El) rfl (H3.out.2.alloc _) (some ⟨y3.heap.size, 0, none⟩) 1 1 [k] rfl rfl (vw_blk (xs := natI [k]) (heap_alloc_new y3 _)) (ne + 1) rfl (by omega) ?_; intro g2 cap2 y4 hown2 ho4; have H4 : Hid (Only (fun _ => False) Y2 y4 ∧ y4.ownsRow Y2.heap.size 3 1 (.slice (some ⟨g2, 0, none⟩) (ne + 1) cap2) (ne + 1) (natI ([] ++ El ++ [k]))) := ⟨ho4, hown2⟩; clear ho4 hown2) | fail)
                  have ho4 := H4.out.1
                  have cSk4 := keep0 ho4 cSk2
                  have cEk4 := keep0 ho4 cEk2
                  have lsb4 : sb < y4.heap.size := Nat.lt_of_lt_of_le lsb2 ho4.size
                  have leb4 : eb < y4.heap.size := Nat.lt_of_lt_of_le leb2 ho4.size
                  have HB5 : Hid (Bm w0 y4 sb eb (nd + 1) lim S E ∧ Vx y4 lim (some ⟨g2, 0, none⟩) (natI (El ++ [k])) ∧ Vx y4 lim ak (natI Ek)) := ⟨HB3.out.1.grow ho4, by have h := H4.out.2; rw [List.nil_append] at h; exact Vx.own h HB3.out.1.l3, HB3.out.2.2.1.keep (ho4.mono (fun _ h => h.elim))⟩
                  clear ho4 cS2 cSk2 cE2 cEk2 lsb2 leb2
                  have HPUT : Hid (Ek = [] ∨ sm < Sk ∨ (sm = Sk ∧ Ds.bef (El ++ [k]) Ek = true) → ∀ Y', Only (fun _ => False) y4 Y' → Bm w0 ((Y'.setCell ⟨sb, dk, none⟩ (.int .i64 (sm : Int))).setCell ⟨eb, dk, none⟩ (.slice (some ⟨g2, 0, none⟩) (ne + 1) cap2)) sb eb (nd + 1) lim (fun j => if j = dk then sm else S j) (fun j => if j = dk then El ++ [k] else E j) ∧ (∀ j, a ≤ j → j < k → Ds.St f a j (if j - a = dk then El ++ [k] else E (j - a)) (if j - a = dk then sm else S (j - a))) ∧ Ds.In f a k (i + 1) (if k - a = dk then El ++ [k] else E (k - a)) (if k - a = dk then sm else S (k - a)) ∧ (∀ j, k < j → (if j - a = dk then El ++ [k] else E (j - a)) = [])) := fun hc Y' ho => by
                    have hdk := HI.out.2.2.2.2.2
                    refine ⟨((HB5.out.1.grow ho).setS dk sm).setE dk _ cap2 (ne + 1) (El ++ [k]) (by rw [List.length_append, HI.out.2.2.1]; rfl) ((HB5.out.2.1.keep (ho.mono (fun _ h => h.elim))).keep ((Only.refl (fun g => g < lim) Y').setCell (p := ⟨sb, dk, none⟩) (by show sb < lim; have := HB5.out.1.l1; have := HB5.out.1.l2; omega) _)), fun j h1 h2 => ?_, ?_, fun j hj => ?_⟩
                    · rw [if_neg (by omega), if_neg (by omega)]
                      exact HK.out.2.1 j h1 h2
                    · rw [if_pos hdk.symm, if_pos hdk.symm, HSM.out]
                      exact HI.out.1.put hi1 HBE.out HX.out (by rw [← HSM.out]; exact hc)
                    · rw [if_neg (by omega)]
                      exact HK.out.2.2.2 j hj
                  have HKEEP : Hid (Ek ≠ [] → (Sk < sm ∨ (sm = Sk ∧ Ds.bef (El ++ [k]) Ek = false)) → ∀ Y', Only (fun _ => False) y4 Y' → Bm w0 Y' sb eb (nd + 1) lim S E ∧ (∀ j, a ≤ j → j < k → Ds.St f a j (E (j - a)) (S (j - a))) ∧ Ds.In f a k (i + 1) (E (k - a)) (S (k - a)) ∧ (∀ j, k < j → E (j - a) = [])) := fun h1 h2 Y' ho => by
                    refine ⟨HB5.out.1.grow ho, HK.out.2.1, ?_, HK.out.2.2.2⟩
                    have h := HI.out.1.keep HBE.out HX.out h1 (by rw [← HSM.out]; exact h2)
                    rw [HEK.out.1, HEK.out.2] at h
                    rw [← HI.out.2.2.2.2.2]
                    exact h
                  have HNK : Hid (nk = Ek.length) := HI.out.2.2.2.1
                  have HBF : Hid (Calls Try.prog 52 #[.slice (some ⟨g2, 0, none⟩) (ne + 1) cap2, .slice ak nk ck] y4 fun e w' => e = .returned (.bool (Ds.bef (El ++ [k]) Ek)) ∧ Only (fun _ => False) y4 w') := before_any (El ++ [k]) Ek (ne + 1) nk _ _ cap2 ck y4 (by rw [List.length_append, HI.out.2.2.1]; rfl) HNK.out HB5.out.2.1.vw HB5.out.2.2.vw (by omega) hnkl
                  by_cases hk0 : nk = 0
                  · have q1 : ((nk : Int) == 0) = true := by rw [beq_iff_eq]; omega
                    have HC : Hid (Ek = []) := List.eq_nil_of_length_eq_zero (by rw [← HNK.out]; exact hk0)
                    clear hk0
                    have HBY : Hid (Bm w0 y4 sb eb (nd + 1) lim S E) := HB5.out.1.grow (Only.refl _ _)
                    have cSq := cSk4
                    have cEq := cEk4
                    have nes : ¬ sb = eb := by have := HBY.out.l1; omega
                    have cEq2 : (y4.setCell ⟨sb, dk, none⟩ (.int .i64 (sm : Int))).cell? ⟨eb, dk, none⟩ = some (.slice ak nk ck) := (World.cell?_setCell_far _ _ _ _ nes).trans cEq
                    have fzS : y4.frozen? ⟨sb, dk, none⟩ = false := (HBY.out.fz dk).1
                    have fzE : (y4.setCell ⟨sb, dk, none⟩ (.int .i64 (sm : Int))).frozen? ⟨eb, dk, none⟩ = false := ((HBY.out.setS dk sm).fz dk).2
                    have lq1 : sb < y4.heap.size := HBY.out.lt.1
                    have lq2 : eb < (y4.setCell ⟨sb, dk, none⟩ (.int .i64 (sm : Int))).heap.size := (HBY.out.setS dk sm).lt.2
                    clear cSk4 cEk4 lsb4 leb4
                    go_wp2_with fail
                    go_roundg (k - (i + 1))
                    case measure => omega
                    case rel => exact ⟨i + 1, _, _, _, rfl, rfl, by omega, by omega, by go_num, HPUT.out (Or.inl HC.out) _ (Only.refl _ _)⟩
                  · have q1 : ((nk : Int) == 0) = false := by rw [beq_eq_false_iff_ne]; omega
                    have HE : Hid (Ek ≠ []) := fun h => hk0 (by rw [HNK.out, h]; rfl)
                    clear hk0
                    rcases Nat.lt_trichotomy sm Sk with hs | hs | hs
                    · have q2 : (sm : Int) < (Sk : Int) := by omega
                      have HC : Hid (sm < Sk) := hs
                      have HBY : Hid (Bm w0 y4 sb eb (nd + 1) lim S E) := HB5.out.1.grow (Only.refl _ _)
                      have cSq := cSk4
                      have cEq := cEk4
                      have nes : ¬ sb = eb := by have := HBY.out.l1; omega
                      have cEq2 : (y4.setCell ⟨sb, dk, none⟩ (.int .i64 (sm : Int))).cell? ⟨eb, dk, none⟩ = some (.slice ak nk ck) := (World.cell?_setCell_far _ _ _ _ nes).trans cEq
                      have fzS : y4.frozen? ⟨sb, dk, none⟩ = false := (HBY.out.fz dk).1
                      have fzE : (y4.setCell ⟨sb, dk, none⟩ (.int .i64 (sm : Int))).frozen? ⟨eb, dk, none⟩ = false := ((HBY.out.setS dk sm).fz dk).2
                      have lq1 : sb < y4.heap.size := HBY.out.lt.1
                      have lq2 : eb < (y4.setCell ⟨sb, dk, none⟩ (.int .i64 (sm : Int))).heap.size := (HBY.out.setS dk sm).lt.2
                      clear cSk4 cEk4 lsb4 leb4
                      go_wp2_with fail
                      go_roundg (k - (i + 1))
                      case measure => omega
                      case rel => exact ⟨i + 1, _, _, _, rfl, rfl, by omega, by omega, by go_num, HPUT.out (Or.inr (Or.inl HC.out)) _ (Only.refl _ _)⟩
                    · have q2 : decide ((sm : Int) < (Sk : Int)) = false := decide_eq_false (by omega)
                      have q2' : Sk ≤ sm := by omega
                      have q3 : ((sm : Int) == (Sk : Int)) = true := by rw [beq_iff_eq]; omega
                      have HC : Hid (sm = Sk) := hs
                      clear hs
                      cases hbf : Ds.bef (El ++ [k]) Ek with
                      | true =>
                        rw [hbf] at HBF
                        have HBT : Hid (Ds.bef (El ++ [k]) Ek = true) := hbf
                        clear hbf
                        go_wp2_with fail
                        refine Calls.mono HBF.out ?_
                        rintro e y5 ⟨rfl, ho5⟩
                        have H5 : Hid (Only (fun _ => False) y4 y5) := ho5
                        have HBY : Hid (Bm w0 y5 sb eb (nd + 1) lim S E) := HB5.out.1.grow H5.out
                        have cSq := keep0 ho5 cSk4
                        have cEq := keep0 ho5 cEk4
                        have nes : ¬ sb = eb := by have := HBY.out.l1; omega
                        have cEq2 : (y5.setCell ⟨sb, dk, none⟩ (.int .i64 (sm : Int))).cell? ⟨eb, dk, none⟩ = some (.slice ak nk ck) := (World.cell?_setCell_far _ _ _ _ nes).trans cEq
                        have fzS : y5.frozen? ⟨sb, dk, none⟩ = false := (HBY.out.fz dk).1
                        have fzE : (y5.setCell ⟨sb, dk, none⟩ (.int .i64 (sm : Int))).frozen? ⟨eb, dk, none⟩ = false := ((HBY.out.setS dk sm).fz dk).2
                        have lq1 : sb < y5.heap.size := HBY.out.lt.1
                        have lq2 : eb < (y5.setCell ⟨sb, dk, none⟩ (.int .i64 (sm : Int))).heap.size := (HBY.out.setS dk sm).lt.2
                        clear ho5 cSk4 cEk4 lsb4 leb4
                        go_wp2_with fail
                        go_roundg (k - (i + 1))
                        case measure => omega
                        case rel => exact ⟨i + 1, _, _, _, rfl, rfl, by omega, by omega, by go_num, HPUT.out (Or.inr (Or.inr ⟨HC.out, HBT.out⟩)) _ H5.out⟩
                      | false =>
                        rw [hbf] at HBF
                        have HBT : Hid (Ds.bef (El ++ [k]) Ek = false) := hbf
                        clear hbf
                        go_wp2_with fail
                        refine Calls.mono HBF.out ?_
                        rintro e y5 ⟨rfl, ho5⟩
                        have H5 : Hid (Only (fun _ => False) y4 y5) := ho5
                        clear ho5 cSk4 cEk4 lsb4 leb4
                        go_wp2_with fail
                        go_roundg (k - (i + 1))
                        case measure => omega
                        case rel => exact ⟨i + 1, S, E, _, rfl, rfl, by omega, by omega, by go_num, HKEEP.out HE.out (Or.inr ⟨HC.out, HBT.out⟩) _ H5.out⟩
                    · have q2 : decide ((sm : Int) < (Sk : Int)) = false := decide_eq_false (by omega)
                      have q2' : Sk < sm := hs
                      have q3 : ((sm : Int) == (Sk : Int)) = false := by rw [beq_eq_false_iff_ne]; omega
                      go_wp2_with fail
                      go_roundg (k - (i + 1))
                      case measure => omega
                      case rel => exact ⟨i + 1, S, E, _, rfl, rfl, by omega, by omega, by go_num, HKEEP.out HE.out (Or.inl q2') _ (Only.refl _ _)⟩
                · skip
                  go_wp2_with fail
                  refine Calls.mono HCL.out ?_
                  rintro e Y2 ⟨rfl, ho2⟩
                  have HB3 : Hid (Bm w0 Y2 sb eb (nd + 1) lim S E ∧ Vx Y2 lim al (natI El) ∧ Vx Y2 lim ak (natI Ek) ∧ Only (fun _ => False) Y Y2) := ⟨HK.out.1.grow ho2, HVE.out.1.keep (ho2.mono (fun _ h => h.elim)), HVE.out.2.keep (ho2.mono (fun _ h => h.elim)), ho2⟩
                  have cS2 := keep0 ho2 cS
                  have cSk2 := keep0 ho2 cSk
                  have cE2 := keep0 ho2 cE
                  have cEk2 := keep0 ho2 cEk
                  have lsb2 : sb < Y2.heap.size := HB3.out.1.lt.1
                  have leb2 : eb < Y2.heap.size := HB3.out.1.lt.2
                  clear ho2 cS cSk cE cEk lsb leb r0 r1 k0 k1 k2 k3 k4 k5 lR lBz
                  unfold Sp.cosV
                  go_upto_region 15 with fail
                  go_upto_region 16 with (first | (refine wpList_appI rfl (.tmp 82) (.tmp 88) rfl Y2 ((Only.refl _ _).alloc _) Y2.heap.size 0 0 [] rfl (own_e0I (heap_alloc_new Y2 _) (Nat.le_refl _)) al ne cl El rfl HI.out.2.2.1 (HB3.out.2.1.vw.keep ((Only.refl _ _).alloc _)) ne (Nat.zero_add _) (by omega) ?_; intro g1 cap1 y3 hown1 ho3; have H3 : Hid (Only (fun _ => False) Y2 y3 ∧ y3.ownsRow Y2.heap.size 3 1 (.slice (some ⟨g1, 0, none⟩) ne cap1) ne (natI ([] ++ El))) := ⟨ho3, hown1⟩; clear ho3 hown1) | (refine wpList_appI rfl (.tmp 89) (.tmp 91) rfl Y2 (H3.out.1.alloc _) g1 ne cap1 ([] ++ El) rfl (H3.out.2.alloc _) (some ⟨y3.heap.size, 0, none⟩) 1 1 [k] rfl rfl (vw_blk (xs := natI [k]) (heap_alloc_new y3 _)) (ne + 1) rfl (by omega) ?_; intro g2 cap2 y4 hown2 ho4; have H4 : Hid (Only (fun _ => False) Y2 y4 ∧ y4.ownsRow Y2.heap.size 3 1 (.slice (some ⟨g2, 0, none⟩) (ne + 1) cap2) (ne + 1) (natI ([] ++ El ++ [k]))) := ⟨ho4, hown2⟩; clear ho4 hown2) | fail)
                  have ho4 := H4.out.1
                  have cSk4 := keep0 ho4 cSk2
                  have cEk4 := keep0 ho4 cEk2
                  have lsb4 : sb < y4.heap.size := Nat.lt_of_lt_of_le lsb2 ho4.size
                  have leb4 : eb < y4.heap.size := Nat.lt_of_lt_of_le leb2 ho4.size
                  have HB5 : Hid (Bm w0 y4 sb eb (nd + 1) lim S E ∧ Vx y4 lim (some ⟨g2, 0, none⟩) (natI (El ++ [k])) ∧ Vx y4 lim ak (natI Ek)) := ⟨HB3.out.1.grow ho4, by have h := H4.out.2; rw [List.nil_append] at h; exact Vx.own h HB3.out.1.l3, HB3.out.2.2.1.keep (ho4.mono (fun _ h => h.elim))⟩
                  clear ho4 cS2 cSk2 cE2 cEk2 lsb2 leb2
                  have HPUT : Hid (Ek = [] ∨ sm < Sk ∨ (sm = Sk ∧ Ds.bef (El ++ [k]) Ek = true) → ∀ Y', Only (fun _ => False) y4 Y' → Bm w0 ((Y'.setCell ⟨sb, dk, none⟩ (.int .i64 (sm : Int))).setCell ⟨eb, dk, none⟩ (.slice (some ⟨g2, 0, none⟩) (ne + 1) cap2)) sb eb (nd + 1) lim (fun j => if j = dk then sm else S j) (fun j => if j = dk then El ++ [k] else E j) ∧ (∀ j, a ≤ j → j < k → Ds.St f a j (if j - a = dk then El ++ [k] else E (j - a)) (if j - a = dk then sm else S (j - a))) ∧ Ds.In f a k (i + 1) (if k - a = dk then El ++ [k] else E (k - a)) (if k - a = dk then sm else S (k - a)) ∧ (∀ j, k < j → (if j - a = dk then El ++ [k] else E (j - a)) = [])) := fun hc Y' ho => by
                    have hdk := HI.out.2.2.2.2.2
                    refine ⟨((HB5.out.1.grow ho).setS dk sm).setE dk _ cap2 (ne + 1) (El ++ [k]) (by rw [List.length_append, HI.out.2.2.1]; rfl) ((HB5.out.2.1.keep (ho.mono (fun _ h => h.elim))).keep ((Only.refl (fun g => g < lim) Y').setCell (p := ⟨sb, dk, none⟩) (by show sb < lim; have := HB5.out.1.l1; have := HB5.out.1.l2; omega) _)), fun j h1 h2 => ?_, ?_, fun j hj => ?_⟩
                    · rw [if_neg (by omega), if_neg (by omega)]
                      exact HK.out.2.1 j h1 h2
                    · rw [if_pos hdk.symm, if_pos hdk.symm, HSM.out]
                      exact HI.out.1.put hi1 HBE.out HX.out (by rw [← HSM.out]; exact hc)
                    · rw [if_neg (by omega)]
                      exact HK.out.2.2.2 j hj
                  have HKEEP : Hid (Ek ≠ [] → (Sk < sm ∨ (sm = Sk ∧ Ds.bef (El ++ [k]) Ek = false)) → ∀ Y', Only (fun _ => False) y4 Y' → Bm w0 Y' sb eb (nd + 1) lim S E ∧ (∀ j, a ≤ j → j < k → Ds.St f a j (E (j - a)) (S (j - a))) ∧ Ds.In f a k (i + 1) (E (k - a)) (S (k - a)) ∧ (∀ j, k < j → E (j - a) = [])) := fun h1 h2 Y' ho => by
                    refine ⟨HB5.out.1.grow ho, HK.out.2.1, ?_, HK.out.2.2.2⟩
                    have h := HI.out.1.keep HBE.out HX.out h1 (by rw [← HSM.out]; exact h2)
                    rw [HEK.out.1, HEK.out.2] at h
                    rw [← HI.out.2.2.2.2.2]
                    exact h
                  have HNK : Hid (nk = Ek.length) := HI.out.2.2.2.1
                  have HBF : Hid (Calls Try.prog 52 #[.slice (some ⟨g2, 0, none⟩) (ne + 1) cap2, .slice ak nk ck] y4 fun e w' => e = .returned (.bool (Ds.bef (El ++ [k]) Ek)) ∧ Only (fun _ => False) y4 w') := before_any (El ++ [k]) Ek (ne + 1) nk _ _ cap2 ck y4 (by rw [List.length_append, HI.out.2.2.1]; rfl) HNK.out HB5.out.2.1.vw HB5.out.2.2.vw (by omega) hnkl
                  by_cases hk0 : nk = 0
                  · have q1 : ((nk : Int) == 0) = true := by rw [beq_iff_eq]; omega
                    have HC : Hid (Ek = []) := List.eq_nil_of_length_eq_zero (by rw [← HNK.out]; exact hk0)
                    clear hk0
                    have HBY : Hid (Bm w0 y4 sb eb (nd + 1) lim S E) := HB5.out.1.grow (Only.refl _ _)
                    have cSq := cSk4
                    have cEq := cEk4
                    have nes : ¬ sb = eb := by have := HBY.out.l1; omega
                    have cEq2 : (y4.setCell ⟨sb, dk, none⟩ (.int .i64 (sm : Int))).cell? ⟨eb, dk, none⟩ = some (.slice ak nk ck) := (World.cell?_setCell_far _ _ _ _ nes).trans cEq
                    have fzS : y4.frozen? ⟨sb, dk, none⟩ = false := (HBY.out.fz dk).1
                    have fzE : (y4.setCell ⟨sb, dk, none⟩ (.int .i64 (sm : Int))).frozen? ⟨eb, dk, none⟩ = false := ((HBY.out.setS dk sm).fz dk).2
                    have lq1 : sb < y4.heap.size := HBY.out.lt.1
                    have lq2 : eb < (y4.setCell ⟨sb, dk, none⟩ (.int .i64 (sm : Int))).heap.size := (HBY.out.setS dk sm).lt.2
                    clear cSk4 cEk4 lsb4 leb4
                    go_wp2_with fail
                    go_roundg (k - (i + 1))
                    case measure => omega
                    case rel => exact ⟨i + 1, _, _, _, rfl, rfl, by omega, by omega, by go_num, HPUT.out (Or.inl HC.out) _ (Only.refl _ _)⟩
                  · have q1 : ((nk : Int) == 0) = false := by rw [beq_eq_false_iff_ne]; omega
                    have HE : Hid (Ek ≠ []) := fun h => hk0 (by rw [HNK.out, h]; rfl)
                    clear hk0
                    rcases Nat.lt_trichotomy sm Sk with hs | hs | hs
                    · have q2 : (sm : Int) < (Sk : Int) := by omega
                      have HC : Hid (sm < Sk) := hs
                      have HBY : Hid (Bm w0 y4 sb eb (nd + 1) lim S E) := HB5.out.1.grow (Only.refl _ _)
                      have cSq := cSk4
                      have cEq := cEk4
                      have nes : ¬ sb = eb := by have := HBY.out.l1; omega
                      have cEq2 : (y4.setCell ⟨sb, dk, none⟩ (.int .i64 (sm : Int))).cell? ⟨eb, dk, none⟩ = some (.slice ak nk ck) := (World.cell?_setCell_far _ _ _ _ nes).trans cEq
                      have fzS : y4.frozen? ⟨sb, dk, none⟩ = false := (HBY.out.fz dk).1
                      have fzE : (y4.setCell ⟨sb, dk, none⟩ (.int .i64 (sm : Int))).frozen? ⟨eb, dk, none⟩ = false := ((HBY.out.setS dk sm).fz dk).2
                      have lq1 : sb < y4.heap.size := HBY.out.lt.1
                      have lq2 : eb < (y4.setCell ⟨sb, dk, none⟩ (.int .i64 (sm : Int))).heap.size := (HBY.out.setS dk sm).lt.2
                      clear cSk4 cEk4 lsb4 leb4
                      go_wp2_with fail
                      go_roundg (k - (i + 1))
                      case measure => omega
                      case rel => exact ⟨i + 1, _, _, _, rfl, rfl, by omega, by omega, by go_num, HPUT.out (Or.inr (Or.inl HC.out)) _ (Only.refl _ _)⟩
                    · have q2 : decide ((sm : Int) < (Sk : Int)) = false := decide_eq_false (by omega)
                      have q2' : Sk ≤ sm := by omega
                      have q3 : ((sm : Int) == (Sk : Int)) = true := by rw [beq_iff_eq]; omega
                      have HC : Hid (sm = Sk) := hs
                      clear hs
                      cases hbf : Ds.bef (El ++ [k]) Ek with
                      | true =>
                        rw [hbf] at HBF
                        have HBT : Hid (Ds.bef (El ++ [k]) Ek = true) := hbf
                        clear hbf
                        go_wp2_with fail
                        refine Calls.mono HBF.out ?_
                        rintro e y5 ⟨rfl, ho5⟩
                        have H5 : Hid (Only (fun _ => False) y4 y5) := ho5
                        have HBY : Hid (Bm w0 y5 sb eb (nd + 1) lim S E) := HB5.out.1.grow H5.out
                        have cSq := keep0 ho5 cSk4
                        have cEq := keep0 ho5 cEk4
                        have nes : ¬ sb = eb := by have := HBY.out.l1; omega
                        have cEq2 : (y5.setCell ⟨sb, dk, none⟩ (.int .i64 (sm : Int))).cell? ⟨eb, dk, none⟩ = some (.slice ak nk ck) := (World.cell?_setCell_far _ _ _ _ nes).trans cEq
                        have fzS : y5.frozen? ⟨sb, dk, none⟩ = false := (HBY.out.fz dk).1
                        have fzE : (y5.setCell ⟨sb, dk, none⟩ (.int .i64 (sm : Int))).frozen? ⟨eb, dk, none⟩ = false := ((HBY.out.setS dk sm).fz dk).2
                        have lq1 : sb < y5.heap.size := HBY.out.lt.1
                        have lq2 : eb < (y5.setCell ⟨sb, dk, none⟩ (.int .i64 (sm : Int))).heap.size := (HBY.out.setS dk sm).lt.2
                        clear ho5 cSk4 cEk4 lsb4 leb4
                        go_wp2_with fail
                        go_roundg (k - (i + 1))
                        case measure => omega
                        case rel => exact ⟨i + 1, _, _, _, rfl, rfl, by omega, by omega, by go_num, HPUT.out (Or.inr (Or.inr ⟨HC.out, HBT.out⟩)) _ H5.out⟩
                      | false =>
                        rw [hbf] at HBF
                        have HBT : Hid (Ds.bef (El ++ [k]) Ek = false) := hbf
                        clear hbf
                        go_wp2_with fail
                        refine Calls.mono HBF.out ?_
                        rintro e y5 ⟨rfl, ho5⟩
                        have H5 : Hid (Only (fun _ => False) y4 y5) := ho5
                        clear ho5 cSk4 cEk4 lsb4 leb4
                        go_wp2_with fail
                        go_roundg (k - (i + 1))
                        case measure => omega
                        case rel => exact ⟨i + 1, S, E, _, rfl, rfl, by omega, by omega, by go_num, HKEEP.out HE.out (Or.inr ⟨HC.out, HBT.out⟩) _ H5.out⟩
                    · have q2 : decide ((sm : Int) < (Sk : Int)) = false := decide_eq_false (by omega)
                      have q2' : Sk < sm := hs
                      have q3 : ((sm : Int) == (Sk : Int)) = false := by rw [beq_eq_false_iff_ne]; omega
                      go_wp2_with fail
                      go_roundg (k - (i + 1))
                      case measure => omega
                      case rel => exact ⟨i + 1, S, E, _, rfl, rfl, by omega, by omega, by go_num, HKEEP.out HE.out (Or.inl q2') _ (Only.refl _ _)⟩
          · have t2 : decide ((i : Int) < (k : Int)) = false := decide_eq_false (by omega)
            have hike : i = k := by omega
            subst hike
            go_wp2_with fail
            go_roundg (b + 1 - (i + 1))
            case measure => omega
            case rel => exact ⟨i + 1, S, E, _, rfl, rfl, by omega, by omega, by go_num, HK.out.1, fun j h1 h2 => by
                by_cases h : j = i
                · rw [h]; exact HK.out.2.2.1.done hk1
                · exact HK.out.2.1 j h1 (by omega), fun j hj => HK.out.2.2.2 j (by omega)⟩
      · have t1 : decide ((k : Int) ≤ (b : Int)) = false := decide_eq_false (by omega)
        have hkb1 : k = b + 1 := by omega
        have hstb := HK.out.2.1 b (by omega) (by omega)
        obtain ⟨Eb, hEb⟩ : ∃ x, x = E nd := ⟨_, rfl⟩
        obtain ⟨sE, hsE⟩ : ∃ x, x = S nd := ⟨_, rfl⟩
        rw [show b - a = nd by omega, ← hEb, ← hsE] at hstb
        obtain ⟨al, cl, cE, vE⟩ := HK.out.1.getE (show nd < nd + 1 by omega)
        rw [← hEb] at cE vE
        obtain ⟨ne, hne⟩ : ∃ x, x = Eb.length := ⟨_, rfl⟩
        rw [← hne] at cE
        have HVE : Hid (Vw Z al (natI Eb) ∧ ne = Eb.length ∧ Ds.St f a b Eb sE) := ⟨vE.vw, hne, hstb⟩
        have HWZ : Hid (Only (fun _ => False) w Z ∧ Only (fun _ => False) w0 Z ∧ eb < Z.heap.size ∧ w.heap.size ≤ Z.heap.size) := ⟨H0.out.2.2.trans HK.out.1.old, HK.out.1.old, HK.out.1.lt.2, (H0.out.2.2.trans HK.out.1.old).size⟩
        have HER : Hid (∀ W', Only (fun _ => False) Z W' → W'.cell? ⟨eb, nd, none⟩ = some (.slice al ne cl) ∧ Vw W' al (natI Eb) ∧ eb < W'.heap.size) := fun W' ho => ⟨keep0 ho cE, HVE.out.1.keep ho, Nat.lt_of_lt_of_le HWZ.out.2.2.1 ho.size⟩
        have hndI : (nd : Int) < (nd : Int) + 1 := by omega
        have leb := HWZ.out.2.2.1
        clear hstb hEb hsE vE hne HK hkb1
        by_cases hn0 : ne = 0
        · have q1 : ((ne : Int) == 0) = true := by rw [beq_iff_eq]; omega
          have HNO : Hid (Ds.No f b a) := HVE.out.2.2.no hlt (List.eq_nil_of_length_eq_zero (by rw [← HVE.out.2.1]; exact hn0))
          clear hn0
          go_wp2_with fail
          go_ret2
          exact Or.inr ⟨HNO.out, rfl, HWZ.out.1⟩
        · have q1 : ((ne : Int) == 0) = false := by rw [beq_eq_false_iff_ne]; omega
          have HBE : Hid (Ds.Best f b a Eb sE) := HVE.out.2.2.best (Or.inr (fun h => hn0 (by rw [HVE.out.2.1, h]; rfl)))
          have hnel : ne ≤ 100000 := by rw [HVE.out.2.1]; have := Ds.Row.length HBE.out.row; omega
          clear hn0
          go_wp2_with fail
          clear cE leb
          go_loopg [18, 19, 20] ne (fun gh v18 v19 v20 wr => ∃ (j q : Nat) (D : List Ln) (lp : Option Addr) (c : Nat) (U : World), U = wr ∧ gh = ne - j ∧ j ≤ ne ∧ v18 = .slice lp j c ∧ v19 = .int .i64 (q : Int) ∧ v20 = .int .i64 (j : Int) ∧ a ≤ q ∧ q ≤ b ∧ mkL C O t a Eb = D ++ mkL C O t q (Eb.drop j) ∧ Ds.Row b q (Eb.drop j) ∧ U.ownsRow Z.heap.size 54 4 (.slice lp j c) j (lnC D) ∧ Only (fun g => Z.heap.size ≤ g) Z U)
          case atStart => exact ⟨0, a, [], none, 0, _, rfl, rfl, Nat.zero_le _, rfl, rfl, rfl, Nat.le_refl _, hab, rfl, HBE.out.row, ⟨rfl, Or.inl ⟨rfl, rfl⟩⟩, Only.refl _ _⟩
          case round =>
            obtain ⟨j, q, D, lp, c, U, hU, rfl, hj, rfl, rfl, rfl, hq1, hq2, hmk, hrow, hown, hoU⟩ := hrel
            subst hU
            have HU : Hid (mkL C O t a Eb = D ++ mkL C O t q (Eb.drop j) ∧ Ds.Row b q (Eb.drop j) ∧ U.ownsRow Z.heap.size 54 4 (.slice lp j c) j (lnC D) ∧ Only (fun g => Z.heap.size ≤ g) Z U ∧ Only (fun _ => False) Z U) := ⟨hmk, hrow, hown, hoU, hoU.old (fun b hb => Or.inl hb)⟩
            clear hmk hrow hown hoU
            obtain ⟨cE, vE, leb⟩ := HER.out U HU.out.2.2.2.2
            by_cases hjl : j < ne
            · have t2 : (j : Int) < (ne : Int) := by omega
              have hjd : j < Eb.length := by rw [← HVE.out.2.1]; exact hjl
              obtain ⟨x, hx⟩ : ∃ x, Eb[j]? = some x := ⟨_, List.getElem?_eq_getElem hjd⟩
              have hdr : Eb.drop j = x :: Eb.drop (j + 1) := by
                rw [List.drop_eq_getElem_cons hjd]
                rw [List.getElem?_eq_getElem hjd] at hx
                injection hx with hx
                rw [hx]
              have hrw := HU.out.2.1
              have hmk := HU.out.1
              rw [hdr] at hrw hmk
              have hqx := hrw.1
              have hxb := hrw.2.le
              obtain ⟨e, hOe, hDe⟩ := getD_some' (O := O) (k := x) (by rw [← HOL.out]; omega)
              have he8 : e < 256 := HP.out.oO e (List.mem_of_getElem? hOe)
              obtain ⟨ce, hce⟩ : ∃ z, z = Sp.cel C t q (x - q) e := ⟨_, rfl⟩
              have HNX : Hid (mkL C O t a Eb = (D ++ [⟨q, x, ce, e⟩]) ++ mkL C O t x (Eb.drop (j + 1)) ∧ Ds.Row b x (Eb.drop (j + 1))) := by
                refine ⟨?_, hrw.2⟩
                rw [hmk, List.append_assoc, hce, ← wde_cel, ← hDe]
                rfl
              obtain ⟨g, off, rfl, hg, hc⟩ := vE.cells (by rw [natI_len]; omega)
              have c0 := hc j _ (natI_get hx)
              have HLN : Hid (∀ W', Only (fun _ => False) w W' → Calls Try.prog 24 #[.agg #[.slice aC n cC, .slice (some ⟨bo, oo, none⟩) m cO], .int .i64 (q : Int), .int .i64 (x : Int), .int .u8 (e : Int), .int .i64 (t : Int)] W' fun r w' => r = .returned (.agg #[.int .i64 (q : Int), .int .i64 (x : Int), .int .i64 (ce : Int), .int .u8 (e : Int)]) ∧ Only (fun _ => False) W' w') := fun W' ho => by
                rw [hce]
                exact refLine_any C O n m aC _ cC cO q x t e W' (HP.out.keep ho) (by omega) (by omega) h0 ht he8
              have HS4 : Hid (∀ W', Only (fun _ => False) Z W' → W'.cell? ⟨R, 0, none⟩ = some (.slice aC n cC) ∧ W'.cell? ⟨R, 1, none⟩ = some (.slice (some ⟨bo, oo, none⟩) m cO) ∧ W'.cell? ⟨B, 1, none⟩ = some (.int .i64 (t : Int)) ∧ W'.cell? ⟨bo, oo + x, none⟩ = some (.int .u8 (e : Int))) := fun W' ho => ⟨(HS.out W' (HWZ.out.2.1.trans ho)).1.1, (HS.out W' (HWZ.out.2.1.trans ho)).1.2, (HS.out W' (HWZ.out.2.1.trans ho)).2.1.2.1, HCO.out W' (HWZ.out.1.trans ho) x e hOe⟩
              have v2 : (x : Int) < (m : Int) := by omega
              have v2n : x < m := by omega
              clear hx hdr hrw hmk hOe hDe hce hc hjd
              go_wp2_with fail
              clear c0 cE leb
              refine wp_region_held_drew (S := (fun W' => W'.cell? ⟨R, 0, none⟩ = some (.slice aC n cC) ∧ W'.cell? ⟨R, 1, none⟩ = some (.slice (some ⟨bo, oo, none⟩) m cO) ∧ W'.cell? ⟨B, 1, none⟩ = some (.int .i64 (t : Int)) ∧ W'.cell? ⟨bo, oo + x, none⟩ = some (.int .u8 (e : Int)))) (by kernel_rfl) (HS4.out _ HU.out.2.2.2.2.drew) (fun hHeld => ?_)
              refine wpAnyH_take (i := 0) (oi := { dst := some 172, op := _, type := _, pos := _, after := _, guard := _ }) (v := .slice lp j c) rfl (by kernel_rfl) (by kernel_rfl) (by kernel_rfl) (fun _ _ _ h => h) (Or.inl ⟨by rfl, fun w hSw => by obtain ⟨y0, y1, y2, y3⟩ := hSw; first | (go_simp; done) | go_simp⟩) (by assumption) ?_
              (try simp only [Act.put, List.setIfInBounds_toArray, List.set_cons_zero, List.set_cons_succ])
              refine wpAnyH_take (i := 1) (oi := { dst := some 173, op := _, type := _, pos := _, after := _, guard := _ }) (v := .agg #[.slice aC n cC, .slice (some ⟨bo, oo, none⟩) m cO]) rfl (by kernel_rfl) (by kernel_rfl) (by kernel_rfl) (fun _ _ _ h => h) (Or.inl ⟨by rfl, fun w hSw => by obtain ⟨y0, y1, y2, y3⟩ := hSw; first | (go_simp; done) | go_simp⟩) (by assumption) ?_
              (try simp only [Act.put, List.setIfInBounds_toArray, List.set_cons_zero, List.set_cons_succ])
              refine wpAnyH_take (i := 2) (oi := { dst := some 174, op := _, type := _, pos := _, after := _, guard := _ }) (v := .int .i64 (q : Int)) rfl (by kernel_rfl) (by kernel_rfl) (by kernel_rfl) (fun _ _ _ h => h) (Or.inl ⟨by rfl, fun w hSw => by obtain ⟨y0, y1, y2, y3⟩ := hSw; first | (go_simp; done) | go_simp⟩) (by assumption) ?_
              (try simp only [Act.put, List.setIfInBounds_toArray, List.set_cons_zero, List.set_cons_succ])
              refine wpAnyH_take (i := 3) (oi := { dst := some 175, op := _, type := _, pos := _, after := _, guard := _ }) (v := .int .i64 (x : Int)) rfl (by kernel_rfl) (by kernel_rfl) (by kernel_rfl) (fun _ _ _ h => h) (Or.inl ⟨by rfl, fun w hSw => by obtain ⟨y0, y1, y2, y3⟩ := hSw; first | (go_simp; done) | go_simp⟩) (by assumption) ?_
              (try simp only [Act.put, List.setIfInBounds_toArray, List.set_cons_zero, List.set_cons_succ])
              refine wpAnyH_take (i := 4) (oi := { dst := some 176, op := _, type := _, pos := _, after := _, guard := _ }) (v := .pointer (some ⟨R, 1, none⟩)) rfl (by kernel_rfl) (by kernel_rfl) (by kernel_rfl) (fun _ _ _ h => h) (Or.inl ⟨by rfl, fun w hSw => by obtain ⟨y0, y1, y2, y3⟩ := hSw; first | (go_simp; done) | go_simp⟩) (by assumption) ?_
              (try simp only [Act.put, List.setIfInBounds_toArray, List.set_cons_zero, List.set_cons_succ])
              refine wpAnyH_take (i := 5) (oi := { dst := some 177, op := _, type := _, pos := _, after := _, guard := _ }) (v := .slice (some ⟨bo, oo, none⟩) m cO) rfl (by kernel_rfl) (by kernel_rfl) (by kernel_rfl) (fun _ _ _ h => h) (Or.inl ⟨by rfl, fun w hSw => by obtain ⟨y0, y1, y2, y3⟩ := hSw; first | (go_simp; done) | go_simp⟩) (by assumption) ?_
              (try simp only [Act.put, List.setIfInBounds_toArray, List.set_cons_zero, List.set_cons_succ])
              refine wpAnyH_take (i := 6) (oi := { dst := some 178, op := _, type := _, pos := _, after := _, guard := _ }) (v := .int .i64 (x : Int)) rfl (by kernel_rfl) (by kernel_rfl) (by kernel_rfl) (fun _ _ _ h => h) (Or.inl ⟨by rfl, fun w hSw => by obtain ⟨y0, y1, y2, y3⟩ := hSw; first | (go_simp; done) | go_simp⟩) (by assumption) ?_
              (try simp only [Act.put, List.setIfInBounds_toArray, List.set_cons_zero, List.set_cons_succ])
              refine wpAnyH_take (i := 7) (oi := { dst := some 179, op := _, type := _, pos := _, after := _, guard := _ }) (v := .pointer (some ⟨bo, oo + x, none⟩)) rfl (by kernel_rfl) (by kernel_rfl) (by kernel_rfl) (fun _ _ _ h => h) (Or.inl ⟨by rfl, fun w hSw => by obtain ⟨y0, y1, y2, y3⟩ := hSw; first | (go_simp; done) | go_simp⟩) (by assumption) ?_
              (try simp only [Act.put, List.setIfInBounds_toArray, List.set_cons_zero, List.set_cons_succ])
              refine wpAnyH_take (i := 8) (oi := { dst := some 180, op := _, type := _, pos := _, after := _, guard := _ }) (v := .int .u8 (e : Int)) rfl (by kernel_rfl) (by kernel_rfl) (by kernel_rfl) (fun _ _ _ h => h) (Or.inl ⟨by rfl, fun w hSw => by obtain ⟨y0, y1, y2, y3⟩ := hSw; first | (go_simp; done) | go_simp⟩) (by assumption) ?_
              (try simp only [Act.put, List.setIfInBounds_toArray, List.set_cons_zero, List.set_cons_succ])
              refine wpAnyH_take (i := 9) (oi := { dst := some 181, op := _, type := _, pos := _, after := _, guard := _ }) (v := .pointer (some ⟨B, 1, none⟩)) rfl (by kernel_rfl) (by kernel_rfl) (by kernel_rfl) (fun _ _ _ h => h) (Or.inl ⟨by rfl, fun w hSw => by obtain ⟨y0, y1, y2, y3⟩ := hSw; first | (go_simp; done) | go_simp⟩) (by assumption) ?_
              (try simp only [Act.put, List.setIfInBounds_toArray, List.set_cons_zero, List.set_cons_succ])
              refine wpAnyH_take (i := 10) (oi := { dst := some 182, op := _, type := _, pos := _, after := _, guard := _ }) (v := .int .i64 (t : Int)) rfl (by kernel_rfl) (by kernel_rfl) (by kernel_rfl) (fun _ _ _ h => h) (Or.inl ⟨by rfl, fun w hSw => by obtain ⟨y0, y1, y2, y3⟩ := hSw; first | (go_simp; done) | go_simp⟩) (by assumption) ?_
              (try simp only [Act.put, List.setIfInBounds_toArray, List.set_cons_zero, List.set_cons_succ])
              refine wpAnyH_ready (rs := [11]) (by kernel_rfl) (by simp) ?_
              refine AllReadyH.cons rfl (fun K hK => ?_) AllReadyH.nil
              rw [if_pos (by rfl)]
              go_simp
              refine Calls.mono (HLN.out _ (HWZ.out.1.trans HU.out.2.2.2.2.drew)) ?_
              rintro r y2 ⟨rfl, ho2⟩
              have H2 : Hid (Only (fun _ => False) Z y2 ∧ Only (fun g => Z.heap.size ≤ g) Z y2 ∧ y2.ownsRow Z.heap.size 54 4 (.slice lp j c) j (lnC D)) := ⟨HU.out.2.2.2.2.drew.trans ho2, HU.out.2.2.2.1.drew.trans (ho2.mono (fun _ h => h.elim)), own_only HU.out.2.2.1 ((Only.refl _ _).drew.trans ho2) (fun _ _ h => h)⟩
              clear ho2
              refine hK.out _ _ (HS4.out _ H2.out.1) (fun hHeld => ?_)
              clear hK
              (try simp only [Act.put, List.setIfInBounds_toArray, List.set_cons_zero, List.set_cons_succ])
              refine wpAnyH_ready (rs := [12]) (by kernel_rfl) (by simp) ?_
              refine AllReadyH.cons rfl (fun K hK => ?_) AllReadyH.nil
              rw [if_pos (by rfl)]
              go_simp
              obtain ⟨y3, hy3⟩ : ∃ Y, Y = y2.alloc (.cells #[.int .i64 (q : Int), .int .i64 (x : Int), .int .i64 (ce : Int), .int .u8 (e : Int)] 54) := ⟨_, rfl⟩
              obtain ⟨g1, hg1⟩ : ∃ b, b = y2.heap.size := ⟨_, rfl⟩
              have H3 : Hid (Only (fun _ => False) Z y3 ∧ Only (fun g => Z.heap.size ≤ g) Z y3 ∧ y3.ownsRow Z.heap.size 54 4 (.slice lp j c) j (lnC D) ∧ y3.heap[g1]? = some (.cells #[.int .i64 (q : Int), .int .i64 (x : Int), .int .i64 (ce : Int), .int .u8 (e : Int)] 54 (0, 0))) := by rw [hy3, hg1]; exact ⟨H2.out.1.alloc _, H2.out.2.1.alloc _, H2.out.2.2.alloc _, heap_alloc_new y2 _⟩
              rw [← hy3, ← hg1]
              clear hy3 hg1
              refine hK.out _ _ (HS4.out _ H3.out.1) (fun hHeld => ?_)
              clear hK
              (try simp only [Act.put, List.setIfInBounds_toArray, List.set_cons_zero, List.set_cons_succ])
              refine wpAnyH_ready (rs := [13]) (by kernel_rfl) (by simp) ?_
              refine AllReadyH.cons rfl (fun K hK => ?_) AllReadyH.nil
              rw [if_pos (by rfl)]
              refine wp_appL (.tmp 172) (.tmp 184) rfl Z.heap.size lp j c D rfl H3.out.2.2.1 g1 1 ⟨q, x, ce, e⟩ rfl H3.out.2.2.2 (by omega) H3.out.1.size ?_
              intro g5 cap5 y5 hown5 ho5
              have H5 : Hid (y5.ownsRow Z.heap.size 54 4 (.slice (some ⟨g5, 0, none⟩) (j + 1) cap5) (j + 1) (lnC (D ++ [⟨q, x, ce, e⟩])) ∧ Only (fun g => Z.heap.size ≤ g) Z y5 ∧ Only (fun _ => False) Z y5) := by
                have h := H3.out.2.1.trans (ho5.mono (fun g hg => (own_own H3.out.2.2.1 hg).1))
                exact ⟨hown5, h, h.old (fun b hb => Or.inl hb)⟩
              clear hown5 ho5
              refine hK.out _ _ (HS4.out _ H5.out.2.2) (fun hHeld => ?_)
              clear hK
              (try simp only [Act.put, List.setIfInBounds_toArray, List.set_cons_zero, List.set_cons_succ])
              refine wpAnyH_take (i := 14) (oi := { dst := some 18, op := _, type := _, pos := _, after := _, guard := _ }) (v := .slice (some ⟨g5, 0, none⟩) (j + 1) cap5) rfl (by kernel_rfl) (by kernel_rfl) (by kernel_rfl) (fun _ _ _ h => h) (Or.inl ⟨by rfl, fun w hSw => by obtain ⟨y0, y1, y2, y3⟩ := hSw; first | (go_simp; done) | go_simp⟩) (by assumption) ?_
              (try simp only [Act.put, List.setIfInBounds_toArray, List.set_cons_zero, List.set_cons_succ])
              refine wpAnyH_done (by kernel_rfl) ?_ _
              clear hHeld
              go_wp2_with fail
              go_roundg (ne - (j + 1))
              case measure => omega
              case rel => exact ⟨j + 1, x, D ++ [⟨q, x, ce, e⟩], _, _, _, rfl, rfl, by omega, rfl, rfl, by go_num, by omega, by omega, HNX.out.1, HNX.out.2, H5.out.1, H5.out.2.1⟩
            · have t2 : decide ((j : Int) < (ne : Int)) = false := decide_eq_false (by omega)
              have hje : j = ne := by omega
              subst hje
              have HFN : Hid (mkL C O t a Eb = D) := by
                have h := HU.out.1
                rw [List.drop_of_length_le (by rw [← HVE.out.2.1]; exact Nat.le_refl _)] at h
                rw [h]
                exact List.append_nil _
              go_wp2_with fail
              go_ret2
              exact Or.inl ⟨Eb, sE, lp, j, c, HBE.out, HVE.out.2.1, rfl, by rw [HFN.out]; exact own_base2 HU.out.2.2.1 HWZ.out.2.2.2, HWZ.out.1.trans HU.out.2.2.2.2⟩
  · have t0 : (b : Int) ≤ (a : Int) := by omega
    have hba : a = b := by omega
    go_wp2_with fail
    go_ret2
    refine Or.inl ⟨[], 0, none, 0, 0, ?_, rfl, rfl, ⟨rfl, Or.inl ⟨rfl, rfl⟩⟩, H0.out.2.2⟩
    subst hba
    exact Ds.best_end f a
end Go.Proofs.Ytdepjmneoplicaa

