/-
  (*groups).split.
-/
import Derived.Test.YtelifjeppegcmaaPd
import Derived.Test.YtelifjeppegcmaaPe
import Derived.Test.YtelifjeppegcmaaEa
namespace Go.Proofs.Ytelifjeppegcmaa
open Go.RowKit Go.Maps
set_option linter.unusedVariables false
set_option linter.unusedSimpArgs false
def parP (w : World) (gb rb ab ob n base B1 i K0 : Nat) (of0 row at' : List Nat) (ls : List (Nat × Nat × Nat)) (T : Nat → Prop) (e : Ending) (w' : World) : Prop :=
  e = .returned (.tuple #[]) ∧ ∃ vL' of' ls', Ms w' gb rb ab ob n base B1 vL' row at' of' ls' ∧ Hm.P2 n K0 of0 row at' of' ls' T ∧ (∀ x : Nat, (∃ f t d, ls'[x]? = some (f, t, d) ∧ 0 < d) ↔ (x ≠ i ∧ ∃ f t d, ls[x]? = some (f, t, d) ∧ 0 < d)) ∧ Kp base B1 w w'
theorem part_any (gb rb ab ob n base B1 i K0 : Nat) (vL : Value) (of0 row at' of : List Nat) (ls : List (Nat × Nat × Nat)) (T : Nat → Prop) (w : World) (hM : Ms w gb rb ab ob n base B1 vL row at' of ls) (hP : Hm.P2 n K0 of0 row at' of ls T) (hi : ∃ f t d, ls[i]? = some (f, t, d) ∧ 0 < d) : Calls Try.prog 37 #[.pointer (some ⟨gb, 0, none⟩), .int .i64 (i : Int)] w (parP w gb rb ab ob n base B1 i K0 of0 row at' ls T) := by
  obtain ⟨f, t, d, hl, hd⟩ := hi
  obtain ⟨lb, cap, rfl, _⟩ := hM.nl
  obtain ⟨w1, w2, w3, _⟩ := hP.pi.seg i f t d hl
  obtain ⟨r, hr⟩ : ∃ r, t = f + d + r := ⟨t - (f + d), by omega⟩
  by_cases h0 : r = 0
  · subst h0
    refine (part_whole gb rb ab ob n base B1 i f t d (f + d) ls.length lb cap row at' of ls w hM hl hd rfl hr w2 rfl T K0 of0 hP).mono ?_
    rintro e w' ⟨he, cap', hM', ho⟩
    refine ⟨he, _, _, _, hM', hP.whole hl hd (by omega), fun x => ?_, Kp.of ho (fun b hb => part_lo hM b (Or.inl hb)) (fun b o hb => part_hi hM b o (Or.inl hb))⟩
    have il := (List.getElem?_eq_some_iff.1 hl).1
    rw [Hm.ls_set il]
    by_cases e2 : i = x
    · rw [if_pos e2]
      constructor
      · rintro ⟨f', t', d', h1, h2⟩
        injection h1 with h1
        simp only [Prod.mk.injEq] at h1
        omega
      · rintro ⟨h1, _⟩
        exact absurd e2.symm h1
    · rw [if_neg e2]
      exact ⟨fun h => ⟨fun e => e2 e.symm, h⟩, fun h => h.2⟩
  · by_cases hlt : d < r
    · refine (part_small gb rb ab ob n base B1 i f t d (f + d) r ls.length lb cap row at' of ls w hM hl hd rfl hr w2 hlt rfl T K0 of0 hP).mono ?_
      rintro e w' ⟨he, lb', cap', of', ls', h1, h2, h3, h4⟩
      exact ⟨he, _, of', ls', h1, h2, h3, h4⟩
    · refine (part_big gb rb ab ob n base B1 i f t d (f + d) r ls.length lb cap row at' of ls w hM hl hd rfl hr w2 (by omega) hlt rfl T K0 of0 hP).mono ?_
      rintro e w' ⟨he, lb', cap', of', ls', h1, h2, h3, h4⟩
      exact ⟨he, _, of', ls', h1, h2, h3, h4⟩
theorem Kt.kp {w w1 : World} {gb rb ab ob n base B1 : Nat} {vL : Value} {row at' of : List Nat} {ls : List (Nat × Nat × Nat)} (h : Ms w gb rb ab ob n base B1 vL row at' of ls) {o1 o2 : Obj} (k : Kt rb ab (w.heap.size + 1) vL ((w.alloc o1).alloc o2) w1) : Kp base B1 w w1 := by
  obtain ⟨lb, cap, rfl, hlb1, hlb2, _, _, _, cur, hcur⟩ := h.nl
  have e0 : ∀ b o, w.heap[b]? = some o → ((w.alloc o1).alloc o2).heap[b]? = some o := fun b o hb => by
    have hl := (Array.getElem?_eq_some_iff.1 hb).1
    exact (Below.heap_alloc _ _ _ (by simp; omega)).trans ((Below.heap_alloc _ _ _ hl).trans hb)
  have hlo := h.lo
  have hhi := h.hi
  refine ⟨k.os, k.tape, k.output, Nat.le_trans (by simp; omega) k.size, fun b hb hl => ?_, fun b o hb hbo hn => ?_⟩
  · have hb2 := Array.getElem?_eq_getElem hl
    rw [hb2]
    exact k.keep b _ (e0 b _ hb2) (by omega) (by omega) (fun e => by injection e with e; have e2 : lb = b := e; omega) (by omega) (Or.inl (by omega))
  · have hl := (Array.getElem?_eq_some_iff.1 hbo).1
    refine k.keep b o (e0 b o hbo) (by omega) (by omega) (fun e => ?_) (by omega) (Or.inl (by omega))
    injection e with e
    subst e
    rw [hcur] at hbo
    injection hbo with hbo
    exact hn _ _ hbo.symm
/-- what splitting makes. -/
def splP (w : World) (gb rb ab ob n base B1 K : Nat) (of D : List Nat) (e : Ending) (w' : World) : Prop :=
  e = .returned (.tuple #[]) ∧ ∃ vL' row' at'' of' ls', Ms w' gb rb ab ob n base B1 vL' row' at'' of' ls' ∧ Hm.Pt n row' at'' of' ls' (fun _ => False) ∧ Hm.Split n (fun s => of[s]?.getD 0) K (fun s => s ∈ D) (fun s => of'[s]?.getD 0) ls'.length ∧ Kp base B1 w w'
theorem drop_next {mt : List Nat} {i x : Nat} (h : mt[i]? = some x) : mt.drop i = x :: mt.drop (i + 1) := by
  rw [List.drop_eq_getElem?_toList_append, h]
  rfl
set_option maxRecDepth 100000 in
set_option maxHeartbeats 8000000 in
theorem split_each (gb rb ab ob n base B1 K ps : Nat) (vL : Value) (row at' of D : List Nat) (ls : List (Nat × Nat × Nat)) (w : World) (hM : Ms w gb rb ab ob n base B1 vL row at' of ls) (hB : B1 ≤ w.heap.size) (hK : ls.length = K)
    (hA : Calls Try.prog 38 #[.func (.func 35) #[] #[.pointer (some ⟨w.heap.size, 0, none⟩), .pointer (some ⟨w.heap.size + 1, 0, none⟩)], .pointer (some ⟨ps, 0, none⟩)] ((w.alloc (.cells #[.pointer (some ⟨gb, 0, none⟩)] 48)).alloc (.cells #[.slice none 0 0] 23)) fun e w' => e = .returned (.tuple #[]) ∧ St ((w.alloc (.cells #[.pointer (some ⟨gb, 0, none⟩)] 48)).alloc (.cells #[.slice none 0 0] 23)) w' gb rb ab ob n base B1 w.heap.size (w.heap.size + 1) K vL of D) :
    Calls Try.prog 25 #[.pointer (some ⟨gb, 0, none⟩), .func (.func 38) #[] #[.pointer (some ⟨ps, 0, none⟩)]] w (splP w gb rb ab ob n base B1 K of D) := by
  have HM : Hid (Ms w gb rb ab ob n base B1 vL row at' of ls) := hM
  have HA : Hid _ := hA
  have n1 := hM.n1
  have kn := hM.kn
  have hKn : K ≤ n := by omega
  clear hM hA hK kn
  go_enter Try.func25, Try.ntmps25
  go_wp2_with (first | (go_at_call 38; refine Calls.mono HA.out ?_; rintro e w1 ⟨rfl, row1, at1, ls1, vm, mt, hM1, hP1, hT1, hK1, hk1⟩; obtain ⟨am, cm, rfl⟩ := own_form hT1.own; have HM1 : Hid (Ms w1 gb rb ab ob n base B1 vL row1 at1 of ls1) := hM1; have HP1 : Hid (Hm.P2 n ls1.length of row1 at1 of ls1 (fun x => x ∈ D)) := hP1.two; have HT1 : Hid (Mt w1 w.heap.size (w.heap.size + 1) gb B1 (.slice am mt.length cm) mt ls1) := hT1; have HK1 : Hid (ls1.length = K) := hK1; have HKT : Hid (Kp base B1 w w1) := Kt.kp HM.out hk1; have z0 : w1.cell? ⟨w.heap.size + 1, 0, none⟩ = some (.slice am mt.length cm) := cell_blk hT1.m; have lz0 := World.block_lt_of_cell? w1 _ z0; have lzg := (Array.getElem?_eq_some_iff.1 hT1.g).1; have hml : mt.length ≤ n := (by have := mt_len ls1.length mt hT1.nd (fun x hx => by obtain ⟨f', t', d', h1, _⟩ := (hT1.mem x).1 hx; exact (List.getElem?_eq_some_iff.1 h1).1); have := hM1.kn; omega); clear hM1 hP1 hT1 hK1 hk1))
  obtain ⟨ml, hml2⟩ : ∃ ml, ml = mt.length := ⟨_, rfl⟩
  have HML : Hid (ml = mt.length) := hml2
  rw [← hml2]
  rw [← hml2] at hml z0
  clear hml2
  go_loopg [12] ml (fun gh v wr => ∃ (x : Nat) (vY : Value) (ofY : List Nat) (lsY : List (Nat × Nat × Nat)) (Y : World), Y = wr ∧ gh = ml - x ∧ x ≤ ml ∧ v = .int .i64 (x : Int) ∧ Ms Y gb rb ab ob n base B1 vY row1 at1 ofY lsY ∧ Hm.P2 n ls1.length of row1 at1 ofY lsY (fun x => x ∈ D) ∧ (∀ g : Nat, (∃ f t d, lsY[g]? = some (f, t, d) ∧ 0 < d) ↔ g ∈ mt.drop x) ∧ Kp base B1 w1 Y)
  case atStart => exact ⟨0, vL, of, ls1, _, rfl, rfl, Nat.zero_le _, rfl, HM1.out, HP1.out, fun g => by rw [List.drop_zero]; exact (HT1.out.mem g).symm, Kp.refl _ _ _⟩
  case round =>
    obtain ⟨x, vY, ofY, lsY, Y, hY, rfl, hx, rfl, hMY, hPY, hmY, hkY⟩ := hrel
    subst hY
    have HMY : Hid (Ms Y gb rb ab ob n base B1 vY row1 at1 ofY lsY) := hMY
    have HPY : Hid (Hm.P2 n ls1.length of row1 at1 ofY lsY (fun x => x ∈ D)) := hPY
    have HMM : Hid (∀ g : Nat, (∃ f t d, lsY[g]? = some (f, t, d) ∧ 0 < d) ↔ g ∈ mt.drop x) := hmY
    have HKY : Hid (Kp base B1 w1 Y) := hkY
    clear hMY hPY hmY hkY
    by_cases hlt : x < ml
    · have t1 : (x : Int) < (ml : Int) := by omega
      obtain ⟨g, hg⟩ : ∃ g, mt[x]? = some g := ⟨_, List.getElem?_eq_getElem (by have := HML.out; omega)⟩
      have HG : Hid (mt[x]? = some g) := hg
      clear hg
      obtain ⟨gm, capm, hv, hgb, hgl, hgc, hcc⟩ := row_form HT1.out.own (by have := HML.out; omega)
      injection hv with hv1 hv2 hv3
      subst hv1
      subst hv3
      clear hv2
      have HBM : Hid (∃ cur, w1.heap[gm]? = some (.cells cur 3 (0, 0))) := (own_blk HT1.out.own).2.2.2
      have cg : Y.cell? ⟨gm, x, none⟩ = some (.int .i64 (g : Int)) := by
        obtain ⟨cur, hc⟩ := HBM.out
        have hk := HKY.out.new gm _ (by omega) hc (fun cs z e => by injection e with _ e; cases e)
        have h1 : Y.heap[gm]? = w1.heap[gm]? := by rw [hk, hc]
        refine (World.cell?_of_block (a := ⟨gm, x, none⟩) h1).trans ?_
        rw [hcc x (by have := HML.out; omega)]
        have := nums_at mt x
        rw [HG.out] at this
        rw [Array.getElem?_toList]
        exact this
      have lgY : gm < Y.heap.size := World.block_lt_of_cell? Y _ cg
      have cp : Y.cell? ⟨w.heap.size, 0, none⟩ = some (.pointer (some ⟨gb, 0, none⟩)) := cell_blk (HKY.out.new _ _ HT1.out.b1 HT1.out.g (fun cs z e => by injection e with _ e; cases e))
      have lpY : w.heap.size < Y.heap.size := World.block_lt_of_cell? Y _ cp
      clear hcc
      have HC : Hid (Calls Try.prog 37 #[.pointer (some ⟨gb, 0, none⟩), .int .i64 (g : Int)] Y (parP Y gb rb ab ob n base B1 g ls1.length of row1 at1 lsY (fun x => x ∈ D))) := part_any gb rb ab ob n base B1 g ls1.length vY of row1 at1 ofY lsY _ Y HMY.out HPY.out ((HMM.out g).2 (by rw [drop_next HG.out]; simp))
      go_wp2_with (first | (go_at_call 37; refine Calls.mono HC.out ?_; rintro e w5 ⟨rfl, v5, of5, ls5, h51, h52, h53, h54⟩; have H5 : Hid (Ms w5 gb rb ab ob n base B1 v5 row1 at1 of5 ls5 ∧ Hm.P2 n ls1.length of row1 at1 of5 ls5 (fun x => x ∈ D) ∧ (∀ x : Nat, (∃ f t d, ls5[x]? = some (f, t, d) ∧ 0 < d) ↔ (x ≠ g ∧ ∃ f t d, lsY[x]? = some (f, t, d) ∧ 0 < d)) ∧ Kp base B1 Y w5) := ⟨h51, h52, h53, h54⟩; clear h51 h52 h53 h54))
      go_roundg (ml - (x + 1))
      case measure => omega
      case rel =>
        refine ⟨x + 1, v5, of5, ls5, _, rfl, rfl, by omega, by go_num, H5.out.1, H5.out.2.1, fun y => ?_, HKY.out.trans H5.out.2.2.2⟩
        rw [H5.out.2.2.1 y, HMM.out y, drop_next HG.out]
        have hnd : (g :: mt.drop (x + 1)).Nodup := by rw [← drop_next HG.out]; exact HT1.out.nd.sublist (List.drop_sublist _ _)
        have hng := (List.nodup_cons.1 hnd).1
        constructor
        · rintro ⟨h1, h2⟩
          rcases List.mem_cons.1 h2 with h2 | h2
          · exact absurd h2 h1
          · exact h2
        · intro h1
          exact ⟨fun e => hng (e ▸ h1), List.mem_cons.2 (Or.inr h1)⟩
    · have t2 : decide ((x : Int) < (ml : Int)) = false := decide_eq_false (by omega)
      have hz : ∀ (g f t d : Nat), lsY[g]? = some (f, t, d) → d = 0 := fun g f t d hg => by
        by_cases hd : d = 0
        · exact hd
        · have := (HMM.out g).1 ⟨f, t, d, hg, by omega⟩
          rw [List.drop_eq_nil_of_le (by have := HML.out; omega)] at this
          cases this
      have HZ : Hid (∀ (g f t d : Nat), lsY[g]? = some (f, t, d) → d = 0) := hz
      clear hz
      go_wp2_with fail
      go_end0
      have hs := HPY.out.done HZ.out HP1.out.pi.ol
      rw [HK1.out] at hs
      exact ⟨rfl, vY, row1, at1, ofY, lsY, HMY.out, HPY.out.again HZ.out, hs, HKT.out.trans HKY.out⟩
set_option maxRecDepth 100000 in
set_option maxHeartbeats 8000000 in
theorem split_lead (gb rb ab ob n base B1 K pgo pba : Nat) (vL : Value) (row at' of D : List Nat) (ls : List (Nat × Nat × Nat)) (w : World) (hM : Ms w gb rb ab ob n base B1 vL row at' of ls) (hB : B1 ≤ w.heap.size) (hK : ls.length = K)
    (hA : Calls Try.prog 39 #[.func (.func 35) #[] #[.pointer (some ⟨w.heap.size, 0, none⟩), .pointer (some ⟨w.heap.size + 1, 0, none⟩)], .pointer (some ⟨pgo, 0, none⟩), .pointer (some ⟨pba, 0, none⟩)] ((w.alloc (.cells #[.pointer (some ⟨gb, 0, none⟩)] 48)).alloc (.cells #[.slice none 0 0] 23)) fun e w' => e = .returned (.tuple #[]) ∧ St ((w.alloc (.cells #[.pointer (some ⟨gb, 0, none⟩)] 48)).alloc (.cells #[.slice none 0 0] 23)) w' gb rb ab ob n base B1 w.heap.size (w.heap.size + 1) K vL of D) :
    Calls Try.prog 25 #[.pointer (some ⟨gb, 0, none⟩), .func (.func 39) #[] #[.pointer (some ⟨pgo, 0, none⟩), .pointer (some ⟨pba, 0, none⟩)]] w (splP w gb rb ab ob n base B1 K of D) := by
  have HM : Hid (Ms w gb rb ab ob n base B1 vL row at' of ls) := hM
  have HA : Hid _ := hA
  have n1 := hM.n1
  have kn := hM.kn
  have hKn : K ≤ n := by omega
  clear hM hA hK kn
  go_enter Try.func25, Try.ntmps25
  go_wp2_with (first | (go_at_call 39; refine Calls.mono HA.out ?_; rintro e w1 ⟨rfl, row1, at1, ls1, vm, mt, hM1, hP1, hT1, hK1, hk1⟩; obtain ⟨am, cm, rfl⟩ := own_form hT1.own; have HM1 : Hid (Ms w1 gb rb ab ob n base B1 vL row1 at1 of ls1) := hM1; have HP1 : Hid (Hm.P2 n ls1.length of row1 at1 of ls1 (fun x => x ∈ D)) := hP1.two; have HT1 : Hid (Mt w1 w.heap.size (w.heap.size + 1) gb B1 (.slice am mt.length cm) mt ls1) := hT1; have HK1 : Hid (ls1.length = K) := hK1; have HKT : Hid (Kp base B1 w w1) := Kt.kp HM.out hk1; have z0 : w1.cell? ⟨w.heap.size + 1, 0, none⟩ = some (.slice am mt.length cm) := cell_blk hT1.m; have lz0 := World.block_lt_of_cell? w1 _ z0; have lzg := (Array.getElem?_eq_some_iff.1 hT1.g).1; have hml : mt.length ≤ n := (by have := mt_len ls1.length mt hT1.nd (fun x hx => by obtain ⟨f', t', d', h1, _⟩ := (hT1.mem x).1 hx; exact (List.getElem?_eq_some_iff.1 h1).1); have := hM1.kn; omega); clear hM1 hP1 hT1 hK1 hk1))
  obtain ⟨ml, hml2⟩ : ∃ ml, ml = mt.length := ⟨_, rfl⟩
  have HML : Hid (ml = mt.length) := hml2
  rw [← hml2]
  rw [← hml2] at hml z0
  clear hml2
  go_loopg [12] ml (fun gh v wr => ∃ (x : Nat) (vY : Value) (ofY : List Nat) (lsY : List (Nat × Nat × Nat)) (Y : World), Y = wr ∧ gh = ml - x ∧ x ≤ ml ∧ v = .int .i64 (x : Int) ∧ Ms Y gb rb ab ob n base B1 vY row1 at1 ofY lsY ∧ Hm.P2 n ls1.length of row1 at1 ofY lsY (fun x => x ∈ D) ∧ (∀ g : Nat, (∃ f t d, lsY[g]? = some (f, t, d) ∧ 0 < d) ↔ g ∈ mt.drop x) ∧ Kp base B1 w1 Y)
  case atStart => exact ⟨0, vL, of, ls1, _, rfl, rfl, Nat.zero_le _, rfl, HM1.out, HP1.out, fun g => by rw [List.drop_zero]; exact (HT1.out.mem g).symm, Kp.refl _ _ _⟩
  case round =>
    obtain ⟨x, vY, ofY, lsY, Y, hY, rfl, hx, rfl, hMY, hPY, hmY, hkY⟩ := hrel
    subst hY
    have HMY : Hid (Ms Y gb rb ab ob n base B1 vY row1 at1 ofY lsY) := hMY
    have HPY : Hid (Hm.P2 n ls1.length of row1 at1 ofY lsY (fun x => x ∈ D)) := hPY
    have HMM : Hid (∀ g : Nat, (∃ f t d, lsY[g]? = some (f, t, d) ∧ 0 < d) ↔ g ∈ mt.drop x) := hmY
    have HKY : Hid (Kp base B1 w1 Y) := hkY
    clear hMY hPY hmY hkY
    by_cases hlt : x < ml
    · have t1 : (x : Int) < (ml : Int) := by omega
      obtain ⟨g, hg⟩ : ∃ g, mt[x]? = some g := ⟨_, List.getElem?_eq_getElem (by have := HML.out; omega)⟩
      have HG : Hid (mt[x]? = some g) := hg
      clear hg
      obtain ⟨gm, capm, hv, hgb, hgl, hgc, hcc⟩ := row_form HT1.out.own (by have := HML.out; omega)
      injection hv with hv1 hv2 hv3
      subst hv1
      subst hv3
      clear hv2
      have HBM : Hid (∃ cur, w1.heap[gm]? = some (.cells cur 3 (0, 0))) := (own_blk HT1.out.own).2.2.2
      have cg : Y.cell? ⟨gm, x, none⟩ = some (.int .i64 (g : Int)) := by
        obtain ⟨cur, hc⟩ := HBM.out
        have hk := HKY.out.new gm _ (by omega) hc (fun cs z e => by injection e with _ e; cases e)
        have h1 : Y.heap[gm]? = w1.heap[gm]? := by rw [hk, hc]
        refine (World.cell?_of_block (a := ⟨gm, x, none⟩) h1).trans ?_
        rw [hcc x (by have := HML.out; omega)]
        have := nums_at mt x
        rw [HG.out] at this
        rw [Array.getElem?_toList]
        exact this
      have lgY : gm < Y.heap.size := World.block_lt_of_cell? Y _ cg
      have cp : Y.cell? ⟨w.heap.size, 0, none⟩ = some (.pointer (some ⟨gb, 0, none⟩)) := cell_blk (HKY.out.new _ _ HT1.out.b1 HT1.out.g (fun cs z e => by injection e with _ e; cases e))
      have lpY : w.heap.size < Y.heap.size := World.block_lt_of_cell? Y _ cp
      clear hcc
      have HC : Hid (Calls Try.prog 37 #[.pointer (some ⟨gb, 0, none⟩), .int .i64 (g : Int)] Y (parP Y gb rb ab ob n base B1 g ls1.length of row1 at1 lsY (fun x => x ∈ D))) := part_any gb rb ab ob n base B1 g ls1.length vY of row1 at1 ofY lsY _ Y HMY.out HPY.out ((HMM.out g).2 (by rw [drop_next HG.out]; simp))
      go_wp2_with (first | (go_at_call 37; refine Calls.mono HC.out ?_; rintro e w5 ⟨rfl, v5, of5, ls5, h51, h52, h53, h54⟩; have H5 : Hid (Ms w5 gb rb ab ob n base B1 v5 row1 at1 of5 ls5 ∧ Hm.P2 n ls1.length of row1 at1 of5 ls5 (fun x => x ∈ D) ∧ (∀ x : Nat, (∃ f t d, ls5[x]? = some (f, t, d) ∧ 0 < d) ↔ (x ≠ g ∧ ∃ f t d, lsY[x]? = some (f, t, d) ∧ 0 < d)) ∧ Kp base B1 Y w5) := ⟨h51, h52, h53, h54⟩; clear h51 h52 h53 h54))
      go_roundg (ml - (x + 1))
      case measure => omega
      case rel =>
        refine ⟨x + 1, v5, of5, ls5, _, rfl, rfl, by omega, by go_num, H5.out.1, H5.out.2.1, fun y => ?_, HKY.out.trans H5.out.2.2.2⟩
        rw [H5.out.2.2.1 y, HMM.out y, drop_next HG.out]
        have hnd : (g :: mt.drop (x + 1)).Nodup := by rw [← drop_next HG.out]; exact HT1.out.nd.sublist (List.drop_sublist _ _)
        have hng := (List.nodup_cons.1 hnd).1
        constructor
        · rintro ⟨h1, h2⟩
          rcases List.mem_cons.1 h2 with h2 | h2
          · exact absurd h2 h1
          · exact h2
        · intro h1
          exact ⟨fun e => hng (e ▸ h1), List.mem_cons.2 (Or.inr h1)⟩
    · have t2 : decide ((x : Int) < (ml : Int)) = false := decide_eq_false (by omega)
      have hz : ∀ (g f t d : Nat), lsY[g]? = some (f, t, d) → d = 0 := fun g f t d hg => by
        by_cases hd : d = 0
        · exact hd
        · have := (HMM.out g).1 ⟨f, t, d, hg, by omega⟩
          rw [List.drop_eq_nil_of_le (by have := HML.out; omega)] at this
          cases this
      have HZ : Hid (∀ (g f t d : Nat), lsY[g]? = some (f, t, d) → d = 0) := hz
      clear hz
      go_wp2_with fail
      go_end0
      have hs := HPY.out.done HZ.out HP1.out.pi.ol
      rw [HK1.out] at hs
      exact ⟨rfl, vY, row1, at1, ofY, lsY, HMY.out, HPY.out.again HZ.out, hs, HKT.out.trans HKY.out⟩
end Go.Proofs.Ytelifjeppegcmaa
