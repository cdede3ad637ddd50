/-
  auto.Make at every list of expressions and any number of classes; the laws' own Awake returns true.
-/
import Derived.Test.YtfbcijnacbfjpaaSts2z
import Derived.Test.YtfbcijnacbfjpaaSts0z
namespace Go.Proofs.Ytfbcijnacbfjpaa
open Go.RowKit Go.Maps
set_option linter.unusedVariables false
set_option linter.unusedSimpArgs false
open Rl (Ex)
theorem make_all (F : Nat → Prop) (es : List Ex) (a : Option Addr) (c : Nat) (cl : Int) (w : World) (hL : Lex w F es a c) (hF : ∀ b, F b → b < w.heap.size) (hD : ∀ e ∈ es, Au.dp e ≤ 1000000) :
    Calls Try.prog 11 #[.slice a es.length c, .int .i64 cl] w (makeP w cl (Au.make es cl)) := by
  by_cases h : cl < 1 ∨ 24 < cl ∨ 24 < es.length
  · have e : Au.make es cl = .error 1 := by unfold Au.make; rw [if_pos h]
    rw [e]
    exact make_range a es.length c cl w (by omega)
  · obtain ⟨n, rfl⟩ : ∃ n : Nat, cl = (n : Int) := ⟨cl.toNat, by omega⟩
    exact make_in (fun g cl p l fs vL w h1 h2 h3 h4 h5 h6 h7 => states_any g cl p l fs vL w h1 h2 h3 h4 h5 h6 h7) F es a c n w hL hF hD (by omega) (by omega) (by omega)
/-- what an automaton tells, cell by cell. -/
theorem Aut.outs {W : World} {lo cl : Nat} {v : Value} {nx : List (List Nat)} {o : List Nat} (h : Aut W lo cl v nx o) (h0 : 0 < o.length) : ∃ aN cN ob cO, v = .agg #[.slice aN nx.length cN, .slice (some ⟨ob, 0, none⟩) o.length cO] ∧ ob < W.heap.size ∧ ∀ (j x : Nat), o[j]? = some x → W.cell? ⟨ob, j, none⟩ = some (.int .u32 (x : Int)) := by
  obtain ⟨rows, vN, vO, h1, h2, h3, h4, h5⟩ := h
  obtain ⟨aN, cN, rfl⟩ := own_form h3
  obtain ⟨ob, cO, rfl, _, hl, _, hc⟩ := row_form h4 h0
  refine ⟨aN, cN, ob, cO, by rw [h1, h2, List.length_map], hl, fun j x hj => ?_⟩
  have hlt := (List.getElem?_eq_some_iff.1 hj).1
  rw [hc j (by omega), List.getElem?_map, hj]
  rfl
def eA (s : Int) : Ex := .mk 1 s []
theorem Te.leaf (w : World) (F : Nat → Prop) (s : Int) (h0 : 0 ≤ s) (h1 : s < 4294967296) : Te w F (eA s) (.agg #[.int .u8 1, .int .u32 s, .slice none 0 0]) := by
  unfold eA Te
  exact ⟨none, 0, rfl, Nat.le_refl _, by unfold maxLen; simp, h0, h1, fun h => absurd rfl h⟩
theorem mk1 : Au.make [eA 1] 1 = .ok ([[1], [1]], [0, 1]) := by kernel_rfl
theorem mk2 : Au.make [.mk 2 0 [eA 1, eA 1]] 1 = .ok ([[1], [2], [2]], [0, 0, 1]) := by kernel_rfl
theorem mk3 : Au.make [.mk 4 0 [eA 1]] 1 = .ok ([[1], [1]], [1, 1]) := by kernel_rfl
/-- one expression in a list of its own. -/
theorem Lex.one {w : World} {b : Nat} {e : Ex} {o s k : Value} {c : Nat} (hb : w.heap[b]? = some (.cells #[o, s, k] 49 (0, 0))) (he : Te w (fun b => b < w.heap.size) e (.agg #[o, s, k])) : Lex w (fun b => b < w.heap.size) [e] (some ⟨b, 0, none⟩) c := by
  refine ⟨by unfold maxLen; simp, fun _ => ⟨b, 0, rfl, (Array.getElem?_eq_some_iff.1 hb).1, ?_⟩⟩
  unfold Tes
  exact ⟨⟨o, s, k, cell_blk hb, cell_blk hb, cell_blk hb, he⟩, by unfold Tes; trivial⟩
theorem call1 {w : World} {b : Nat} {e : Ex} {o s k : Value} {c : Nat} {cl : Int} (hb : w.heap[b]? = some (.cells #[o, s, k] 49 (0, 0))) (he : Te w (fun b => b < w.heap.size) e (.agg #[o, s, k])) (hd : Au.dp e ≤ 1000000) : Calls Try.prog 11 #[.slice (some ⟨b, 0, none⟩) 1 c, .int .i64 cl] w (makeP w cl (Au.make [e] cl)) :=
  make_all (fun b => b < w.heap.size) [e] _ c cl w (Lex.one hb he) (fun _ h => h) (fun x hx => by simp at hx; subst hx; exact hd)
theorem keep0 {w w' : World} (ho : Only (fun _ => False) w w') {b k : Nat} {v : Value} (h : w.cell? ⟨b, k, none⟩ = some v) : w'.cell? ⟨b, k, none⟩ = some v := Kp.only (F := fun _ => True) ho (fun _ _ h => h) b trivial k v h
/-- two letters in a row. -/
theorem Te.two {w : World} {b : Nat} {F : Nat → Prop} (hb : w.heap[b]? = some (.cells #[.int .u8 1, .int .u32 1, .slice none 0 0, .int .u8 1, .int .u32 1, .slice none 0 0] 49 (0, 0))) (hF : F b) : Te w F (.mk 2 0 [eA 1, eA 1]) (.agg #[.int .u8 2, .int .u32 0, .slice (some ⟨b, 0, none⟩) 2 2]) := by
  unfold Te
  refine ⟨_, 2, rfl, Nat.le_refl _, by unfold maxLen; simp, by omega, by omega, fun _ => ⟨b, 0, rfl, hF, ?_⟩⟩
  unfold Tes
  refine ⟨⟨_, _, _, cell_blk hb, cell_blk hb, cell_blk hb, Te.leaf w F 1 (by omega) (by omega)⟩, ?_⟩
  unfold Tes
  exact ⟨⟨_, _, _, cell_blk hb, cell_blk hb, cell_blk hb, Te.leaf w F 1 (by omega) (by omega)⟩, by unfold Tes; trivial⟩
theorem Te.starred {w : World} {b : Nat} {F : Nat → Prop} (hb : w.heap[b]? = some (.cells #[.int .u8 1, .int .u32 1, .slice none 0 0] 49 (0, 0))) (hF : F b) : Te w F (.mk 4 0 [eA 1]) (.agg #[.int .u8 4, .int .u32 0, .slice (some ⟨b, 0, none⟩) 1 1]) := by
  unfold Te
  refine ⟨_, 1, rfl, Nat.le_refl _, by unfold maxLen; simp, by omega, by omega, fun _ => ⟨b, 0, rfl, hF, ?_⟩⟩
  unfold Tes
  exact ⟨⟨_, _, _, cell_blk hb, cell_blk hb, cell_blk hb, Te.leaf w F 1 (by omega) (by omega)⟩, by unfold Tes; trivial⟩
theorem first_call (W : World) : Calls Try.prog 11 #[.slice (some ⟨W.heap.size, 0, none⟩) 1 1, .int .i64 1] (W.alloc (.cells #[.int .u8 1, .int .u32 1, .slice none 0 0] 49)) fun e w' => ∃ aN cN ob cO, e = .returned (.tuple #[.agg #[.slice aN 2 cN, .slice (some ⟨ob, 0, none⟩) 2 cO], .int .i64 0]) ∧ w'.cell? ⟨ob, 1, none⟩ = some (.int .u32 1) ∧ Only (fun _ => False) W w' := by
  have hc := call1 (w := W.alloc (.cells #[.int .u8 1, .int .u32 1, .slice none 0 0] 49)) (b := W.heap.size) (e := eA 1) (c := 1) (cl := 1) (heap_alloc_new _ _) (Te.leaf _ _ 1 (by omega) (by omega)) (by decide)
  rw [mk1] at hc
  refine hc.mono ?_
  rintro e w' ⟨⟨v, rfl, hA⟩, ho⟩
  obtain ⟨aN, cN, ob, cO, rfl, hl, hx⟩ := hA.outs (by decide)
  exact ⟨aN, cN, ob, cO, rfl, hx 1 1 rfl, ((Only.refl _ _).alloc _).trans ho⟩
theorem second_call (W : World) : Calls Try.prog 11 #[.slice (some ⟨W.heap.size + 1, 0, none⟩) 1 1, .int .i64 1] ((W.alloc (.cells #[.int .u8 1, .int .u32 1, .slice none 0 0, .int .u8 1, .int .u32 1, .slice none 0 0] 49)).alloc (.cells #[.int .u8 2, .int .u32 0, .slice (some ⟨W.heap.size, 0, none⟩) 2 2] 49)) fun e w' => ∃ aN cN ob cO, e = .returned (.tuple #[.agg #[.slice aN 3 cN, .slice (some ⟨ob, 0, none⟩) 3 cO], .int .i64 0]) ∧ w'.cell? ⟨ob, 2, none⟩ = some (.int .u32 1) ∧ Only (fun _ => False) W w' := by
  have hc := call1 (w := (W.alloc (.cells #[.int .u8 1, .int .u32 1, .slice none 0 0, .int .u8 1, .int .u32 1, .slice none 0 0] 49)).alloc (.cells #[.int .u8 2, .int .u32 0, .slice (some ⟨W.heap.size, 0, none⟩) 2 2] 49)) (b := W.heap.size + 1) (e := .mk 2 0 [eA 1, eA 1]) (c := 1) (cl := 1) (heap_alloc2_new _ _ _) (Te.two ((Below.heap_alloc _ _ _ (by simp)).trans (heap_alloc_new _ _)) (by simp; omega)) (by decide)
  rw [mk2] at hc
  refine hc.mono ?_
  rintro e w' ⟨⟨v, rfl, hA⟩, ho⟩
  obtain ⟨aN, cN, ob, cO, rfl, hl, hx⟩ := hA.outs (by decide)
  exact ⟨aN, cN, ob, cO, rfl, hx 2 1 rfl, (((Only.refl _ _).alloc _).alloc _).trans ho⟩
theorem third_call (W : World) : Calls Try.prog 11 #[.slice (some ⟨W.heap.size + 1, 0, none⟩) 1 1, .int .i64 1] ((W.alloc (.cells #[.int .u8 1, .int .u32 1, .slice none 0 0] 49)).alloc (.cells #[.int .u8 4, .int .u32 0, .slice (some ⟨W.heap.size, 0, none⟩) 1 1] 49)) fun e w' => ∃ aN cN ob cO, e = .returned (.tuple #[.agg #[.slice aN 2 cN, .slice (some ⟨ob, 0, none⟩) 2 cO], .int .i64 0]) ∧ w'.cell? ⟨ob, 0, none⟩ = some (.int .u32 1) ∧ Only (fun _ => False) W w' := by
  have hc := call1 (w := (W.alloc (.cells #[.int .u8 1, .int .u32 1, .slice none 0 0] 49)).alloc (.cells #[.int .u8 4, .int .u32 0, .slice (some ⟨W.heap.size, 0, none⟩) 1 1] 49)) (b := W.heap.size + 1) (e := .mk 4 0 [eA 1]) (c := 1) (cl := 1) (heap_alloc2_new _ _ _) (Te.starred ((Below.heap_alloc _ _ _ (by simp)).trans (heap_alloc_new _ _)) (by simp; omega)) (by decide)
  rw [mk3] at hc
  refine hc.mono ?_
  rintro e w' ⟨⟨v, rfl, hA⟩, ho⟩
  obtain ⟨aN, cN, ob, cO, rfl, hl, hx⟩ := hA.outs (by decide)
  exact ⟨aN, cN, ob, cO, rfl, hx 0 1 rfl, (((Only.refl _ _).alloc _).alloc _).trans ho⟩
set_option maxRecDepth 100000 in
set_option maxHeartbeats 4000000 in
theorem awake_any (w : World) : Calls Try.prog 9 #[] w fun e w' => e = .returned (.bool true) ∧ Only (fun _ => False) w w' := by
  have a0 : (w.alloc (.cells #[.int .u8 1, .int .u32 1, .slice none 0 0] 49)).cell? ⟨w.heap.size, 0, none⟩ = some (.int .u8 1) := cell_blk (heap_alloc_new _ _)
  have a1 : (w.alloc (.cells #[.int .u8 1, .int .u32 1, .slice none 0 0] 49)).cell? ⟨w.heap.size, 1, none⟩ = some (.int .u32 1) := cell_blk (heap_alloc_new _ _)
  have a2 : (w.alloc (.cells #[.int .u8 1, .int .u32 1, .slice none 0 0] 49)).cell? ⟨w.heap.size, 2, none⟩ = some (.slice none 0 0) := cell_blk (heap_alloc_new _ _)
  have HA0 : Hid ((w.alloc (.cells #[.int .u8 1, .int .u32 1, .slice none 0 0] 49)).cell? ⟨w.heap.size, 0, none⟩ = some (.int .u8 1) ∧ (w.alloc (.cells #[.int .u8 1, .int .u32 1, .slice none 0 0] 49)).cell? ⟨w.heap.size, 1, none⟩ = some (.int .u32 1) ∧ (w.alloc (.cells #[.int .u8 1, .int .u32 1, .slice none 0 0] 49)).cell? ⟨w.heap.size, 2, none⟩ = some (.slice none 0 0)) := ⟨a0, a1, a2⟩
  clear a0 a1 a2
  have h1 := first_call (w.alloc (.cells #[.int .u8 1, .int .u32 1, .slice none 0 0] 49))
  have e1 : (w.alloc (.cells #[.int .u8 1, .int .u32 1, .slice none 0 0] 49)).heap.size = w.heap.size + 1 := by simp
  rw [e1] at h1
  have H1 : Hid (Calls Try.prog 11 #[.slice (some ⟨w.heap.size + 1, 0, none⟩) 1 1, .int .i64 1] ((w.alloc (.cells #[.int .u8 1, .int .u32 1, .slice none 0 0] 49)).alloc (.cells #[.int .u8 1, .int .u32 1, .slice none 0 0] 49)) fun e w' => ∃ aN cN ob cO, e = .returned (.tuple #[.agg #[.slice aN 2 cN, .slice (some ⟨ob, 0, none⟩) 2 cO], .int .i64 0]) ∧ w'.cell? ⟨ob, 1, none⟩ = some (.int .u32 1) ∧ Only (fun _ => False) (w.alloc (.cells #[.int .u8 1, .int .u32 1, .slice none 0 0] 49)) w') := h1
  clear h1 e1
  go_enter Try.func9, Try.ntmps9
  go_wp2_with fail
  refine H1.out.mono ?_
  rintro e w1 ⟨aM, cM, om, cP, rfl, hx, ho⟩
  have HX : Hid (w1.cell? ⟨om, 1, none⟩ = some (.int .u32 1)) := hx
  have HO : Hid (Only (fun _ => False) (w.alloc (.cells #[.int .u8 1, .int .u32 1, .slice none 0 0] 49)) w1) := ho
  have b0 := keep0 ho HA0.out.1
  have b1 := keep0 ho HA0.out.2.1
  have b2 := keep0 ho HA0.out.2.2
  have hsz : w.heap.size < w1.heap.size := by have := ho.size; simp at this; omega
  have hsz1 : w.heap.size < w1.heap.size + 1 := by omega
  clear hx ho H1
  have h2 := second_call (w1.alloc (.cells #[.slice aM 2 cM, .slice (some ⟨om, 0, none⟩) 2 cP] 33))
  have e2 : (w1.alloc (.cells #[.slice aM 2 cM, .slice (some ⟨om, 0, none⟩) 2 cP] 33)).heap.size = w1.heap.size + 1 := by simp
  rw [e2] at h2
  have H2 : Hid (Calls Try.prog 11 #[.slice (some ⟨w1.heap.size + 1 + 1, 0, none⟩) 1 1, .int .i64 1] (((w1.alloc (.cells #[.slice aM 2 cM, .slice (some ⟨om, 0, none⟩) 2 cP] 33)).alloc (.cells #[.int .u8 1, .int .u32 1, .slice none 0 0, .int .u8 1, .int .u32 1, .slice none 0 0] 49)).alloc (.cells #[.int .u8 2, .int .u32 0, .slice (some ⟨w1.heap.size + 1, 0, none⟩) 2 2] 49)) fun e w' => ∃ aN cN ob cO, e = .returned (.tuple #[.agg #[.slice aN 3 cN, .slice (some ⟨ob, 0, none⟩) 3 cO], .int .i64 0]) ∧ w'.cell? ⟨ob, 2, none⟩ = some (.int .u32 1) ∧ Only (fun _ => False) (w1.alloc (.cells #[.slice aM 2 cM, .slice (some ⟨om, 0, none⟩) 2 cP] 33)) w') := h2
  clear h2 e2
  go_wp2_with fail
  refine H2.out.mono ?_
  rintro e w2 ⟨aN2, cN2, ob2, cO2, rfl, hx2, ho2⟩
  have HX2 : Hid (w2.cell? ⟨ob2, 2, none⟩ = some (.int .u32 1)) := hx2
  have HO2 : Hid (Only (fun _ => False) (w1.alloc (.cells #[.slice aM 2 cM, .slice (some ⟨om, 0, none⟩) 2 cP] 33)) w2) := ho2
  have hA1 : Only (fun _ => False) w1 w2 := ((Only.refl _ _).alloc _).trans ho2
  have b0' := keep0 hA1 b0
  have b1' := keep0 hA1 b1
  have b2' := keep0 hA1 b2
  have x1' : w2.cell? ⟨w1.heap.size, 1, none⟩ = some (.slice (some ⟨om, 0, none⟩) 2 cP) := keep0 ho2 (cell_blk (heap_alloc_new _ _))
  have HX1 : Hid (w2.cell? ⟨om, 1, none⟩ = some (.int .u32 1)) := keep0 hA1 HX.out
  have hs2 : w1.heap.size < w2.heap.size := by have := ho2.size; simp at this; omega
  have hs3 : w.heap.size < w2.heap.size := by omega
  have hs4 : w.heap.size < w2.heap.size + 1 := by omega
  have HB1 : Hid (w2.cell? ⟨w1.heap.size, 1, none⟩ = some (.slice (some ⟨om, 0, none⟩) 2 cP)) := x1'
  have HA2 : Hid (Only (fun _ => False) w w2) := (((Only.refl _ _).alloc _).trans HO.out).trans hA1
  clear hx2 ho2 H2 b0 b1 b2 hA1 x1' HX HO
  have h3 := third_call (w2.alloc (.cells #[.slice aN2 3 cN2, .slice (some ⟨ob2, 0, none⟩) 3 cO2] 33))
  have e3 : (w2.alloc (.cells #[.slice aN2 3 cN2, .slice (some ⟨ob2, 0, none⟩) 3 cO2] 33)).heap.size = w2.heap.size + 1 := by simp
  rw [e3] at h3
  have H3 : Hid (Calls Try.prog 11 #[.slice (some ⟨w2.heap.size + 1 + 1, 0, none⟩) 1 1, .int .i64 1] (((w2.alloc (.cells #[.slice aN2 3 cN2, .slice (some ⟨ob2, 0, none⟩) 3 cO2] 33)).alloc (.cells #[.int .u8 1, .int .u32 1, .slice none 0 0] 49)).alloc (.cells #[.int .u8 4, .int .u32 0, .slice (some ⟨w2.heap.size + 1, 0, none⟩) 1 1] 49)) fun e w' => ∃ aN cN ob cO, e = .returned (.tuple #[.agg #[.slice aN 2 cN, .slice (some ⟨ob, 0, none⟩) 2 cO], .int .i64 0]) ∧ w'.cell? ⟨ob, 0, none⟩ = some (.int .u32 1) ∧ Only (fun _ => False) (w2.alloc (.cells #[.slice aN2 3 cN2, .slice (some ⟨ob2, 0, none⟩) 3 cO2] 33)) w') := h3
  clear h3 e3
  go_wp2_with fail
  refine H3.out.mono ?_
  rintro e w3 ⟨aN3, cN3, ob3, cO3, rfl, hx3, ho3⟩
  have hA2 : Only (fun _ => False) w2 w3 := ((Only.refl _ _).alloc _).trans ho3
  have y1 := keep0 hA2 HB1.out
  have y2 := keep0 hA2 HX1.out
  have y3 : w3.cell? ⟨w2.heap.size, 1, none⟩ = some (.slice (some ⟨ob2, 0, none⟩) 3 cO2) := keep0 ho3 (cell_blk (heap_alloc_new _ _))
  have y4 := keep0 hA2 HX2.out
  have hs5 : w2.heap.size < w3.heap.size := by have := ho3.size; simp at this; omega
  have hs6 : w1.heap.size < w3.heap.size := by omega
  have l1 : om < w3.heap.size := World.block_lt_of_cell? w3 _ y2
  have l2 : ob2 < w3.heap.size := World.block_lt_of_cell? w3 _ y4
  have l3 : ob3 < w3.heap.size := World.block_lt_of_cell? w3 _ hx3
  have HA3 : Hid (Only (fun _ => False) w w3) := HA2.out.trans hA2
  clear ho3 H3 b0' b1' b2' hA2 HB1 HX1 HX2 HO2
  go_wp2_with fail
  go_ret
  exact ⟨rfl, HA3.out.alloc _⟩
end Go.Proofs.Ytfbcijnacbfjpaa
