/-
  told: the program and the document answer alike, at every text.
-/
import Derived.Test.YtjgbfpemkjpikaaDoorR4
namespace Go.Proofs.YtjgbfpemkjpikaaDoor
open Go.RowKit Go.Maps
set_option linter.unusedVariables false
set_option linter.unusedSimpArgs false
set_option maxRecDepth 100000 in
set_option maxHeartbeats 8000000 in
theorem told_law (s : ByteArray) (w : World) (hz : 2 ≤ w.heap.size) (hT : Lib.Utf8Tabs 0 1 w) (hn : (parseR s).2.2.1.length ≤ 1000000 ∧ (parseR s).2.2.2.length ≤ 1000000) : Calls Tryd.prog 9 #[.string s] w fun e w' => e = .returned (.bool true) ∧ Only (fun _ => False) w w' := by
  obtain ⟨⟨rc, ra, rP, rQ⟩, hR⟩ : ∃ R, R = parseR s := ⟨_, rfl⟩
  rw [← hR] at hn
  obtain ⟨nP, hnP⟩ : ∃ nP, nP = rP.length := ⟨_, rfl⟩
  obtain ⟨nQ, hnQ⟩ : ∃ nQ, nQ = rQ.length := ⟨_, rfl⟩
  have HA : Hid (Calls Tryd.prog 10 #[.string s] w fun e w' => ∃ aL cL aW cW, e = .returned (.tuple #[.agg #[.slice aL nP cL, .slice aW nQ cW], .agg #[.int .i64 (rc : Int), .int .i64 (ra : Int)]]) ∧ Pw w' aL nP rP ∧ Pw w' aW nQ rQ ∧ Only (fun _ => False) w w') := by
    have h := parse_any s w hz hT
    rw [← hR] at h
    rw [hnP, hnQ]
    exact h
  have HB : Hid (∀ X : World, Calls Tryd.prog 13 #[.string s] X fun e w' => ∃ aL cL aW cW, e = .returned (.tuple #[.agg #[.slice aL nP cL, .slice aW nQ cW], .int .i64 (rc : Int), .int .i64 (ra : Int)]) ∧ Pw w' aL nP rP ∧ Pw w' aW nQ rQ ∧ Only (fun _ => False) X w') := fun X => by
    have h := refParse_any s X
    rw [← hR] at h
    rw [hnP, hnQ]
    exact h
  have h1 : nP ≤ 1000000 := by rw [hnP]; exact hn.1
  have h2 : nQ ≤ 1000000 := by rw [hnQ]; exact hn.2
  clear hn hR hnP hnQ hT
  go_enter Tryd.func9, Tryd.ntmps9
  go_wp2_with (first
    | (go_at_call 10; refine Calls.mono HA.out ?_; rintro e w1 ⟨aL, cL, aW, cW, rfl, hP1, hQ1, ho1⟩; have HPQ : Hid (Pw w1 aL nP rP ∧ Pw w1 aW nQ rQ) := ⟨hP1, hQ1⟩; have HO1 : Hid (Only (fun _ => False) w w1) := ho1; clear hP1 hQ1 ho1)
    | (go_at_call 13; refine Calls.mono (HB.out _) ?_; rintro e w2 ⟨aL2, cL2, aW2, cW2, rfl, hP2, hQ2, ho2⟩; have HPQ2 : Hid (Pw w2 aL2 nP rP ∧ Pw w2 aW2 nQ rQ) := ⟨hP2, hQ2⟩; have HO2 : Hid (Only (fun _ => False) ((w1.alloc (.cells #[.slice aL nP cL, .slice aW nQ cW] 28)).alloc (.cells #[.int .i64 (rc : Int), .int .i64 (ra : Int)] 31)) w2) := ho2; have x0 : w2.heap[w1.heap.size]? = some (.cells #[.slice aL nP cL, .slice aW nQ cW] 28 (0, 0)) := (ho2.block _ (by simp; omega) (fun h => h)).trans ((Below.heap_alloc _ _ _ (by simp)).trans (heap_alloc_new w1 _)); have x1 : w2.heap[w1.heap.size + 1]? = some (.cells #[.int .i64 (rc : Int), .int .i64 (ra : Int)] 31 (0, 0)) := (ho2.block _ (by simp) (fun h => h)).trans (heap_alloc2_new w1 _ _); have k0 : w2.cell? ⟨w1.heap.size, 0, none⟩ = some (.slice aL nP cL) := cell_blk x0; have k1 : w2.cell? ⟨w1.heap.size, 1, none⟩ = some (.slice aW nQ cW) := cell_blk x0; have k2 : w2.cell? ⟨w1.heap.size + 1, 0, none⟩ = some (.int .i64 (rc : Int)) := cell_blk x1; have k3 : w2.cell? ⟨w1.heap.size + 1, 1, none⟩ = some (.int .i64 (ra : Int)) := cell_blk x1; have hl0 : w1.heap.size + 1 < w2.heap.size := (Array.getElem?_eq_some_iff.1 x1).1; have hl1 : w1.heap.size < w2.heap.size := (by omega); have HPQ3 : Hid (Pw w2 aL nP rP ∧ Pw w2 aW nQ rQ) := ⟨((HPQ.out.1.keep ((Only.refl _ _).alloc _)).keep ((Only.refl _ _).alloc _)).keep ho2, ((HPQ.out.2.keep ((Only.refl _ _).alloc _)).keep ((Only.refl _ _).alloc _)).keep ho2⟩; have HOA : Hid (Only (fun _ => False) w w2) := ((HO1.out.alloc _).alloc _).trans ho2; clear hP2 hQ2 ho2 x0 x1)
    | (go_at_call 12; refine Calls.mono (samePat_any rQ aW aW2 nQ cW cW2 w3 ((HPQ3.out.2.keep ((Only.refl _ _).alloc _)).keep HO3.out) ((HPQ2.out.2.keep ((Only.refl _ _).alloc _)).keep HO3.out) h2) ?_; rintro e w4 ⟨rfl, ho4⟩; have HO4 : Hid (Only (fun _ => False) w3 w4) := ho4; clear ho4)
    | (go_at_call 12; refine Calls.mono (samePat_any rP aL aL2 nP cL cL2 (w2.alloc (.cells #[.slice aL2 nP cL2, .slice aW2 nQ cW2] 28)) (HPQ3.out.1.keep ((Only.refl _ _).alloc _)) (HPQ2.out.1.keep ((Only.refl _ _).alloc _)) h1) ?_; rintro e w3 ⟨rfl, ho3⟩; have HO3 : Hid (Only (fun _ => False) (w2.alloc (.cells #[.slice aL2 nP cL2, .slice aW2 nQ cW2] 28)) w3) := ho3; have y0 : w3.heap[w2.heap.size]? = some (.cells #[.slice aL2 nP cL2, .slice aW2 nQ cW2] 28 (0, 0)) := (ho3.block _ (by simp) (fun h => h)).trans (heap_alloc_new w2 _); have z1 : w3.cell? ⟨w2.heap.size, 1, none⟩ = some (.slice aW2 nQ cW2) := cell_blk y0; have z2 : w3.cell? ⟨w1.heap.size, 1, none⟩ = some (.slice aW nQ cW) := (World.cell?_of_block (a := ⟨w1.heap.size, 1, none⟩) (((((Only.refl _ _).alloc _).trans ho3).block w1.heap.size (by omega) (fun h => h)))).trans k1; clear ho3 y0))
  go_ret
  exact ⟨rfl, ((HOA.out.alloc _).trans HO3.out).trans HO4.out⟩
end Go.Proofs.YtjgbfpemkjpikaaDoor
