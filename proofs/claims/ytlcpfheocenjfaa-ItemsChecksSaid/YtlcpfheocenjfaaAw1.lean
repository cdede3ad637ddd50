/-
  Layer 11's Awake.
-/
import Derived.Test.YtlcpfheocenjfaaIc
import Derived.Test.YtlcpfheocenjfaaAw0
namespace Go.Proofs.Ytlcpfheocenjfaa
open Go.RowKit Go.Maps
set_option linter.unusedVariables false
set_option linter.unusedSimpArgs false
def bS : List Sn := [⟨97, 0, 1⟩, ⟨98, 1, 1⟩]
def bM : List Nat := [0, 1, 2]
def bB : List Nat := [0, 0, 2]
def bP : List Bool := [false, true, false]
theorem bFits : Fits bS := fun s hs => by
  unfold bS at hs
  simp at hs
  rcases hs with rfl | rfl <;> decide
theorem bC0 : Ce.cls (Pr.of []) [] [] = [] := by rfl
theorem bO0 : It.opl [] [] (Ce.starts [] ([] : List Sn).length) (Ce.cls (Pr.of []) [] []).length = [2] := by rfl
theorem bC1 : (Ce.cls (Pr.of []) bS bM).length = 2 := by rfl
theorem bO1 : It.opl bB bP (Ce.starts bM bS.length) (Ce.cls (Pr.of []) bS bM).length = [0, 3, 2] := by rfl
theorem size_alloc1 (w : World) (o : Obj) : (w.alloc o).heap.size = w.heap.size + 1 := Array.size_push _
theorem blocks4 (w : World) (o1 o2 o3 o4 : Obj) : ((((w.alloc o1).alloc o2).alloc o3).alloc o4).heap[w.heap.size]? = some o1 ∧ ((((w.alloc o1).alloc o2).alloc o3).alloc o4).heap[w.heap.size + 1]? = some o2 ∧ ((((w.alloc o1).alloc o2).alloc o3).alloc o4).heap[w.heap.size + 2]? = some o3 ∧ ((((w.alloc o1).alloc o2).alloc o3).alloc o4).heap[w.heap.size + 3]? = some o4 := by
  have a1 := size_alloc1 w o1
  have a2 := size_alloc1 (w.alloc o1) o2
  have a3 := size_alloc1 ((w.alloc o1).alloc o2) o3
  have b1 := heap_alloc_new w o1
  have b2 := heap_alloc_new (w.alloc o1) o2
  have b3 := heap_alloc_new ((w.alloc o1).alloc o2) o3
  have b4 := heap_alloc_new (((w.alloc o1).alloc o2).alloc o3) o4
  rw [a1] at b2
  rw [a2, a1] at b3
  rw [a3, a2, a1] at b4
  refine ⟨?_, ?_, ?_, b4⟩
  · rw [Below.heap_alloc _ _ _ (by omega), Below.heap_alloc _ _ _ (by omega), Below.heap_alloc _ _ _ (by omega), b1]
  · rw [Below.heap_alloc _ _ _ (by omega), Below.heap_alloc _ _ _ (by omega), b2]
  · rw [Below.heap_alloc _ _ _ (by omega), b3]
set_option maxRecDepth 100000 in
set_option maxHeartbeats 4000000 in
theorem awake11_any (w : World) : Calls Try.prog 25 #[] w fun e w' => e = .returned (.bool true) ∧ Only (fun _ => False) w w' := by
  have HM : Hid (Calls Try.prog 15 #[.slice none 0 0, .int .i64 1] w (tbP [] w)) := table_any [] 1 none 0 0 0 w (sees_nil w) (by decide) (by decide)
  go_enter Try.func25, Try.ntmps25
  go_wp2_with fail
  refine Calls.mono HM.out ?_
  rintro e w1 ⟨T, rfl, hT, ho1⟩
  have H1 : Hid (Tab w1 w.heap.size T [] ∧ Only (fun _ => False) w w1) := ⟨hT, ho1⟩
  clear hT ho1
  go_wp2_with fail
  have hI : Calls Try.prog 26 #[.slice none 0 0, .slice none 0 0, .slice none 0 0, .slice none 0 0, .pointer (some ⟨T, 0, none⟩)] w1 (paP [] [2] w1) := items_any 1 [] _ T [] [] [] [] none none none none 0 0 0 0 w1 H1.out.1 (by decide) (Vw.nil _ _) (fun s hs => absurd hs List.not_mem_nil) (Vw.nil _ _) (fun s hs => absurd hs List.not_mem_nil) (Vw.nil _ _) (fun s hs => absurd hs List.not_mem_nil) (Vw.nil _ _) (by decide) (by decide) (by decide) (by decide) (by decide) (by decide)
  refine Calls.mono hI ?_
  rintro e w2 ⟨aC, aO, cC, cO, rfl, hcl, hop, ho2⟩
  have H2 : Hid (Vw w2 aC (ctC []) ∧ Vw w2 aO (u8s [2]) ∧ Only (fun _ => False) w w2 ∧ Tab w2 w.heap.size T []) := ⟨own_vw hcl, own_vw hop, H1.out.2.trans ho2, H1.out.1.keep ho2⟩
  clear hI hcl hop ho2
  go_wp2_with fail
  obtain ⟨P2, hP2⟩ : ∃ b, b = w2.heap.size := ⟨_, rfl⟩
  obtain ⟨X2, hX2⟩ : ∃ Z, Z = w2.alloc (.cells #[.slice aC 0 cC, .slice aO 1 cO] 62) := ⟨_, rfl⟩
  rw [← hX2]
  have hX2s : w2.heap.size + 1 = X2.heap.size := by rw [hX2]; exact (size_alloc1 _ _).symm
  rw [hX2s]
  have HX2 : Hid (Only (fun _ => False) w2 X2 ∧ X2.heap[P2]? = some (.cells #[.slice aC 0 cC, .slice aO 1 cO] 62 (0, 0))) := by
    rw [hX2, hP2]
    exact ⟨(Only.refl _ _).alloc _, heap_alloc_new w2 _⟩
  rw [← hP2] at *
  clear hX2 hX2s hP2
  obtain ⟨W3, hW3⟩ : ∃ Z, Z = (((X2.alloc (.cells #[.int .i32 97, .int .i64 0, .int .i64 1, .int .i32 98, .int .i64 1, .int .i64 1] 50)).alloc (.cells #[.int .u8 0, .int .u8 1, .int .u8 2] 54)).alloc (.cells #[.int .u8 0, .int .u8 0, .int .u8 2] 54)).alloc (.cells #[.bool false, .bool true, .bool false] 4) := ⟨_, rfl⟩
  rw [← hW3]
  have ho3 : Only (fun _ => False) X2 W3 := by
    rw [hW3]
    exact ((((Only.refl _ _).alloc _).alloc _).alloc _).alloc _
  have hb : W3.heap[X2.heap.size]? = some (.cells #[.int .i32 97, .int .i64 0, .int .i64 1, .int .i32 98, .int .i64 1, .int .i64 1] 50 (0, 0)) ∧ W3.heap[X2.heap.size + 1]? = some (.cells #[.int .u8 0, .int .u8 1, .int .u8 2] 54 (0, 0)) ∧ W3.heap[X2.heap.size + 2]? = some (.cells #[.int .u8 0, .int .u8 0, .int .u8 2] 54 (0, 0)) ∧ W3.heap[X2.heap.size + 3]? = some (.cells #[.bool false, .bool true, .bool false] 4 (0, 0)) := by
    rw [hW3]
    exact blocks4 _ _ _ _ _
  have hI : Calls Try.prog 26 #[.slice (some ⟨X2.heap.size, 0, none⟩) 2 2, .slice (some ⟨X2.heap.size + 1, 0, none⟩) 3 3, .slice (some ⟨X2.heap.size + 2, 0, none⟩) 3 3, .slice (some ⟨X2.heap.size + 3, 0, none⟩) 3 3, .pointer (some ⟨T, 0, none⟩)] W3 (paP (Ce.cls (Pr.of []) bS bM) [0, 3, 2] W3) := items_any 1 [] _ T bS bM bB bP _ _ _ _ 2 3 3 3 W3 (H2.out.2.2.2.keep (HX2.out.1.trans ho3)) (by decide) (vw_blk (xs := snC bS) hb.1) bFits (vw_blk (xs := u8s bM) hb.2.1) (by decide) (vw_blk (xs := u8s bB) hb.2.2.1) (by decide) (vw_blk (xs := bools bP) hb.2.2.2) (by decide) (by decide) (by decide) (by decide) (by decide) (by decide)
  have HW3 : Hid (Only (fun _ => False) X2 W3) := ho3
  clear ho3 hb hW3
  refine Calls.mono hI ?_
  rintro e w4 ⟨aD, aQ, cD, cQ, rfl, hcl, hop, ho4⟩
  rw [bC1]
  have hop' := own_vw hop
  obtain ⟨b1, off1, rfl, hb1, hc1⟩ := hop'.cells (by decide)
  have d1 : w4.cell? ⟨b1, off1 + 1, none⟩ = some (.int .u8 3) := hc1 1 _ rfl
  obtain ⟨b2, off2, rfl, hb2, hc2⟩ := (H2.out.2.1.keep (HX2.out.1.trans (HW3.out.trans ho4))).cells (by decide)
  have d2 : w4.cell? ⟨b2, off2, none⟩ = some (.int .u8 2) := hc2 0 _ rfl
  have hbP := ((HW3.out.trans ho4).block P2 (Array.getElem?_eq_some_iff.1 HX2.out.2).1 (fun h => h)).trans HX2.out.2
  have r0 : w4.cell? ⟨P2, 0, none⟩ = some (.slice aC 0 cC) := cell_blk hbP
  have r1 : w4.cell? ⟨P2, 1, none⟩ = some (.slice (some ⟨b2, off2, none⟩) 1 cO) := cell_blk hbP
  have lP : P2 < w4.heap.size := (Array.getElem?_eq_some_iff.1 hbP).1
  have H4 : Hid (Vw w4 (some ⟨b1, off1, none⟩) (u8s [0, 3, 2]) ∧ Vw w4 aC (ctC []) ∧ Vw w4 (some ⟨b2, off2, none⟩) (u8s [2]) ∧ Only (fun _ => False) w w4) := ⟨hop', H2.out.1.keep (HX2.out.1.trans (HW3.out.trans ho4)), H2.out.2.1.keep (HX2.out.1.trans (HW3.out.trans ho4)), H2.out.2.2.1.trans (HX2.out.1.trans (HW3.out.trans ho4))⟩
  have HK : Hid (∀ W, Only (fun _ => False) w4 W → Calls Try.prog 30 #[.agg #[.slice aC 0 cC, .slice (some ⟨b2, off2, none⟩) 1 cO]] W fun e w' => e = .returned (.bool true) ∧ Only (fun _ => False) W w') := fun W ho => icheck_any [] [2] aC _ cC cO W (by rw [show cgC [] = ctC [] from rfl]; exact H4.out.2.1.keep ho) (fun c hc => absurd hc List.not_mem_nil) (H4.out.2.2.1.keep ho) (by decide) (by decide) (by decide)
  clear hcl hop ho4 hop' hbP hc1 hc2 hI
  go_wp2_with fail
  refine Calls.mono (HK.out _ ((Only.refl _ _).alloc _)) ?_
  rintro e w5 ⟨rfl, ho5⟩
  obtain ⟨P4, hP4⟩ : ∃ b, b = w4.heap.size := ⟨_, rfl⟩
  have hbQ : w5.heap[P4]? = some (.cells #[.slice aD 2 cD, .slice (some ⟨b1, off1, none⟩) 3 cQ] 62 (0, 0)) := by
    rw [hP4, ho5.block _ (by rw [size_alloc1]; exact Nat.lt_succ_self _) (fun h => h)]
    exact heap_alloc_new w4 _
  have ho45 : Only (fun _ => False) w4 w5 := ((Only.refl _ _).alloc _).trans ho5
  have HO5 : Hid (Only (fun _ => False) w4 w5) := ho45
  have d1 := keep0 ho45 d1
  have s0 : w5.cell? ⟨P4, 0, none⟩ = some (.slice aD 2 cD) := cell_blk hbQ
  have s1 : w5.cell? ⟨P4, 1, none⟩ = some (.slice (some ⟨b1, off1, none⟩) 3 cQ) := cell_blk hbQ
  have lQ : P4 < w5.heap.size := (Array.getElem?_eq_some_iff.1 hbQ).1
  rw [← hP4]
  clear hP4 ho5 ho45 hbQ
  go_wp2_with (first | (go_at_call 29; refine Calls.mono (parts_any 2 aD cD [0, 3, 2] (some ⟨b1, off1, none⟩) cQ w5 (H4.out.1.keep HO5.out) (by decide) (by decide)) ?_; rintro e w6 ⟨aX, cX, rfl, hX, ho6⟩; have HO6 : Hid (Only (fun _ => False) w w6) := H4.out.2.2.2.trans (HO5.out.trans ho6); clear hX ho6; rw [show (It.parts [0, 3, 2] [0, 3, 2].length).length = 1 from rfl]) | fail)
  go_ret
  exact ⟨rfl, HO6.out⟩
end Go.Proofs.Ytlcpfheocenjfaa
