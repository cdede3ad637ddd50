/-
  PatsJoins' walk.
-/
import Derived.Test.YtjgbfpemkjpikaaDoorJw0
namespace Go.Proofs.YtjgbfpemkjpikaaDoor
open Go.RowKit Go.Maps Go.Deep
set_option linter.unusedVariables false
set_option linter.unusedSimpArgs false
theorem parse_pq (t : ByteArray) (w : World) (hz : 2 ≤ w.heap.size) (hT : Lib.Utf8Tabs 0 1 w) {c a nP nQ : Nat} {P Q : List Pt.Pat} (h : parseR t = (c, a, P, Q)) (hP : nP = P.length) (hQ : nQ = Q.length) : Calls Tryd.prog 10 #[.string t] w fun e w' => ∃ aL cL aW cW, e = .returned (.tuple #[.agg #[.slice aL nP cL, .slice aW nQ cW], .agg #[.int .i64 (c : Int), .int .i64 (a : Int)]]) ∧ Pw w' aL nP P ∧ Pw w' aW nQ Q ∧ Only (fun _ => False) w w' := by
  have k := parse_any t w hz hT
  rw [h] at k
  subst hP
  subst hQ
  exact k
theorem two_kept {w w' : World} {u v x y : Value} {s t : TypeId} (ho : Only (fun _ => False) ((w.alloc (.cells #[u, v] s)).alloc (.cells #[x, y] t)) w') : w'.cell? ⟨w.heap.size, 0, none⟩ = some u ∧ w'.cell? ⟨w.heap.size, 1, none⟩ = some v ∧ w'.cell? ⟨w.heap.size + 1, 0, none⟩ = some x ∧ w'.cell? ⟨w.heap.size + 1, 1, none⟩ = some y ∧ w.heap.size < w'.heap.size ∧ w.heap.size + 1 < w'.heap.size := by
  have hs := ho.size
  have e0 : w'.heap[w.heap.size]? = some (.cells #[u, v] s (0, 0)) := (ho.block _ (by simp; omega) (fun h => h)).trans ((Below.heap_alloc _ _ _ (by simp)).trans (heap_alloc_new w _))
  have e1 : w'.heap[w.heap.size + 1]? = some (.cells #[x, y] t (0, 0)) := (ho.block _ (by simp) (fun h => h)).trans (heap_alloc2_new w _ _)
  simp at hs
  exact ⟨cell_blk e0, cell_blk e0, cell_blk e1, cell_blk e1, by omega, by omega⟩
set_option maxRecDepth 100000 in
set_option maxHeartbeats 8000000 in
theorem joinBig (s t : ByteArray) (w : World) (hz : 2 ≤ w.heap.size) (hT : Lib.Utf8Tabs 0 1 w) (hs0 : s.size ≤ 9223372036854775807) (ht0 : t.size ≤ 9223372036854775807) (hb : 4096 ≤ s.size + t.size) (hsm : s.size + t.size ≤ 9223372036854775807) : Calls Tryd.prog 7 #[.string s, .string t] w fun e w' => e = .returned (.bool true) ∧ Only (fun _ => False) w w' := by
  have HT : Hid (Lib.Utf8Tabs 0 1 w) := hT
  clear hT
  have q1 : (4096 : Int) ≤ (s.size : Int) + (t.size : Int) := by omega
  have q2 : (s.size : Int) + (t.size : Int) ≤ 9223372036854775807 := by omega
  go_enter Tryd.func7, Tryd.ntmps7
  go_wp2_with (first | (go_at_call 8; refine Calls.mono (awake_law w hz HT.out) ?_; rintro e w1 ⟨rfl, ho1⟩; have HO1 : Hid (Only (fun _ => False) w w1) := ho1; have hz1 : 2 ≤ w1.heap.size := Nat.le_trans hz ho1.size; have HT1 : Hid (Lib.Utf8Tabs 0 1 w1) := ho1.tabs hz HT.out; clear ho1))
  go_ret
  exact ⟨rfl, HO1.out⟩
set_option maxRecDepth 100000 in
set_option maxHeartbeats 8000000 in
theorem joinA (s t : ByteArray) (w : World) (hz : 2 ≤ w.heap.size) (hT : Lib.Utf8Tabs 0 1 w) (hs0 : s.size ≤ 9223372036854775807) (ht0 : t.size ≤ 9223372036854775807) (hb : s.size + t.size < 4096) (rc ra nP nQ : Nat) (P Q : List Pt.Pat) (hA : parseR s = (rc, ra, P, Q)) (hnP : nP = P.length) (hnQ : nQ = Q.length) (sc sa mP mQ : Nat) (P2 Q2 : List Pt.Pat) (hB : parseR t = (sc, sa, P2, Q2)) (hmP : mP = P2.length) (hmQ : mQ = Q2.length) (hrc : rc ≠ 0) : Calls Tryd.prog 7 #[.string s, .string t] w fun e w' => e = .returned (.bool true) ∧ Only (fun _ => False) w w' := by
  have HT : Hid (Lib.Utf8Tabs 0 1 w) := hT
  clear hT
  have q1 : decide ((4096 : Int) ≤ (s.size : Int) + (t.size : Int)) = false := decide_eq_false (by omega)
  have q1' : (s.size : Int) + (t.size : Int) < 4096 := by omega
  have HA : Hid (parseR s = (rc, ra, P, Q)) := hA
  have HnP : Hid (nP = P.length) := hnP
  have HnQ : Hid (nQ = Q.length) := hnQ
  clear hA hnP hnQ
  have HB : Hid (parseR t = (sc, sa, P2, Q2)) := hB
  have HmP : Hid (mP = P2.length) := hmP
  have HmQ : Hid (mQ = Q2.length) := hmQ
  clear hB hmP hmQ
  have e1 : ¬ (rc : Int) = 0 := by omega
  have e2 : ((rc : Int) == 0) = false := by simpa using e1
  have e3 : ((rc : Int) != 0) = true := by simpa using e1
  clear hrc
  go_enter Tryd.func7, Tryd.ntmps7
  go_wp2_with (first | (go_at_call 8; refine Calls.mono (awake_law w hz HT.out) ?_; rintro e w1 ⟨rfl, ho1⟩; have HO1 : Hid (Only (fun _ => False) w w1) := ho1; have hz1 : 2 ≤ w1.heap.size := Nat.le_trans hz ho1.size; have HT1 : Hid (Lib.Utf8Tabs 0 1 w1) := ho1.tabs hz HT.out; clear ho1) | (go_at_call 10; refine Calls.mono (parse_pq t ((w2.alloc (.cells #[.slice aL nP cL, .slice aW nQ cW] 28)).alloc (.cells #[.int .i64 (rc : Int), .int .i64 (ra : Int)] 31)) hz2 HT2.out HB.out HmP.out HmQ.out) ?_; rintro e w3 ⟨bL, dL, bW, dW, rfl, hP3, hQ3, ho3⟩; have HO3 : Hid (Only (fun _ => False) ((w2.alloc (.cells #[.slice aL nP cL, .slice aW nQ cW] 28)).alloc (.cells #[.int .i64 (rc : Int), .int .i64 (ra : Int)] 31)) w3) := ho3; have HP3 : Hid (Pw w3 bL mP P2 ∧ Pw w3 bW mQ Q2) := ⟨hP3, hQ3⟩; have hz3 : 2 ≤ ((w3.alloc (.cells #[.slice bL mP dL, .slice bW mQ dW] 28)).alloc (.cells #[.int .i64 (sc : Int), .int .i64 (sa : Int)] 31)).heap.size := Nat.le_trans hz2 ((ho3.alloc _).alloc _).size; have HT3 : Hid (Lib.Utf8Tabs 0 1 ((w3.alloc (.cells #[.slice bL mP dL, .slice bW mQ dW] 28)).alloc (.cells #[.int .i64 (sc : Int), .int .i64 (sa : Int)] 31))) := ((ho3.alloc _).alloc _).tabs hz2 HT2.out; obtain ⟨k0, k1, k2, k3, k4, k5⟩ := two_kept ho3; clear ho3 hP3 hQ3) | (go_at_call 10; refine Calls.mono (parse_pq s w1 hz1 HT1.out HA.out HnP.out HnQ.out) ?_; rintro e w2 ⟨aL, cL, aW, cW, rfl, hP2, hQ2, ho2⟩; have HO2 : Hid (Only (fun _ => False) w1 w2) := ho2; have HP2 : Hid (Pw w2 aL nP P ∧ Pw w2 aW nQ Q) := ⟨hP2, hQ2⟩; have hz2 : 2 ≤ ((w2.alloc (.cells #[.slice aL nP cL, .slice aW nQ cW] 28)).alloc (.cells #[.int .i64 (rc : Int), .int .i64 (ra : Int)] 31)).heap.size := Nat.le_trans hz1 ((ho2.alloc _).alloc _).size; have HT2 : Hid (Lib.Utf8Tabs 0 1 ((w2.alloc (.cells #[.slice aL nP cL, .slice aW nQ cW] 28)).alloc (.cells #[.int .i64 (rc : Int), .int .i64 (ra : Int)] 31))) := ((ho2.alloc _).alloc _).tabs hz1 HT1.out; clear ho2 hP2 hQ2))
  go_ret
  exact ⟨rfl, (((HO1.out.trans ((HO2.out.alloc _).alloc _)).trans HO3.out).alloc _).alloc _⟩
set_option maxRecDepth 100000 in
set_option maxHeartbeats 8000000 in
theorem joinB (s t : ByteArray) (w : World) (hz : 2 ≤ w.heap.size) (hT : Lib.Utf8Tabs 0 1 w) (hs0 : s.size ≤ 9223372036854775807) (ht0 : t.size ≤ 9223372036854775807) (hb : s.size + t.size < 4096) (rc ra nP nQ : Nat) (P Q : List Pt.Pat) (hA : parseR s = (0, ra, P, Q)) (hnP : nP = P.length) (hnQ : nQ = Q.length) (sc sa mP mQ : Nat) (P2 Q2 : List Pt.Pat) (hB : parseR t = (sc, sa, P2, Q2)) (hmP : mP = P2.length) (hmQ : mQ = Q2.length) (hsc : sc ≠ 0) : Calls Tryd.prog 7 #[.string s, .string t] w fun e w' => e = .returned (.bool true) ∧ Only (fun _ => False) w w' := by
  have HT : Hid (Lib.Utf8Tabs 0 1 w) := hT
  clear hT
  have q1 : decide ((4096 : Int) ≤ (s.size : Int) + (t.size : Int)) = false := decide_eq_false (by omega)
  have q1' : (s.size : Int) + (t.size : Int) < 4096 := by omega
  have HA : Hid (parseR s = (0, ra, P, Q)) := hA
  have HnP : Hid (nP = P.length) := hnP
  have HnQ : Hid (nQ = Q.length) := hnQ
  clear hA hnP hnQ
  have HB : Hid (parseR t = (sc, sa, P2, Q2)) := hB
  have HmP : Hid (mP = P2.length) := hmP
  have HmQ : Hid (mQ = Q2.length) := hmQ
  clear hB hmP hmQ
  have e1 : ¬ (sc : Int) = 0 := by omega
  have e2 : ((sc : Int) == 0) = false := by simpa using e1
  have e3 : ((sc : Int) != 0) = true := by simpa using e1
  clear hsc
  go_enter Tryd.func7, Tryd.ntmps7
  go_wp2_with (first | (go_at_call 8; refine Calls.mono (awake_law w hz HT.out) ?_; rintro e w1 ⟨rfl, ho1⟩; have HO1 : Hid (Only (fun _ => False) w w1) := ho1; have hz1 : 2 ≤ w1.heap.size := Nat.le_trans hz ho1.size; have HT1 : Hid (Lib.Utf8Tabs 0 1 w1) := ho1.tabs hz HT.out; clear ho1) | (go_at_call 10; refine Calls.mono (parse_pq t ((w2.alloc (.cells #[.slice aL nP cL, .slice aW nQ cW] 28)).alloc (.cells #[.int .i64 0, .int .i64 (ra : Int)] 31)) hz2 HT2.out HB.out HmP.out HmQ.out) ?_; rintro e w3 ⟨bL, dL, bW, dW, rfl, hP3, hQ3, ho3⟩; have HO3 : Hid (Only (fun _ => False) ((w2.alloc (.cells #[.slice aL nP cL, .slice aW nQ cW] 28)).alloc (.cells #[.int .i64 0, .int .i64 (ra : Int)] 31)) w3) := ho3; have HP3 : Hid (Pw w3 bL mP P2 ∧ Pw w3 bW mQ Q2) := ⟨hP3, hQ3⟩; have hz3 : 2 ≤ ((w3.alloc (.cells #[.slice bL mP dL, .slice bW mQ dW] 28)).alloc (.cells #[.int .i64 (sc : Int), .int .i64 (sa : Int)] 31)).heap.size := Nat.le_trans hz2 ((ho3.alloc _).alloc _).size; have HT3 : Hid (Lib.Utf8Tabs 0 1 ((w3.alloc (.cells #[.slice bL mP dL, .slice bW mQ dW] 28)).alloc (.cells #[.int .i64 (sc : Int), .int .i64 (sa : Int)] 31))) := ((ho3.alloc _).alloc _).tabs hz2 HT2.out; obtain ⟨k0, k1, k2, k3, k4, k5⟩ := two_kept ho3; clear ho3 hP3 hQ3) | (go_at_call 10; refine Calls.mono (parse_pq s w1 hz1 HT1.out HA.out HnP.out HnQ.out) ?_; rintro e w2 ⟨aL, cL, aW, cW, rfl, hP2, hQ2, ho2⟩; have HO2 : Hid (Only (fun _ => False) w1 w2) := ho2; have HP2 : Hid (Pw w2 aL nP P ∧ Pw w2 aW nQ Q) := ⟨hP2, hQ2⟩; have hz2 : 2 ≤ ((w2.alloc (.cells #[.slice aL nP cL, .slice aW nQ cW] 28)).alloc (.cells #[.int .i64 0, .int .i64 (ra : Int)] 31)).heap.size := Nat.le_trans hz1 ((ho2.alloc _).alloc _).size; have HT2 : Hid (Lib.Utf8Tabs 0 1 ((w2.alloc (.cells #[.slice aL nP cL, .slice aW nQ cW] 28)).alloc (.cells #[.int .i64 0, .int .i64 (ra : Int)] 31))) := ((ho2.alloc _).alloc _).tabs hz1 HT1.out; clear ho2 hP2 hQ2))
  go_ret
  exact ⟨rfl, (((HO1.out.trans ((HO2.out.alloc _).alloc _)).trans HO3.out).alloc _).alloc _⟩
set_option maxRecDepth 100000 in
set_option maxHeartbeats 8000000 in
theorem joinC (s t : ByteArray) (w : World) (hz : 2 ≤ w.heap.size) (hT : Lib.Utf8Tabs 0 1 w) (hs0 : s.size ≤ 9223372036854775807) (ht0 : t.size ≤ 9223372036854775807) (hb : s.size + t.size < 4096) (rc ra nP nQ : Nat) (P Q : List Pt.Pat) (hA : parseR s = (0, ra, P, Q)) (hnP : nP = P.length) (hnQ : nQ = Q.length) (sc sa mP mQ : Nat) (P2 Q2 : List Pt.Pat) (hB : parseR t = (0, sa, P2, Q2)) (hmP : mP = P2.length) (hmQ : mQ = Q2.length) (st : ByteArray) (hst : s ++ ⟨#[32]⟩ ++ t = st) (ta kP kQ : Nat) (P3 Q3 : List Pt.Pat) (hC : parseR st = (24, ta, P3, Q3)) (hkP : kP = P3.length) (hkQ : kQ = Q3.length) : Calls Tryd.prog 7 #[.string s, .string t] w fun e w' => e = .returned (.bool true) ∧ Only (fun _ => False) w w' := by
  have HT : Hid (Lib.Utf8Tabs 0 1 w) := hT
  clear hT
  have q1 : decide ((4096 : Int) ≤ (s.size : Int) + (t.size : Int)) = false := decide_eq_false (by omega)
  have q1' : (s.size : Int) + (t.size : Int) < 4096 := by omega
  have HA : Hid (parseR s = (0, ra, P, Q)) := hA
  have HnP : Hid (nP = P.length) := hnP
  have HnQ : Hid (nQ = Q.length) := hnQ
  clear hA hnP hnQ
  have HB : Hid (parseR t = (0, sa, P2, Q2)) := hB
  have HmP : Hid (mP = P2.length) := hmP
  have HmQ : Hid (mQ = Q2.length) := hmQ
  clear hB hmP hmQ
  have HC : Hid (parseR st = (24, ta, P3, Q3)) := hC
  have HkP : Hid (kP = P3.length) := hkP
  have HkQ : Hid (kQ = Q3.length) := hkQ
  clear hC hkP hkQ
  have z1 : (s ++ (⟨#[32]⟩ : ByteArray)).size = s.size + 1 := by rw [ByteArray.size_append]; rfl
  have z2 : ((⟨#[32]⟩ : ByteArray)).size = 1 := rfl
  go_enter Tryd.func7, Tryd.ntmps7
  go_wp2_with (first | (go_at_call 8; refine Calls.mono (awake_law w hz HT.out) ?_; rintro e w1 ⟨rfl, ho1⟩; have HO1 : Hid (Only (fun _ => False) w w1) := ho1; have hz1 : 2 ≤ w1.heap.size := Nat.le_trans hz ho1.size; have HT1 : Hid (Lib.Utf8Tabs 0 1 w1) := ho1.tabs hz HT.out; clear ho1) | (go_at_call 10; refine Calls.mono (parse_pq st ((w3.alloc (.cells #[.slice bL mP dL, .slice bW mQ dW] 28)).alloc (.cells #[.int .i64 0, .int .i64 (sa : Int)] 31)) hz3 HT3.out HC.out HkP.out HkQ.out) ?_; rintro e w4 ⟨zL, eL, zW, eW, rfl, hP4, hQ4, ho4⟩; have HO4 : Hid (Only (fun _ => False) ((w3.alloc (.cells #[.slice bL mP dL, .slice bW mQ dW] 28)).alloc (.cells #[.int .i64 0, .int .i64 (sa : Int)] 31)) w4) := ho4; have HP4 : Hid (Pw w4 zL kP P3 ∧ Pw w4 zW kQ Q3) := ⟨hP4, hQ4⟩; obtain ⟨l0, l1, l2, l3, l4, l5⟩ := two_kept ho4; obtain ⟨m0, m1, m2, m3, m4, m5⟩ := two_kept (HO3.out.trans (((Only.refl _ _).alloc _).alloc _ |>.trans ho4)); clear ho4 hP4 hQ4) | (go_at_call 10; refine Calls.mono (parse_pq t ((w2.alloc (.cells #[.slice aL nP cL, .slice aW nQ cW] 28)).alloc (.cells #[.int .i64 0, .int .i64 (ra : Int)] 31)) hz2 HT2.out HB.out HmP.out HmQ.out) ?_; rintro e w3 ⟨bL, dL, bW, dW, rfl, hP3, hQ3, ho3⟩; have HO3 : Hid (Only (fun _ => False) ((w2.alloc (.cells #[.slice aL nP cL, .slice aW nQ cW] 28)).alloc (.cells #[.int .i64 0, .int .i64 (ra : Int)] 31)) w3) := ho3; have HP3 : Hid (Pw w3 bL mP P2 ∧ Pw w3 bW mQ Q2) := ⟨hP3, hQ3⟩; have hz3 : 2 ≤ ((w3.alloc (.cells #[.slice bL mP dL, .slice bW mQ dW] 28)).alloc (.cells #[.int .i64 0, .int .i64 (sa : Int)] 31)).heap.size := Nat.le_trans hz2 ((ho3.alloc _).alloc _).size; have HT3 : Hid (Lib.Utf8Tabs 0 1 ((w3.alloc (.cells #[.slice bL mP dL, .slice bW mQ dW] 28)).alloc (.cells #[.int .i64 0, .int .i64 (sa : Int)] 31))) := ((ho3.alloc _).alloc _).tabs hz2 HT2.out; obtain ⟨k0, k1, k2, k3, k4, k5⟩ := two_kept ho3; clear ho3 hP3 hQ3) | (go_at_call 10; refine Calls.mono (parse_pq s w1 hz1 HT1.out HA.out HnP.out HnQ.out) ?_; rintro e w2 ⟨aL, cL, aW, cW, rfl, hP2, hQ2, ho2⟩; have HO2 : Hid (Only (fun _ => False) w1 w2) := ho2; have HP2 : Hid (Pw w2 aL nP P ∧ Pw w2 aW nQ Q) := ⟨hP2, hQ2⟩; have hz2 : 2 ≤ ((w2.alloc (.cells #[.slice aL nP cL, .slice aW nQ cW] 28)).alloc (.cells #[.int .i64 0, .int .i64 (ra : Int)] 31)).heap.size := Nat.le_trans hz1 ((ho2.alloc _).alloc _).size; have HT2 : Hid (Lib.Utf8Tabs 0 1 ((w2.alloc (.cells #[.slice aL nP cL, .slice aW nQ cW] 28)).alloc (.cells #[.int .i64 0, .int .i64 (ra : Int)] 31))) := ((ho2.alloc _).alloc _).tabs hz1 HT1.out; clear ho2 hP2 hQ2))
  go_ret
  exact ⟨rfl, (((((HO1.out.trans ((HO2.out.alloc _).alloc _)).trans HO3.out).alloc _).alloc _).trans HO4.out).alloc _ |>.alloc _⟩
set_option maxRecDepth 100000 in
set_option maxHeartbeats 8000000 in
theorem joinD (s t : ByteArray) (w : World) (hz : 2 ≤ w.heap.size) (hT : Lib.Utf8Tabs 0 1 w) (hs0 : s.size ≤ 9223372036854775807) (ht0 : t.size ≤ 9223372036854775807) (hb : s.size + t.size < 4096) (rc ra nP nQ : Nat) (P Q : List Pt.Pat) (hA : parseR s = (0, ra, P, Q)) (hnP : nP = P.length) (hnQ : nQ = Q.length) (sc sa mP mQ : Nat) (P2 Q2 : List Pt.Pat) (hB : parseR t = (0, sa, P2, Q2)) (hmP : mP = P2.length) (hmQ : mQ = Q2.length) (st : ByteArray) (hst : s ++ ⟨#[32]⟩ ++ t = st) (ta kP kQ : Nat) (P3 Q3 : List Pt.Pat) (hC : parseR st = (23, ta, P3, Q3)) (hkP : kP = P3.length) (hkQ : kQ = Q3.length) (hq1 : 0 < nQ) (hq2 : 0 < mQ) (hta : s.size < ta) : Calls Tryd.prog 7 #[.string s, .string t] w fun e w' => e = .returned (.bool true) ∧ Only (fun _ => False) w w' := by
  have HT : Hid (Lib.Utf8Tabs 0 1 w) := hT
  clear hT
  have q1 : decide ((4096 : Int) ≤ (s.size : Int) + (t.size : Int)) = false := decide_eq_false (by omega)
  have q1' : (s.size : Int) + (t.size : Int) < 4096 := by omega
  have HA : Hid (parseR s = (0, ra, P, Q)) := hA
  have HnP : Hid (nP = P.length) := hnP
  have HnQ : Hid (nQ = Q.length) := hnQ
  clear hA hnP hnQ
  have HB : Hid (parseR t = (0, sa, P2, Q2)) := hB
  have HmP : Hid (mP = P2.length) := hmP
  have HmQ : Hid (mQ = Q2.length) := hmQ
  clear hB hmP hmQ
  have HC : Hid (parseR st = (23, ta, P3, Q3)) := hC
  have HkP : Hid (kP = P3.length) := hkP
  have HkQ : Hid (kQ = Q3.length) := hkQ
  clear hC hkP hkQ
  have v1 : (0 : Int) < (nQ : Int) := by omega
  have v2 : (0 : Int) < (mQ : Int) := by omega
  have v3 : (s.size : Int) < (ta : Int) := by omega
  have z1 : (s ++ (⟨#[32]⟩ : ByteArray)).size = s.size + 1 := by rw [ByteArray.size_append]; rfl
  have z2 : ((⟨#[32]⟩ : ByteArray)).size = 1 := rfl
  go_enter Tryd.func7, Tryd.ntmps7
  go_wp2_with (first | (go_at_call 8; refine Calls.mono (awake_law w hz HT.out) ?_; rintro e w1 ⟨rfl, ho1⟩; have HO1 : Hid (Only (fun _ => False) w w1) := ho1; have hz1 : 2 ≤ w1.heap.size := Nat.le_trans hz ho1.size; have HT1 : Hid (Lib.Utf8Tabs 0 1 w1) := ho1.tabs hz HT.out; clear ho1) | (go_at_call 10; refine Calls.mono (parse_pq st ((w3.alloc (.cells #[.slice bL mP dL, .slice bW mQ dW] 28)).alloc (.cells #[.int .i64 0, .int .i64 (sa : Int)] 31)) hz3 HT3.out HC.out HkP.out HkQ.out) ?_; rintro e w4 ⟨zL, eL, zW, eW, rfl, hP4, hQ4, ho4⟩; have HO4 : Hid (Only (fun _ => False) ((w3.alloc (.cells #[.slice bL mP dL, .slice bW mQ dW] 28)).alloc (.cells #[.int .i64 0, .int .i64 (sa : Int)] 31)) w4) := ho4; have HP4 : Hid (Pw w4 zL kP P3 ∧ Pw w4 zW kQ Q3) := ⟨hP4, hQ4⟩; obtain ⟨l0, l1, l2, l3, l4, l5⟩ := two_kept ho4; obtain ⟨m0, m1, m2, m3, m4, m5⟩ := two_kept (HO3.out.trans (((Only.refl _ _).alloc _).alloc _ |>.trans ho4)); clear ho4 hP4 hQ4) | (go_at_call 10; refine Calls.mono (parse_pq t ((w2.alloc (.cells #[.slice aL nP cL, .slice aW nQ cW] 28)).alloc (.cells #[.int .i64 0, .int .i64 (ra : Int)] 31)) hz2 HT2.out HB.out HmP.out HmQ.out) ?_; rintro e w3 ⟨bL, dL, bW, dW, rfl, hP3, hQ3, ho3⟩; have HO3 : Hid (Only (fun _ => False) ((w2.alloc (.cells #[.slice aL nP cL, .slice aW nQ cW] 28)).alloc (.cells #[.int .i64 0, .int .i64 (ra : Int)] 31)) w3) := ho3; have HP3 : Hid (Pw w3 bL mP P2 ∧ Pw w3 bW mQ Q2) := ⟨hP3, hQ3⟩; have hz3 : 2 ≤ ((w3.alloc (.cells #[.slice bL mP dL, .slice bW mQ dW] 28)).alloc (.cells #[.int .i64 0, .int .i64 (sa : Int)] 31)).heap.size := Nat.le_trans hz2 ((ho3.alloc _).alloc _).size; have HT3 : Hid (Lib.Utf8Tabs 0 1 ((w3.alloc (.cells #[.slice bL mP dL, .slice bW mQ dW] 28)).alloc (.cells #[.int .i64 0, .int .i64 (sa : Int)] 31))) := ((ho3.alloc _).alloc _).tabs hz2 HT2.out; obtain ⟨k0, k1, k2, k3, k4, k5⟩ := two_kept ho3; clear ho3 hP3 hQ3) | (go_at_call 10; refine Calls.mono (parse_pq s w1 hz1 HT1.out HA.out HnP.out HnQ.out) ?_; rintro e w2 ⟨aL, cL, aW, cW, rfl, hP2, hQ2, ho2⟩; have HO2 : Hid (Only (fun _ => False) w1 w2) := ho2; have HP2 : Hid (Pw w2 aL nP P ∧ Pw w2 aW nQ Q) := ⟨hP2, hQ2⟩; have hz2 : 2 ≤ ((w2.alloc (.cells #[.slice aL nP cL, .slice aW nQ cW] 28)).alloc (.cells #[.int .i64 0, .int .i64 (ra : Int)] 31)).heap.size := Nat.le_trans hz1 ((ho2.alloc _).alloc _).size; have HT2 : Hid (Lib.Utf8Tabs 0 1 ((w2.alloc (.cells #[.slice aL nP cL, .slice aW nQ cW] 28)).alloc (.cells #[.int .i64 0, .int .i64 (ra : Int)] 31))) := ((ho2.alloc _).alloc _).tabs hz1 HT1.out; clear ho2 hP2 hQ2))
  go_ret
  exact ⟨rfl, (((((HO1.out.trans ((HO2.out.alloc _).alloc _)).trans HO3.out).alloc _).alloc _).trans HO4.out).alloc _ |>.alloc _⟩
end Go.Proofs.YtjgbfpemkjpikaaDoor
