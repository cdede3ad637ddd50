/-
  PatsJoins' walk, where both texts together are longer than an int tells.
-/
import Derived.Test.YtjgbfpemkjpikaaDoorJw
namespace Go.Proofs.YtjgbfpemkjpikaaDoor
open Go.RowKit Go.Maps Go.Deep
set_option linter.unusedVariables false
set_option linter.unusedSimpArgs false
set_option maxRecDepth 100000 in
set_option maxHeartbeats 8000000 in
theorem joinA3 (s t : ByteArray) (w : World) (hz : 2 ≤ w.heap.size) (hT : Lib.Utf8Tabs 0 1 w) (hs0 : s.size ≤ 9223372036854775807) (ht0 : t.size ≤ 9223372036854775807) (hb : 9223372036854775807 < s.size + t.size) (rc ra nP nQ : Nat) (P Q : List Pt.Pat) (hA : parseR s = (rc, ra, P, Q)) (hnP : nP = P.length) (hnQ : nQ = Q.length) (sc sa mP mQ : Nat) (P2 Q2 : List Pt.Pat) (hB : parseR t = (sc, sa, P2, Q2)) (hmP : mP = P2.length) (hmQ : mQ = Q2.length) (hrc : rc ≠ 0) : Calls Tryd.prog 7 #[.string s, .string t] w fun e w' => e = .returned (.bool true) ∧ Only (fun _ => False) w w' := by
  have HT : Hid (Lib.Utf8Tabs 0 1 w) := hT
  clear hT
  obtain ⟨x, hx, hx0⟩ : ∃ x : Int, wrap64 ((s.size : Int) + (t.size : Int)) = x ∧ x < 0 := ⟨_, rfl, by unfold wrap64; omega⟩
  have q1 : decide ((4096 : Int) ≤ x) = false := decide_eq_false (by omega)
  have HA : Hid (parseR s = (rc, ra, P, Q)) := hA
  have HnP : Hid (nP = P.length) := hnP
  have HnQ : Hid (nQ = Q.length) := hnQ
  clear hA hnP hnQ
  have HB : Hid (parseR t = (sc, sa, P2, Q2)) := hB
  have HmP : Hid (mP = P2.length) := hmP
  have HmQ : Hid (mQ = Q2.length) := hmQ
  clear hB hmP hmQ
  have e1 : ¬ (rc : Int) = 0 := by omega
  have e2 : ((rc : Int) == 0) = false := by simpa using e1
  have e3 : ((rc : Int) != 0) = true := by simpa using e1
  clear hrc hb
  go_enter Tryd.func7, Tryd.ntmps7
  go_wp2_with (first | (go_at_call 8; refine Calls.mono (awake_law w hz HT.out) ?_; rintro e w1 ⟨rfl, ho1⟩; have HO1 : Hid (Only (fun _ => False) w w1) := ho1; have hz1 : 2 ≤ w1.heap.size := Nat.le_trans hz ho1.size; have HT1 : Hid (Lib.Utf8Tabs 0 1 w1) := ho1.tabs hz HT.out; clear ho1) | (go_at_call 10; refine Calls.mono (parse_pq t ((w2.alloc (.cells #[.slice aL nP cL, .slice aW nQ cW] 28)).alloc (.cells #[.int .i64 (rc : Int), .int .i64 (ra : Int)] 31)) hz2 HT2.out HB.out HmP.out HmQ.out) ?_; rintro e w3 ⟨bL, dL, bW, dW, rfl, hP3, hQ3, ho3⟩; have HO3 : Hid (Only (fun _ => False) ((w2.alloc (.cells #[.slice aL nP cL, .slice aW nQ cW] 28)).alloc (.cells #[.int .i64 (rc : Int), .int .i64 (ra : Int)] 31)) w3) := ho3; have HP3 : Hid (Pw w3 bL mP P2 ∧ Pw w3 bW mQ Q2) := ⟨hP3, hQ3⟩; have hz3 : 2 ≤ ((w3.alloc (.cells #[.slice bL mP dL, .slice bW mQ dW] 28)).alloc (.cells #[.int .i64 (sc : Int), .int .i64 (sa : Int)] 31)).heap.size := Nat.le_trans hz2 ((ho3.alloc _).alloc _).size; have HT3 : Hid (Lib.Utf8Tabs 0 1 ((w3.alloc (.cells #[.slice bL mP dL, .slice bW mQ dW] 28)).alloc (.cells #[.int .i64 (sc : Int), .int .i64 (sa : Int)] 31))) := ((ho3.alloc _).alloc _).tabs hz2 HT2.out; obtain ⟨k0, k1, k2, k3, k4, k5⟩ := two_kept ho3; clear ho3 hP3 hQ3) | (go_at_call 10; refine Calls.mono (parse_pq s w1 hz1 HT1.out HA.out HnP.out HnQ.out) ?_; rintro e w2 ⟨aL, cL, aW, cW, rfl, hP2, hQ2, ho2⟩; have HO2 : Hid (Only (fun _ => False) w1 w2) := ho2; have HP2 : Hid (Pw w2 aL nP P ∧ Pw w2 aW nQ Q) := ⟨hP2, hQ2⟩; have hz2 : 2 ≤ ((w2.alloc (.cells #[.slice aL nP cL, .slice aW nQ cW] 28)).alloc (.cells #[.int .i64 (rc : Int), .int .i64 (ra : Int)] 31)).heap.size := Nat.le_trans hz1 ((ho2.alloc _).alloc _).size; have HT2 : Hid (Lib.Utf8Tabs 0 1 ((w2.alloc (.cells #[.slice aL nP cL, .slice aW nQ cW] 28)).alloc (.cells #[.int .i64 (rc : Int), .int .i64 (ra : Int)] 31))) := ((ho2.alloc _).alloc _).tabs hz1 HT1.out; clear ho2 hP2 hQ2))
  go_ret
  exact ⟨rfl, (((HO1.out.trans ((HO2.out.alloc _).alloc _)).trans HO3.out).alloc _).alloc _⟩
set_option maxRecDepth 100000 in
set_option maxHeartbeats 8000000 in
theorem joinB3 (s t : ByteArray) (w : World) (hz : 2 ≤ w.heap.size) (hT : Lib.Utf8Tabs 0 1 w) (hs0 : s.size ≤ 9223372036854775807) (ht0 : t.size ≤ 9223372036854775807) (hb : 9223372036854775807 < s.size + t.size) (rc ra nP nQ : Nat) (P Q : List Pt.Pat) (hA : parseR s = (0, ra, P, Q)) (hnP : nP = P.length) (hnQ : nQ = Q.length) (sc sa mP mQ : Nat) (P2 Q2 : List Pt.Pat) (hB : parseR t = (sc, sa, P2, Q2)) (hmP : mP = P2.length) (hmQ : mQ = Q2.length) (hsc : sc ≠ 0) : Calls Tryd.prog 7 #[.string s, .string t] w fun e w' => e = .returned (.bool true) ∧ Only (fun _ => False) w w' := by
  have HT : Hid (Lib.Utf8Tabs 0 1 w) := hT
  clear hT
  obtain ⟨x, hx, hx0⟩ : ∃ x : Int, wrap64 ((s.size : Int) + (t.size : Int)) = x ∧ x < 0 := ⟨_, rfl, by unfold wrap64; omega⟩
  have q1 : decide ((4096 : Int) ≤ x) = false := decide_eq_false (by omega)
  have HA : Hid (parseR s = (0, ra, P, Q)) := hA
  have HnP : Hid (nP = P.length) := hnP
  have HnQ : Hid (nQ = Q.length) := hnQ
  clear hA hnP hnQ
  have HB : Hid (parseR t = (sc, sa, P2, Q2)) := hB
  have HmP : Hid (mP = P2.length) := hmP
  have HmQ : Hid (mQ = Q2.length) := hmQ
  clear hB hmP hmQ
  have e1 : ¬ (sc : Int) = 0 := by omega
  have e2 : ((sc : Int) == 0) = false := by simpa using e1
  have e3 : ((sc : Int) != 0) = true := by simpa using e1
  clear hsc hb
  go_enter Tryd.func7, Tryd.ntmps7
  go_wp2_with (first | (go_at_call 8; refine Calls.mono (awake_law w hz HT.out) ?_; rintro e w1 ⟨rfl, ho1⟩; have HO1 : Hid (Only (fun _ => False) w w1) := ho1; have hz1 : 2 ≤ w1.heap.size := Nat.le_trans hz ho1.size; have HT1 : Hid (Lib.Utf8Tabs 0 1 w1) := ho1.tabs hz HT.out; clear ho1) | (go_at_call 10; refine Calls.mono (parse_pq t ((w2.alloc (.cells #[.slice aL nP cL, .slice aW nQ cW] 28)).alloc (.cells #[.int .i64 0, .int .i64 (ra : Int)] 31)) hz2 HT2.out HB.out HmP.out HmQ.out) ?_; rintro e w3 ⟨bL, dL, bW, dW, rfl, hP3, hQ3, ho3⟩; have HO3 : Hid (Only (fun _ => False) ((w2.alloc (.cells #[.slice aL nP cL, .slice aW nQ cW] 28)).alloc (.cells #[.int .i64 0, .int .i64 (ra : Int)] 31)) w3) := ho3; have HP3 : Hid (Pw w3 bL mP P2 ∧ Pw w3 bW mQ Q2) := ⟨hP3, hQ3⟩; have hz3 : 2 ≤ ((w3.alloc (.cells #[.slice bL mP dL, .slice bW mQ dW] 28)).alloc (.cells #[.int .i64 (sc : Int), .int .i64 (sa : Int)] 31)).heap.size := Nat.le_trans hz2 ((ho3.alloc _).alloc _).size; have HT3 : Hid (Lib.Utf8Tabs 0 1 ((w3.alloc (.cells #[.slice bL mP dL, .slice bW mQ dW] 28)).alloc (.cells #[.int .i64 (sc : Int), .int .i64 (sa : Int)] 31))) := ((ho3.alloc _).alloc _).tabs hz2 HT2.out; obtain ⟨k0, k1, k2, k3, k4, k5⟩ := two_kept ho3; clear ho3 hP3 hQ3) | (go_at_call 10; refine Calls.mono (parse_pq s w1 hz1 HT1.out HA.out HnP.out HnQ.out) ?_; rintro e w2 ⟨aL, cL, aW, cW, rfl, hP2, hQ2, ho2⟩; have HO2 : Hid (Only (fun _ => False) w1 w2) := ho2; have HP2 : Hid (Pw w2 aL nP P ∧ Pw w2 aW nQ Q) := ⟨hP2, hQ2⟩; have hz2 : 2 ≤ ((w2.alloc (.cells #[.slice aL nP cL, .slice aW nQ cW] 28)).alloc (.cells #[.int .i64 0, .int .i64 (ra : Int)] 31)).heap.size := Nat.le_trans hz1 ((ho2.alloc _).alloc _).size; have HT2 : Hid (Lib.Utf8Tabs 0 1 ((w2.alloc (.cells #[.slice aL nP cL, .slice aW nQ cW] 28)).alloc (.cells #[.int .i64 0, .int .i64 (ra : Int)] 31))) := ((ho2.alloc _).alloc _).tabs hz1 HT1.out; clear ho2 hP2 hQ2))
  go_ret
  exact ⟨rfl, (((HO1.out.trans ((HO2.out.alloc _).alloc _)).trans HO3.out).alloc _).alloc _⟩
end Go.Proofs.YtjgbfpemkjpikaaDoor
