/-
  PatsJoins' walk, where nothing is at fault.
-/
import Derived.Test.YtjgbfpemkjpikaaDoorJw
namespace Go.Proofs.YtjgbfpemkjpikaaDoor
open Go.RowKit Go.Maps Go.Deep
set_option linter.unusedVariables false
set_option linter.unusedSimpArgs false
set_option maxRecDepth 100000 in
set_option maxHeartbeats 8000000 in
theorem joinE (s t : ByteArray) (w : World) (hz : 2 ≤ w.heap.size) (hT : Lib.Utf8Tabs 0 1 w) (hs0 : s.size ≤ 9223372036854775807) (ht0 : t.size ≤ 9223372036854775807) (hb : s.size + t.size < 4096) (rc ra nP nQ : Nat) (P Q : List Pt.Pat) (hA : parseR s = (0, ra, P, Q)) (hnP : nP = P.length) (hnQ : nQ = Q.length) (sc sa mP mQ : Nat) (P2 Q2 : List Pt.Pat) (hB : parseR t = (0, sa, P2, Q2)) (hmP : mP = P2.length) (hmQ : mQ = Q2.length) (st : ByteArray) (hst : s ++ ⟨#[32]⟩ ++ t = st) (ta kP kQ : Nat) (P3 Q3 : List Pt.Pat) (hC : parseR st = (0, ta, P3, Q3)) (hkP : kP = P3.length) (hkQ : kQ = Q3.length) (hjP : P3 = P ++ P2) (hjQ : Q3 = Q ++ Q2) (hk256 : kP + kQ ≤ 256) : Calls Tryd.prog 7 #[.string s, .string t] w fun e w' => e = .returned (.bool true) ∧ Only (fun _ => False) w w' := by
  have HT : Hid (Lib.Utf8Tabs 0 1 w) := hT
  clear hT
  have q1 : decide ((4096 : Int) ≤ (s.size : Int) + (t.size : Int)) = false := decide_eq_false (by omega)
  have q1' : (s.size : Int) + (t.size : Int) < 4096 := by omega
  have hsumP : nP + mP = kP := by rw [hnP, hmP, hkP, hjP, List.length_append]
  have hsumQ : nQ + mQ = kQ := by rw [hnQ, hmQ, hkQ, hjQ, List.length_append]
  have HJP : Hid (P3 = P ++ P2) := hjP
  have HJQ : Hid (Q3 = Q ++ Q2) := hjQ
  have HSP : Hid (nP + mP = kP) := hsumP
  have HSQ : Hid (nQ + mQ = kQ) := hsumQ
  have hkP1 : kP ≤ 256 := by omega
  have hkQ1 : kQ ≤ 256 := by omega
  have hnP1 : nP ≤ 256 := by omega
  have hnQ1 : nQ ≤ 256 := by omega
  have hmP1 : mP ≤ 256 := by omega
  have hmQ1 : mQ ≤ 256 := by omega
  clear hjP hjQ hsumP hsumQ
  have HA : Hid (parseR s = (0, ra, P, Q)) := hA
  have HnP : Hid (nP = P.length) := hnP
  have HnQ : Hid (nQ = Q.length) := hnQ
  clear hA hnP hnQ
  have HB : Hid (parseR t = (0, sa, P2, Q2)) := hB
  have HmP : Hid (mP = P2.length) := hmP
  have HmQ : Hid (mQ = Q2.length) := hmQ
  clear hB hmP hmQ
  have HC : Hid (parseR st = (0, ta, P3, Q3)) := hC
  have HkP : Hid (kP = P3.length) := hkP
  have HkQ : Hid (kQ = Q3.length) := hkQ
  clear hC hkP hkQ
  have z1 : (s ++ (⟨#[32]⟩ : ByteArray)).size = s.size + 1 := by rw [ByteArray.size_append]; rfl
  have z2 : ((⟨#[32]⟩ : ByteArray)).size = 1 := rfl
  go_enter Tryd.func7, Tryd.ntmps7
  go_wp2_with (first | (go_at_call 8; refine Calls.mono (awake_law w hz HT.out) ?_; rintro e w1 ⟨rfl, ho1⟩; have HO1 : Hid (Only (fun _ => False) w w1) := ho1; have hz1 : 2 ≤ w1.heap.size := Nat.le_trans hz ho1.size; have HT1 : Hid (Lib.Utf8Tabs 0 1 w1) := ho1.tabs hz HT.out; clear ho1) | (go_at_call 10; refine Calls.mono (parse_pq st ((w3.alloc (.cells #[.slice bL mP dL, .slice bW mQ dW] 28)).alloc (.cells #[.int .i64 0, .int .i64 (sa : Int)] 31)) hz3 HT3.out HC.out HkP.out HkQ.out) ?_; rintro e w4 ⟨zL, eL, zW, eW, rfl, hP4, hQ4, ho4⟩; have HO4 : Hid (Only (fun _ => False) ((w3.alloc (.cells #[.slice bL mP dL, .slice bW mQ dW] 28)).alloc (.cells #[.int .i64 0, .int .i64 (sa : Int)] 31)) w4) := ho4; have HP4 : Hid (Pw w4 zL kP P3 ∧ Pw w4 zW kQ Q3) := ⟨hP4, hQ4⟩; obtain ⟨l0, l1, l2, l3, l4, l5⟩ := two_kept ho4; obtain ⟨m0, m1, m2, m3, m4, m5⟩ := two_kept (HO3.out.trans (((Only.refl _ _).alloc _).alloc _ |>.trans ho4)); clear ho4 hP4 hQ4) | (go_at_call 10; refine Calls.mono (parse_pq t ((w2.alloc (.cells #[.slice aL nP cL, .slice aW nQ cW] 28)).alloc (.cells #[.int .i64 0, .int .i64 (ra : Int)] 31)) hz2 HT2.out HB.out HmP.out HmQ.out) ?_; rintro e w3 ⟨bL, dL, bW, dW, rfl, hP3, hQ3, ho3⟩; have HO3 : Hid (Only (fun _ => False) ((w2.alloc (.cells #[.slice aL nP cL, .slice aW nQ cW] 28)).alloc (.cells #[.int .i64 0, .int .i64 (ra : Int)] 31)) w3) := ho3; have HP3 : Hid (Pw w3 bL mP P2 ∧ Pw w3 bW mQ Q2) := ⟨hP3, hQ3⟩; have hz3 : 2 ≤ ((w3.alloc (.cells #[.slice bL mP dL, .slice bW mQ dW] 28)).alloc (.cells #[.int .i64 0, .int .i64 (sa : Int)] 31)).heap.size := Nat.le_trans hz2 ((ho3.alloc _).alloc _).size; have HT3 : Hid (Lib.Utf8Tabs 0 1 ((w3.alloc (.cells #[.slice bL mP dL, .slice bW mQ dW] 28)).alloc (.cells #[.int .i64 0, .int .i64 (sa : Int)] 31))) := ((ho3.alloc _).alloc _).tabs hz2 HT2.out; obtain ⟨k0, k1, k2, k3, k4, k5⟩ := two_kept ho3; clear ho3 hP3 hQ3) | (go_at_call 10; refine Calls.mono (parse_pq s w1 hz1 HT1.out HA.out HnP.out HnQ.out) ?_; rintro e w2 ⟨aL, cL, aW, cW, rfl, hP2, hQ2, ho2⟩; have HO2 : Hid (Only (fun _ => False) w1 w2) := ho2; have HP2 : Hid (Pw w2 aL nP P ∧ Pw w2 aW nQ Q) := ⟨hP2, hQ2⟩; have hz2 : 2 ≤ ((w2.alloc (.cells #[.slice aL nP cL, .slice aW nQ cW] 28)).alloc (.cells #[.int .i64 0, .int .i64 (ra : Int)] 31)).heap.size := Nat.le_trans hz1 ((ho2.alloc _).alloc _).size; have HT2 : Hid (Lib.Utf8Tabs 0 1 ((w2.alloc (.cells #[.slice aL nP cL, .slice aW nQ cW] 28)).alloc (.cells #[.int .i64 0, .int .i64 (ra : Int)] 31))) := ((ho2.alloc _).alloc _).tabs hz1 HT1.out; clear ho2 hP2 hQ2))
  obtain ⟨V, hV⟩ : ∃ V, V = ((w4.alloc (.cells #[.slice zL kP eL, .slice zW kQ eW] 28)).alloc (.cells #[.int .i64 0, .int .i64 (ta : Int)] 31)) := ⟨_, rfl⟩
  rw [← hV]
  have HOV : Hid (Only (fun _ => False) w V) := by rw [hV]; exact (((((HO1.out.trans ((HO2.out.alloc _).alloc _)).trans HO3.out).alloc _).alloc _).trans HO4.out).alloc _ |>.alloc _
  have HO4V : Hid (Only (fun _ => False) w4 V) := by rw [hV]; exact ((Only.refl _ _).alloc _).alloc _
  have HO3V : Hid (Only (fun _ => False) w3 V) := (((Only.refl _ _).alloc _).alloc _ |>.trans HO4.out).trans HO4V.out
  have HO2V : Hid (Only (fun _ => False) w2 V) := (((Only.refl _ _).alloc _).alloc _ |>.trans HO3.out).trans HO3V.out
  obtain ⟨C1, hC1, hQ1⟩ := pw_cells (HP2.out.1.keep HO2V.out)
  obtain ⟨C2, hC2, hQ2⟩ := pw_cells (HP2.out.2.keep HO2V.out)
  obtain ⟨D1, hD1, hR1⟩ := pw_cells (HP3.out.1.keep HO3V.out)
  obtain ⟨D2, hD2, hR2⟩ := pw_cells (HP3.out.2.keep HO3V.out)
  have HC1 : Hid (Cw V aL nP C1) := hC1
  have HC2 : Hid (Cw V aW nQ C2) := hC2
  have HD1 : Hid (Cw V bL mP D1) := hD1
  have HD2 : Hid (Cw V bW mQ D2) := hD2
  have HQ1 : Hid (Pc V C1 P) := hQ1
  have HQ2 : Hid (Pc V C2 Q) := hQ2
  have HR1 : Hid (Pc V D1 P2) := hR1
  have HR2 : Hid (Pc V D2 Q2) := hR2
  have HZ : Hid (Pw V zL kP P3 ∧ Pw V zW kQ Q3) := ⟨HP4.out.1.keep HO4V.out, HP4.out.2.keep HO4V.out⟩
  have HK : Hid (∀ w', Only (fun _ => False) V w' → w'.cell? ⟨w4.heap.size, 0, none⟩ = some (.slice zL kP eL) ∧ w'.cell? ⟨w4.heap.size, 1, none⟩ = some (.slice zW kQ eW) ∧ w'.cell? ⟨w2.heap.size, 0, none⟩ = some (.slice aL nP cL) ∧ w'.cell? ⟨w2.heap.size, 1, none⟩ = some (.slice aW nQ cW) ∧ w'.cell? ⟨w3.heap.size, 0, none⟩ = some (.slice bL mP dL) ∧ w'.cell? ⟨w3.heap.size, 1, none⟩ = some (.slice bW mQ dW)) := fun w' h => by
    have r4 := two_kept (w := w4) (by rw [hV] at h; exact h)
    have r3 := two_kept (w := w3) ((HO4.out.trans HO4V.out).trans h)
    have r2 := two_kept (w := w2) ((HO3.out.trans HO3V.out).trans h)
    exact ⟨r4.1, r4.2.1, r2.1, r2.2.1, r3.1, r3.2.1⟩
  clear hC1 hC2 hD1 hD2 hQ1 hQ2 hR1 hR2 k0 k1 k2 k3 k4 k5 l0 l1 l2 l3 l4 l5 m0 m1 m2 m3 m4 m5 hV
  go_region_held3 (fun w' => w'.cell? ⟨w4.heap.size, 0, none⟩ = some (.slice zL kP eL) ∧ w'.cell? ⟨w4.heap.size, 1, none⟩ = some (.slice zW kQ eW) ∧ w'.cell? ⟨w2.heap.size, 0, none⟩ = some (.slice aL nP cL) ∧ w'.cell? ⟨w2.heap.size, 1, none⟩ = some (.slice aW nQ cW) ∧ w'.cell? ⟨w3.heap.size, 0, none⟩ = some (.slice bL mP dL) ∧ w'.cell? ⟨w3.heap.size, 1, none⟩ = some (.slice bW mQ dW)) (first | exact HK.out _ (Only.refl _ _) | exact HK.out _ ((Only.refl _ _).alloc _) | exact HK.out _ HOA.out | exact HK.out _ HOB.out | exact HK.out _ HOC.out | exact HK.out _ (HOC.out.alloc _) | exact HK.out _ HOD.out | exact HK.out _ HOE.out | exact HK.out _ HOF.out | exact HK.out _ (Only.refl _ _).drew | exact HK.out _ ((Only.refl _ _).alloc _).drew | exact HK.out _ HOA.out.drew | exact HK.out _ HOB.out.drew | exact HK.out _ HOC.out.drew | exact HK.out _ (HOC.out.alloc _).drew | exact HK.out _ HOD.out.drew | exact HK.out _ HOE.out.drew | exact HK.out _ HOF.out.drew) (first
    | (refine step_app2 (by first | rfl | simp [Region.wanted] | kernel_rfl) (.tmp 91) (.tmp 93) (by rfl) V (by first | exact (Only.refl _ _) | exact ((Only.refl _ _).alloc _) | exact HOA.out | exact HOB.out | exact HOC.out | exact (HOC.out.alloc _) | exact HOD.out | exact HOE.out | exact HOF.out | exact (Only.refl _ _).drew | exact ((Only.refl _ _).alloc _).drew | exact HOA.out.drew | exact HOB.out.drew | exact HOC.out.drew | exact (HOC.out.alloc _).drew | exact HOD.out.drew | exact HOE.out.drew | exact HOF.out.drew) gD nQ cD ([] ++ C2) (by rfl) HD1b.out bW mQ dW D2 (by rfl) (HD2.out.keep (by first | exact (Only.refl _ _) | exact ((Only.refl _ _).alloc _) | exact HOA.out | exact HOB.out | exact HOC.out | exact (HOC.out.alloc _) | exact HOD.out | exact HOE.out | exact HOF.out | exact (Only.refl _ _).drew | exact ((Only.refl _ _).alloc _).drew | exact HOA.out.drew | exact HOB.out.drew | exact HOC.out.drew | exact (HOC.out.alloc _).drew | exact HOD.out.drew | exact HOE.out.drew | exact HOF.out.drew)) kQ HSQ.out (by omega) ?_; intro gE cE wE hoE hqE; have HE1 : Hid (wE.ownsRow V.heap.size 37 2 (.slice (some ⟨gE, 0, none⟩) kQ cE) kQ (([] ++ C2) ++ D2)) := hoE; have HOE : Hid (Only (fun _ => False) V wE) := hqE; clear hoE hqE)
    | (refine step_app2 (by first | rfl | simp [Region.wanted] | kernel_rfl) (.tmp 88) (.tmp 90) (by rfl) V (by first | exact (Only.refl _ _) | exact ((Only.refl _ _).alloc _) | exact HOA.out | exact HOB.out | exact HOC.out | exact (HOC.out.alloc _) | exact HOD.out | exact HOE.out | exact HOF.out | exact (Only.refl _ _).drew | exact ((Only.refl _ _).alloc _).drew | exact HOA.out.drew | exact HOB.out.drew | exact HOC.out.drew | exact (HOC.out.alloc _).drew | exact HOD.out.drew | exact HOE.out.drew | exact HOF.out.drew) _ 0 0 [] (by rfl) (own_p0 (by first | exact heap_alloc_new _ _ | exact (heap_alloc_new (World.drew _) _)) (by first | (simp; done) | (simp; omega) | (have q := HOC.out.size; simp; omega) | (have q := HOC.out.size; omega))) aW nQ cW C2 (by rfl) (HC2.out.keep (by first | exact (Only.refl _ _) | exact ((Only.refl _ _).alloc _) | exact HOA.out | exact HOB.out | exact HOC.out | exact (HOC.out.alloc _) | exact HOD.out | exact HOE.out | exact HOF.out | exact (Only.refl _ _).drew | exact ((Only.refl _ _).alloc _).drew | exact HOA.out.drew | exact HOB.out.drew | exact HOC.out.drew | exact (HOC.out.alloc _).drew | exact HOD.out.drew | exact HOE.out.drew | exact HOF.out.drew)) nQ (Nat.zero_add _) (by omega) ?_; intro gD cD wD hoD hqD; have HD1b : Hid (wD.ownsRow V.heap.size 37 2 (.slice (some ⟨gD, 0, none⟩) nQ cD) nQ ([] ++ C2)) := hoD; have HOD : Hid (Only (fun _ => False) V wD) := hqD; clear hoD hqD)
    | (refine step_app2 (by first | rfl | simp [Region.wanted] | kernel_rfl) (.tmp 80) (.tmp 82) (by rfl) V (by first | exact (Only.refl _ _) | exact ((Only.refl _ _).alloc _) | exact HOA.out | exact HOB.out | exact HOC.out | exact (HOC.out.alloc _) | exact HOD.out | exact HOE.out | exact HOF.out | exact (Only.refl _ _).drew | exact ((Only.refl _ _).alloc _).drew | exact HOA.out.drew | exact HOB.out.drew | exact HOC.out.drew | exact (HOC.out.alloc _).drew | exact HOD.out.drew | exact HOE.out.drew | exact HOF.out.drew) gA nP cA ([] ++ C1) (by rfl) HA1.out bL mP dL D1 (by rfl) (HD1.out.keep (by first | exact (Only.refl _ _) | exact ((Only.refl _ _).alloc _) | exact HOA.out | exact HOB.out | exact HOC.out | exact (HOC.out.alloc _) | exact HOD.out | exact HOE.out | exact HOF.out | exact (Only.refl _ _).drew | exact ((Only.refl _ _).alloc _).drew | exact HOA.out.drew | exact HOB.out.drew | exact HOC.out.drew | exact (HOC.out.alloc _).drew | exact HOD.out.drew | exact HOE.out.drew | exact HOF.out.drew)) kP HSP.out (by omega) ?_; intro gB cB wB hoB hqB; have HB1 : Hid (wB.ownsRow V.heap.size 37 2 (.slice (some ⟨gB, 0, none⟩) kP cB) kP (([] ++ C1) ++ D1)) := hoB; have HOB : Hid (Only (fun _ => False) V wB) := hqB; clear hoB hqB)
    | (refine step_app2 (by first | rfl | simp [Region.wanted] | kernel_rfl) (.tmp 77) (.tmp 79) (by rfl) V (by first | exact (Only.refl _ _) | exact ((Only.refl _ _).alloc _) | exact HOA.out | exact HOB.out | exact HOC.out | exact (HOC.out.alloc _) | exact HOD.out | exact HOE.out | exact HOF.out | exact (Only.refl _ _).drew | exact ((Only.refl _ _).alloc _).drew | exact HOA.out.drew | exact HOB.out.drew | exact HOC.out.drew | exact (HOC.out.alloc _).drew | exact HOD.out.drew | exact HOE.out.drew | exact HOF.out.drew) _ 0 0 [] (by rfl) (own_p0 (by first | exact heap_alloc_new _ _ | exact (heap_alloc_new (World.drew _) _)) (by first | (simp; done) | (simp; omega) | (have q := HOC.out.size; simp; omega) | (have q := HOC.out.size; omega))) aL nP cL C1 (by rfl) (HC1.out.keep (by first | exact (Only.refl _ _) | exact ((Only.refl _ _).alloc _) | exact HOA.out | exact HOB.out | exact HOC.out | exact (HOC.out.alloc _) | exact HOD.out | exact HOE.out | exact HOF.out | exact (Only.refl _ _).drew | exact ((Only.refl _ _).alloc _).drew | exact HOA.out.drew | exact HOB.out.drew | exact HOC.out.drew | exact (HOC.out.alloc _).drew | exact HOD.out.drew | exact HOE.out.drew | exact HOF.out.drew)) nP (Nat.zero_add _) (by omega) ?_; intro gA cA wA hoA hqA; have HA1 : Hid (wA.ownsRow V.heap.size 37 2 (.slice (some ⟨gA, 0, none⟩) nP cA) nP ([] ++ C1)) := hoA; have HOA : Hid (Only (fun _ => False) V wA) := hqA; clear hoA hqA)
    | (go_at_call 12; refine Calls.mono (samePat_any Q3 zW (some ⟨gE, 0, none⟩) kQ eW cE _ (HZ.out.2.keep (by first | exact (Only.refl _ _) | exact ((Only.refl _ _).alloc _) | exact HOE.out | exact HOA.out | exact HOB.out | exact HOC.out | exact (HOC.out.alloc _) | exact HOD.out | exact HOE.out | exact HOF.out | exact (Only.refl _ _).drew | exact ((Only.refl _ _).alloc _).drew | exact HOE.out | exact HOA.out.drew | exact HOB.out.drew | exact HOC.out.drew | exact (HOC.out.alloc _).drew | exact HOD.out.drew | exact HOE.out.drew | exact HOF.out.drew)) (by rw [HJQ.out]; exact own_pw (C := ([] ++ C2) ++ D2) (by first | exact HE1.out | exact own_only HE1.out (Only.refl _ _).drew (fun _ _ h => h)) ((HQ2.out.app HR2.out).keep (by first | exact (Only.refl _ _) | exact ((Only.refl _ _).alloc _) | exact HOE.out | exact HOA.out | exact HOB.out | exact HOC.out | exact (HOC.out.alloc _) | exact HOD.out | exact HOE.out | exact HOF.out | exact (Only.refl _ _).drew | exact ((Only.refl _ _).alloc _).drew | exact HOE.out | exact HOA.out.drew | exact HOB.out.drew | exact HOC.out.drew | exact (HOC.out.alloc _).drew | exact HOD.out.drew | exact HOE.out.drew | exact HOF.out.drew)) (by rw [← HJQ.out]; exact HkQ.out.symm)) (by omega)) ?_; rintro e wF ⟨rfl, hqF⟩; have HOF : Hid (Only (fun _ => False) V wF) := (by first | exact HOE.out.trans hqF | exact HOE.out.drew.trans hqF); clear hqF)
    | (go_at_call 12; refine Calls.mono (samePat_any P3 zL (some ⟨gB, 0, none⟩) kP eL cB _ (HZ.out.1.keep (by first | exact (Only.refl _ _) | exact ((Only.refl _ _).alloc _) | exact HOA.out | exact HOB.out | exact HOC.out | exact (HOC.out.alloc _) | exact HOD.out | exact HOE.out | exact HOF.out | exact (Only.refl _ _).drew | exact ((Only.refl _ _).alloc _).drew | exact HOA.out.drew | exact HOB.out.drew | exact HOC.out.drew | exact (HOC.out.alloc _).drew | exact HOD.out.drew | exact HOE.out.drew | exact HOF.out.drew)) (by rw [HJP.out]; exact own_pw (C := ([] ++ C1) ++ D1) (by first | exact HB1.out | exact own_only HB1.out (Only.refl _ _).drew (fun _ _ h => h)) ((HQ1.out.app HR1.out).keep (by first | exact (Only.refl _ _) | exact ((Only.refl _ _).alloc _) | exact HOA.out | exact HOB.out | exact HOC.out | exact (HOC.out.alloc _) | exact HOD.out | exact HOE.out | exact HOF.out | exact (Only.refl _ _).drew | exact ((Only.refl _ _).alloc _).drew | exact HOA.out.drew | exact HOB.out.drew | exact HOC.out.drew | exact (HOC.out.alloc _).drew | exact HOD.out.drew | exact HOE.out.drew | exact HOF.out.drew)) (by rw [← HJP.out]; exact HkP.out.symm)) (by omega)) ?_; rintro e wC ⟨rfl, hqC⟩; have HOC : Hid (Only (fun _ => False) V wC) := (by first | exact HOB.out.trans hqC | exact HOB.out.drew.trans hqC); clear hqC)
    | fail)
  all_goals
    go_wp2_with fail
    go_ret
    exact ⟨rfl, by first | exact HOV.out.trans HOF.out | exact (HOV.out.trans HOF.out).drew⟩
end Go.Proofs.YtjgbfpemkjpikaaDoor
