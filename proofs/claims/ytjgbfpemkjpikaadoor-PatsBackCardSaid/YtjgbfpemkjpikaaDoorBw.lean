/-
  PatsBack's walk.
-/
import Derived.Test.YtjgbfpemkjpikaaDoorWn
import Derived.Test.YtjgbfpemkjpikaaDoorJw
namespace Go.Proofs.YtjgbfpemkjpikaaDoor
open Go.RowKit Go.Maps
set_option linter.unusedVariables false
set_option linter.unusedSimpArgs false
theorem wrun_fault : ∀ (l : List (List Nat × Nat)) (P Q : List Pt.Pat), (wrun l P Q).1 ≠ 0 → (wrun l P Q).2.2 = ([], [])
  | [], P, Q, h => absurd rfl h
  | x :: l, P, Q, h => by
    simp only [wrun] at h ⊢
    by_cases h0 : (addR x.1 P Q).1 = 0
    · rw [if_pos h0] at h ⊢
      exact wrun_fault l _ _ h
    · rw [if_neg h0]
theorem parse_fault {s : ByteArray} (h : (parseR s).1 ≠ 0) : (parseR s).2.2 = ([], []) := by
  by_cases hb : 4096 < s.size
  · unfold parseR; rw [if_pos hb]
  · rw [parse_wrun (by omega)] at h ⊢
    exact wrun_fault _ _ _ h
theorem tws_take (td : Bool) (b : Nat) (P : List Pt.Pat) {i : Nat} {p : Pt.Pat} (h : P[i]? = some p) : tws td b (P.take (i + 1)) = tws td b (P.take i) ++ (wr td p ++ [b]) := by
  rw [List.take_add_one, h]
  unfold tws
  simp
theorem Pw.two {w W : World} {a : Option Addr} {n : Nat} {P : List Pt.Pat} (h : Pw w a n P) (ho : Only (fun _ => False) w W) {i : Nat} (hi : i < n) : ∃ b off p aL cL aV cV, a = some ⟨b, off, none⟩ ∧ b < W.heap.size ∧ P[i]? = some p ∧ W.cell? ⟨b, off + i * 2, none⟩ = some (.slice aL p.letters.length cL) ∧ W.cell? ⟨b, off + i * 2 + 1, none⟩ = some (.slice aV p.values.length cV) ∧ Nl W aL p.letters.length p.letters ∧ Bl W aV p.values.length p.values ∧ p.letters.length ≤ 24 := by
  obtain ⟨b, off, p, aL, cL, aV, cV, h1, h2, h3, h4, h5, h6, h7, h8, _⟩ := (h.keep ho).at hi
  exact ⟨b, off, p, aL, cL, aV, cV, h1, h2, h3, h4, h5, h6, h7, h8⟩
set_option maxRecDepth 100000 in
set_option maxHeartbeats 8000000 in
theorem backF (s : ByteArray) (w : World) (hz : 2 ≤ w.heap.size) (hT : Lib.Utf8Tabs 0 1 w) (rc ra : Nat) (P Q : List Pt.Pat) (hA : parseR s = (rc, ra, P, Q)) (hrc : rc ≠ 0) : Calls Tryd.prog 5 #[.string s] w fun e w' => e = .returned (.bool true) ∧ Only (fun _ => False) w w' := by
  have HT : Hid (Lib.Utf8Tabs 0 1 w) := hT
  clear hT
  have hf := parse_fault (s := s) (by rw [hA]; exact hrc)
  rw [hA] at hf
  simp only [Prod.mk.injEq] at hf
  have hnP : 0 = P.length := by rw [hf.1]; rfl
  have hnQ : 0 = Q.length := by rw [hf.2]; rfl
  clear hf
  have HA : Hid (parseR s = (rc, ra, P, Q)) := hA
  have HnP : Hid (0 = P.length) := hnP
  have HnQ : Hid (0 = Q.length) := hnQ
  clear hA hnP hnQ
  have e1 : ¬ (rc : Int) = 0 := by omega
  have e2 : ((rc : Int) == 0) = false := by simpa using e1
  have e3 : ((rc : Int) != 0) = true := by simpa using e1
  clear hrc
  go_enter Tryd.func5, Tryd.ntmps5
  go_wp2_with (first | (go_at_call 8; refine Calls.mono (awake_law w hz HT.out) ?_; rintro e w1 ⟨rfl, ho1⟩; have HO1 : Hid (Only (fun _ => False) w w1) := ho1; have hz1 : 2 ≤ w1.heap.size := Nat.le_trans hz ho1.size; have HT1 : Hid (Lib.Utf8Tabs 0 1 w1) := ho1.tabs hz HT.out; clear ho1) | (go_at_call 10; refine Calls.mono (parse_pq s w1 hz1 HT1.out HA.out HnP.out HnQ.out) ?_; rintro e w2 ⟨aL, cL, aW, cW, rfl, hP2, hQ2, ho2⟩; have HO2 : Hid (Only (fun _ => False) w1 w2) := ho2; have HP2 : Hid (Pw w2 aL 0 P ∧ Pw w2 aW 0 Q) := ⟨hP2, hQ2⟩; clear ho2 hP2 hQ2))
  go_ret
  exact ⟨rfl, ((HO1.out.trans HO2.out).alloc _).alloc _⟩
set_option maxRecDepth 100000 in
set_option maxHeartbeats 8000000 in
theorem backO (s : ByteArray) (w : World) (hz : 2 ≤ w.heap.size) (hT : Lib.Utf8Tabs 0 1 w) (rc ra nP nQ : Nat) (P Q : List Pt.Pat) (hA : parseR s = (0, ra, P, Q)) (hnP : nP = P.length) (hnQ : nQ = Q.length) (h256 : nP + nQ ≤ 256) (hG : Gd P Q) : Calls Tryd.prog 5 #[.string s] w fun e w' => e = .returned (.bool true) ∧ Only (fun _ => False) w w' := by
  have HT : Hid (Lib.Utf8Tabs 0 1 w) := hT
  clear hT
  have HG : Hid (Gd P Q) := hG
  clear hG
  have HA : Hid (parseR s = (0, ra, P, Q)) := hA
  have HnP : Hid (nP = P.length) := hnP
  have HnQ : Hid (nQ = Q.length) := hnQ
  clear hA hnP hnQ
  go_enter Tryd.func5, Tryd.ntmps5
  go_wp2_with (first | (go_at_call 8; refine Calls.mono (awake_law w hz HT.out) ?_; rintro e w1 ⟨rfl, ho1⟩; have HO1 : Hid (Only (fun _ => False) w w1) := ho1; have hz1 : 2 ≤ w1.heap.size := Nat.le_trans hz ho1.size; have HT1 : Hid (Lib.Utf8Tabs 0 1 w1) := ho1.tabs hz HT.out; clear ho1) | (go_at_call 10; refine Calls.mono (parse_pq s w1 hz1 HT1.out HA.out HnP.out HnQ.out) ?_; rintro e w2 ⟨aL, cL, aW, cW, rfl, hP2, hQ2, ho2⟩; have HO2 : Hid (Only (fun _ => False) w1 w2) := ho2; have HP2 : Hid (Pw w2 aL nP P ∧ Pw w2 aW nQ Q) := ⟨hP2, hQ2⟩; clear ho2 hP2 hQ2))
  obtain ⟨V, hV⟩ : ∃ V, V = ((w2.alloc (.cells #[.slice aL nP cL, .slice aW nQ cW] 28)).alloc (.cells #[.int .i64 0, .int .i64 (ra : Int)] 31)) := ⟨_, rfl⟩
  have HOV : Hid (Only (fun _ => False) w V) := by rw [hV]; exact ((HO1.out.trans HO2.out).alloc _).alloc _
  have HO2V : Hid (Only (fun _ => False) w2 V) := by rw [hV]; exact ((Only.refl _ _).alloc _).alloc _
  have HK : Hid (∀ w', Only (fun _ => False) V w' → w'.cell? ⟨w2.heap.size, 0, none⟩ = some (.slice aL nP cL) ∧ w'.cell? ⟨w2.heap.size, 1, none⟩ = some (.slice aW nQ cW) ∧ w2.heap.size < w'.heap.size) := fun w' h => by
    have r := two_kept (w := w2) (by rw [hV] at h; exact h)
    exact ⟨r.1, r.2.1, r.2.2.2.2.1⟩
  have hzV : 2 ≤ V.heap.size := Nat.le_trans hz HOV.out.size
  have HTV : Hid (Lib.Utf8Tabs 0 1 V) := HOV.out.tabs hz HT.out
  rw [← hV]
  clear hV
  go_loopg [33, 5] nP (fun gh v v5 wr' => ∃ (i : Nat) (t : ByteArray) (W : World), W = wr' ∧ gh = nP - i ∧ i ≤ nP ∧ v = .int .i64 (i : Int) ∧ v5 = .string t ∧ tl t = txt (tws false 10 (P.take i)) ∧ t.size ≤ 126 * i ∧ Only (fun _ => False) V W)
  case atStart => exact ⟨0, _, _, rfl, rfl, Nat.zero_le _, rfl, rfl, by simp [tws, txt, tl], by decide, Only.refl _ _⟩
  case round =>
    obtain ⟨i, t, W, hW, rfl, hi, rfl, rfl, ht, hsz, ho⟩ := hrel
    subst hW
    have HO : Hid (Only (fun _ => False) V W) := ho
    have HS : Hid (tl t = txt (tws false 10 (P.take i))) := ht
    obtain ⟨k0, k1, hwl⟩ := HK.out W ho
    clear ho ht
    by_cases hlt : i < nP
    · have t1 : (i : Int) < (nP : Int) := by omega
      obtain ⟨b, off, p, xL, dL, xV, dV, rfl, hbW, hp, c0, c1, hNl, hBl, h24⟩ := HP2.out.1.two (HO2V.out.trans HO.out) hlt
      have HPP : Hid (P[i]? = some p) := hp
      have HF : Hid (Fit false p) := HG.out.p p (List.mem_of_getElem? hp)
      obtain ⟨nL, hnL⟩ : ∃ nL, nL = p.letters.length := ⟨_, rfl⟩
      obtain ⟨nV, hnV⟩ : ∃ nV, nV = p.values.length := ⟨_, rfl⟩
      rw [← hnL] at c0 hNl h24
      rw [← hnV] at c1 hBl
      have HN : Hid (nL = p.letters.length ∧ nV = p.values.length ∧ Nl W xL nL p.letters ∧ Bl W xV nV p.values) := ⟨hnL, hnV, hNl, hBl⟩
      clear hp hNl hBl hnL hnV
      go_wp2_with (first | (go_at_call 11; refine Calls.mono (written_F p nL nV HN.out.1 HN.out.2.1 HF.out xL dL xV dV _ (HN.out.2.2.1.keep ((Only.refl _ _).alloc _)) (HN.out.2.2.2.keep ((Only.refl _ _).alloc _)) h24) ?_; rintro e w5 ⟨u, rfl, hu, hu5, ho5⟩; have HU : Hid (tl u = txt (wr false p)) := hu; have HO5 : Hid (Only (fun _ => False) W w5) := ((Only.refl _ _).alloc _).trans ho5; clear hu ho5))
      go_roundg (nP - (i + 1))
      case measure => omega
      case rel =>
        refine ⟨i + 1, _, _, rfl, rfl, by omega, by go_num, rfl, ?_, by simp only [ByteArray.size_append]; have q : (⟨#[10]⟩ : ByteArray).size = 1 := rfl; omega, HO.out.trans HO5.out⟩
        rw [tws_take false 10 P HPP.out, txt_app, txt_app, tl_app, tl_app, HS.out, HU.out, txt_one (by omega)]
        rfl
    · have t2 : decide ((i : Int) < (nP : Int)) = false := decide_eq_false (by omega)
      obtain rfl : nP = i := by omega
      have HS1 : Hid (tl t = txt (tws false 10 P)) := by
        show tl t = _
        rw [HS.out, List.take_of_length_le (by have := HnP.out; omega)]
      go_wp2_with fail
      go_loopg [46, 5] nQ (fun gh v v5 wr' => ∃ (i : Nat) (t : ByteArray) (W : World), W = wr' ∧ gh = nQ - i ∧ i ≤ nQ ∧ v = .int .i64 (i : Int) ∧ v5 = .string t ∧ tl t = txt (tws false 10 P ++ tws true 32 (Q.take i)) ∧ t.size ≤ 126 * (nP + i) ∧ Only (fun _ => False) V W)
      case atStart => exact ⟨0, _, _, rfl, rfl, Nat.zero_le _, rfl, rfl, by rw [HS1.out]; simp [tws], by omega, HO.out⟩
      case round =>
        obtain ⟨j, t', W', hW', rfl, hj, rfl, rfl, ht', hsz', ho'⟩ := hrel
        subst hW'
        have HO' : Hid (Only (fun _ => False) V W') := ho'
        have HS' : Hid (tl t' = txt (tws false 10 P ++ tws true 32 (Q.take j))) := ht'
        obtain ⟨m0, m1, hwl'⟩ := HK.out W' ho'
        have hzW : 2 ≤ W'.heap.size := Nat.le_trans hzV ho'.size
        have HTW : Hid (Lib.Utf8Tabs 0 1 W') := ho'.tabs hzV HTV.out
        clear ho' ht' k0 k1 hwl
        by_cases hlt2 : j < nQ
        · have t3 : (j : Int) < (nQ : Int) := by omega
          obtain ⟨b, off, p, xL, dL, xV, dV, rfl, hbW, hp, c0, c1, hNl, hBl, h24⟩ := HP2.out.2.two (HO2V.out.trans HO'.out) hlt2
          have HPP : Hid (Q[j]? = some p) := hp
          have HF : Hid (Fit true p) := HG.out.q p (List.mem_of_getElem? hp)
          obtain ⟨nL, hnL⟩ : ∃ nL, nL = p.letters.length := ⟨_, rfl⟩
          obtain ⟨nV, hnV⟩ : ∃ nV, nV = p.values.length := ⟨_, rfl⟩
          rw [← hnL] at c0 hNl h24
          rw [← hnV] at c1 hBl
          have HN : Hid (nL = p.letters.length ∧ nV = p.values.length ∧ Nl W' xL nL p.letters ∧ Bl W' xV nV p.values) := ⟨hnL, hnV, hNl, hBl⟩
          clear hp hNl hBl hnL hnV
          go_wp2_with (first | (go_at_call 11; refine Calls.mono (written_T p nL nV HN.out.1 HN.out.2.1 HF.out xL dL xV dV _ (HN.out.2.2.1.keep ((Only.refl _ _).alloc _)) (HN.out.2.2.2.keep ((Only.refl _ _).alloc _)) h24) ?_; rintro e w5 ⟨u, rfl, hu, hu5, ho5⟩; have HU : Hid (tl u = txt (wr true p)) := hu; have HO5 : Hid (Only (fun _ => False) W' w5) := ((Only.refl _ _).alloc _).trans ho5; clear hu ho5))
          go_roundg (nQ - (j + 1))
          case measure => omega
          case rel =>
            refine ⟨j + 1, _, _, rfl, rfl, by omega, by go_num, rfl, ?_, by simp only [ByteArray.size_append]; have q : (⟨#[32]⟩ : ByteArray).size = 1 := rfl; omega, HO'.out.trans HO5.out⟩
            rw [tws_take true 32 Q HPP.out, txt_app, txt_app, txt_app, tl_app, tl_app, HS'.out, HU.out, txt_one (by omega), txt_app, List.append_assoc]
            rfl
        · have t4 : decide ((j : Int) < (nQ : Int)) = false := decide_eq_false (by omega)
          obtain rfl : nQ = j := by omega
          by_cases hb : 4096 < t'.size
          · have q1 : (4096 : Int) < (t'.size : Int) := by omega
            go_wp2_with fail
            go_ret
            exact ⟨rfl, HOV.out.trans HO'.out⟩
          · have q1 : decide ((4096 : Int) < (t'.size : Int)) = false := decide_eq_false (by omega)
            have HS2 : Hid (tl t' = txt (tws false 10 P ++ tws true 32 Q)) := by
              show tl t' = _
              rw [HS'.out, List.take_of_length_le (l := Q) (by have := HnQ.out; omega)]
            obtain ⟨ta, hta⟩ : ∃ ta, parseR t' = (0, ta, P, Q) := by
              obtain ⟨h1, h2⟩ := parse_back HG.out (by have := HnP.out; have := HnQ.out; omega) HS2.out (by omega)
              refine ⟨(parseR t').2.1, ?_⟩
              rw [← h2, ← h1]
            have HTA : Hid (parseR t' = (0, ta, P, Q)) := hta
            clear hta
            go_wp2_with (first | (go_at_call 10; refine Calls.mono (parse_pq t' W' hzW HTW.out HTA.out HnP.out HnQ.out) ?_; rintro e w6 ⟨bL, dL, bW, dW, rfl, hP6, hQ6, ho6⟩; have HO6 : Hid (Only (fun _ => False) W' w6) := ho6; have HP6 : Hid (Pw w6 bL nP P ∧ Pw w6 bW nQ Q) := ⟨hP6, hQ6⟩; obtain ⟨g0, g1, hg⟩ := HK.out w6 (HO'.out.trans ho6); clear ho6 hP6 hQ6) | (go_at_call 12; refine Calls.mono (samePat_any Q aW bW nQ cW dW w7 ((HP2.out.2.keep HO2V.out).keep (HO'.out.trans (HO6.out.trans HO7.out))) (HP6.out.2.keep HO7.out) (by omega)) ?_; rintro e w8 ⟨rfl, ho8⟩; have HO8 : Hid (Only (fun _ => False) w7 w8) := ho8; clear ho8) | (go_at_call 12; refine Calls.mono (samePat_any P aL bL nP cL dL _ ((HP2.out.1.keep HO2V.out).keep (((HO'.out.trans HO6.out).alloc _).alloc _)) (HP6.out.1.keep (((Only.refl _ _).alloc _).alloc _)) (by omega)) ?_; rintro e w7 ⟨rfl, ho7⟩; have HO7 : Hid (Only (fun _ => False) w6 w7) := (((Only.refl _ _).alloc _).alloc _).trans ho7; obtain ⟨r0, r1, r2, r3, r4, r5⟩ := two_kept ho7; obtain ⟨f0, f1, hf⟩ := HK.out w7 (HO'.out.trans (HO6.out.trans HO7.out)); clear ho7))
            go_ret
            exact ⟨rfl, ((HOV.out.trans HO'.out).trans HO6.out).trans (HO7.out.trans HO8.out)⟩
end Go.Proofs.YtjgbfpemkjpikaaDoor
