/-
  stanzaref04.Ends of rows of expressions: one behind another; one or another.
-/
import Derived.Test.YtfbcijnacbfjpaaEn1z
import Derived.Test.YtfbcijnacbfjpaaRbz
namespace Go.Proofs.Ytfbcijnacbfjpaa
open Go.RowKit Go.Maps
set_option linter.unusedVariables false
set_option linter.unusedSimpArgs false
open Rl (Ex)
/-- where a set of boundaries stands, and the box of the expression. -/
structure Eo (w W : World) (vk : Value) (ob n R : Nat) : Prop where
  bk : Bk W ob n R
  lt : R < 2 ^ n
  new : w.heap.size ≤ ob
  bx : ∃ o0 o1 : Value, W.heap[w.heap.size]? = some (.cells #[o0, o1, vk] 49 (0, 0))
  on : Only (fun _ => False) w W
theorem Eo.sz {w W : World} {vk : Value} {ob n R : Nat} (h : Eo w W vk ob n R) : w.heap.size < W.heap.size := by
  obtain ⟨_, _, h⟩ := h.bx
  exact (Array.getElem?_eq_some_iff.1 h).1
theorem Eo.kids {w W : World} {vk : Value} {ob n R : Nat} (h : Eo w W vk ob n R) : W.cell? ⟨w.heap.size, 2, none⟩ = some vk := by
  obtain ⟨_, _, h⟩ := h.bx
  exact cell_blk h
theorem Eo.bx2 {w W W2 : World} {vk : Value} {ob n R : Nat} (h : Eo w W vk ob n R) (ho : Only (fun _ => False) W W2) : ∃ o0 o1 : Value, W2.heap[w.heap.size]? = some (.cells #[o0, o1, vk] 49 (0, 0)) := by
  obtain ⟨o0, o1, hb⟩ := h.bx
  exact ⟨o0, o1, (ho.block _ h.sz (fun h => h)).trans hb⟩
theorem drop_at {α : Type} {l : List α} {i : Nat} {x : α} (h : l[i]? = some x) : l.drop i = x :: l.drop (i + 1) := by
  obtain ⟨hl, e⟩ := List.getElem?_eq_some_iff.1 h
  rw [List.drop_eq_getElem_cons hl, e]
theorem Nns.at {kids : List Ex} {i : Nat} {kd : Ex} (h : Nns kids) (hi : kids[i]? = some kd) : Nn kd := Nns.mem h (List.mem_of_getElem? hi)
set_option maxRecDepth 100000 in
set_option maxHeartbeats 8000000 in
theorem end_seq (C : List Int) (F : Nat → Prop) (set : Int) (kids : List Ex) (a : Option Addr) (c : Nat) (w : World) (aC : Option Addr) (L cC n fb fc s : Nat) (ih : ∀ k ∈ kids, EndOk C k) (hL : Lf w F kids a c) (hN : Nns kids)
    (hI : Iw w aC L C) (hnL : n = L + 1) (hn : n ≤ 200) (hB : Bn w fb n s) (hs : s < 2 ^ n) :
    Calls Try.prog 33 #[.agg #[.int .u8 2, .int .u32 set, .slice a kids.length c], .slice aC L cC, .slice (some ⟨fb, 0, none⟩) n fc] w fun e' w' => ∃ rb R, e' = .returned (.slice (some ⟨rb, 0, none⟩) n n) ∧ Bk w' rb n R ∧ R < 2 ^ n ∧ Au.Img (Au.mts C kids) s R ∧ w.heap.size ≤ rb ∧ Only (fun _ => False) w w' := by
  have HIH : Hid (∀ k ∈ kids, EndOk C k) := ih
  have HL : Hid (Lf w F kids a c) := hL
  have HN : Hid (Nns kids) := hN
  have HI : Hid (Iw w aC L C) := hI
  have HNL : Hid (n = L + 1) := hnL
  have HSL : Hid (s < 2 ^ n) := hs
  have hKm := hL.2.1
  obtain ⟨K, hKe⟩ : ∃ K, K = kids.length := ⟨_, rfl⟩
  have HKE : Hid (K = kids.length) := hKe
  rw [← hKe] at hKm ⊢
  unfold maxLen at hKm
  obtain ⟨W, hcp, hg, hO, hbx, hsz⟩ := copied w (.cells #[.int .u8 2, .int .u32 set, .slice a K c] 49) n fb fc s hB
  have HE : Hid (Eo w W (.slice a K c) (w.heap.size + 1) n s) := ⟨hg, hs, by omega, ⟨_, _, hbx⟩, hO⟩
  clear ih hL hN hKe hI hnL hs hg hO hbx hsz hB
  have hmk := fun (w : World) => run_make_row' (P := Try.prog) 86 4 (.bool false) 1 Try.underlying86 info4 rfl .i64 .i64 n (by omega) (by omega) w
  go_enter Try.func33, Try.ntmps33
  go_wp2_with fail
  clear hmk hcp
  go_loopg [7, 9] K (fun gh vo vi wr => ∃ (i ob R : Nat) (W : World), W = wr ∧ gh = K - i ∧ i ≤ K ∧ vi = .int .i64 (i : Int) ∧ vo = .slice (some ⟨ob, 0, none⟩) n n ∧ Eo w W (.slice a K c) ob n R ∧ ∀ T, Au.Img (Au.mts C (kids.drop i)) R T → Au.Img (Au.mts C kids) s T)
  case atStart => exact ⟨0, _, s, _, rfl, rfl, Nat.zero_le _, rfl, rfl, HE.out, fun T h => by rw [List.drop_zero] at h; exact h⟩
  case round =>
    obtain ⟨i, ob, R, W, hW, rfl, hi, rfl, rfl, hE, hM⟩ := hrel
    subst hW
    have HE2 : Hid (Eo w W (.slice a K c) ob n R) := hE
    have HM : Hid (∀ T, Au.Img (Au.mts C (kids.drop i)) R T → Au.Img (Au.mts C kids) s T) := hM
    have b2 := hE.kids
    have hwl := hE.sz
    clear hE hM
    by_cases hlt : i < K
    · have t1 : (i : Int) < (K : Int) := by omega
      obtain ⟨kd, hkd⟩ : ∃ kd, kids[i]? = some kd := ⟨_, List.getElem?_eq_getElem (by rw [← HKE.out]; omega)⟩
      have HKD : Hid (kids[i]? = some kd) := hkd
      obtain ⟨kb, ko, op', set', a', n', c', rfl, hkl, d0, d1, d2, hTe⟩ := kid_at0 HL.out HE2.out.on hkd
      have HC : Hid (Calls Try.prog 33 #[.agg #[.int .u8 op', .int .u32 set', .slice a' n' c'], .slice aC L cC, .slice (some ⟨ob, 0, none⟩) n n] W fun e' w' => ∃ rb R', e' = .returned (.slice (some ⟨rb, 0, none⟩) n n) ∧ Bk w' rb n R' ∧ R' < 2 ^ n ∧ Au.Img (Au.mt C kd) R R' ∧ W.heap.size ≤ rb ∧ Only (fun _ => False) W w') :=
        HIH.out kd (List.mem_of_getElem? hkd) F _ W aC L cC n ob n R hTe (Nns.at HN.out hkd) (HI.out.keep HE2.out.on) HNL.out hn HE2.out.bk.bn HE2.out.lt
      clear hkd hTe
      go_wp2_with (go_at_call 33; refine Calls.mono HC.out ?_; rintro e w2 ⟨rb, R', rfl, hb2, hl2, hi2, hn2, ho2⟩; have HE3 : Hid (Eo w w2 (.slice (some ⟨kb, ko, none⟩) K c) rb n R') := ⟨hb2, hl2, Nat.le_trans HE2.out.on.size hn2, HE2.out.bx2 ho2, HE2.out.on.trans ho2⟩; have HI2 : Hid (Au.Img (Au.mt C kd) R R') := hi2; clear hb2 hl2 hi2 hn2 ho2)
      go_roundg (K - (i + 1))
      case measure => omega
      case rel =>
        refine ⟨i + 1, rb, R', _, rfl, rfl, by omega, by go_num, rfl, HE3.out, fun T hT => HM.out T ?_⟩
        rw [drop_at HKD.out]
        exact (HI2.out.comp hT).congr (fun i j => by simp only [Au.mts])
    · have t2 : decide ((i : Int) < (K : Int)) = false := decide_eq_false (by omega)
      obtain rfl : i = K := by omega
      go_wp2_with fail
      go_ret
      refine ⟨ob, R, rfl, HE2.out.bk, HE2.out.lt, HM.out R ?_, HE2.out.new, HE2.out.on⟩
      rw [List.drop_eq_nil_of_le (by rw [← HKE.out]; exact Nat.le_refl _)]
      exact (Au.Img.id R).congr (fun i j => by simp only [Au.mts])
set_option maxRecDepth 100000 in
set_option maxHeartbeats 8000000 in
theorem end_alt (C : List Int) (F : Nat → Prop) (set : Int) (kids : List Ex) (a : Option Addr) (c : Nat) (w : World) (aC : Option Addr) (L cC n fb fc s : Nat) (ih : ∀ k ∈ kids, EndOk C k) (hL : Lf w F kids a c) (hN : Nns kids)
    (hI : Iw w aC L C) (hnL : n = L + 1) (hn : n ≤ 200) (hB : Bn w fb n s) (hs : s < 2 ^ n) :
    Calls Try.prog 33 #[.agg #[.int .u8 3, .int .u32 set, .slice a kids.length c], .slice aC L cC, .slice (some ⟨fb, 0, none⟩) n fc] w fun e' w' => ∃ rb R, e' = .returned (.slice (some ⟨rb, 0, none⟩) n n) ∧ Bk w' rb n R ∧ R < 2 ^ n ∧ Au.Img (Au.mta C kids) s R ∧ w.heap.size ≤ rb ∧ Only (fun _ => False) w w' := by
  have HIH : Hid (∀ k ∈ kids, EndOk C k) := ih
  have HL : Hid (Lf w F kids a c) := hL
  have HN : Hid (Nns kids) := hN
  have HI : Hid (Iw w aC L C) := hI
  have HNL : Hid (n = L + 1) := hnL
  have HSL : Hid (s < 2 ^ n) := hs
  have HB : Hid (Bn w fb n s) := hB
  have hKm := hL.2.1
  obtain ⟨K, hKe⟩ : ∃ K, K = kids.length := ⟨_, rfl⟩
  have HKE : Hid (K = kids.length) := hKe
  rw [← hKe] at hKm ⊢
  unfold maxLen at hKm
  have HE : Hid (Eo w ((w.alloc (.cells #[.int .u8 3, .int .u32 set, .slice a K c] 49)).alloc (.cells (madeCells #[.bool false] n) 4)) (.slice a K c) (w.heap.size + 1) n 0) := ⟨bk_made _ _ _, Nat.two_pow_pos n, by omega, ⟨_, _, bx_made _ _ _⟩, ((Only.refl _ _).alloc _).alloc _⟩
  clear ih hL hN hKe hI hnL hs hB
  have hmk := fun (w : World) => run_make_row' (P := Try.prog) 86 4 (.bool false) 1 Try.underlying86 info4 rfl .i64 .i64 n (by omega) (by omega) w
  go_enter Try.func33, Try.ntmps33
  go_wp2_with fail
  clear hmk
  go_loopg [7, 10] K (fun gh vo vi wr => ∃ (i ob R : Nat) (W : World), W = wr ∧ gh = K - i ∧ i ≤ K ∧ vi = .int .i64 (i : Int) ∧ vo = .slice (some ⟨ob, 0, none⟩) n n ∧ Eo w W (.slice a K c) ob n R ∧ ∀ T, Au.Img (Au.mta C (kids.drop i)) s T → Au.Img (Au.mta C kids) s (R ||| T))
  case atStart => exact ⟨0, _, 0, _, rfl, rfl, Nat.zero_le _, rfl, rfl, HE.out, fun T h => by rw [List.drop_zero] at h; rw [Nat.zero_or]; exact h⟩
  case round =>
    obtain ⟨i, ob, R, W, hW, rfl, hi, rfl, rfl, hE, hM⟩ := hrel
    subst hW
    have HE2 : Hid (Eo w W (.slice a K c) ob n R) := hE
    have HM : Hid (∀ T, Au.Img (Au.mta C (kids.drop i)) s T → Au.Img (Au.mta C kids) s (R ||| T)) := hM
    have b2 := hE.kids
    have hwl := hE.sz
    clear hE hM
    by_cases hlt : i < K
    · have t1 : (i : Int) < (K : Int) := by omega
      obtain ⟨kd, hkd⟩ : ∃ kd, kids[i]? = some kd := ⟨_, List.getElem?_eq_getElem (by rw [← HKE.out]; omega)⟩
      have HKD : Hid (kids[i]? = some kd) := hkd
      obtain ⟨kb, ko, op', set', a', n', c', rfl, hkl, d0, d1, d2, hTe⟩ := kid_at0 HL.out HE2.out.on hkd
      have HC : Hid (Calls Try.prog 33 #[.agg #[.int .u8 op', .int .u32 set', .slice a' n' c'], .slice aC L cC, .slice (some ⟨fb, 0, none⟩) n fc] W fun e' w' => ∃ rb R', e' = .returned (.slice (some ⟨rb, 0, none⟩) n n) ∧ Bk w' rb n R' ∧ R' < 2 ^ n ∧ Au.Img (Au.mt C kd) s R' ∧ W.heap.size ≤ rb ∧ Only (fun _ => False) W w') :=
        HIH.out kd (List.mem_of_getElem? hkd) F _ W aC L cC n fb fc s hTe (Nns.at HN.out hkd) (HI.out.keep HE2.out.on) HNL.out hn (HB.out.keep HE2.out.on) HSL.out
      clear hkd hTe
      go_wp2_with (first | (go_at_call 33; refine Calls.mono HC.out ?_; rintro e w2 ⟨rb, R', rfl, hb2, hl2, hi2, hn2, ho2⟩; have HR2 : Hid (Bk w2 rb n R' ∧ R' < 2 ^ n) := ⟨hb2, hl2⟩; have HO2 : Hid (Only (fun _ => False) W w2) := ho2; have HI2 : Hid (Au.Img (Au.mt C kd) s R') := hi2; clear hb2 hl2 hi2 hn2 ho2) | (go_at_call 29; refine Calls.mono (rboth_any ob rb n n n R R' _ (HE2.out.bk.keep HO2.out).bn HR2.out.1.bn hn) ?_; rintro e w3 ⟨rfl, hb3, ho3⟩; have HE3 : Hid (Eo w w3 (.slice (some ⟨kb, ko, none⟩) K c) w2.heap.size n (R ||| R')) := ⟨hb3, Nat.or_lt_two_pow HE2.out.lt HR2.out.2, Nat.le_trans HE2.out.on.size HO2.out.size, HE2.out.bx2 (HO2.out.trans ho3), HE2.out.on.trans (HO2.out.trans ho3)⟩; clear hb3 ho3))
      go_roundg (K - (i + 1))
      case measure => omega
      case rel =>
        refine ⟨i + 1, _, R ||| R', _, rfl, rfl, by omega, by go_num, rfl, HE3.out, fun T hT => ?_⟩
        rw [Nat.or_assoc]
        refine HM.out _ ?_
        rw [drop_at HKD.out]
        exact (HI2.out.or hT).congr (fun i j => by simp only [Au.mta])
    · have t2 : decide ((i : Int) < (K : Int)) = false := decide_eq_false (by omega)
      obtain rfl : i = K := by omega
      go_wp2_with fail
      go_ret
      have h0 : Au.Img (Au.mta C (kids.drop i)) s 0 := by
        rw [List.drop_eq_nil_of_le (by rw [← HKE.out]; exact Nat.le_refl _)]
        exact (Au.Img.none s).congr (fun i j => by simp only [Au.mta])
      refine ⟨ob, R, rfl, HE2.out.bk, HE2.out.lt, ?_, HE2.out.new, HE2.out.on⟩
      have := HM.out 0 h0
      rw [Nat.or_zero] at this
      exact this
end Go.Proofs.Ytfbcijnacbfjpaa
