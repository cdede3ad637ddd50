/-
  stanzaref04.Turn: its walk.
-/
import Derived.Test.YtfbcijnacbfjpaaTn6z
namespace Go.Proofs.Ytfbcijnacbfjpaa
open Go.RowKit Go.Maps
set_option linter.unusedVariables false
set_option linter.unusedSimpArgs false
open Rl (Ex Small)
theorem Lwr.less {s t : Nat} {W W' : World} (h : Lwr s W W') (ht : t ≤ s) : Lwr t W W' := fun x hx => h x (by omega)
theorem Lwr.set {s : Nat} {W W' : World} (h : Lwr s W W') {p : Addr} (hp : s ≤ p.block) (u : Value) : Lwr s W (W'.setCell p u) := fun x hx => (Below.heap_setCell _ _ _ _ (by omega)).trans (h x hx)
def RTurn (e : Ex) : Prop := ∀ (F : Nat → Prop) (v : Value) (w : World), Te w F e v → (∀ b, F b → b < w.heap.size) → Small e →
    Calls Try.prog 19 #[v] w fun e' w' => ∃ o s a m c, e' = .returned (.agg #[.int .u8 o, .int .u32 s, .slice a m c]) ∧ Te w' (fun b => w.heap.size ≤ b ∧ b < w'.heap.size) (Au.turn e) (.agg #[.int .u8 o, .int .u32 s, .slice a m c]) ∧ Only (fun _ => False) w w'
theorem Rt1.start (w : World) (op set : Int) (a : Option Addr) (n c : Nat) (ts : List Ex) : Rt1 w (((w.alloc (.cells #[.int .u8 op, .int .u32 set, .slice a n c] 49)).alloc (.cells #[.int .u8 0, .int .u32 0, .slice none 0 0] 49)).alloc (.cells #[.int .u8 op, .int .u32 set, .slice none 0 0] 49)) op set a n c 0 none 0 ts [] :=
  ⟨(((Only.refl _ _).alloc _).alloc _).alloc _, (Below.heap_alloc _ _ _ (by simp; omega)).trans ((Below.heap_alloc _ _ _ (by simp)).trans (heap_alloc_new _ _)), (Below.heap_alloc _ _ _ (by simp)).trans (heap_alloc2_new _ _ _), by have h := heap_alloc_new ((w.alloc (.cells #[.int .u8 op, .int .u32 set, .slice a n c] 49)).alloc (.cells #[.int .u8 0, .int .u32 0, .slice none 0 0] 49)) (.cells #[.int .u8 op, .int .u32 set, .slice none 0 0] 49); simpa [Xb] using h, World.ownsRow_nil _ _ _ _, fun i e h => by simp at h⟩
theorem Rt1.done {w W : World} {op set : Int} {a : Option Addr} {n c : Nat} {aK : Option Addr} {cK : Nat} {kids : List Ex} {xs : List Value} (h : Rt1 w W op set a n c n aK cK (Au.turns (kd op kids)) xs) (hn : n = kids.length) (hs0 : 0 ≤ set) (hs1 : set < 4294967296) (hl : n ≤ 1000000) :
    Te (set3 W (w.heap.size + 1) (.int .u8 op) (.int .u32 set) (.slice aK n cK)) (fun b => w.heap.size ≤ b ∧ b < (set3 W (w.heap.size + 1) (.int .u8 op) (.int .u32 set) (.slice aK n cK)).heap.size) (Au.turn (.mk op set kids)) (.agg #[.int .u8 op, .int .u32 set, .slice aK n cK]) := by
  obtain ⟨on, x0, x1, x2, ow, tx⟩ := h
  rw [turn_mk]
  unfold Te
  have hl2 : (Au.turns (kd op kids)).length = n := by rw [Au.turns_len, kd_len, hn]
  rw [hl2]
  refine ⟨aK, cK, rfl, own_le ow, by unfold maxLen; omega, hs0, hs1, fun hne => ?_⟩
  have h0 : 0 < n := by rw [← hl2]; exact List.length_pos_iff.2 hne
  obtain ⟨g, cap, hv, hgb, hg2, _, hc⟩ := row_form ow h0
  injection hv with e1
  rw [set3_size]
  refine ⟨g, 0, e1, ⟨by omega, hg2⟩, ?_⟩
  have hx1 := (Array.getElem?_eq_some_iff.1 x1).1
  have kp : Kp W (set3 W (w.heap.size + 1) (.int .u8 op) (.int .u32 set) (.slice aK n cK)) (fun b => w.heap.size + 1 + 1 + 1 ≤ b ∧ b < W.heap.size) := fun b hb o v hv => by
    have hne : b ≠ w.heap.size + 1 := by have := hb.1; omega
    exact (World.cell?_of_block (a := ⟨b, o, none⟩) (set3_rest hne _ _ _)).trans hv
  refine Tes.of (w := W) (F := fun b => w.heap.size + 1 + 1 + 1 ≤ b ∧ b < W.heap.size) kp (fun b hb => ⟨by omega, hb.2⟩) _ g 0 (fun i e hi => ?_)
  rw [show Au.turns (kd op kids) = (Au.turns (kd op kids)).take n by rw [← hl2, List.take_length]] at hi
  obtain ⟨o, s, k, h1, h2, h3, h4⟩ := tx i e hi
  have hil : i < n := by have := (List.getElem?_eq_some_iff.1 hi).1; rw [List.length_take] at this; omega
  have cg : ∀ j, j < n * 3 → (set3 W (w.heap.size + 1) (.int .u8 op) (.int .u32 set) (.slice aK n cK)).cell? ⟨g, j, none⟩ = xs[j]? := fun j hj => by
    have hne : g ≠ w.heap.size + 1 := by omega
    exact (World.cell?_of_block (a := ⟨g, j, none⟩) (set3_rest hne _ _ _)).trans (hc j hj)
  rw [Nat.zero_add]
  exact ⟨o, s, k, (cg _ (by omega)).trans h1, (cg _ (by omega)).trans h2, (cg _ (by omega)).trans h3, Te.keep (fun b hb o v hv => hv) (fun b hb => ⟨hb.1, hb.2.1⟩) e _ h4⟩
set_option maxRecDepth 100000 in
set_option maxHeartbeats 8000000 in
theorem rturn_step (op set : Int) (kids : List Ex) (ih : ∀ k ∈ kids, RTurn k) : RTurn (.mk op set kids) := by
  intro F v w hT hF hS
  obtain ⟨a, c, rfl, hs0, hs1, hL⟩ := hT.kids
  have HL : Hid (Lf w F kids a c) := hL
  have HF : Hid (∀ b, F b → b < w.heap.size) := hF
  have HIH : Hid (∀ k ∈ kids, RTurn k) := ih
  have HSK : Hid (∀ k ∈ kids, Small k) := hS.kids.2
  have hn5 := hS.kids.1
  obtain ⟨n, hn⟩ : ∃ n, n = kids.length := ⟨_, rfl⟩
  have HN : Hid (n = kids.length) := hn
  rw [← hn] at hn5 ⊢
  obtain ⟨ts, hts⟩ : ∃ ts, ts = Au.turns (kd op kids) := ⟨_, rfl⟩
  have HTS : Hid (ts = Au.turns (kd op kids)) := hts
  clear hT hF hS hL ih hn hts
  go_enter Try.func19, Try.ntmps19
  go_wp2_with fail
  go_loopg [4] n (fun gh v4 wr => ∃ (i : Nat) (aK : Option Addr) (cK : Nat) (xs : List Value) (W : World), W = wr ∧ gh = n - i ∧ i ≤ n ∧ v4 = .int .i64 (i : Int) ∧ Rt1 w W op set a n c i aK cK ts xs)
  case atStart => exact ⟨0, none, 0, [], _, rfl, rfl, Nat.zero_le _, rfl, Rt1.start w op set a n c ts⟩
  case round =>
    obtain ⟨i, aK, cK, xs, W, hW, rfl, hi, rfl, hr⟩ := hrel
    subst hW
    have HR : Hid (Rt1 w W op set a n c i aK cK ts xs) := hr
    have b2 := hr.x0.c2
    have b0 := hr.x0.c0
    have r2 := hr.x2.c2
    have fz2 := hr.x2.fz 2
    have s0 : w.heap.size < W.heap.size := (Array.getElem?_eq_some_iff.1 hr.x0).1
    have s2 : w.heap.size + 1 + 1 < W.heap.size := (Array.getElem?_eq_some_iff.1 hr.x2).1
    clear hr
    by_cases hlt : i < n
    · have t1 : (i : Int) < (n : Int) := by omega
      obtain ⟨kx, hkx⟩ : ∃ kx, kx = if op = 2 then n - 1 - i else i := ⟨_, rfl⟩
      have hkn : kx < n := by rw [hkx]; split <;> omega
      obtain ⟨kid, hkid⟩ : ∃ kid, kids[kx]? = some kid := ⟨_, List.getElem?_eq_getElem (by have := HN.out; omega)⟩
      have hti : ts[i]? = some (Au.turn kid) := by
        rw [HTS.out, Au.turns_map, List.getElem?_map]
        have : (kd op kids)[i]? = some kid := by
          unfold kd
          by_cases ho : op = 2
          · rw [if_pos ho]
            rw [if_pos ho] at hkx
            rw [List.getElem?_reverse (by have := HN.out; omega), ← HN.out, ← hkx]
            exact hkid
          · rw [if_neg ho]
            rw [if_neg ho] at hkx
            rw [← hkx]
            exact hkid
        rw [this]
        rfl
      have HTI : Hid (ts[i]? = some (Au.turn kid)) := hti
      obtain ⟨kb, ko, ko1, ks1, ka1, kn1, kc1, rfl, hkb, d0, d1, d2, hTk⟩ := kid_at0 HL.out HR.out.on hkid
      have hkb2 : kb < w.heap.size := by
        obtain ⟨b', off', hb', hFb, _⟩ := HL.out.2.2 (by intro e; rw [e] at hkid; simp at hkid)
        injection hb' with hb'
        injection hb' with hb'
        have := HF.out b' hFb
        omega
      have HC : Hid (∀ Wx, Only (fun _ => False) W Wx → Calls Try.prog 19 #[.agg #[.int .u8 ko1, .int .u32 ks1, .slice ka1 kn1 kc1]] Wx fun e' w' => ∃ o s a m c, e' = .returned (.agg #[.int .u8 o, .int .u32 s, .slice a m c]) ∧ Te w' (fun b => Wx.heap.size ≤ b ∧ b < w'.heap.size) (Au.turn kid) (.agg #[.int .u8 o, .int .u32 s, .slice a m c]) ∧ Only (fun _ => False) Wx w') := fun Wx hx => HIH.out kid (List.mem_of_getElem? hkid) F _ Wx (Te.keep (Kp.only hx (fun _ _ h => h)) (fun _ h => h) _ _ hTk) (fun b hb => Nat.lt_of_lt_of_le (HF.out b hb) (HR.out.on.trans hx).size) (HSK.out kid (List.mem_of_getElem? hkid))
      have HKS : Hid (∀ W', Lwr (w.heap.size + 1) W W' → (W'.cell? ⟨w.heap.size, 2, none⟩ = some (.slice (some ⟨kb, ko, none⟩) n c) ∧ W'.cell? ⟨kb, ko + kx * 3, none⟩ = some (.int .u8 ko1) ∧ W'.cell? ⟨kb, ko + kx * 3 + 1, none⟩ = some (.int .u32 ks1) ∧ W'.cell? ⟨kb, ko + kx * 3 + 2, none⟩ = some (.slice ka1 kn1 kc1))) := fun W' h => ⟨h.cell (by omega) b2, h.cell (by omega) d0, h.cell (by omega) d1, h.cell (by omega) d2⟩
      have HK2 : Hid (∀ W', Lwr (w.heap.size + 1 + 1 + 1) W W' → (W'.cell? ⟨w.heap.size + 1 + 1, 2, none⟩ = some (.slice aK i cK) ∧ W'.frozen? ⟨w.heap.size + 1 + 1, 2, none⟩ = false)) := fun W' h => ⟨h.cell (by omega) r2, (show Xb W' _ _ _ _ from (h _ (by omega)).trans HR.out.x2).fz 2⟩
      clear hti hkid hTk
      have kxn : (kx : Int) < (n : Int) := by omega
      by_cases ho : op = 2
      · subst ho
        rw [if_pos rfl] at hkx
        have ek : (n : Int) - 1 - (i : Int) = (kx : Int) := by omega
        clear hkx
        go_wp2_with fail
        have r2d : W.drew.cell? ⟨w.heap.size + 1 + 1, 2, none⟩ = some (.slice aK i cK) := r2
        have s2d : w.heap.size + 1 + 1 < W.drew.heap.size := s2
        refine wp_region_held_drew (S := fun w' => w'.cell? ⟨w.heap.size, 2, none⟩ = some (.slice (some ⟨kb, ko, none⟩) n c) ∧ w'.cell? ⟨kb, ko + kx * 3, none⟩ = some (.int .u8 ko1) ∧ w'.cell? ⟨kb, ko + kx * 3 + 1, none⟩ = some (.int .u32 ks1) ∧ w'.cell? ⟨kb, ko + kx * 3 + 2, none⟩ = some (.slice ka1 kn1 kc1)) (by kernel_rfl) (HKS.out _ (Lwr.refl _ _).drew) (fun hHeld => ?_)
        refine wpAnyH_take (i := 0) (v := Value.pointer (some ⟨w.heap.size + 1 + 1, 2, none⟩)) rfl (by kernel_rfl) (by kernel_rfl) (by kernel_rfl) (fun _ _ _ h => h) (Or.inl ⟨by rfl, fun w hSw => by first | (go_simp; done) | go_simp⟩) (by assumption) ?_
        (try simp only [Act.put, List.setIfInBounds_toArray, List.set_cons_zero, List.set_cons_succ])
        refine wpAnyH_take (i := 2) (v := Value.pointer (some ⟨w.heap.size, 2, none⟩)) rfl (by kernel_rfl) (by kernel_rfl) (by kernel_rfl) (fun _ _ _ h => h) (Or.inl ⟨by rfl, fun w hSw => by first | (go_simp; done) | go_simp⟩) (by assumption) ?_
        (try simp only [Act.put, List.setIfInBounds_toArray, List.set_cons_zero, List.set_cons_succ])
        refine wpAnyH_take (i := 3) (v := Value.slice (some ⟨kb, ko, none⟩) n c) rfl (by kernel_rfl) (by kernel_rfl) (by kernel_rfl) (fun _ _ _ h => h) (Or.inl ⟨by rfl, fun w hSw => by obtain ⟨q0, q1, q2, q3⟩ := hSw; first | (go_simp; done) | go_simp⟩) (by assumption) ?_
        (try simp only [Act.put, List.setIfInBounds_toArray, List.set_cons_zero, List.set_cons_succ])
        refine wpAnyH_take (i := 4) (v := Value.int .i64 (kx : Int)) rfl (by kernel_rfl) (by kernel_rfl) (by kernel_rfl) (fun _ _ _ h => h) (Or.inl ⟨by rfl, fun w hSw => by first | (go_simp; done) | go_simp⟩) (by assumption) ?_
        (try simp only [Act.put, List.setIfInBounds_toArray, List.set_cons_zero, List.set_cons_succ])
        refine wpAnyH_take (i := 5) (v := Value.pointer (some ⟨kb, ko + kx * 3, none⟩)) rfl (by kernel_rfl) (by kernel_rfl) (by kernel_rfl) (fun _ _ _ h => h) (Or.inl ⟨by rfl, fun w hSw => by obtain ⟨q0, q1, q2, q3⟩ := hSw; first | (go_simp; done) | go_simp⟩) (by assumption) ?_
        (try simp only [Act.put, List.setIfInBounds_toArray, List.set_cons_zero, List.set_cons_succ])
        refine wpAnyH_take (i := 6) (v := Value.agg #[.int .u8 ko1, .int .u32 ks1, .slice ka1 kn1 kc1]) rfl (by kernel_rfl) (by kernel_rfl) (by kernel_rfl) (fun _ _ _ h => h) (Or.inl ⟨by rfl, fun w hSw => by obtain ⟨q0, q1, q2, q3⟩ := hSw; first | (go_simp; done) | go_simp⟩) (by assumption) ?_
        (try simp only [Act.put, List.setIfInBounds_toArray, List.set_cons_zero, List.set_cons_succ])
        refine wpAnyH_ready (rs := [1, 7]) (by kernel_rfl) (by simp) ?_
        refine AllReadyH.cons rfl (fun K hK => ?_) (AllReadyH.cons rfl (fun K hK => ?_) AllReadyH.nil)
        · rw [if_pos (by rfl)]
          go_simp
          refine hK.out _ _ (HKS.out _ (Lwr.refl _ _).drew) (fun hHd0 => ?_)
          (try simp only [Act.put, List.setIfInBounds_toArray, List.set_cons_zero, List.set_cons_succ])
          refine wpAnyH_ready (rs := [7]) (by kernel_rfl) (by simp) ?_
          refine AllReadyH.cons rfl (fun K hK => ?_) AllReadyH.nil
          rw [if_pos (by rfl)]
          go_simp
          refine Calls.mono (HC.out _ ((Only.refl _ _).drew)) ?_
          rintro e' w5 ⟨o5, s5, a5, m5, c5, rfl, hT5, ho5⟩
          have HT5 : Hid (Te w5 (fun b => W.heap.size ≤ b ∧ b < w5.heap.size) (Au.turn kid) (.agg #[.int .u8 o5, .int .u32 s5, .slice a5 m5 c5])) := hT5
          have HO5 : Hid (Only (fun _ => False) W w5) := (Only.refl _ _).drew.trans ho5
          obtain ⟨r5, fz5⟩ := HK2.out w5 (Lwr.of HO5.out (by omega))
          have sz5 : w.heap.size + 1 + 1 < w5.heap.size := by have := HO5.out.size; omega
          clear hT5 ho5
          refine hK.out _ _ (HKS.out _ (Lwr.of HO5.out (by omega))) (fun hHd1 => ?_)
          (try simp only [Act.put, List.setIfInBounds_toArray, List.set_cons_zero, List.set_cons_succ])
          refine wpAnyH_ready (rs := [8]) (by kernel_rfl) (by simp) ?_
          refine AllReadyH.cons rfl (fun K hK => ?_) AllReadyH.nil
          rw [if_pos (by rfl)]
          go_simp
          refine hK.out _ _ (HKS.out _ ((Lwr.of HO5.out (by omega)).alloc (by have := HO5.out.size; omega) _)) (fun hHd2 => ?_)
          (try simp only [Act.put, List.setIfInBounds_toArray, List.set_cons_zero, List.set_cons_succ])
          refine wpAnyH_ready (rs := [9]) (by kernel_rfl) (by simp) ?_
          refine AllReadyH.cons rfl (fun K hK => ?_) AllReadyH.nil
          refine step_app3 (by rfl) (.tmp 29) (.tmp 36) (by rfl) (w.heap.size + 1 + 1 + 1) (.slice aK i cK) i xs (by rfl) ((own_only HR.out.ow HO5.out (fun _ _ h => h)).alloc _) ⟨w5.heap.size, 0, none⟩ [.int .u8 o5, .int .u32 s5, .slice a5 m5 c5] (by rfl) rfl (news3 w5 _ _ _ 49) (fun u hu => by simp at hu; rcases hu with rfl | rfl | rfl <;> rfl) (by omega) (by have := HO5.out.size; simp; omega) ?_
          intro g6 cap6 w6 hown6 hg6 hor6 hgb6 hgl6
          have HL6 : Hid (Lwr (w.heap.size + 1 + 1 + 1) W w6) := (((Lwr.of HO5.out (by omega)).alloc (by have := HO5.out.size; omega) _).grown hg6 (by have := HO5.out.size; simp; omega) (fun g h => (HR.out.ow.lt g h).1))
          obtain ⟨r6, fz6⟩ := HK2.out w6 HL6.out
          have sz6 : w.heap.size + 1 + 1 < w6.heap.size := by omega
          refine hK.out _ _ (HKS.out _ (HL6.out.less (by omega))) (fun hHd3 => ?_)
          (try simp only [Act.put, List.setIfInBounds_toArray, List.set_cons_zero, List.set_cons_succ])
          refine wpAnyH_take (i := 10) (v := Value.pointer (some ⟨w.heap.size + 1 + 1, 2, none⟩)) rfl (by kernel_rfl) (by kernel_rfl) (by kernel_rfl) (fun _ _ _ h => h) (Or.inl ⟨by rfl, fun w hSw => by first | (go_simp; done) | go_simp⟩) (by assumption) ?_
          (try simp only [Act.put, List.setIfInBounds_toArray, List.set_cons_zero, List.set_cons_succ])
          refine wpAnyH_ready (rs := [11]) (by kernel_rfl) (by simp) ?_
          refine AllReadyH.cons rfl (fun K hK => ?_) AllReadyH.nil
          rw [if_pos (by rfl)]
          go_simp
          refine hK.out _ _ (HKS.out _ ((HL6.out.less (by omega)).set (by show w.heap.size + 1 ≤ w.heap.size + 1 + 1; omega) _)) (fun hHd4 => ?_)
          (try simp only [Act.put, List.setIfInBounds_toArray, List.set_cons_zero, List.set_cons_succ])
          refine wpAnyH_done (by kernel_rfl) ?_ _
          clear hHd1 hHd2 hHd3 hHd4
          go_wp2_with fail
          go_roundg (n - (i + 1))
          case measure => omega
          case rel => exact ⟨i + 1, some ⟨g6, 0, none⟩, cap6, _, _, rfl, rfl, by omega, by go_num, HR.out.more HTI.out HO5.out HT5.out hown6 hg6 hor6 hgb6⟩
        · rw [if_pos (by rfl)]
          go_simp
          refine Calls.mono (HC.out _ ((Only.refl _ _).drew)) ?_
          rintro e' w5 ⟨o5, s5, a5, m5, c5, rfl, hT5, ho5⟩
          have HT5 : Hid (Te w5 (fun b => W.heap.size ≤ b ∧ b < w5.heap.size) (Au.turn kid) (.agg #[.int .u8 o5, .int .u32 s5, .slice a5 m5 c5])) := hT5
          have HO5 : Hid (Only (fun _ => False) W w5) := (Only.refl _ _).drew.trans ho5
          obtain ⟨r5, fz5⟩ := HK2.out w5 (Lwr.of HO5.out (by omega))
          have sz5 : w.heap.size + 1 + 1 < w5.heap.size := by have := HO5.out.size; omega
          clear hT5 ho5
          refine hK.out _ _ (HKS.out _ (Lwr.of HO5.out (by omega))) (fun hHd0 => ?_)
          (try simp only [Act.put, List.setIfInBounds_toArray, List.set_cons_zero, List.set_cons_succ])
          refine wpAnyH_ready (rs := [1, 8]) (by kernel_rfl) (by simp) ?_
          refine AllReadyH.cons rfl (fun K hK => ?_) (AllReadyH.cons rfl (fun K hK => ?_) AllReadyH.nil)
          · rw [if_pos (by rfl)]
            go_simp
            refine hK.out _ _ (HKS.out _ (Lwr.of HO5.out (by omega))) (fun hHd0 => ?_)
            (try simp only [Act.put, List.setIfInBounds_toArray, List.set_cons_zero, List.set_cons_succ])
            refine wpAnyH_ready (rs := [8]) (by kernel_rfl) (by simp) ?_
            refine AllReadyH.cons rfl (fun K hK => ?_) AllReadyH.nil
            rw [if_pos (by rfl)]
            go_simp
            refine hK.out _ _ (HKS.out _ ((Lwr.of HO5.out (by omega)).alloc (by have := HO5.out.size; omega) _)) (fun hHd1 => ?_)
            (try simp only [Act.put, List.setIfInBounds_toArray, List.set_cons_zero, List.set_cons_succ])
            refine wpAnyH_ready (rs := [9]) (by kernel_rfl) (by simp) ?_
            refine AllReadyH.cons rfl (fun K hK => ?_) AllReadyH.nil
            refine step_app3 (by rfl) (.tmp 29) (.tmp 36) (by rfl) (w.heap.size + 1 + 1 + 1) (.slice aK i cK) i xs (by rfl) ((own_only HR.out.ow HO5.out (fun _ _ h => h)).alloc _) ⟨w5.heap.size, 0, none⟩ [.int .u8 o5, .int .u32 s5, .slice a5 m5 c5] (by rfl) rfl (news3 w5 _ _ _ 49) (fun u hu => by simp at hu; rcases hu with rfl | rfl | rfl <;> rfl) (by omega) (by have := HO5.out.size; simp; omega) ?_
            intro g6 cap6 w6 hown6 hg6 hor6 hgb6 hgl6
            have HL6 : Hid (Lwr (w.heap.size + 1 + 1 + 1) W w6) := (((Lwr.of HO5.out (by omega)).alloc (by have := HO5.out.size; omega) _).grown hg6 (by have := HO5.out.size; simp; omega) (fun g h => (HR.out.ow.lt g h).1))
            obtain ⟨r6, fz6⟩ := HK2.out w6 HL6.out
            have sz6 : w.heap.size + 1 + 1 < w6.heap.size := by omega
            refine hK.out _ _ (HKS.out _ (HL6.out.less (by omega))) (fun hHd2 => ?_)
            (try simp only [Act.put, List.setIfInBounds_toArray, List.set_cons_zero, List.set_cons_succ])
            refine wpAnyH_take (i := 10) (v := Value.pointer (some ⟨w.heap.size + 1 + 1, 2, none⟩)) rfl (by kernel_rfl) (by kernel_rfl) (by kernel_rfl) (fun _ _ _ h => h) (Or.inl ⟨by rfl, fun w hSw => by first | (go_simp; done) | go_simp⟩) (by assumption) ?_
            (try simp only [Act.put, List.setIfInBounds_toArray, List.set_cons_zero, List.set_cons_succ])
            refine wpAnyH_ready (rs := [11]) (by kernel_rfl) (by simp) ?_
            refine AllReadyH.cons rfl (fun K hK => ?_) AllReadyH.nil
            rw [if_pos (by rfl)]
            go_simp
            refine hK.out _ _ (HKS.out _ ((HL6.out.less (by omega)).set (by show w.heap.size + 1 ≤ w.heap.size + 1 + 1; omega) _)) (fun hHd3 => ?_)
            (try simp only [Act.put, List.setIfInBounds_toArray, List.set_cons_zero, List.set_cons_succ])
            refine wpAnyH_done (by kernel_rfl) ?_ _
            clear hHd1 hHd2 hHd3
            go_wp2_with fail
            go_roundg (n - (i + 1))
            case measure => omega
            case rel => exact ⟨i + 1, some ⟨g6, 0, none⟩, cap6, _, _, rfl, rfl, by omega, by go_num, HR.out.more HTI.out HO5.out HT5.out hown6 hg6 hor6 hgb6⟩
          · rw [if_pos (by rfl)]
            go_simp
            refine hK.out _ _ (HKS.out _ ((Lwr.of HO5.out (by omega)).alloc (by have := HO5.out.size; omega) _)) (fun hHd0 => ?_)
            (try simp only [Act.put, List.setIfInBounds_toArray, List.set_cons_zero, List.set_cons_succ])
            refine wpAnyH_ready (rs := [1]) (by kernel_rfl) (by simp) ?_
            refine AllReadyH.cons rfl (fun K hK => ?_) AllReadyH.nil
            rw [if_pos (by rfl)]
            go_simp
            refine hK.out _ _ (HKS.out _ ((Lwr.of HO5.out (by omega)).alloc (by have := HO5.out.size; omega) _)) (fun hHd1 => ?_)
            (try simp only [Act.put, List.setIfInBounds_toArray, List.set_cons_zero, List.set_cons_succ])
            refine wpAnyH_ready (rs := [9]) (by kernel_rfl) (by simp) ?_
            refine AllReadyH.cons rfl (fun K hK => ?_) AllReadyH.nil
            refine step_app3 (by rfl) (.tmp 29) (.tmp 36) (by rfl) (w.heap.size + 1 + 1 + 1) (.slice aK i cK) i xs (by rfl) ((own_only HR.out.ow HO5.out (fun _ _ h => h)).alloc _) ⟨w5.heap.size, 0, none⟩ [.int .u8 o5, .int .u32 s5, .slice a5 m5 c5] (by rfl) rfl (news3 w5 _ _ _ 49) (fun u hu => by simp at hu; rcases hu with rfl | rfl | rfl <;> rfl) (by omega) (by have := HO5.out.size; simp; omega) ?_
            intro g6 cap6 w6 hown6 hg6 hor6 hgb6 hgl6
            have HL6 : Hid (Lwr (w.heap.size + 1 + 1 + 1) W w6) := (((Lwr.of HO5.out (by omega)).alloc (by have := HO5.out.size; omega) _).grown hg6 (by have := HO5.out.size; simp; omega) (fun g h => (HR.out.ow.lt g h).1))
            obtain ⟨r6, fz6⟩ := HK2.out w6 HL6.out
            have sz6 : w.heap.size + 1 + 1 < w6.heap.size := by omega
            refine hK.out _ _ (HKS.out _ (HL6.out.less (by omega))) (fun hHd2 => ?_)
            (try simp only [Act.put, List.setIfInBounds_toArray, List.set_cons_zero, List.set_cons_succ])
            refine wpAnyH_take (i := 10) (v := Value.pointer (some ⟨w.heap.size + 1 + 1, 2, none⟩)) rfl (by kernel_rfl) (by kernel_rfl) (by kernel_rfl) (fun _ _ _ h => h) (Or.inl ⟨by rfl, fun w hSw => by first | (go_simp; done) | go_simp⟩) (by assumption) ?_
            (try simp only [Act.put, List.setIfInBounds_toArray, List.set_cons_zero, List.set_cons_succ])
            refine wpAnyH_ready (rs := [11]) (by kernel_rfl) (by simp) ?_
            refine AllReadyH.cons rfl (fun K hK => ?_) AllReadyH.nil
            rw [if_pos (by rfl)]
            go_simp
            refine hK.out _ _ (HKS.out _ ((HL6.out.less (by omega)).set (by show w.heap.size + 1 ≤ w.heap.size + 1 + 1; omega) _)) (fun hHd3 => ?_)
            (try simp only [Act.put, List.setIfInBounds_toArray, List.set_cons_zero, List.set_cons_succ])
            refine wpAnyH_done (by kernel_rfl) ?_ _
            clear hHd1 hHd2 hHd3
            go_wp2_with fail
            go_roundg (n - (i + 1))
            case measure => omega
            case rel => exact ⟨i + 1, some ⟨g6, 0, none⟩, cap6, _, _, rfl, rfl, by omega, by go_num, HR.out.more HTI.out HO5.out HT5.out hown6 hg6 hor6 hgb6⟩
      · rw [if_neg ho] at hkx
        have ek : i = kx := hkx.symm
        clear hkx
        have q1 : (op == 2) = false := by simpa using ho
        have eki : (i : Int) = (kx : Int) := by omega
        clear ek
        have HEKI : Hid ((i : Int) = (kx : Int)) := eki
        clear eki
        go_wp2_with fail
        have r2d : W.drew.cell? ⟨w.heap.size + 1 + 1, 2, none⟩ = some (.slice aK i cK) := r2
        have s2d : w.heap.size + 1 + 1 < W.drew.heap.size := s2
        refine wp_region_held_drew (S := fun w' => w'.cell? ⟨w.heap.size, 2, none⟩ = some (.slice (some ⟨kb, ko, none⟩) n c) ∧ w'.cell? ⟨kb, ko + kx * 3, none⟩ = some (.int .u8 ko1) ∧ w'.cell? ⟨kb, ko + kx * 3 + 1, none⟩ = some (.int .u32 ks1) ∧ w'.cell? ⟨kb, ko + kx * 3 + 2, none⟩ = some (.slice ka1 kn1 kc1)) (by kernel_rfl) (HKS.out _ (Lwr.refl _ _).drew) (fun hHeld => ?_)
        refine wpAnyH_take (i := 0) (v := Value.pointer (some ⟨w.heap.size + 1 + 1, 2, none⟩)) rfl (by kernel_rfl) (by kernel_rfl) (by kernel_rfl) (fun _ _ _ h => h) (Or.inl ⟨by rfl, fun w hSw => by first | (go_simp; done) | go_simp⟩) (by assumption) ?_
        (try simp only [Act.put, List.setIfInBounds_toArray, List.set_cons_zero, List.set_cons_succ])
        refine wpAnyH_take (i := 2) (v := Value.pointer (some ⟨w.heap.size, 2, none⟩)) rfl (by kernel_rfl) (by kernel_rfl) (by kernel_rfl) (fun _ _ _ h => h) (Or.inl ⟨by rfl, fun w hSw => by first | (go_simp; done) | go_simp⟩) (by assumption) ?_
        (try simp only [Act.put, List.setIfInBounds_toArray, List.set_cons_zero, List.set_cons_succ])
        refine wpAnyH_take (i := 3) (v := Value.slice (some ⟨kb, ko, none⟩) n c) rfl (by kernel_rfl) (by kernel_rfl) (by kernel_rfl) (fun _ _ _ h => h) (Or.inl ⟨by rfl, fun w hSw => by obtain ⟨q0, q1, q2, q3⟩ := hSw; first | (go_simp; done) | go_simp⟩) (by assumption) ?_
        (try simp only [Act.put, List.setIfInBounds_toArray, List.set_cons_zero, List.set_cons_succ])
        refine wpAnyH_take (i := 4) (v := Value.int .i64 (kx : Int)) rfl (by kernel_rfl) (by kernel_rfl) (by kernel_rfl) (fun _ _ _ h => h) (Or.inl ⟨by rfl, fun w hSw => by first | (go_simp; done) | (go_simp; exact HEKI.out)⟩) (by assumption) ?_
        (try simp only [Act.put, List.setIfInBounds_toArray, List.set_cons_zero, List.set_cons_succ])
        refine wpAnyH_take (i := 5) (v := Value.pointer (some ⟨kb, ko + kx * 3, none⟩)) rfl (by kernel_rfl) (by kernel_rfl) (by kernel_rfl) (fun _ _ _ h => h) (Or.inl ⟨by rfl, fun w hSw => by obtain ⟨q0, q1, q2, q3⟩ := hSw; first | (go_simp; done) | go_simp⟩) (by assumption) ?_
        (try simp only [Act.put, List.setIfInBounds_toArray, List.set_cons_zero, List.set_cons_succ])
        refine wpAnyH_take (i := 6) (v := Value.agg #[.int .u8 ko1, .int .u32 ks1, .slice ka1 kn1 kc1]) rfl (by kernel_rfl) (by kernel_rfl) (by kernel_rfl) (fun _ _ _ h => h) (Or.inl ⟨by rfl, fun w hSw => by obtain ⟨q0, q1, q2, q3⟩ := hSw; first | (go_simp; done) | go_simp⟩) (by assumption) ?_
        (try simp only [Act.put, List.setIfInBounds_toArray, List.set_cons_zero, List.set_cons_succ])
        refine wpAnyH_ready (rs := [1, 7]) (by kernel_rfl) (by simp) ?_
        refine AllReadyH.cons rfl (fun K hK => ?_) (AllReadyH.cons rfl (fun K hK => ?_) AllReadyH.nil)
        · rw [if_pos (by rfl)]
          go_simp
          refine hK.out _ _ (HKS.out _ (Lwr.refl _ _).drew) (fun hHd0 => ?_)
          (try simp only [Act.put, List.setIfInBounds_toArray, List.set_cons_zero, List.set_cons_succ])
          refine wpAnyH_ready (rs := [7]) (by kernel_rfl) (by simp) ?_
          refine AllReadyH.cons rfl (fun K hK => ?_) AllReadyH.nil
          rw [if_pos (by rfl)]
          go_simp
          refine Calls.mono (HC.out _ ((Only.refl _ _).drew)) ?_
          rintro e' w5 ⟨o5, s5, a5, m5, c5, rfl, hT5, ho5⟩
          have HT5 : Hid (Te w5 (fun b => W.heap.size ≤ b ∧ b < w5.heap.size) (Au.turn kid) (.agg #[.int .u8 o5, .int .u32 s5, .slice a5 m5 c5])) := hT5
          have HO5 : Hid (Only (fun _ => False) W w5) := (Only.refl _ _).drew.trans ho5
          obtain ⟨r5, fz5⟩ := HK2.out w5 (Lwr.of HO5.out (by omega))
          have sz5 : w.heap.size + 1 + 1 < w5.heap.size := by have := HO5.out.size; omega
          clear hT5 ho5
          refine hK.out _ _ (HKS.out _ (Lwr.of HO5.out (by omega))) (fun hHd1 => ?_)
          (try simp only [Act.put, List.setIfInBounds_toArray, List.set_cons_zero, List.set_cons_succ])
          refine wpAnyH_ready (rs := [8]) (by kernel_rfl) (by simp) ?_
          refine AllReadyH.cons rfl (fun K hK => ?_) AllReadyH.nil
          rw [if_pos (by rfl)]
          go_simp
          refine hK.out _ _ (HKS.out _ ((Lwr.of HO5.out (by omega)).alloc (by have := HO5.out.size; omega) _)) (fun hHd2 => ?_)
          (try simp only [Act.put, List.setIfInBounds_toArray, List.set_cons_zero, List.set_cons_succ])
          refine wpAnyH_ready (rs := [9]) (by kernel_rfl) (by simp) ?_
          refine AllReadyH.cons rfl (fun K hK => ?_) AllReadyH.nil
          refine step_app3 (by rfl) (.tmp 29) (.tmp 36) (by rfl) (w.heap.size + 1 + 1 + 1) (.slice aK i cK) i xs (by rfl) ((own_only HR.out.ow HO5.out (fun _ _ h => h)).alloc _) ⟨w5.heap.size, 0, none⟩ [.int .u8 o5, .int .u32 s5, .slice a5 m5 c5] (by rfl) rfl (news3 w5 _ _ _ 49) (fun u hu => by simp at hu; rcases hu with rfl | rfl | rfl <;> rfl) (by omega) (by have := HO5.out.size; simp; omega) ?_
          intro g6 cap6 w6 hown6 hg6 hor6 hgb6 hgl6
          have HL6 : Hid (Lwr (w.heap.size + 1 + 1 + 1) W w6) := (((Lwr.of HO5.out (by omega)).alloc (by have := HO5.out.size; omega) _).grown hg6 (by have := HO5.out.size; simp; omega) (fun g h => (HR.out.ow.lt g h).1))
          obtain ⟨r6, fz6⟩ := HK2.out w6 HL6.out
          have sz6 : w.heap.size + 1 + 1 < w6.heap.size := by omega
          refine hK.out _ _ (HKS.out _ (HL6.out.less (by omega))) (fun hHd3 => ?_)
          (try simp only [Act.put, List.setIfInBounds_toArray, List.set_cons_zero, List.set_cons_succ])
          refine wpAnyH_take (i := 10) (v := Value.pointer (some ⟨w.heap.size + 1 + 1, 2, none⟩)) rfl (by kernel_rfl) (by kernel_rfl) (by kernel_rfl) (fun _ _ _ h => h) (Or.inl ⟨by rfl, fun w hSw => by first | (go_simp; done) | go_simp⟩) (by assumption) ?_
          (try simp only [Act.put, List.setIfInBounds_toArray, List.set_cons_zero, List.set_cons_succ])
          refine wpAnyH_ready (rs := [11]) (by kernel_rfl) (by simp) ?_
          refine AllReadyH.cons rfl (fun K hK => ?_) AllReadyH.nil
          rw [if_pos (by rfl)]
          go_simp
          refine hK.out _ _ (HKS.out _ ((HL6.out.less (by omega)).set (by show w.heap.size + 1 ≤ w.heap.size + 1 + 1; omega) _)) (fun hHd4 => ?_)
          (try simp only [Act.put, List.setIfInBounds_toArray, List.set_cons_zero, List.set_cons_succ])
          refine wpAnyH_done (by kernel_rfl) ?_ _
          clear hHd1 hHd2 hHd3 hHd4
          go_wp2_with fail
          go_roundg (n - (i + 1))
          case measure => omega
          case rel => exact ⟨i + 1, some ⟨g6, 0, none⟩, cap6, _, _, rfl, rfl, by omega, by go_num, HR.out.more HTI.out HO5.out HT5.out hown6 hg6 hor6 hgb6⟩
        · rw [if_pos (by rfl)]
          go_simp
          refine Calls.mono (HC.out _ ((Only.refl _ _).drew)) ?_
          rintro e' w5 ⟨o5, s5, a5, m5, c5, rfl, hT5, ho5⟩
          have HT5 : Hid (Te w5 (fun b => W.heap.size ≤ b ∧ b < w5.heap.size) (Au.turn kid) (.agg #[.int .u8 o5, .int .u32 s5, .slice a5 m5 c5])) := hT5
          have HO5 : Hid (Only (fun _ => False) W w5) := (Only.refl _ _).drew.trans ho5
          obtain ⟨r5, fz5⟩ := HK2.out w5 (Lwr.of HO5.out (by omega))
          have sz5 : w.heap.size + 1 + 1 < w5.heap.size := by have := HO5.out.size; omega
          clear hT5 ho5
          refine hK.out _ _ (HKS.out _ (Lwr.of HO5.out (by omega))) (fun hHd0 => ?_)
          (try simp only [Act.put, List.setIfInBounds_toArray, List.set_cons_zero, List.set_cons_succ])
          refine wpAnyH_ready (rs := [1, 8]) (by kernel_rfl) (by simp) ?_
          refine AllReadyH.cons rfl (fun K hK => ?_) (AllReadyH.cons rfl (fun K hK => ?_) AllReadyH.nil)
          · rw [if_pos (by rfl)]
            go_simp
            refine hK.out _ _ (HKS.out _ (Lwr.of HO5.out (by omega))) (fun hHd0 => ?_)
            (try simp only [Act.put, List.setIfInBounds_toArray, List.set_cons_zero, List.set_cons_succ])
            refine wpAnyH_ready (rs := [8]) (by kernel_rfl) (by simp) ?_
            refine AllReadyH.cons rfl (fun K hK => ?_) AllReadyH.nil
            rw [if_pos (by rfl)]
            go_simp
            refine hK.out _ _ (HKS.out _ ((Lwr.of HO5.out (by omega)).alloc (by have := HO5.out.size; omega) _)) (fun hHd1 => ?_)
            (try simp only [Act.put, List.setIfInBounds_toArray, List.set_cons_zero, List.set_cons_succ])
            refine wpAnyH_ready (rs := [9]) (by kernel_rfl) (by simp) ?_
            refine AllReadyH.cons rfl (fun K hK => ?_) AllReadyH.nil
            refine step_app3 (by rfl) (.tmp 29) (.tmp 36) (by rfl) (w.heap.size + 1 + 1 + 1) (.slice aK i cK) i xs (by rfl) ((own_only HR.out.ow HO5.out (fun _ _ h => h)).alloc _) ⟨w5.heap.size, 0, none⟩ [.int .u8 o5, .int .u32 s5, .slice a5 m5 c5] (by rfl) rfl (news3 w5 _ _ _ 49) (fun u hu => by simp at hu; rcases hu with rfl | rfl | rfl <;> rfl) (by omega) (by have := HO5.out.size; simp; omega) ?_
            intro g6 cap6 w6 hown6 hg6 hor6 hgb6 hgl6
            have HL6 : Hid (Lwr (w.heap.size + 1 + 1 + 1) W w6) := (((Lwr.of HO5.out (by omega)).alloc (by have := HO5.out.size; omega) _).grown hg6 (by have := HO5.out.size; simp; omega) (fun g h => (HR.out.ow.lt g h).1))
            obtain ⟨r6, fz6⟩ := HK2.out w6 HL6.out
            have sz6 : w.heap.size + 1 + 1 < w6.heap.size := by omega
            refine hK.out _ _ (HKS.out _ (HL6.out.less (by omega))) (fun hHd2 => ?_)
            (try simp only [Act.put, List.setIfInBounds_toArray, List.set_cons_zero, List.set_cons_succ])
            refine wpAnyH_take (i := 10) (v := Value.pointer (some ⟨w.heap.size + 1 + 1, 2, none⟩)) rfl (by kernel_rfl) (by kernel_rfl) (by kernel_rfl) (fun _ _ _ h => h) (Or.inl ⟨by rfl, fun w hSw => by first | (go_simp; done) | go_simp⟩) (by assumption) ?_
            (try simp only [Act.put, List.setIfInBounds_toArray, List.set_cons_zero, List.set_cons_succ])
            refine wpAnyH_ready (rs := [11]) (by kernel_rfl) (by simp) ?_
            refine AllReadyH.cons rfl (fun K hK => ?_) AllReadyH.nil
            rw [if_pos (by rfl)]
            go_simp
            refine hK.out _ _ (HKS.out _ ((HL6.out.less (by omega)).set (by show w.heap.size + 1 ≤ w.heap.size + 1 + 1; omega) _)) (fun hHd3 => ?_)
            (try simp only [Act.put, List.setIfInBounds_toArray, List.set_cons_zero, List.set_cons_succ])
            refine wpAnyH_done (by kernel_rfl) ?_ _
            clear hHd1 hHd2 hHd3
            go_wp2_with fail
            go_roundg (n - (i + 1))
            case measure => omega
            case rel => exact ⟨i + 1, some ⟨g6, 0, none⟩, cap6, _, _, rfl, rfl, by omega, by go_num, HR.out.more HTI.out HO5.out HT5.out hown6 hg6 hor6 hgb6⟩
          · rw [if_pos (by rfl)]
            go_simp
            refine hK.out _ _ (HKS.out _ ((Lwr.of HO5.out (by omega)).alloc (by have := HO5.out.size; omega) _)) (fun hHd0 => ?_)
            (try simp only [Act.put, List.setIfInBounds_toArray, List.set_cons_zero, List.set_cons_succ])
            refine wpAnyH_ready (rs := [1]) (by kernel_rfl) (by simp) ?_
            refine AllReadyH.cons rfl (fun K hK => ?_) AllReadyH.nil
            rw [if_pos (by rfl)]
            go_simp
            refine hK.out _ _ (HKS.out _ ((Lwr.of HO5.out (by omega)).alloc (by have := HO5.out.size; omega) _)) (fun hHd1 => ?_)
            (try simp only [Act.put, List.setIfInBounds_toArray, List.set_cons_zero, List.set_cons_succ])
            refine wpAnyH_ready (rs := [9]) (by kernel_rfl) (by simp) ?_
            refine AllReadyH.cons rfl (fun K hK => ?_) AllReadyH.nil
            refine step_app3 (by rfl) (.tmp 29) (.tmp 36) (by rfl) (w.heap.size + 1 + 1 + 1) (.slice aK i cK) i xs (by rfl) ((own_only HR.out.ow HO5.out (fun _ _ h => h)).alloc _) ⟨w5.heap.size, 0, none⟩ [.int .u8 o5, .int .u32 s5, .slice a5 m5 c5] (by rfl) rfl (news3 w5 _ _ _ 49) (fun u hu => by simp at hu; rcases hu with rfl | rfl | rfl <;> rfl) (by omega) (by have := HO5.out.size; simp; omega) ?_
            intro g6 cap6 w6 hown6 hg6 hor6 hgb6 hgl6
            have HL6 : Hid (Lwr (w.heap.size + 1 + 1 + 1) W w6) := (((Lwr.of HO5.out (by omega)).alloc (by have := HO5.out.size; omega) _).grown hg6 (by have := HO5.out.size; simp; omega) (fun g h => (HR.out.ow.lt g h).1))
            obtain ⟨r6, fz6⟩ := HK2.out w6 HL6.out
            have sz6 : w.heap.size + 1 + 1 < w6.heap.size := by omega
            refine hK.out _ _ (HKS.out _ (HL6.out.less (by omega))) (fun hHd2 => ?_)
            (try simp only [Act.put, List.setIfInBounds_toArray, List.set_cons_zero, List.set_cons_succ])
            refine wpAnyH_take (i := 10) (v := Value.pointer (some ⟨w.heap.size + 1 + 1, 2, none⟩)) rfl (by kernel_rfl) (by kernel_rfl) (by kernel_rfl) (fun _ _ _ h => h) (Or.inl ⟨by rfl, fun w hSw => by first | (go_simp; done) | go_simp⟩) (by assumption) ?_
            (try simp only [Act.put, List.setIfInBounds_toArray, List.set_cons_zero, List.set_cons_succ])
            refine wpAnyH_ready (rs := [11]) (by kernel_rfl) (by simp) ?_
            refine AllReadyH.cons rfl (fun K hK => ?_) AllReadyH.nil
            rw [if_pos (by rfl)]
            go_simp
            refine hK.out _ _ (HKS.out _ ((HL6.out.less (by omega)).set (by show w.heap.size + 1 ≤ w.heap.size + 1 + 1; omega) _)) (fun hHd3 => ?_)
            (try simp only [Act.put, List.setIfInBounds_toArray, List.set_cons_zero, List.set_cons_succ])
            refine wpAnyH_done (by kernel_rfl) ?_ _
            clear hHd1 hHd2 hHd3
            go_wp2_with fail
            go_roundg (n - (i + 1))
            case measure => omega
            case rel => exact ⟨i + 1, some ⟨g6, 0, none⟩, cap6, _, _, rfl, rfl, by omega, by go_num, HR.out.more HTI.out HO5.out HT5.out hown6 hg6 hor6 hgb6⟩
    · have t2 : decide ((i : Int) < (n : Int)) = false := decide_eq_false (by omega)
      obtain rfl : n = i := by omega
      have HX1 : Hid (Xb W (w.heap.size + 1) (.int .u8 0) (.int .u32 0) (.slice none 0 0)) := HR.out.x1
      have r0 := HR.out.x2.c0
      have r1 := HR.out.x2.c1
      have x0 := HX1.out.c0
      have x1 := HX1.out.c1
      have x2 := HX1.out.c2
      have f0 := HX1.out.fz 0
      have f1 := HX1.out.fz 1
      have f2 := HX1.out.fz 2
      have l1 : w.heap.size + 1 < W.heap.size := by omega
      go_wp2_with fail
      refine bodyPost_ret (v := .agg #[.int .u8 op, .int .u32 set, .slice aK n cK]) (results_x rfl _ rfl (HX1.out.set3 _ _ _)) rfl ?_
      have hR := HR.out
      rw [HTS.out] at hR
      exact ⟨op, set, aK, n, cK, rfl, hR.done HN.out hs0 hs1 (by omega), set3_only HR.out.on (Nat.le_succ _) _ _ _⟩
theorem rturn_any : ∀ e : Ex, RTurn e := by
  intro e
  apply Ex.rec (motive_1 := fun e => RTurn e) (motive_2 := fun es => ∀ k ∈ es, RTurn k)
  · intro op set kids ih
    exact rturn_step op set kids ih
  · intro k hk
    cases hk
  · intro e es he hs k hk
    rcases List.mem_cons.1 hk with rfl | hk
    · exact he
    · exact hs k hk
end Go.Proofs.Ytfbcijnacbfjpaa
