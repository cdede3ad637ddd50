/-
  stanzalaw12.RatioOf: its walk.
-/
import Derived.Test.YtihdfoigobijjaaEd
namespace Go.Proofs.Ytihdfoigobijjaa
open Go.RowKit Go.Maps
set_option linter.unusedVariables false
set_option linter.unusedSimpArgs false
theorem info22 : (Try.prog.info? 22).map (fun i => (i.zero, i.size, i.bytes)) = some (some (.float .f64 0), 1, 8) := by kernel_rfl
theorem fls_one (L : List Nat) : ∀ u ∈ fls L, u.oneCell' = true := by
  intro u hu
  unfold fls at hu
  obtain ⟨x, _, rfl⟩ := List.mem_map.1 hu
  rfl
theorem fls_app (L M : List Nat) : fls (L ++ M) = fls L ++ fls M := by simp [fls]
theorem news_fl (w : World) (M : List Nat) : ∀ (j : Nat) (u : Value), (fls M)[j]? = some u → (w.alloc (.cells (fls M).toArray 22)).cell? ((⟨w.heap.size, 0, none⟩ : Addr).add j) = some u := World.news_of_block (cs := (fls M).toArray) (heap_alloc_new w _)
/-- the edges, and what was put behind them. -/
theorem app_post {w2 w3 w5 : World} {g g5 cap m : Nat} {M : List Nat} (ho : Only (fun _ => False) w2 w3) (h : w3.ownsRow w2.heap.size 22 1 (.slice (some ⟨g, 0, none⟩) 23 23) 23 (fls eL)) (hown : w5.ownsRow w2.heap.size 22 1 (.slice (some ⟨g5, 0, none⟩) (23 + m) cap) (23 + m) (fls eL ++ fls M)) (hg : (w3.alloc (.cells (fls M).toArray 22)).grownBy w5 (Value.slice (some ⟨g, 0, none⟩) 23 23).ownBlock) :
    Vw w5 (some ⟨g5, 0, none⟩) (fls (eL ++ M)) ∧ Only (fun _ => False) w2 w5 := by
  refine ⟨by rw [fls_app]; exact own_vw hown, grow_only (ho.alloc _) (own_own h rfl).1 hg⟩
namespace ratioOf
set_option maxRecDepth 100000 in
set_option maxHeartbeats 4000000 in
theorem walk (room gaps : Int) (most : Nat) (h0 : -9223372036854775808 ≤ room ∧ room ≤ 9223372036854775807) (h1 : -9223372036854775808 ≤ gaps ∧ gaps ≤ 9223372036854775807) (hm : most < 18446744073709551616) (w : World) : Calls Try.prog 3 #[.int .i64 room, .int .i64 gaps, .float .f64 most] w fun e w' => e = .returned (.bool true) ∧ Only (fun _ => False) w w' := by
  obtain ⟨i22, g22, g220, g221, g222⟩ := info_parts info22
  have HA : Hid (∀ w, Calls Try.prog 10 #[] w fun e w' => e = .returned (.bool true) ∧ Fl.Dr w w') := awake_any
  have HO : Hid (∀ w, Calls Try.prog 11 #[.int .i64 room, .int .i64 gaps] w (Fl.P (Fl.ofN room gaps) w)) := of_any room gaps
  have HR : Hid (∀ w, Calls Try.prog 15 #[.int .i64 room, .int .i64 gaps] w (Fl.P (Fl.ofN room gaps) w)) := refOf_any room gaps
  have HE : Hid (∀ w, Calls Try.prog 12 #[] w (edP w)) := edges_any
  have HM : Hid (most < 18446744073709551616) := hm
  clear hm h0 h1
  go_enter Try.func3, Try.ntmps3
  go_wp2_with fail
  refine Calls.mono (HA.out _) ?_
  rintro e w1 ⟨rfl, d1⟩
  have O1 : Hid (Only (fun _ => False) w w1) := d1.only
  clear d1
  go_wp2_with fail
  refine Calls.mono (HO.out _) ?_
  rintro e w2 ⟨r, rfl, hr, hs, d2⟩
  have O2 : Hid (Only (fun _ => False) w w2) := O1.out.trans d2.only
  have RR : Hid (r < 18446744073709551616 ∧ Fl.Sm r (Fl.ofN room gaps)) := ⟨hr, hs⟩
  clear hr hs d2
  go_wp2_with fail
  refine Calls.mono (HE.out _) ?_
  rintro e w3 ⟨g, rfl, hw3, ho3⟩
  have E3 : Hid (w3.ownsRow w2.heap.size 22 1 (.slice (some ⟨g, 0, none⟩) 23 23) 23 (fls eL) ∧ Only (fun _ => False) w2 w3) := ⟨hw3, ho3⟩
  have sz : w2.heap.size ≤ w3.heap.size := ho3.size
  clear hw3 ho3
  have HS : (w3.alloc (.cells #[.float .f64 most, .float .f64 r] 22)).heap.size = w3.heap.size + 1 := by simp
  go_wp2_with (at_builtin; (refine wpList_append_lies _ rfl _ _ 25 rfl w2.heap.size 22 i22 (.float .f64 0) 1 8 Try.underlying25 g22 g220 g221 g222 rfl (by decide) (.slice (some ⟨g, 0, none⟩) 23 23) 23 (fls eL) rfl (E3.out.1.alloc _) ⟨w3.heap.size, 0, none⟩ 2 2 (fls [most, r]) rfl rfl (news_fl w3 [most, r]) (fls_one _) (by decide) (by decide) (by decide) (by rw [HS]; omega) (w3.heap.size + 1) HS ?_; intro g5 cap5 w5 hown5 hgrow5 hat5 hlt5; have H5 : Hid (Vw w5 (some ⟨g5, 0, none⟩) (fls (eL ++ [most, r])) ∧ Only (fun _ => False) w2 w5) := app_post E3.out.2 E3.out.1 hown5 hgrow5; clear hown5 hgrow5 hat5 hlt5))
  have HW : Hid (Wds (eL ++ [most, r])) := by
    intro x hx
    rcases List.mem_append.1 hx with h | h
    · exact eL_wds x h
    · simp at h
      rcases h with rfl | rfl
      · exact HM.out
      · exact RR.out.1
  have HL : Hid ((eL ++ [most, r]).length = 25) := rfl
  obtain ⟨Q, hQ⟩ : ∃ Q, Q = eL ++ [most, r] := ⟨_, rfl⟩
  rw [← hQ] at H5 HW HL
  clear hQ HS sz
  go_loopg [21] 25 (fun gh v wr => ∃ (k m : Nat), gh = 25 - k ∧ k ≤ 25 ∧ v = .int .i64 (k : Int) ∧ wr = w5.drewN m)
  case atStart => exact ⟨0, 0, rfl, Nat.zero_le _, rfl, rfl⟩
  case round =>
    obtain ⟨k, m, rfl, hk, rfl, rfl⟩ := hrel
    by_cases hlt : k < 25
    · have t1 : (k : Int) < 25 := by omega
      obtain ⟨x, hx⟩ := get_some HL.out.symm hlt
      obtain ⟨b, off, e5, hc⟩ := H5.out.1.fl hx
      have e6 : b = g5 ∧ off = 0 := by injection e5 with h; injection h with h1 h2; exact ⟨h1.symm, h2.symm⟩
      obtain ⟨rfl, rfl⟩ := e6
      rw [Nat.zero_add] at hc
      have HF : Hid (∀ w, Calls Try.prog 13 #[.float .f64 r, .float .f64 x] w fun e w' => e = .returned (.bool (!(FloatKind.f64.format.order r x == some .gt))) ∧ w = w') := fits_any r x
      clear e5 hx
      cases hb : (FloatKind.f64.format.order r x == some .gt)
      · rw [hb] at HF
        go_wp2_with fail
        refine Calls.mono (HF.out _) ?_
        rintro e z ⟨rfl, rfl⟩
        go_wp2_with fail
        go_roundg (25 - (k + 1))
        case measure => omega
        case rel => exact ⟨k + 1, m, rfl, hlt, by go_num, rfl⟩
      · rw [hb] at HF
        go_wp2_with fail
        refine Calls.mono (HF.out _) ?_
        rintro e z ⟨rfl, rfl⟩
        go_wp2_with fail
        go_roundg (25 - (k + 1))
        case measure => omega
        case rel => exact ⟨k + 1, m, rfl, hlt, by go_num, rfl⟩
    · have t2 : decide ((k : Int) < 25) = false := decide_eq_false (by omega)
      go_wp2_with fail
      refine Calls.mono (HR.out _) ?_
      rintro e w7 ⟨q, rfl, hq, hs, d7⟩
      have HSA : Hid (∀ w, Calls Try.prog 14 #[.float .f64 r, .float .f64 q] w fun e w' => e = .returned (.bool true) ∧ ∃ n, w' = w.drewN n) := by
        have := same_any r q RR.out.1 hq
        rw [Fl.sm_of (RR.out.2.trans hs.symm)] at this
        exact this
      have O7 : Hid (Only (fun _ => False) w w7) := (O2.out.trans (H5.out.2.drewN m)).trans d7.only
      clear hq hs d7
      go_wp2_with fail
      refine Calls.mono (HSA.out _) ?_
      rintro e w8 ⟨rfl, n8, rfl⟩
      go_wp2_with fail
      go_ret
      exact ⟨rfl, O7.out.drewN n8⟩
end ratioOf
end Go.Proofs.Ytihdfoigobijjaa
