/-
  slices.Concat, bytes.Clone; edit.Check and the document's.
-/
import Derived.Test.YtmhnghkodneodaaUa
namespace Go.Proofs.Ytmhnghkodneodaa
open Go.RowKit Go.Maps
set_option linter.unusedVariables false
set_option linter.unusedSimpArgs false
theorem flat_next {Ls : List (List Nat)} {i : Nat} {L : List Nat} (h : Ls[i]? = some L) : (Ls.take (i + 1)).flatten = (Ls.take i).flatten ++ L := by
  rw [take_snoc h, List.flatten_append]
  simp
theorem flat_le {Ls : List (List Nat)} (i : Nat) : (Ls.take i).flatten.length ≤ Ls.flatten.length := by
  have h := congrArg (fun (x : List (List Nat)) => x.flatten.length) (List.take_append_drop i Ls)
  simp only [List.flatten_append, List.length_append] at h
  omega
set_option maxRecDepth 100000 in
set_option maxHeartbeats 4000000 in
theorem concat_any (Ls : List (List Nat)) (q N R cR : Nat) (w : World) (hq : q = Ls.length) (hN : N = Ls.flatten.length) (hR : ∀ i L, Ls[i]? = some L → ∃ a c, w.cell? ⟨R, i, none⟩ = some (.slice a L.length c) ∧ Vw w a (u8s L)) (hlR : R < w.heap.size) (hs : N ≤ 1000000) (hq2 : q ≤ 1000) :
    Calls Try.prog 16 #[.slice (some ⟨R, 0, none⟩) q cR] w fun e w' => ∃ a c, e = .returned (.slice a N c) ∧ w'.ownsRow w.heap.size 5 1 (.slice a N c) N (u8s Ls.flatten) ∧ Only (fun _ => False) w w' := by
  have HR : Hid (∀ W, Only (fun _ => False) w W → ∀ i, i < q → ∃ a c L, Ls[i]? = some L ∧ W.cell? ⟨R, i, none⟩ = some (.slice a L.length c) ∧ Vw W a (u8s L)) := fun W ho i hi => by
    obtain ⟨L, hL⟩ : ∃ L, Ls[i]? = some L := ⟨_, List.getElem?_eq_getElem (by rw [← hq]; exact hi)⟩
    obtain ⟨a, c, h1, h2⟩ := hR i L hL
    exact ⟨a, c, L, hL, keep0 ho h1, h2.keep ho⟩
  have HN : Hid (q = Ls.length ∧ N = Ls.flatten.length ∧ Ls.take q = Ls) := ⟨hq, hN, by rw [hq]; exact List.take_length⟩
  have HL : Hid (∀ i, (Ls.take i).flatten.length ≤ N) := fun i => by rw [hN]; exact flat_le i
  have HG : Hid (∀ W, Calls Try.prog 18 #[.slice none 0 0, .int .i64 (N : Int)] W fun e w' => ∃ a c, e = .returned (.slice a 0 c) ∧ w'.ownsRow W.heap.size 5 1 (.slice a 0 c) 0 (u8s []) ∧ Only (fun _ => False) W w') := fun W => grow_any N W hs
  clear hq hN hR
  go_enter Try.func16, Try.ntmps16
  go_wp2_with fail
  go_loopg [3, 5, 11] q (fun gh v3 v5 v11 wr => ∃ (i s : Nat), w = wr ∧ gh = q - i ∧ i ≤ q ∧ v3 = .int .i64 (s : Int) ∧ s = (Ls.take i).flatten.length ∧ v11 = .int .i64 (i : Int))
  case atStart => exact ⟨0, 0, rfl, rfl, Nat.zero_le _, rfl, rfl, rfl⟩
  case round =>
    obtain ⟨i, s, hW, rfl, hi, rfl, hs2, rfl⟩ := hrel
    subst hW
    have HS : Hid (s = (Ls.take i).flatten.length) := hs2
    have hs3 : s ≤ N := by rw [hs2]; exact HL.out i
    clear hs2
    by_cases hlt : i < q
    · have t1 : (i : Int) < (q : Int) := by omega
      obtain ⟨a, c, L, hL, hc, hV⟩ := HR.out w (Only.refl _ _) i hlt
      obtain ⟨m, hm⟩ : ∃ m, m = L.length := ⟨_, rfl⟩
      rw [← hm] at hc
      obtain ⟨s2, hs2⟩ : ∃ x, x = s + m := ⟨_, rfl⟩
      have HX : Hid (s2 = (Ls.take (i + 1)).flatten.length) := by rw [flat_next hL, List.length_append, ← HS.out, ← hm]; exact hs2
      have hs4 : s2 ≤ N := by rw [HX.out]; exact HL.out _
      have m1 : IntKind.i64.wrap ((s : Int) + (m : Int)) = (s2 : Int) := by rw [IntKind.wrap_i64]; omega
      have d1 : decide ((s2 : Int) < 0) = false := decide_eq_false (by omega)
      clear hs2 hm hL hV
      go_wp2_with fail
      go_roundg (q - (i + 1))
      case measure => omega
      case rel => exact ⟨i + 1, s2, rfl, rfl, by omega, rfl, HX.out, by go_num⟩
    · have t1 : decide ((i : Int) < (q : Int)) = false := decide_eq_false (by omega)
      have hiq : i = q := by omega
      subst hiq
      have hsN : s = N := by
        have h := HS.out
        rw [HN.out.2.2, ← HN.out.2.1] at h
        exact h
      subst hsN
      clear HS
      go_wp2_with fail
      refine Calls.mono (HG.out _) ?_
      rintro e w2 ⟨a2, c2, rfl, hown2, ho2⟩
      have H2 : Hid (w2.ownsRow w.heap.size 5 1 (.slice a2 0 c2) 0 (u8s []) ∧ Only (fun g => w.heap.size ≤ g) w w2) := ⟨hown2, ho2.mono (fun _ h => h.elim)⟩
      clear hown2 ho2
      go_wp2_with fail
      go_loopg [6, 8, 27] i (fun gh v6 v8 v27 wr => ∃ (k s : Nat) (al : Option Addr) (c : Nat) (W : World), W = wr ∧ gh = i - k ∧ k ≤ i ∧ v6 = .slice al s c ∧ s = (Ls.take k).flatten.length ∧ v27 = .int .i64 (k : Int) ∧ W.ownsRow w.heap.size 5 1 (.slice al s c) s (u8s (Ls.take k).flatten) ∧ Only (fun g => w.heap.size ≤ g) w W)
      case atStart => exact ⟨0, 0, _, _, _, rfl, rfl, Nat.zero_le _, rfl, rfl, rfl, H2.out.1, H2.out.2⟩
      case round =>
        obtain ⟨k, s', al, c, W, hW, rfl, hk, rfl, hs2, rfl, hown, hoW⟩ := hrel
        subst hW
        have HW : Hid (s' = (Ls.take k).flatten.length ∧ W.ownsRow w.heap.size 5 1 (.slice al s' c) s' (u8s (Ls.take k).flatten) ∧ Only (fun g => w.heap.size ≤ g) w W ∧ Only (fun _ => False) w W) := ⟨hs2, hown, hoW, hoW.old (fun g hg => Or.inl hg)⟩
        have hs3 : s' ≤ s := by rw [hs2]; exact HL.out k
        have hsz := hoW.size
        clear hs2 hown hoW
        by_cases hlk : k < i
        · have t2 : (k : Int) < (i : Int) := by omega
          obtain ⟨a, c', L, hL, hc, hV⟩ := HR.out W HW.out.2.2.2 k hlk
          obtain ⟨m, hm⟩ : ∃ m, m = L.length := ⟨_, rfl⟩
          rw [← hm] at hc
          obtain ⟨s2, hs2⟩ : ∃ x, x = s' + m := ⟨_, rfl⟩
          have HX : Hid (s2 = (Ls.take (k + 1)).flatten.length ∧ (Ls.take (k + 1)).flatten = (Ls.take k).flatten ++ L ∧ m = L.length ∧ Vw W a (u8s L) ∧ s' + m = s2) := ⟨by rw [flat_next hL, List.length_append, ← HW.out.1, ← hm]; exact hs2, flat_next hL, hm, hV, hs2.symm⟩
          have hs4 : s2 ≤ s := by rw [HX.out.1]; exact HL.out _
          have hlRW : R < W.heap.size := by omega
          clear hs2 hm hL hV
          go_wp2_with (at_builtin; (refine wpList_appY rfl _ _ rfl w.heap.size hsz al s' c (Ls.take k).flatten rfl HW.out.2.1 a m c' L rfl HX.out.2.2.1 HX.out.2.2.2.1 s2 HX.out.2.2.2.2 (by omega) ?_; intro a5 c5 w5 hown5 ho5; have H5 : Hid (w5.ownsRow w.heap.size 5 1 (.slice a5 s2 c5) s2 (u8s (Ls.take (k + 1)).flatten) ∧ Only (fun g => w.heap.size ≤ g) w w5) := ⟨by rw [HX.out.2.1]; exact hown5, appY_only HW.out.2.1 ho5 HW.out.2.2.1⟩; clear hown5 ho5))
          go_roundg (i - (k + 1))
          case measure => omega
          case rel => exact ⟨k + 1, s2, _, _, _, rfl, rfl, by omega, rfl, HX.out.1, by go_num, H5.out.1, H5.out.2⟩
        · have t2 : decide ((k : Int) < (i : Int)) = false := decide_eq_false (by omega)
          have hki : k = i := by omega
          have HZ : Hid (s' = s ∧ Only (fun _ => False) w W ∧ W.ownsRow w.heap.size 5 1 (.slice al s' c) s' (u8s Ls.flatten)) := by
            have h1 := HW.out
            rw [hki, HN.out.2.2] at h1
            exact ⟨h1.1.trans HN.out.2.1.symm, h1.2.2.2, h1.2.1⟩
          clear HW hki
          go_wp2_with fail
          go_ret
          obtain ⟨rfl, h1, h2⟩ := HZ.out
          exact ⟨al, c, rfl, h2, h1⟩
set_option maxRecDepth 100000 in
set_option maxHeartbeats 4000000 in
theorem clone_any (L : List Nat) (n c : Nat) (a : Option Addr) (w : World) (hn : n = L.length) (hV : Vw w a (u8s L)) (hnil : a = none → n = 0 ∧ c = 0) (hs : n ≤ 1000000) :
    Calls Try.prog 17 #[.slice a n c] w fun e w' => ∃ a' c', e = .returned (.slice a' n c') ∧ w'.ownsRow w.heap.size 5 1 (.slice a' n c') n (u8s L) ∧ Only (fun _ => False) w w' := by
  cases a with
  | none =>
    obtain ⟨rfl, rfl⟩ := hnil rfl
    obtain rfl : L = [] := List.eq_nil_of_length_eq_zero hn.symm
    clear hn hV hnil
    have hq : ∀ W, (binOp .eql 22 (.slice none 0 0) (.slice none 0 0)).run Try.prog W = .ok (.bool true) W := fun W => Lib.run_eql_slice_nil W 22 5 none 0 0 0 0 Try.underlying22
    go_enter Try.func17, Try.ntmps17
    go_wp2_with fail
    go_ret
    exact ⟨none, 0, rfl, own_nilY _ _, Only.refl _ _⟩
  | some y =>
    have HV : Hid (Vw (w.alloc (.cells #[] 5)) (some y) (u8s L) ∧ n = L.length) := ⟨hV.keep ((Only.refl _ _).alloc _), hn⟩
    have hsz := size_alloc1 w (.cells #[] 5)
    have HE : Hid ((w.alloc (.cells #[] 5)).ownsRow w.heap.size 5 1 (.slice (some ⟨w.heap.size, 0, none⟩) 0 0) 0 (u8s [])) := own_e0Y (heap_alloc_new w _) (Nat.le_refl _)
    have hq : ∀ W, (binOp .eql 22 (.slice (some y) n c) (.slice none 0 0)).run Try.prog W = .ok (.bool false) W := fun W => Lib.run_eql_slice_nil W 22 5 (some y) n c 0 0 Try.underlying22
    clear hV hnil hn
    go_enter Try.func17, Try.ntmps17
    go_wp2_with (at_builtin; (refine wpList_appY rfl _ _ rfl w.heap.size (by simp) _ 0 0 [] rfl HE.out (some y) n c L rfl HV.out.2 HV.out.1 n (Nat.zero_add n) hs ?_; intro a5 c5 w5 hown5 ho5; have H5 : Hid (w5.ownsRow w.heap.size 5 1 (.slice a5 n c5) n (u8s L) ∧ Only (fun g => w.heap.size ≤ g) w w5) := ⟨hown5, appY_only HE.out ho5 ((Only.refl _ _).alloc _)⟩; clear hown5 ho5))
    go_ret
    exact ⟨_, _, rfl, H5.out.1, H5.out.2.old (fun g hg => Or.inl hg)⟩
end Go.Proofs.Ytmhnghkodneodaa
