/-
  stanzalaw14.FirstRest: its walk.
-/
import Derived.Test.YtjahocnkpomlpaaAw
import Derived.Test.YtjahocnkpomlpaaPc
import Derived.Test.YtjahocnkpomlpaaFe
import Derived.Test.YtjahocnkpomlpaaAp
namespace Go.Proofs.Ytjahocnkpomlpaa.firstRest
open Go.RowKit Go.Maps
set_option linter.unusedVariables false
set_option linter.unusedSimpArgs false
theorem lnC_drop : ∀ (S : List Ln) (x : Nat), lnC (S.drop x) = (lnC S).drop (x * 4)
  | [], x => by simp [lnC]
  | c :: S, 0 => by simp
  | c :: S, x + 1 => by
    rw [List.drop_succ_cons, lnC_drop S x, show (x + 1) * 4 = x * 4 + 4 by omega]
    rfl
theorem Vw.lnDrop {w : World} {b off : Nat} {S : List Ln} (h : Vw w (some ⟨b, off, none⟩) (lnC S)) (x : Nat) : Vw w (some ⟨b, off + x * 4, none⟩) (lnC (S.drop x)) := by
  rw [lnC_drop]
  rcases h with h | ⟨b', off', e, hc⟩
  · exact Or.inl (by rw [h]; simp)
  · injection e with e
    injection e with e1 e2
    subst e1 e2
    refine Or.inr ⟨b, off + x * 4, rfl, fun j u hj => ?_⟩
    rw [List.getElem?_drop] at hj
    rw [Nat.add_assoc]
    exact hc _ _ hj
set_option maxRecDepth 100000 in
set_option maxHeartbeats 8000000 in
theorem walk1 (L : List Bt) (hIH : Hid (∀ (L' : List Bt) (a' : Option Addr) (c' : Nat) (K' : Wy) (w' : World), L'.length < L.length → L'.length ≤ c' → Vw w' a' (btC L') → (∀ b ∈ L', b.cells < 256 ∧ b.kind < 256 ∧ b.len < 256 ∧ b.opp < 256) → K'.Ok → Calls Try.prog 6 #[.slice a' L'.length c', K'.val] w' fun e w2 => e = .returned (.bool true) ∧ Only (fun _ => False) w' w2)) (a0 : Option Addr) (c0 : Nat) (K : Wy) (w : World) (hcap : L.length ≤ c0) (hV : Vw w a0 (btC L)) (hB : ∀ b ∈ L, b.cells < 256 ∧ b.kind < 256 ∧ b.len < 256 ∧ b.opp < 256) (h5 : L.length ≤ 200) (hK : K.Ok) :
    Calls Try.prog 6 #[.slice a0 L.length c0, K.val] w fun e w' => e = .returned (.bool true) ∧ Only (fun _ => False) w w' := by
  obtain ⟨wi, tb, mo, hy, pr, lo⟩ := K
  obtain ⟨W1, hW1⟩ : ∃ x, x = 1 + wi := ⟨_, rfl⟩
  obtain ⟨T1, hT1⟩ : ∃ x, x = 1 + tb % 64 := ⟨_, rfl⟩
  obtain ⟨M1, hM1⟩ : ∃ x, x = mo % 2 := ⟨_, rfl⟩
  have HCF : Hid (∀ W, Calls Try.prog 10 #[.agg #[.int .u8 (wi : Int), .int .u8 (tb : Int), .int .u8 (mo : Int), .int .u16 (hy : Int), .int .u16 (pr : Int), .float .f64 lo]] W fun e w' => e = .returned (.agg #[.int .i64 (W1 : Int), .int .i64 (T1 : Int), .int .u8 (M1 : Int), .int .i64 (hy : Int), .int .i64 (pr : Int), .float .f64 lo]) ∧ Only (fun _ => False) W w') := fun W => by
    rw [hW1, hT1, hM1]
    exact config_any ⟨wi, tb, mo, hy, pr, lo⟩ W hK
  have HRC : Hid (∀ (L' : List Bt) (N : Nat) (a' : Option Addr) (c' : Nat) (w' : World), N = L'.length → L'.length < L.length → N ≤ c' → Vw w' a' (btC L') → (∀ b ∈ L', b ∈ L) → Calls Try.prog 6 #[.slice a' N c', .agg #[.int .u8 (wi : Int), .int .u8 (tb : Int), .int .u8 (mo : Int), .int .u16 (hy : Int), .int .u16 (pr : Int), .float .f64 lo]] w' fun e w2 => e = .returned (.bool true) ∧ Only (fun _ => False) w' w2) := fun L' N a' c' w' hN h1 hc' h2 h3 => by
    subst hN
    exact hIH.out L' a' c' ⟨wi, tb, mo, hy, pr, lo⟩ w' h1 hc' h2 (fun b hb => hB b (h3 b hb)) hK
  obtain ⟨b0, b1, b2, b3, b4, b5⟩ := hK
  simp only at b0 b1 b2 b3 b4 b5
  have hw1 : W1 ≤ 256 := by omega
  have hw0 : 1 ≤ W1 := by omega
  have ht0 : 0 < T1 := by omega
  have ht1 : T1 ≤ 64 := by omega
  have hm1 : M1 ≤ 1 := by omega
  obtain ⟨n0, hn0⟩ : ∃ n, n = L.length := ⟨_, rfl⟩
  have HN : Hid (n0 = L.length) := hn0
  have HPA : Hid (∀ W, Only (fun _ => False) w W → Calls Try.prog 9 #[.slice a0 n0 c0] W fun e w' => ∃ k aC aO cC cO, e = .returned (.agg #[.slice aC k cC, .slice aO (k + 1) cO]) ∧ Made w' L n0 k aC aO cC cO ∧ Only (fun _ => False) W w') := fun W ho => para_made L n0 a0 c0 W hn0 (hV.keep ho) hB (by omega)
  unfold Wy.val
  simp only
  rw [← hn0] at h5 hcap HRC ⊢
  have HVB : Hid (Vw w a0 (btC L) ∧ ∀ b ∈ L, b.cells < 256 ∧ b.kind < 256 ∧ b.len < 256 ∧ b.opp < 256) := ⟨hV, hB⟩
  clear hn0 hW1 hT1 hM1 hV hB hIH
  have s0 : decide ((200 : Int) < (n0 : Int)) = false := decide_eq_false (by omega)
  go_enter Try.func6, Try.ntmps6
  go_wp2_with fail
  obtain ⟨R, w0, hw0', hR, H0, lR⟩ := box6 w (.int .u8 (wi : Int)) (.int .u8 (tb : Int)) (.int .u8 (mo : Int)) (.int .u16 (hy : Int)) (.int .u16 (pr : Int)) (.float .f64 lo) 26
  rw [hw0', hR]
  clear hw0' hR
  refine Calls.mono (awake14_any _) ?_
  rintro e w2 ⟨rfl, ho2⟩
  have HW2 : Hid (Only (fun _ => False) w w2) := H0.out.2.1.trans ho2
  have HKS : Hid (∀ W', Only (fun _ => False) w2 W' → (W'.cell? ⟨R, 0, none⟩ = some (.int .u8 (wi : Int)) ∧ W'.cell? ⟨R, 1, none⟩ = some (.int .u8 (tb : Int)) ∧ W'.cell? ⟨R, 2, none⟩ = some (.int .u8 (mo : Int)) ∧ W'.cell? ⟨R, 3, none⟩ = some (.int .u16 (hy : Int)) ∧ W'.cell? ⟨R, 4, none⟩ = some (.int .u16 (pr : Int)) ∧ W'.cell? ⟨R, 5, none⟩ = some (.float .f64 lo))) := fun W' ho => blk_six (blk_keep (ho2.trans ho) H0.out.1)
  clear ho2 lR
  go_wp2_with fail
  go_loopg [0, 18] n0 (fun gh v0 v18 wr => ∃ (i : Nat) (V : World), V = wr ∧ gh = n0 - i ∧ i ≤ n0 ∧ v0 = .slice a0 n0 c0 ∧ v18 = .int .i64 (i : Int) ∧ Only (fun _ => False) w2 V)
  case atStart => exact ⟨0, _, rfl, rfl, Nat.zero_le _, rfl, rfl, Only.refl _ _⟩
  case round =>
    obtain ⟨i, w3, hV, rfl, hi, rfl, rfl, hoV⟩ := hrel
    subst hV
    have HW3 : Hid (Only (fun _ => False) w w3) := HW2.out.trans hoV
    have HG : Hid (Only (fun _ => False) w2 w3) := hoV
    replace HKS : Hid (∀ W', Only (fun _ => False) w3 W' → (W'.cell? ⟨R, 0, none⟩ = some (.int .u8 (wi : Int)) ∧ W'.cell? ⟨R, 1, none⟩ = some (.int .u8 (tb : Int)) ∧ W'.cell? ⟨R, 2, none⟩ = some (.int .u8 (mo : Int)) ∧ W'.cell? ⟨R, 3, none⟩ = some (.int .u16 (hy : Int)) ∧ W'.cell? ⟨R, 4, none⟩ = some (.int .u16 (pr : Int)) ∧ W'.cell? ⟨R, 5, none⟩ = some (.float .f64 lo))) := fun W' ho => HKS.out W' (hoV.trans ho)
    clear hoV
    by_cases hlt : i < n0
    · have t1 : (i : Int) < (n0 : Int) := by omega
      obtain ⟨x, hx⟩ : ∃ x, L[i]? = some x := ⟨_, List.getElem?_eq_getElem (by rw [← HN.out]; exact hlt)⟩
      have hx8 := HVB.out.2 x (List.mem_of_getElem? hx)
      obtain ⟨b, off, rfl, hb, x0, x1, x2, x3⟩ := (HVB.out.1.keep HW3.out).bt hx
      obtain ⟨xc, xk, xl, xo⟩ := x
      simp only at x0 x1 x2 x3 hx8
      obtain ⟨y, hy1⟩ : ∃ y, y = xo % 4 := ⟨_, rfl⟩
      have q1 : (xo : Int).tmod 4 = (y : Int) := by rw [Int.tmod_eq_emod_of_nonneg (by omega)]; omega
      have hy4 : y < 4 := by omega
      clear hy1 hx
      by_cases hy2 : y = 2
      · have t2 : ((y : Int) == 2) = true := by rw [beq_iff_eq]; omega
        clear hy2
        have HLD : Hid (i = (L.take i).length ∧ n0 - (i + 1) = (L.drop (i + 1)).length) := ⟨by rw [List.length_take, ← HN.out]; omega, by rw [List.length_drop, HN.out]⟩
        go_wp2_with fail
        have fw1 : IntKind.i64.wrap ((i : Int) + 1) = (i : Int) + 1 := wrap_sm _ (by omega) (by omega)
        by_cases hcp : c0 = i + 1
        · have hn1 : n0 = i + 1 := by omega
          have HLN : Hid (L.drop (i + 1) = []) := List.drop_of_length_le (by rw [← HN.out, hn1]; exact Nat.le_refl _)
          clear hn1
          subst hcp
          refine wp_region_held_drew (S := fun _ => True) (by kernel_rfl) trivial (fun hHeld => ?_)
          refine wpAnyH_take (i := 1) (oi := { dst := some 29, op := _, type := _, pos := _, after := _, guard := _ }) (v := .slice (some ⟨b, off, none⟩) n0 (i + 1)) rfl (by kernel_rfl) (by kernel_rfl) (by kernel_rfl) (fun _ _ _ h => h) (Or.inl ⟨by rfl, fun w hSw => by first | (go_simp; done) | (go_simp; exact fw1) | (go_simp; intro h; exact absurd h (by omega)) | (go_simp; intro h; exact absurd (h (by omega)) (by omega)) | go_simp⟩) (by assumption) ?_
          (try simp only [Act.put, List.setIfInBounds_toArray, List.set_cons_zero, List.set_cons_succ])
          refine wpAnyH_take (i := 2) (oi := { dst := some 30, op := _, type := _, pos := _, after := _, guard := _ }) (v := .int .i64 (i : Int)) rfl (by kernel_rfl) (by kernel_rfl) (by kernel_rfl) (fun _ _ _ h => h) (Or.inl ⟨by rfl, fun w hSw => by first | (go_simp; done) | (go_simp; exact fw1) | (go_simp; intro h; exact absurd h (by omega)) | (go_simp; intro h; exact absurd (h (by omega)) (by omega)) | go_simp⟩) (by assumption) ?_
          (try simp only [Act.put, List.setIfInBounds_toArray, List.set_cons_zero, List.set_cons_succ])
          refine wpAnyH_take (i := 3) (oi := { dst := some 31, op := _, type := _, pos := _, after := _, guard := _ }) (v := .slice (some ⟨b, off, none⟩) i (i + 1)) rfl (by kernel_rfl) (by kernel_rfl) (by kernel_rfl) (fun _ _ _ h => h) (Or.inl ⟨by rfl, fun w hSw => by first | (go_simp; done) | (go_simp; exact fw1) | (go_simp; intro h; exact absurd h (by omega)) | (go_simp; intro h; exact absurd (h (by omega)) (by omega)) | go_simp⟩) (by assumption) ?_
          (try simp only [Act.put, List.setIfInBounds_toArray, List.set_cons_zero, List.set_cons_succ])
          refine wpAnyH_take (i := 5) (oi := { dst := some 33, op := _, type := _, pos := _, after := _, guard := _ }) (v := .slice (some ⟨b, off, none⟩) n0 (i + 1)) rfl (by kernel_rfl) (by kernel_rfl) (by kernel_rfl) (fun _ _ _ h => h) (Or.inl ⟨by rfl, fun w hSw => by first | (go_simp; done) | (go_simp; exact fw1) | (go_simp; intro h; exact absurd h (by omega)) | (go_simp; intro h; exact absurd (h (by omega)) (by omega)) | go_simp⟩) (by assumption) ?_
          (try simp only [Act.put, List.setIfInBounds_toArray, List.set_cons_zero, List.set_cons_succ])
          refine wpAnyH_take (i := 6) (oi := { dst := some 34, op := _, type := _, pos := _, after := _, guard := _ }) (v := .int .i64 (i : Int)) rfl (by kernel_rfl) (by kernel_rfl) (by kernel_rfl) (fun _ _ _ h => h) (Or.inl ⟨by rfl, fun w hSw => by first | (go_simp; done) | (go_simp; exact fw1) | (go_simp; intro h; exact absurd h (by omega)) | (go_simp; intro h; exact absurd (h (by omega)) (by omega)) | go_simp⟩) (by assumption) ?_
          (try simp only [Act.put, List.setIfInBounds_toArray, List.set_cons_zero, List.set_cons_succ])
          refine wpAnyH_take (i := 7) (oi := { dst := some 35, op := _, type := _, pos := _, after := _, guard := _ }) (v := .int .i64 ((i : Int) + 1)) rfl (by kernel_rfl) (by kernel_rfl) (by kernel_rfl) (fun _ _ _ h => h) (Or.inl ⟨by rfl, fun w hSw => by first | (go_simp; done) | (go_simp; exact fw1) | (go_simp; intro h; exact absurd h (by omega)) | (go_simp; intro h; exact absurd (h (by omega)) (by omega)) | go_simp⟩) (by assumption) ?_
          (try simp only [Act.put, List.setIfInBounds_toArray, List.set_cons_zero, List.set_cons_succ])
          refine wpAnyH_take (i := 8) (oi := { dst := some 36, op := _, type := _, pos := _, after := _, guard := _ }) (v := .slice (some ⟨b, off, none⟩) 0 0) rfl (by kernel_rfl) (by kernel_rfl) (by kernel_rfl) (fun _ _ _ h => h) (Or.inl ⟨by rfl, fun w hSw => by first | (go_simp; done) | (go_simp; exact fw1) | (go_simp; intro h; exact absurd h (by omega)) | (go_simp; intro h; exact absurd (h (by omega)) (by omega)) | go_simp⟩) (by assumption) ?_
          (try simp only [Act.put, List.setIfInBounds_toArray, List.set_cons_zero, List.set_cons_succ])
          refine wpAnyH_ready (rs := [0]) (by kernel_rfl) (by simp) ?_
          refine AllReadyH.cons rfl (fun K hK => ?_) AllReadyH.nil
          rw [if_pos (by rfl)]
          go_simp
          obtain ⟨y1, hy1⟩ : ∃ Y, Y = (w3.alloc (.cells #[] 49)).drew := ⟨_, rfl⟩
          obtain ⟨g0, hg0⟩ : ∃ b, b = w3.heap.size := ⟨_, rfl⟩
          have HY1 : Hid (Only (fun _ => False) w3 y1 ∧ y1.ownsRow w3.heap.size 49 4 (.slice (some ⟨g0, 0, none⟩) 0 0) 0 (btC [])) := by rw [hy1, hg0]; exact ⟨((Only.refl _ _).alloc _).drew, own_e0B (heap_alloc_new w3 _) (Nat.le_refl _)⟩
          rw [← hy1, ← hg0]
          clear hy1 hg0
          refine hK.out _ _ trivial (fun hHeld => ?_)
          clear hK
          (try simp only [Act.put, List.setIfInBounds_toArray, List.set_cons_zero, List.set_cons_succ])
          refine wpAnyH_ready (rs := [4]) (by kernel_rfl) (by simp) ?_
          refine AllReadyH.cons rfl (fun K hK => ?_) AllReadyH.nil
          rw [if_pos (by rfl)]
          refine wp_appB (.tmp 28) (.tmp 31) rfl w3 HY1.out.1 g0 0 0 [] rfl HY1.out.2 (some ⟨b, off, none⟩) i (i + 1) (L.take i) rfl HLD.out.1 (((HVB.out.1.keep HW3.out).keep HY1.out.1).btTake i) i (Nat.zero_add _) (by omega) ?_
          intro g1 cap1 y2 hown2 hoy2
          have HY2 : Hid (Only (fun _ => False) w3 y2 ∧ y2.ownsRow w3.heap.size 49 4 (.slice (some ⟨g1, 0, none⟩) i cap1) i (btC ([] ++ L.take i))) := ⟨hoy2, hown2⟩
          clear hown2 hoy2
          refine hK.out _ _ trivial (fun hHeld => ?_)
          clear hK
          (try simp only [Act.put, List.setIfInBounds_toArray, List.set_cons_zero, List.set_cons_succ])
          refine wpAnyH_ready (rs := [9]) (by kernel_rfl) (by simp) ?_
          refine AllReadyH.cons rfl (fun K hK => ?_) AllReadyH.nil
          rw [if_pos (by rfl)]
          refine wp_appB (.tmp 32) (.tmp 36) rfl w3 HY2.out.1 g1 i cap1 ([] ++ L.take i) rfl HY2.out.2 (some ⟨b, off, none⟩) (0) (0) (L.drop (i + 1)) rfl (by rw [HLN.out]; rfl) (Or.inl (by rw [HLN.out]; rfl)) (n0 - 1) (by omega) (by omega) ?_
          intro g2 cap2 y3 hown3 hoy3
          have HY3 : Hid (Only (fun _ => False) w3 y3 ∧ y3.ownsRow w3.heap.size 49 4 (.slice (some ⟨g2, 0, none⟩) (n0 - 1) cap2) (n0 - 1) (btC ([] ++ L.take i ++ L.drop (i + 1)))) := ⟨hoy3, hown3⟩
          clear hown3 hoy3
          refine hK.out _ _ trivial (fun hHeld => ?_)
          clear hK
          (try simp only [Act.put, List.setIfInBounds_toArray, List.set_cons_zero, List.set_cons_succ])
          refine wpAnyH_take (i := 10) (oi := { dst := some 0, op := _, type := _, pos := _, after := _, guard := _ }) (v := .slice (some ⟨g2, 0, none⟩) (n0 - 1) cap2) rfl (by kernel_rfl) (by kernel_rfl) (by kernel_rfl) (fun _ _ _ h => h) (Or.inl ⟨by rfl, fun w hSw => by first | (go_simp; done) | (go_simp; exact fw1) | (go_simp; intro h; exact absurd h (by omega)) | (go_simp; intro h; exact absurd (h (by omega)) (by omega)) | go_simp⟩) (by assumption) ?_
          (try simp only [Act.put, List.setIfInBounds_toArray, List.set_cons_zero, List.set_cons_succ])
          refine wpAnyH_done (by kernel_rfl) ?_ _
          clear hHeld
          obtain ⟨s0, s1, s2, s3, s4, s5⟩ := HKS.out y3 HY3.out.1
          have HCL : Hid (Calls Try.prog 6 #[.slice (some ⟨g2, 0, none⟩) (n0 - 1) cap2, .agg #[.int .u8 (wi : Int), .int .u8 (tb : Int), .int .u8 (mo : Int), .int .u16 (hy : Int), .int .u16 (pr : Int), .float .f64 lo]] y3 fun e w2 => e = .returned (.bool true) ∧ Only (fun _ => False) y3 w2) := HRC.out ([] ++ L.take i ++ L.drop (i + 1)) (n0 - 1) _ cap2 y3 (by rw [List.length_append, List.length_append, List.length_nil, ← HLD.out.1, ← HLD.out.2]; omega) (by rw [List.length_append, List.length_append, List.length_nil, ← HLD.out.1, ← HLD.out.2]; omega) (own_le HY3.out.2) (own_vw HY3.out.2) (fun b hb => by rw [List.nil_append, List.mem_append] at hb; rcases hb with h | h; exact List.mem_of_mem_take h; exact List.mem_of_mem_drop h)
          go_wp2_with fail
          refine Calls.mono HCL.out ?_
          rintro e y4 ⟨rfl, ho4⟩
          have HY4 : Hid (Only (fun _ => False) w y4) := HW3.out.trans (HY3.out.1.trans ho4)
          clear ho4 s0 s1 s2 s3 s4 s5
          go_wp2_with fail
          go_ret
          exact ⟨rfl, HY4.out⟩
        · have ncap : ¬ c0 = i + 1 := hcp
          clear hcp
          refine wp_region_held_drew (S := fun _ => True) (by kernel_rfl) trivial (fun hHeld => ?_)
          refine wpAnyH_take (i := 1) (oi := { dst := some 29, op := _, type := _, pos := _, after := _, guard := _ }) (v := .slice (some ⟨b, off, none⟩) n0 c0) rfl (by kernel_rfl) (by kernel_rfl) (by kernel_rfl) (fun _ _ _ h => h) (Or.inl ⟨by rfl, fun w hSw => by first | (go_simp; done) | (go_simp; exact fw1) | (go_simp; intro h; exact absurd h (by omega)) | (go_simp; intro h; exact absurd (h (by omega)) (by omega)) | go_simp⟩) (by assumption) ?_
          (try simp only [Act.put, List.setIfInBounds_toArray, List.set_cons_zero, List.set_cons_succ])
          refine wpAnyH_take (i := 2) (oi := { dst := some 30, op := _, type := _, pos := _, after := _, guard := _ }) (v := .int .i64 (i : Int)) rfl (by kernel_rfl) (by kernel_rfl) (by kernel_rfl) (fun _ _ _ h => h) (Or.inl ⟨by rfl, fun w hSw => by first | (go_simp; done) | (go_simp; exact fw1) | (go_simp; intro h; exact absurd h (by omega)) | (go_simp; intro h; exact absurd (h (by omega)) (by omega)) | go_simp⟩) (by assumption) ?_
          (try simp only [Act.put, List.setIfInBounds_toArray, List.set_cons_zero, List.set_cons_succ])
          refine wpAnyH_take (i := 3) (oi := { dst := some 31, op := _, type := _, pos := _, after := _, guard := _ }) (v := .slice (some ⟨b, off, none⟩) i c0) rfl (by kernel_rfl) (by kernel_rfl) (by kernel_rfl) (fun _ _ _ h => h) (Or.inl ⟨by rfl, fun w hSw => by first | (go_simp; done) | (go_simp; exact fw1) | (go_simp; intro h; exact absurd h (by omega)) | (go_simp; intro h; exact absurd (h (by omega)) (by omega)) | go_simp⟩) (by assumption) ?_
          (try simp only [Act.put, List.setIfInBounds_toArray, List.set_cons_zero, List.set_cons_succ])
          refine wpAnyH_take (i := 5) (oi := { dst := some 33, op := _, type := _, pos := _, after := _, guard := _ }) (v := .slice (some ⟨b, off, none⟩) n0 c0) rfl (by kernel_rfl) (by kernel_rfl) (by kernel_rfl) (fun _ _ _ h => h) (Or.inl ⟨by rfl, fun w hSw => by first | (go_simp; done) | (go_simp; exact fw1) | (go_simp; intro h; exact absurd h (by omega)) | (go_simp; intro h; exact absurd (h (by omega)) (by omega)) | go_simp⟩) (by assumption) ?_
          (try simp only [Act.put, List.setIfInBounds_toArray, List.set_cons_zero, List.set_cons_succ])
          refine wpAnyH_take (i := 6) (oi := { dst := some 34, op := _, type := _, pos := _, after := _, guard := _ }) (v := .int .i64 (i : Int)) rfl (by kernel_rfl) (by kernel_rfl) (by kernel_rfl) (fun _ _ _ h => h) (Or.inl ⟨by rfl, fun w hSw => by first | (go_simp; done) | (go_simp; exact fw1) | (go_simp; intro h; exact absurd h (by omega)) | (go_simp; intro h; exact absurd (h (by omega)) (by omega)) | go_simp⟩) (by assumption) ?_
          (try simp only [Act.put, List.setIfInBounds_toArray, List.set_cons_zero, List.set_cons_succ])
          refine wpAnyH_take (i := 7) (oi := { dst := some 35, op := _, type := _, pos := _, after := _, guard := _ }) (v := .int .i64 ((i : Int) + 1)) rfl (by kernel_rfl) (by kernel_rfl) (by kernel_rfl) (fun _ _ _ h => h) (Or.inl ⟨by rfl, fun w hSw => by first | (go_simp; done) | (go_simp; exact fw1) | (go_simp; intro h; exact absurd h (by omega)) | (go_simp; intro h; exact absurd (h (by omega)) (by omega)) | go_simp⟩) (by assumption) ?_
          (try simp only [Act.put, List.setIfInBounds_toArray, List.set_cons_zero, List.set_cons_succ])
          refine wpAnyH_take (i := 8) (oi := { dst := some 36, op := _, type := _, pos := _, after := _, guard := _ }) (v := .slice (some ⟨b, off + (i + 1) * 4, none⟩) (n0 - (i + 1)) (c0 - (i + 1))) rfl (by kernel_rfl) (by kernel_rfl) (by kernel_rfl) (fun _ _ _ h => h) (Or.inl ⟨by rfl, fun w hSw => by first | (go_simp; done) | (go_simp; exact fw1) | (go_simp; intro h; exact absurd h (by omega)) | (go_simp; intro h; exact absurd (h (by omega)) (by omega)) | go_simp⟩) (by assumption) ?_
          (try simp only [Act.put, List.setIfInBounds_toArray, List.set_cons_zero, List.set_cons_succ])
          refine wpAnyH_ready (rs := [0]) (by kernel_rfl) (by simp) ?_
          refine AllReadyH.cons rfl (fun K hK => ?_) AllReadyH.nil
          rw [if_pos (by rfl)]
          go_simp
          obtain ⟨y1, hy1⟩ : ∃ Y, Y = (w3.alloc (.cells #[] 49)).drew := ⟨_, rfl⟩
          obtain ⟨g0, hg0⟩ : ∃ b, b = w3.heap.size := ⟨_, rfl⟩
          have HY1 : Hid (Only (fun _ => False) w3 y1 ∧ y1.ownsRow w3.heap.size 49 4 (.slice (some ⟨g0, 0, none⟩) 0 0) 0 (btC [])) := by rw [hy1, hg0]; exact ⟨((Only.refl _ _).alloc _).drew, own_e0B (heap_alloc_new w3 _) (Nat.le_refl _)⟩
          rw [← hy1, ← hg0]
          clear hy1 hg0
          refine hK.out _ _ trivial (fun hHeld => ?_)
          clear hK
          (try simp only [Act.put, List.setIfInBounds_toArray, List.set_cons_zero, List.set_cons_succ])
          refine wpAnyH_ready (rs := [4]) (by kernel_rfl) (by simp) ?_
          refine AllReadyH.cons rfl (fun K hK => ?_) AllReadyH.nil
          rw [if_pos (by rfl)]
          refine wp_appB (.tmp 28) (.tmp 31) rfl w3 HY1.out.1 g0 0 0 [] rfl HY1.out.2 (some ⟨b, off, none⟩) i c0 (L.take i) rfl HLD.out.1 (((HVB.out.1.keep HW3.out).keep HY1.out.1).btTake i) i (Nat.zero_add _) (by omega) ?_
          intro g1 cap1 y2 hown2 hoy2
          have HY2 : Hid (Only (fun _ => False) w3 y2 ∧ y2.ownsRow w3.heap.size 49 4 (.slice (some ⟨g1, 0, none⟩) i cap1) i (btC ([] ++ L.take i))) := ⟨hoy2, hown2⟩
          clear hown2 hoy2
          refine hK.out _ _ trivial (fun hHeld => ?_)
          clear hK
          (try simp only [Act.put, List.setIfInBounds_toArray, List.set_cons_zero, List.set_cons_succ])
          refine wpAnyH_ready (rs := [9]) (by kernel_rfl) (by simp) ?_
          refine AllReadyH.cons rfl (fun K hK => ?_) AllReadyH.nil
          rw [if_pos (by rfl)]
          refine wp_appB (.tmp 32) (.tmp 36) rfl w3 HY2.out.1 g1 i cap1 ([] ++ L.take i) rfl HY2.out.2 (some ⟨b, off + (i + 1) * 4, none⟩) ((n0 - (i + 1))) ((c0 - (i + 1))) (L.drop (i + 1)) rfl (HLD.out.2) (((HVB.out.1.keep HW3.out).keep HY2.out.1).btDrop (i + 1)) (n0 - 1) (by omega) (by omega) ?_
          intro g2 cap2 y3 hown3 hoy3
          have HY3 : Hid (Only (fun _ => False) w3 y3 ∧ y3.ownsRow w3.heap.size 49 4 (.slice (some ⟨g2, 0, none⟩) (n0 - 1) cap2) (n0 - 1) (btC ([] ++ L.take i ++ L.drop (i + 1)))) := ⟨hoy3, hown3⟩
          clear hown3 hoy3
          refine hK.out _ _ trivial (fun hHeld => ?_)
          clear hK
          (try simp only [Act.put, List.setIfInBounds_toArray, List.set_cons_zero, List.set_cons_succ])
          refine wpAnyH_take (i := 10) (oi := { dst := some 0, op := _, type := _, pos := _, after := _, guard := _ }) (v := .slice (some ⟨g2, 0, none⟩) (n0 - 1) cap2) rfl (by kernel_rfl) (by kernel_rfl) (by kernel_rfl) (fun _ _ _ h => h) (Or.inl ⟨by rfl, fun w hSw => by first | (go_simp; done) | (go_simp; exact fw1) | (go_simp; intro h; exact absurd h (by omega)) | (go_simp; intro h; exact absurd (h (by omega)) (by omega)) | go_simp⟩) (by assumption) ?_
          (try simp only [Act.put, List.setIfInBounds_toArray, List.set_cons_zero, List.set_cons_succ])
          refine wpAnyH_done (by kernel_rfl) ?_ _
          clear hHeld
          obtain ⟨s0, s1, s2, s3, s4, s5⟩ := HKS.out y3 HY3.out.1
          have HCL : Hid (Calls Try.prog 6 #[.slice (some ⟨g2, 0, none⟩) (n0 - 1) cap2, .agg #[.int .u8 (wi : Int), .int .u8 (tb : Int), .int .u8 (mo : Int), .int .u16 (hy : Int), .int .u16 (pr : Int), .float .f64 lo]] y3 fun e w2 => e = .returned (.bool true) ∧ Only (fun _ => False) y3 w2) := HRC.out ([] ++ L.take i ++ L.drop (i + 1)) (n0 - 1) _ cap2 y3 (by rw [List.length_append, List.length_append, List.length_nil, ← HLD.out.1, ← HLD.out.2]; omega) (by rw [List.length_append, List.length_append, List.length_nil, ← HLD.out.1, ← HLD.out.2]; omega) (own_le HY3.out.2) (own_vw HY3.out.2) (fun b hb => by rw [List.nil_append, List.mem_append] at hb; rcases hb with h | h; exact List.mem_of_mem_take h; exact List.mem_of_mem_drop h)
          go_wp2_with fail
          refine Calls.mono HCL.out ?_
          rintro e y4 ⟨rfl, ho4⟩
          have HY4 : Hid (Only (fun _ => False) w y4) := HW3.out.trans (HY3.out.1.trans ho4)
          clear ho4 s0 s1 s2 s3 s4 s5
          go_wp2_with fail
          go_ret
          exact ⟨rfl, HY4.out⟩
      · have t2 : ((y : Int) == 2) = false := by rw [beq_eq_false_iff_ne]; omega
        clear hy2
        go_wp2_with fail
        go_roundg (n0 - (i + 1))
        case measure => omega
        case rel => exact ⟨i + 1, _, rfl, rfl, by omega, rfl, by go_num, HG.out⟩
    · have t1 : decide ((i : Int) < (n0 : Int)) = false := decide_eq_false (by omega)
      go_wp2_with fail
      go_cut [6, 7] from 42 to 45 (fun v5 v6 wr => ∃ (k B5 B6 : Nat) (aC aO : Option Addr) (cC cO : Nat) (X : World), X = wr ∧ v5 = .pointer (some ⟨B5, 0, none⟩) ∧ v6 = .pointer (some ⟨B6, 0, none⟩) ∧ Made X L n0 k aC aO cC cO ∧ Blk w3 X B5 31 #[.slice aC k cC, .slice aO (k + 1) cO] ∧ Blk w3 X B6 35 #[.int .i64 (W1 : Int), .int .i64 (T1 : Int), .int .u8 (M1 : Int), .int .i64 (hy : Int), .int .i64 (pr : Int), .float .f64 lo] ∧ Only (fun _ => False) w3 X)
      case first =>
        have HXD : Hid (Only (fun _ => False) w3 w3.drew) := (Only.refl _ _).drew
        refine wp_region_held_drew (S := (fun W' => W'.cell? ⟨R, 0, none⟩ = some (.int .u8 (wi : Int)) ∧ W'.cell? ⟨R, 1, none⟩ = some (.int .u8 (tb : Int)) ∧ W'.cell? ⟨R, 2, none⟩ = some (.int .u8 (mo : Int)) ∧ W'.cell? ⟨R, 3, none⟩ = some (.int .u16 (hy : Int)) ∧ W'.cell? ⟨R, 4, none⟩ = some (.int .u16 (pr : Int)) ∧ W'.cell? ⟨R, 5, none⟩ = some (.float .f64 lo))) (by kernel_rfl) (HKS.out _ HXD.out) (fun hHeld => ?_)
        refine wpAnyH_take (i := 0) (oi := { dst := some 42, op := _, type := _, pos := _, after := _, guard := _ }) (v := .slice a0 n0 c0) rfl (by kernel_rfl) (by kernel_rfl) (by kernel_rfl) (fun _ _ _ h => h) (Or.inl ⟨by rfl, fun w hSw => by obtain ⟨y0, y1, y2, y3, y4, y5⟩ := hSw; first | (go_simp; done) | go_simp⟩) (by assumption) ?_
        (try simp only [Act.put, List.setIfInBounds_toArray, List.set_cons_zero, List.set_cons_succ])
        refine wpAnyH_take (i := 2) (oi := { dst := some 44, op := _, type := _, pos := _, after := _, guard := _ }) (v := .agg #[.int .u8 (wi : Int), .int .u8 (tb : Int), .int .u8 (mo : Int), .int .u16 (hy : Int), .int .u16 (pr : Int), .float .f64 lo]) rfl (by kernel_rfl) (by kernel_rfl) (by kernel_rfl) (fun _ _ _ h => h) (Or.inl ⟨by rfl, fun w hSw => by obtain ⟨y0, y1, y2, y3, y4, y5⟩ := hSw; first | (go_simp; done) | go_simp⟩) (by assumption) ?_
        (try simp only [Act.put, List.setIfInBounds_toArray, List.set_cons_zero, List.set_cons_succ])
        refine wpAnyH_ready (rs := [1, 4, 5]) (by kernel_rfl) (by simp) ?_
        refine AllReadyH.cons rfl (fun K hK => ?_) (AllReadyH.cons rfl (fun K hK => ?_) (AllReadyH.cons rfl (fun K hK => ?_) AllReadyH.nil))
        · rw [if_pos (by rfl)]
          go_simp
          refine Calls.mono (HPA.out _ (HW3.out.trans HXD.out)) ?_
          rintro e y1 ⟨k, aC, aO, cC, cO, rfl, hmd, ho⟩
          have HMy1 : Hid (Made y1 L n0 k aC aO cC cO) := hmd
          clear hmd
          have HXy1 : Hid (Only (fun _ => False) w3 y1) := HXD.out.trans ho
          clear ho
          refine hK.out _ _ (HKS.out _ HXy1.out) (fun hHeld => ?_)
          clear hK
          (try simp only [Act.put, List.setIfInBounds_toArray, List.set_cons_zero, List.set_cons_succ])
          refine wpAnyH_ready (rs := [3, 4, 5]) (by kernel_rfl) (by simp) ?_
          refine AllReadyH.cons rfl (fun K hK => ?_) (AllReadyH.cons rfl (fun K hK => ?_) (AllReadyH.cons rfl (fun K hK => ?_) AllReadyH.nil))
          · rw [if_pos (by rfl)]
            go_simp
            refine Calls.mono (HCF.out _) ?_
            rintro e y2 ⟨rfl, ho⟩
            have HMy2 : Hid (Made y2 L n0 k aC aO cC cO) := HMy1.out.keep ho
            have HXy2 : Hid (Only (fun _ => False) w3 y2) := HXy1.out.trans ho
            clear ho
            refine hK.out _ _ (HKS.out _ HXy2.out) (fun hHeld => ?_)
            clear hK
            (try simp only [Act.put, List.setIfInBounds_toArray, List.set_cons_zero, List.set_cons_succ])
            refine wpAnyH_ready (rs := [4, 5]) (by kernel_rfl) (by simp) ?_
            refine AllReadyH.cons rfl (fun K hK => ?_) (AllReadyH.cons rfl (fun K hK => ?_) AllReadyH.nil)
            · rw [if_pos (by rfl)]
              go_simp
              obtain ⟨y3, hy3⟩ : ∃ Y, Y = y2.alloc (.cells #[.slice none 0 0, .slice none 0 0] 31) := ⟨_, rfl⟩
              obtain ⟨B5, hB5⟩ : ∃ b, b = y2.heap.size := ⟨_, rfl⟩
              have ho : Only (fun _ => False) y2 y3 := by rw [hy3]; exact (Only.refl _ _).alloc _
              have HXy3 : Hid (Only (fun _ => False) w3 y3) := HXy2.out.trans ho
              have HB5y3 : Hid (Blk w3 y3 B5 31 #[.slice none 0 0, .slice none 0 0]) := by rw [hy3, hB5]; exact Blk.made HXy2.out _ _
              have HMy3 : Hid (Made y3 L n0 k aC aO cC cO) := HMy2.out.keep ho
              rw [← hy3, ← hB5]
              clear hy3 hB5 ho
              refine hK.out _ _ (HKS.out _ HXy3.out) (fun hHeld => ?_)
              clear hK
              (try simp only [Act.put, List.setIfInBounds_toArray, List.set_cons_zero, List.set_cons_succ])
              refine wpAnyH_ready (rs := [5]) (by kernel_rfl) (by simp) ?_
              refine AllReadyH.cons rfl (fun K hK => ?_) AllReadyH.nil
              rw [if_pos (by rfl)]
              go_simp
              obtain ⟨y4, hy4⟩ : ∃ Y, Y = y3.alloc (.cells #[.int .i64 0, .int .i64 0, .int .u8 0, .int .i64 0, .int .i64 0, .float .f64 0] 35) := ⟨_, rfl⟩
              obtain ⟨B6, hB6⟩ : ∃ b, b = y3.heap.size := ⟨_, rfl⟩
              have ho : Only (fun _ => False) y3 y4 := by rw [hy4]; exact (Only.refl _ _).alloc _
              have HXy4 : Hid (Only (fun _ => False) w3 y4) := HXy3.out.trans ho
              have HB6y4 : Hid (Blk w3 y4 B6 35 #[.int .i64 0, .int .i64 0, .int .u8 0, .int .i64 0, .int .i64 0, .float .f64 0]) := by rw [hy4, hB6]; exact Blk.made HXy3.out _ _
              have HB5y4 : Hid (Blk w3 y4 B5 31 #[.slice none 0 0, .slice none 0 0]) := HB5y3.out.keep ho
              have HMy4 : Hid (Made y4 L n0 k aC aO cC cO) := HMy3.out.keep ho
              rw [← hy4, ← hB6]
              clear hy4 hB6 ho
              refine hK.out _ _ (HKS.out _ HXy4.out) (fun hHeld => ?_)
              clear hK
              (try simp only [Act.put, List.setIfInBounds_toArray, List.set_cons_zero, List.set_cons_succ])
              refine wpAnyH_ready (rs := [6]) (by kernel_rfl) (by simp) ?_
              refine AllReadyH.cons rfl (fun K hK => ?_) AllReadyH.nil
              rw [if_pos (by rfl)]
              have HXa : Hid (Only (fun _ => False) w3 (y4.setRow B5 #[.slice aC k cC, .slice aO (k + 1) cO])) := HXy4.out.setRowNew HB5y4.out.2 _
              refine wp_store_row 31 _ _ rfl B5 #[.slice aC k cC, .slice aO (k + 1) cO] rfl rfl 31 _ HB5y4.out.1 (by kernel_rfl) rfl (two_one _ _ _ _ _ _) ?_
              have HMa : Hid (Made (y4.setRow B5 #[.slice aC k cC, .slice aO (k + 1) cO]) L n0 k aC aO cC cO ∧ Blk w3 (y4.setRow B5 #[.slice aC k cC, .slice aO (k + 1) cO]) B5 31 #[.slice aC k cC, .slice aO (k + 1) cO] ∧ Blk w3 (y4.setRow B5 #[.slice aC k cC, .slice aO (k + 1) cO]) B6 35 #[.int .i64 0, .int .i64 0, .int .u8 0, .int .i64 0, .int .i64 0, .float .f64 0]) := ⟨HMy4.out.store HB5y4.out.1 (by decide) (by decide) _, HB5y4.out.put _, HB6y4.out.far HB5y4.out (by decide) _⟩
              obtain ⟨za, hza⟩ : ∃ Y, Y = y4.setRow B5 #[.slice aC k cC, .slice aO (k + 1) cO] := ⟨_, rfl⟩
              rw [← hza] at HXa HMa ⊢
              clear hza
              refine hK.out _ _ (HKS.out _ HXa.out) (fun hHeld => ?_)
              clear hK
              (try simp only [Act.put, List.setIfInBounds_toArray, List.set_cons_zero, List.set_cons_succ])
              refine wpAnyH_ready (rs := [7]) (by kernel_rfl) (by simp) ?_
              refine AllReadyH.cons rfl (fun K hK => ?_) AllReadyH.nil
              rw [if_pos (by rfl)]
              have HXb : Hid (Only (fun _ => False) w3 (za.setRow B6 #[.int .i64 (W1 : Int), .int .i64 (T1 : Int), .int .u8 (M1 : Int), .int .i64 (hy : Int), .int .i64 (pr : Int), .float .f64 lo])) := HXa.out.setRowNew HMa.out.2.2.2 _
              refine wp_store_row 35 _ _ rfl B6 #[.int .i64 (W1 : Int), .int .i64 (T1 : Int), .int .u8 (M1 : Int), .int .i64 (hy : Int), .int .i64 (pr : Int), .float .f64 lo] rfl rfl 35 _ HMa.out.2.2.1 (by kernel_rfl) rfl (cfg_one _ _ _ _ _ _) ?_
              have HMb : Hid (Made (za.setRow B6 #[.int .i64 (W1 : Int), .int .i64 (T1 : Int), .int .u8 (M1 : Int), .int .i64 (hy : Int), .int .i64 (pr : Int), .float .f64 lo]) L n0 k aC aO cC cO ∧ Blk w3 (za.setRow B6 #[.int .i64 (W1 : Int), .int .i64 (T1 : Int), .int .u8 (M1 : Int), .int .i64 (hy : Int), .int .i64 (pr : Int), .float .f64 lo]) B5 31 #[.slice aC k cC, .slice aO (k + 1) cO] ∧ Blk w3 (za.setRow B6 #[.int .i64 (W1 : Int), .int .i64 (T1 : Int), .int .u8 (M1 : Int), .int .i64 (hy : Int), .int .i64 (pr : Int), .float .f64 lo]) B6 35 #[.int .i64 (W1 : Int), .int .i64 (T1 : Int), .int .u8 (M1 : Int), .int .i64 (hy : Int), .int .i64 (pr : Int), .float .f64 lo]) := ⟨HMa.out.1.store HMa.out.2.2.1 (by decide) (by decide) _, HMa.out.2.1.far HMa.out.2.2 (by decide) _, HMa.out.2.2.put _⟩
              obtain ⟨zb, hzb⟩ : ∃ Y, Y = za.setRow B6 #[.int .i64 (W1 : Int), .int .i64 (T1 : Int), .int .u8 (M1 : Int), .int .i64 (hy : Int), .int .i64 (pr : Int), .float .f64 lo] := ⟨_, rfl⟩
              rw [← hzb] at HXb HMb ⊢
              clear hzb
              refine hK.out _ _ (HKS.out _ HXb.out) (fun hHeld => ?_)
              clear hK
              (try simp only [Act.put, List.setIfInBounds_toArray, List.set_cons_zero, List.set_cons_succ])
              refine wpAnyH_done (by kernel_rfl) ?_ _
              clear hHeld
              go_wp2_with fail
              go_meet
              exact ⟨k, B5, B6, aC, aO, cC, cO, _, rfl, rfl, rfl, HMb.out.1, HMb.out.2.1, HMb.out.2.2, HXb.out⟩
            · rw [if_pos (by rfl)]
              go_simp
              obtain ⟨y3, hy3⟩ : ∃ Y, Y = y2.alloc (.cells #[.int .i64 0, .int .i64 0, .int .u8 0, .int .i64 0, .int .i64 0, .float .f64 0] 35) := ⟨_, rfl⟩
              obtain ⟨B6, hB6⟩ : ∃ b, b = y2.heap.size := ⟨_, rfl⟩
              have ho : Only (fun _ => False) y2 y3 := by rw [hy3]; exact (Only.refl _ _).alloc _
              have HXy3 : Hid (Only (fun _ => False) w3 y3) := HXy2.out.trans ho
              have HB6y3 : Hid (Blk w3 y3 B6 35 #[.int .i64 0, .int .i64 0, .int .u8 0, .int .i64 0, .int .i64 0, .float .f64 0]) := by rw [hy3, hB6]; exact Blk.made HXy2.out _ _
              have HMy3 : Hid (Made y3 L n0 k aC aO cC cO) := HMy2.out.keep ho
              rw [← hy3, ← hB6]
              clear hy3 hB6 ho
              refine hK.out _ _ (HKS.out _ HXy3.out) (fun hHeld => ?_)
              clear hK
              (try simp only [Act.put, List.setIfInBounds_toArray, List.set_cons_zero, List.set_cons_succ])
              refine wpAnyH_ready (rs := [4]) (by kernel_rfl) (by simp) ?_
              refine AllReadyH.cons rfl (fun K hK => ?_) AllReadyH.nil
              rw [if_pos (by rfl)]
              go_simp
              obtain ⟨y4, hy4⟩ : ∃ Y, Y = y3.alloc (.cells #[.slice none 0 0, .slice none 0 0] 31) := ⟨_, rfl⟩
              obtain ⟨B5, hB5⟩ : ∃ b, b = y3.heap.size := ⟨_, rfl⟩
              have ho : Only (fun _ => False) y3 y4 := by rw [hy4]; exact (Only.refl _ _).alloc _
              have HXy4 : Hid (Only (fun _ => False) w3 y4) := HXy3.out.trans ho
              have HB5y4 : Hid (Blk w3 y4 B5 31 #[.slice none 0 0, .slice none 0 0]) := by rw [hy4, hB5]; exact Blk.made HXy3.out _ _
              have HB6y4 : Hid (Blk w3 y4 B6 35 #[.int .i64 0, .int .i64 0, .int .u8 0, .int .i64 0, .int .i64 0, .float .f64 0]) := HB6y3.out.keep ho
              have HMy4 : Hid (Made y4 L n0 k aC aO cC cO) := HMy3.out.keep ho
              rw [← hy4, ← hB5]
              clear hy4 hB5 ho
              refine hK.out _ _ (HKS.out _ HXy4.out) (fun hHeld => ?_)
              clear hK
              (try simp only [Act.put, List.setIfInBounds_toArray, List.set_cons_zero, List.set_cons_succ])
              refine wpAnyH_ready (rs := [6]) (by kernel_rfl) (by simp) ?_
              refine AllReadyH.cons rfl (fun K hK => ?_) AllReadyH.nil
              rw [if_pos (by rfl)]
              have HXa : Hid (Only (fun _ => False) w3 (y4.setRow B5 #[.slice aC k cC, .slice aO (k + 1) cO])) := HXy4.out.setRowNew HB5y4.out.2 _
              refine wp_store_row 31 _ _ rfl B5 #[.slice aC k cC, .slice aO (k + 1) cO] rfl rfl 31 _ HB5y4.out.1 (by kernel_rfl) rfl (two_one _ _ _ _ _ _) ?_
              have HMa : Hid (Made (y4.setRow B5 #[.slice aC k cC, .slice aO (k + 1) cO]) L n0 k aC aO cC cO ∧ Blk w3 (y4.setRow B5 #[.slice aC k cC, .slice aO (k + 1) cO]) B5 31 #[.slice aC k cC, .slice aO (k + 1) cO] ∧ Blk w3 (y4.setRow B5 #[.slice aC k cC, .slice aO (k + 1) cO]) B6 35 #[.int .i64 0, .int .i64 0, .int .u8 0, .int .i64 0, .int .i64 0, .float .f64 0]) := ⟨HMy4.out.store HB5y4.out.1 (by decide) (by decide) _, HB5y4.out.put _, HB6y4.out.far HB5y4.out (by decide) _⟩
              obtain ⟨za, hza⟩ : ∃ Y, Y = y4.setRow B5 #[.slice aC k cC, .slice aO (k + 1) cO] := ⟨_, rfl⟩
              rw [← hza] at HXa HMa ⊢
              clear hza
              refine hK.out _ _ (HKS.out _ HXa.out) (fun hHeld => ?_)
              clear hK
              (try simp only [Act.put, List.setIfInBounds_toArray, List.set_cons_zero, List.set_cons_succ])
              refine wpAnyH_ready (rs := [7]) (by kernel_rfl) (by simp) ?_
              refine AllReadyH.cons rfl (fun K hK => ?_) AllReadyH.nil
              rw [if_pos (by rfl)]
              have HXb : Hid (Only (fun _ => False) w3 (za.setRow B6 #[.int .i64 (W1 : Int), .int .i64 (T1 : Int), .int .u8 (M1 : Int), .int .i64 (hy : Int), .int .i64 (pr : Int), .float .f64 lo])) := HXa.out.setRowNew HMa.out.2.2.2 _
              refine wp_store_row 35 _ _ rfl B6 #[.int .i64 (W1 : Int), .int .i64 (T1 : Int), .int .u8 (M1 : Int), .int .i64 (hy : Int), .int .i64 (pr : Int), .float .f64 lo] rfl rfl 35 _ HMa.out.2.2.1 (by kernel_rfl) rfl (cfg_one _ _ _ _ _ _) ?_
              have HMb : Hid (Made (za.setRow B6 #[.int .i64 (W1 : Int), .int .i64 (T1 : Int), .int .u8 (M1 : Int), .int .i64 (hy : Int), .int .i64 (pr : Int), .float .f64 lo]) L n0 k aC aO cC cO ∧ Blk w3 (za.setRow B6 #[.int .i64 (W1 : Int), .int .i64 (T1 : Int), .int .u8 (M1 : Int), .int .i64 (hy : Int), .int .i64 (pr : Int), .float .f64 lo]) B5 31 #[.slice aC k cC, .slice aO (k + 1) cO] ∧ Blk w3 (za.setRow B6 #[.int .i64 (W1 : Int), .int .i64 (T1 : Int), .int .u8 (M1 : Int), .int .i64 (hy : Int), .int .i64 (pr : Int), .float .f64 lo]) B6 35 #[.int .i64 (W1 : Int), .int .i64 (T1 : Int), .int .u8 (M1 : Int), .int .i64 (hy : Int), .int .i64 (pr : Int), .float .f64 lo]) := ⟨HMa.out.1.store HMa.out.2.2.1 (by decide) (by decide) _, HMa.out.2.1.far HMa.out.2.2 (by decide) _, HMa.out.2.2.put _⟩
              obtain ⟨zb, hzb⟩ : ∃ Y, Y = za.setRow B6 #[.int .i64 (W1 : Int), .int .i64 (T1 : Int), .int .u8 (M1 : Int), .int .i64 (hy : Int), .int .i64 (pr : Int), .float .f64 lo] := ⟨_, rfl⟩
              rw [← hzb] at HXb HMb ⊢
              clear hzb
              refine hK.out _ _ (HKS.out _ HXb.out) (fun hHeld => ?_)
              clear hK
              (try simp only [Act.put, List.setIfInBounds_toArray, List.set_cons_zero, List.set_cons_succ])
              refine wpAnyH_done (by kernel_rfl) ?_ _
              clear hHeld
              go_wp2_with fail
              go_meet
              exact ⟨k, B5, B6, aC, aO, cC, cO, _, rfl, rfl, rfl, HMb.out.1, HMb.out.2.1, HMb.out.2.2, HXb.out⟩
          · rw [if_pos (by rfl)]
            go_simp
            obtain ⟨y2, hy2⟩ : ∃ Y, Y = y1.alloc (.cells #[.slice none 0 0, .slice none 0 0] 31) := ⟨_, rfl⟩
            obtain ⟨B5, hB5⟩ : ∃ b, b = y1.heap.size := ⟨_, rfl⟩
            have ho : Only (fun _ => False) y1 y2 := by rw [hy2]; exact (Only.refl _ _).alloc _
            have HXy2 : Hid (Only (fun _ => False) w3 y2) := HXy1.out.trans ho
            have HB5y2 : Hid (Blk w3 y2 B5 31 #[.slice none 0 0, .slice none 0 0]) := by rw [hy2, hB5]; exact Blk.made HXy1.out _ _
            have HMy2 : Hid (Made y2 L n0 k aC aO cC cO) := HMy1.out.keep ho
            rw [← hy2, ← hB5]
            clear hy2 hB5 ho
            refine hK.out _ _ (HKS.out _ HXy2.out) (fun hHeld => ?_)
            clear hK
            (try simp only [Act.put, List.setIfInBounds_toArray, List.set_cons_zero, List.set_cons_succ])
            refine wpAnyH_ready (rs := [3, 5]) (by kernel_rfl) (by simp) ?_
            refine AllReadyH.cons rfl (fun K hK => ?_) (AllReadyH.cons rfl (fun K hK => ?_) AllReadyH.nil)
            · rw [if_pos (by rfl)]
              go_simp
              refine Calls.mono (HCF.out _) ?_
              rintro e y3 ⟨rfl, ho⟩
              have HMy3 : Hid (Made y3 L n0 k aC aO cC cO) := HMy2.out.keep ho
              have HXy3 : Hid (Only (fun _ => False) w3 y3) := HXy2.out.trans ho
              have HB5y3 : Hid (Blk w3 y3 B5 31 #[.slice none 0 0, .slice none 0 0]) := HB5y2.out.keep ho
              clear ho
              refine hK.out _ _ (HKS.out _ HXy3.out) (fun hHeld => ?_)
              clear hK
              (try simp only [Act.put, List.setIfInBounds_toArray, List.set_cons_zero, List.set_cons_succ])
              refine wpAnyH_ready (rs := [5]) (by kernel_rfl) (by simp) ?_
              refine AllReadyH.cons rfl (fun K hK => ?_) AllReadyH.nil
              rw [if_pos (by rfl)]
              go_simp
              obtain ⟨y4, hy4⟩ : ∃ Y, Y = y3.alloc (.cells #[.int .i64 0, .int .i64 0, .int .u8 0, .int .i64 0, .int .i64 0, .float .f64 0] 35) := ⟨_, rfl⟩
              obtain ⟨B6, hB6⟩ : ∃ b, b = y3.heap.size := ⟨_, rfl⟩
              have ho : Only (fun _ => False) y3 y4 := by rw [hy4]; exact (Only.refl _ _).alloc _
              have HXy4 : Hid (Only (fun _ => False) w3 y4) := HXy3.out.trans ho
              have HB6y4 : Hid (Blk w3 y4 B6 35 #[.int .i64 0, .int .i64 0, .int .u8 0, .int .i64 0, .int .i64 0, .float .f64 0]) := by rw [hy4, hB6]; exact Blk.made HXy3.out _ _
              have HB5y4 : Hid (Blk w3 y4 B5 31 #[.slice none 0 0, .slice none 0 0]) := HB5y3.out.keep ho
              have HMy4 : Hid (Made y4 L n0 k aC aO cC cO) := HMy3.out.keep ho
              rw [← hy4, ← hB6]
              clear hy4 hB6 ho
              refine hK.out _ _ (HKS.out _ HXy4.out) (fun hHeld => ?_)
              clear hK
              (try simp only [Act.put, List.setIfInBounds_toArray, List.set_cons_zero, List.set_cons_succ])
              refine wpAnyH_ready (rs := [6]) (by kernel_rfl) (by simp) ?_
              refine AllReadyH.cons rfl (fun K hK => ?_) AllReadyH.nil
              rw [if_pos (by rfl)]
              have HXa : Hid (Only (fun _ => False) w3 (y4.setRow B5 #[.slice aC k cC, .slice aO (k + 1) cO])) := HXy4.out.setRowNew HB5y4.out.2 _
              refine wp_store_row 31 _ _ rfl B5 #[.slice aC k cC, .slice aO (k + 1) cO] rfl rfl 31 _ HB5y4.out.1 (by kernel_rfl) rfl (two_one _ _ _ _ _ _) ?_
              have HMa : Hid (Made (y4.setRow B5 #[.slice aC k cC, .slice aO (k + 1) cO]) L n0 k aC aO cC cO ∧ Blk w3 (y4.setRow B5 #[.slice aC k cC, .slice aO (k + 1) cO]) B5 31 #[.slice aC k cC, .slice aO (k + 1) cO] ∧ Blk w3 (y4.setRow B5 #[.slice aC k cC, .slice aO (k + 1) cO]) B6 35 #[.int .i64 0, .int .i64 0, .int .u8 0, .int .i64 0, .int .i64 0, .float .f64 0]) := ⟨HMy4.out.store HB5y4.out.1 (by decide) (by decide) _, HB5y4.out.put _, HB6y4.out.far HB5y4.out (by decide) _⟩
              obtain ⟨za, hza⟩ : ∃ Y, Y = y4.setRow B5 #[.slice aC k cC, .slice aO (k + 1) cO] := ⟨_, rfl⟩
              rw [← hza] at HXa HMa ⊢
              clear hza
              refine hK.out _ _ (HKS.out _ HXa.out) (fun hHeld => ?_)
              clear hK
              (try simp only [Act.put, List.setIfInBounds_toArray, List.set_cons_zero, List.set_cons_succ])
              refine wpAnyH_ready (rs := [7]) (by kernel_rfl) (by simp) ?_
              refine AllReadyH.cons rfl (fun K hK => ?_) AllReadyH.nil
              rw [if_pos (by rfl)]
              have HXb : Hid (Only (fun _ => False) w3 (za.setRow B6 #[.int .i64 (W1 : Int), .int .i64 (T1 : Int), .int .u8 (M1 : Int), .int .i64 (hy : Int), .int .i64 (pr : Int), .float .f64 lo])) := HXa.out.setRowNew HMa.out.2.2.2 _
              refine wp_store_row 35 _ _ rfl B6 #[.int .i64 (W1 : Int), .int .i64 (T1 : Int), .int .u8 (M1 : Int), .int .i64 (hy : Int), .int .i64 (pr : Int), .float .f64 lo] rfl rfl 35 _ HMa.out.2.2.1 (by kernel_rfl) rfl (cfg_one _ _ _ _ _ _) ?_
              have HMb : Hid (Made (za.setRow B6 #[.int .i64 (W1 : Int), .int .i64 (T1 : Int), .int .u8 (M1 : Int), .int .i64 (hy : Int), .int .i64 (pr : Int), .float .f64 lo]) L n0 k aC aO cC cO ∧ Blk w3 (za.setRow B6 #[.int .i64 (W1 : Int), .int .i64 (T1 : Int), .int .u8 (M1 : Int), .int .i64 (hy : Int), .int .i64 (pr : Int), .float .f64 lo]) B5 31 #[.slice aC k cC, .slice aO (k + 1) cO] ∧ Blk w3 (za.setRow B6 #[.int .i64 (W1 : Int), .int .i64 (T1 : Int), .int .u8 (M1 : Int), .int .i64 (hy : Int), .int .i64 (pr : Int), .float .f64 lo]) B6 35 #[.int .i64 (W1 : Int), .int .i64 (T1 : Int), .int .u8 (M1 : Int), .int .i64 (hy : Int), .int .i64 (pr : Int), .float .f64 lo]) := ⟨HMa.out.1.store HMa.out.2.2.1 (by decide) (by decide) _, HMa.out.2.1.far HMa.out.2.2 (by decide) _, HMa.out.2.2.put _⟩
              obtain ⟨zb, hzb⟩ : ∃ Y, Y = za.setRow B6 #[.int .i64 (W1 : Int), .int .i64 (T1 : Int), .int .u8 (M1 : Int), .int .i64 (hy : Int), .int .i64 (pr : Int), .float .f64 lo] := ⟨_, rfl⟩
              rw [← hzb] at HXb HMb ⊢
              clear hzb
              refine hK.out _ _ (HKS.out _ HXb.out) (fun hHeld => ?_)
              clear hK
              (try simp only [Act.put, List.setIfInBounds_toArray, List.set_cons_zero, List.set_cons_succ])
              refine wpAnyH_done (by kernel_rfl) ?_ _
              clear hHeld
              go_wp2_with fail
              go_meet
              exact ⟨k, B5, B6, aC, aO, cC, cO, _, rfl, rfl, rfl, HMb.out.1, HMb.out.2.1, HMb.out.2.2, HXb.out⟩
            · rw [if_pos (by rfl)]
              go_simp
              obtain ⟨y3, hy3⟩ : ∃ Y, Y = y2.alloc (.cells #[.int .i64 0, .int .i64 0, .int .u8 0, .int .i64 0, .int .i64 0, .float .f64 0] 35) := ⟨_, rfl⟩
              obtain ⟨B6, hB6⟩ : ∃ b, b = y2.heap.size := ⟨_, rfl⟩
              have ho : Only (fun _ => False) y2 y3 := by rw [hy3]; exact (Only.refl _ _).alloc _
              have HXy3 : Hid (Only (fun _ => False) w3 y3) := HXy2.out.trans ho
              have HB6y3 : Hid (Blk w3 y3 B6 35 #[.int .i64 0, .int .i64 0, .int .u8 0, .int .i64 0, .int .i64 0, .float .f64 0]) := by rw [hy3, hB6]; exact Blk.made HXy2.out _ _
              have HB5y3 : Hid (Blk w3 y3 B5 31 #[.slice none 0 0, .slice none 0 0]) := HB5y2.out.keep ho
              have HMy3 : Hid (Made y3 L n0 k aC aO cC cO) := HMy2.out.keep ho
              rw [← hy3, ← hB6]
              clear hy3 hB6 ho
              refine hK.out _ _ (HKS.out _ HXy3.out) (fun hHeld => ?_)
              clear hK
              (try simp only [Act.put, List.setIfInBounds_toArray, List.set_cons_zero, List.set_cons_succ])
              refine wpAnyH_ready (rs := [3]) (by kernel_rfl) (by simp) ?_
              refine AllReadyH.cons rfl (fun K hK => ?_) AllReadyH.nil
              rw [if_pos (by rfl)]
              go_simp
              refine Calls.mono (HCF.out _) ?_
              rintro e y4 ⟨rfl, ho⟩
              have HMy4 : Hid (Made y4 L n0 k aC aO cC cO) := HMy3.out.keep ho
              have HXy4 : Hid (Only (fun _ => False) w3 y4) := HXy3.out.trans ho
              have HB5y4 : Hid (Blk w3 y4 B5 31 #[.slice none 0 0, .slice none 0 0]) := HB5y3.out.keep ho
              have HB6y4 : Hid (Blk w3 y4 B6 35 #[.int .i64 0, .int .i64 0, .int .u8 0, .int .i64 0, .int .i64 0, .float .f64 0]) := HB6y3.out.keep ho
              clear ho
              refine hK.out _ _ (HKS.out _ HXy4.out) (fun hHeld => ?_)
              clear hK
              (try simp only [Act.put, List.setIfInBounds_toArray, List.set_cons_zero, List.set_cons_succ])
              refine wpAnyH_ready (rs := [6]) (by kernel_rfl) (by simp) ?_
              refine AllReadyH.cons rfl (fun K hK => ?_) AllReadyH.nil
              rw [if_pos (by rfl)]
              have HXa : Hid (Only (fun _ => False) w3 (y4.setRow B5 #[.slice aC k cC, .slice aO (k + 1) cO])) := HXy4.out.setRowNew HB5y4.out.2 _
              refine wp_store_row 31 _ _ rfl B5 #[.slice aC k cC, .slice aO (k + 1) cO] rfl rfl 31 _ HB5y4.out.1 (by kernel_rfl) rfl (two_one _ _ _ _ _ _) ?_
              have HMa : Hid (Made (y4.setRow B5 #[.slice aC k cC, .slice aO (k + 1) cO]) L n0 k aC aO cC cO ∧ Blk w3 (y4.setRow B5 #[.slice aC k cC, .slice aO (k + 1) cO]) B5 31 #[.slice aC k cC, .slice aO (k + 1) cO] ∧ Blk w3 (y4.setRow B5 #[.slice aC k cC, .slice aO (k + 1) cO]) B6 35 #[.int .i64 0, .int .i64 0, .int .u8 0, .int .i64 0, .int .i64 0, .float .f64 0]) := ⟨HMy4.out.store HB5y4.out.1 (by decide) (by decide) _, HB5y4.out.put _, HB6y4.out.far HB5y4.out (by decide) _⟩
              obtain ⟨za, hza⟩ : ∃ Y, Y = y4.setRow B5 #[.slice aC k cC, .slice aO (k + 1) cO] := ⟨_, rfl⟩
              rw [← hza] at HXa HMa ⊢
              clear hza
              refine hK.out _ _ (HKS.out _ HXa.out) (fun hHeld => ?_)
              clear hK
              (try simp only [Act.put, List.setIfInBounds_toArray, List.set_cons_zero, List.set_cons_succ])
              refine wpAnyH_ready (rs := [7]) (by kernel_rfl) (by simp) ?_
              refine AllReadyH.cons rfl (fun K hK => ?_) AllReadyH.nil
              rw [if_pos (by rfl)]
              have HXb : Hid (Only (fun _ => False) w3 (za.setRow B6 #[.int .i64 (W1 : Int), .int .i64 (T1 : Int), .int .u8 (M1 : Int), .int .i64 (hy : Int), .int .i64 (pr : Int), .float .f64 lo])) := HXa.out.setRowNew HMa.out.2.2.2 _
              refine wp_store_row 35 _ _ rfl B6 #[.int .i64 (W1 : Int), .int .i64 (T1 : Int), .int .u8 (M1 : Int), .int .i64 (hy : Int), .int .i64 (pr : Int), .float .f64 lo] rfl rfl 35 _ HMa.out.2.2.1 (by kernel_rfl) rfl (cfg_one _ _ _ _ _ _) ?_
              have HMb : Hid (Made (za.setRow B6 #[.int .i64 (W1 : Int), .int .i64 (T1 : Int), .int .u8 (M1 : Int), .int .i64 (hy : Int), .int .i64 (pr : Int), .float .f64 lo]) L n0 k aC aO cC cO ∧ Blk w3 (za.setRow B6 #[.int .i64 (W1 : Int), .int .i64 (T1 : Int), .int .u8 (M1 : Int), .int .i64 (hy : Int), .int .i64 (pr : Int), .float .f64 lo]) B5 31 #[.slice aC k cC, .slice aO (k + 1) cO] ∧ Blk w3 (za.setRow B6 #[.int .i64 (W1 : Int), .int .i64 (T1 : Int), .int .u8 (M1 : Int), .int .i64 (hy : Int), .int .i64 (pr : Int), .float .f64 lo]) B6 35 #[.int .i64 (W1 : Int), .int .i64 (T1 : Int), .int .u8 (M1 : Int), .int .i64 (hy : Int), .int .i64 (pr : Int), .float .f64 lo]) := ⟨HMa.out.1.store HMa.out.2.2.1 (by decide) (by decide) _, HMa.out.2.1.far HMa.out.2.2 (by decide) _, HMa.out.2.2.put _⟩
              obtain ⟨zb, hzb⟩ : ∃ Y, Y = za.setRow B6 #[.int .i64 (W1 : Int), .int .i64 (T1 : Int), .int .u8 (M1 : Int), .int .i64 (hy : Int), .int .i64 (pr : Int), .float .f64 lo] := ⟨_, rfl⟩
              rw [← hzb] at HXb HMb ⊢
              clear hzb
              refine hK.out _ _ (HKS.out _ HXb.out) (fun hHeld => ?_)
              clear hK
              (try simp only [Act.put, List.setIfInBounds_toArray, List.set_cons_zero, List.set_cons_succ])
              refine wpAnyH_done (by kernel_rfl) ?_ _
              clear hHeld
              go_wp2_with fail
              go_meet
              exact ⟨k, B5, B6, aC, aO, cC, cO, _, rfl, rfl, rfl, HMb.out.1, HMb.out.2.1, HMb.out.2.2, HXb.out⟩
          · rw [if_pos (by rfl)]
            go_simp
            obtain ⟨y2, hy2⟩ : ∃ Y, Y = y1.alloc (.cells #[.int .i64 0, .int .i64 0, .int .u8 0, .int .i64 0, .int .i64 0, .float .f64 0] 35) := ⟨_, rfl⟩
            obtain ⟨B6, hB6⟩ : ∃ b, b = y1.heap.size := ⟨_, rfl⟩
            have ho : Only (fun _ => False) y1 y2 := by rw [hy2]; exact (Only.refl _ _).alloc _
            have HXy2 : Hid (Only (fun _ => False) w3 y2) := HXy1.out.trans ho
            have HB6y2 : Hid (Blk w3 y2 B6 35 #[.int .i64 0, .int .i64 0, .int .u8 0, .int .i64 0, .int .i64 0, .float .f64 0]) := by rw [hy2, hB6]; exact Blk.made HXy1.out _ _
            have HMy2 : Hid (Made y2 L n0 k aC aO cC cO) := HMy1.out.keep ho
            rw [← hy2, ← hB6]
            clear hy2 hB6 ho
            refine hK.out _ _ (HKS.out _ HXy2.out) (fun hHeld => ?_)
            clear hK
            (try simp only [Act.put, List.setIfInBounds_toArray, List.set_cons_zero, List.set_cons_succ])
            refine wpAnyH_ready (rs := [3, 4]) (by kernel_rfl) (by simp) ?_
            refine AllReadyH.cons rfl (fun K hK => ?_) (AllReadyH.cons rfl (fun K hK => ?_) AllReadyH.nil)
            · rw [if_pos (by rfl)]
              go_simp
              refine Calls.mono (HCF.out _) ?_
              rintro e y3 ⟨rfl, ho⟩
              have HMy3 : Hid (Made y3 L n0 k aC aO cC cO) := HMy2.out.keep ho
              have HXy3 : Hid (Only (fun _ => False) w3 y3) := HXy2.out.trans ho
              have HB6y3 : Hid (Blk w3 y3 B6 35 #[.int .i64 0, .int .i64 0, .int .u8 0, .int .i64 0, .int .i64 0, .float .f64 0]) := HB6y2.out.keep ho
              clear ho
              refine hK.out _ _ (HKS.out _ HXy3.out) (fun hHeld => ?_)
              clear hK
              (try simp only [Act.put, List.setIfInBounds_toArray, List.set_cons_zero, List.set_cons_succ])
              refine wpAnyH_ready (rs := [4]) (by kernel_rfl) (by simp) ?_
              refine AllReadyH.cons rfl (fun K hK => ?_) AllReadyH.nil
              rw [if_pos (by rfl)]
              go_simp
              obtain ⟨y4, hy4⟩ : ∃ Y, Y = y3.alloc (.cells #[.slice none 0 0, .slice none 0 0] 31) := ⟨_, rfl⟩
              obtain ⟨B5, hB5⟩ : ∃ b, b = y3.heap.size := ⟨_, rfl⟩
              have ho : Only (fun _ => False) y3 y4 := by rw [hy4]; exact (Only.refl _ _).alloc _
              have HXy4 : Hid (Only (fun _ => False) w3 y4) := HXy3.out.trans ho
              have HB5y4 : Hid (Blk w3 y4 B5 31 #[.slice none 0 0, .slice none 0 0]) := by rw [hy4, hB5]; exact Blk.made HXy3.out _ _
              have HB6y4 : Hid (Blk w3 y4 B6 35 #[.int .i64 0, .int .i64 0, .int .u8 0, .int .i64 0, .int .i64 0, .float .f64 0]) := HB6y3.out.keep ho
              have HMy4 : Hid (Made y4 L n0 k aC aO cC cO) := HMy3.out.keep ho
              rw [← hy4, ← hB5]
              clear hy4 hB5 ho
              refine hK.out _ _ (HKS.out _ HXy4.out) (fun hHeld => ?_)
              clear hK
              (try simp only [Act.put, List.setIfInBounds_toArray, List.set_cons_zero, List.set_cons_succ])
              refine wpAnyH_ready (rs := [6]) (by kernel_rfl) (by simp) ?_
              refine AllReadyH.cons rfl (fun K hK => ?_) AllReadyH.nil
              rw [if_pos (by rfl)]
              have HXa : Hid (Only (fun _ => False) w3 (y4.setRow B5 #[.slice aC k cC, .slice aO (k + 1) cO])) := HXy4.out.setRowNew HB5y4.out.2 _
              refine wp_store_row 31 _ _ rfl B5 #[.slice aC k cC, .slice aO (k + 1) cO] rfl rfl 31 _ HB5y4.out.1 (by kernel_rfl) rfl (two_one _ _ _ _ _ _) ?_
              have HMa : Hid (Made (y4.setRow B5 #[.slice aC k cC, .slice aO (k + 1) cO]) L n0 k aC aO cC cO ∧ Blk w3 (y4.setRow B5 #[.slice aC k cC, .slice aO (k + 1) cO]) B5 31 #[.slice aC k cC, .slice aO (k + 1) cO] ∧ Blk w3 (y4.setRow B5 #[.slice aC k cC, .slice aO (k + 1) cO]) B6 35 #[.int .i64 0, .int .i64 0, .int .u8 0, .int .i64 0, .int .i64 0, .float .f64 0]) := ⟨HMy4.out.store HB5y4.out.1 (by decide) (by decide) _, HB5y4.out.put _, HB6y4.out.far HB5y4.out (by decide) _⟩
              obtain ⟨za, hza⟩ : ∃ Y, Y = y4.setRow B5 #[.slice aC k cC, .slice aO (k + 1) cO] := ⟨_, rfl⟩
              rw [← hza] at HXa HMa ⊢
              clear hza
              refine hK.out _ _ (HKS.out _ HXa.out) (fun hHeld => ?_)
              clear hK
              (try simp only [Act.put, List.setIfInBounds_toArray, List.set_cons_zero, List.set_cons_succ])
              refine wpAnyH_ready (rs := [7]) (by kernel_rfl) (by simp) ?_
              refine AllReadyH.cons rfl (fun K hK => ?_) AllReadyH.nil
              rw [if_pos (by rfl)]
              have HXb : Hid (Only (fun _ => False) w3 (za.setRow B6 #[.int .i64 (W1 : Int), .int .i64 (T1 : Int), .int .u8 (M1 : Int), .int .i64 (hy : Int), .int .i64 (pr : Int), .float .f64 lo])) := HXa.out.setRowNew HMa.out.2.2.2 _
              refine wp_store_row 35 _ _ rfl B6 #[.int .i64 (W1 : Int), .int .i64 (T1 : Int), .int .u8 (M1 : Int), .int .i64 (hy : Int), .int .i64 (pr : Int), .float .f64 lo] rfl rfl 35 _ HMa.out.2.2.1 (by kernel_rfl) rfl (cfg_one _ _ _ _ _ _) ?_
              have HMb : Hid (Made (za.setRow B6 #[.int .i64 (W1 : Int), .int .i64 (T1 : Int), .int .u8 (M1 : Int), .int .i64 (hy : Int), .int .i64 (pr : Int), .float .f64 lo]) L n0 k aC aO cC cO ∧ Blk w3 (za.setRow B6 #[.int .i64 (W1 : Int), .int .i64 (T1 : Int), .int .u8 (M1 : Int), .int .i64 (hy : Int), .int .i64 (pr : Int), .float .f64 lo]) B5 31 #[.slice aC k cC, .slice aO (k + 1) cO] ∧ Blk w3 (za.setRow B6 #[.int .i64 (W1 : Int), .int .i64 (T1 : Int), .int .u8 (M1 : Int), .int .i64 (hy : Int), .int .i64 (pr : Int), .float .f64 lo]) B6 35 #[.int .i64 (W1 : Int), .int .i64 (T1 : Int), .int .u8 (M1 : Int), .int .i64 (hy : Int), .int .i64 (pr : Int), .float .f64 lo]) := ⟨HMa.out.1.store HMa.out.2.2.1 (by decide) (by decide) _, HMa.out.2.1.far HMa.out.2.2 (by decide) _, HMa.out.2.2.put _⟩
              obtain ⟨zb, hzb⟩ : ∃ Y, Y = za.setRow B6 #[.int .i64 (W1 : Int), .int .i64 (T1 : Int), .int .u8 (M1 : Int), .int .i64 (hy : Int), .int .i64 (pr : Int), .float .f64 lo] := ⟨_, rfl⟩
              rw [← hzb] at HXb HMb ⊢
              clear hzb
              refine hK.out _ _ (HKS.out _ HXb.out) (fun hHeld => ?_)
              clear hK
              (try simp only [Act.put, List.setIfInBounds_toArray, List.set_cons_zero, List.set_cons_succ])
              refine wpAnyH_done (by kernel_rfl) ?_ _
              clear hHeld
              go_wp2_with fail
              go_meet
              exact ⟨k, B5, B6, aC, aO, cC, cO, _, rfl, rfl, rfl, HMb.out.1, HMb.out.2.1, HMb.out.2.2, HXb.out⟩
            · rw [if_pos (by rfl)]
              go_simp
              obtain ⟨y3, hy3⟩ : ∃ Y, Y = y2.alloc (.cells #[.slice none 0 0, .slice none 0 0] 31) := ⟨_, rfl⟩
              obtain ⟨B5, hB5⟩ : ∃ b, b = y2.heap.size := ⟨_, rfl⟩
              have ho : Only (fun _ => False) y2 y3 := by rw [hy3]; exact (Only.refl _ _).alloc _
              have HXy3 : Hid (Only (fun _ => False) w3 y3) := HXy2.out.trans ho
              have HB5y3 : Hid (Blk w3 y3 B5 31 #[.slice none 0 0, .slice none 0 0]) := by rw [hy3, hB5]; exact Blk.made HXy2.out _ _
              have HB6y3 : Hid (Blk w3 y3 B6 35 #[.int .i64 0, .int .i64 0, .int .u8 0, .int .i64 0, .int .i64 0, .float .f64 0]) := HB6y2.out.keep ho
              have HMy3 : Hid (Made y3 L n0 k aC aO cC cO) := HMy2.out.keep ho
              rw [← hy3, ← hB5]
              clear hy3 hB5 ho
              refine hK.out _ _ (HKS.out _ HXy3.out) (fun hHeld => ?_)
              clear hK
              (try simp only [Act.put, List.setIfInBounds_toArray, List.set_cons_zero, List.set_cons_succ])
              refine wpAnyH_ready (rs := [3]) (by kernel_rfl) (by simp) ?_
              refine AllReadyH.cons rfl (fun K hK => ?_) AllReadyH.nil
              rw [if_pos (by rfl)]
              go_simp
              refine Calls.mono (HCF.out _) ?_
              rintro e y4 ⟨rfl, ho⟩
              have HMy4 : Hid (Made y4 L n0 k aC aO cC cO) := HMy3.out.keep ho
              have HXy4 : Hid (Only (fun _ => False) w3 y4) := HXy3.out.trans ho
              have HB5y4 : Hid (Blk w3 y4 B5 31 #[.slice none 0 0, .slice none 0 0]) := HB5y3.out.keep ho
              have HB6y4 : Hid (Blk w3 y4 B6 35 #[.int .i64 0, .int .i64 0, .int .u8 0, .int .i64 0, .int .i64 0, .float .f64 0]) := HB6y3.out.keep ho
              clear ho
              refine hK.out _ _ (HKS.out _ HXy4.out) (fun hHeld => ?_)
              clear hK
              (try simp only [Act.put, List.setIfInBounds_toArray, List.set_cons_zero, List.set_cons_succ])
              refine wpAnyH_ready (rs := [6]) (by kernel_rfl) (by simp) ?_
              refine AllReadyH.cons rfl (fun K hK => ?_) AllReadyH.nil
              rw [if_pos (by rfl)]
              have HXa : Hid (Only (fun _ => False) w3 (y4.setRow B5 #[.slice aC k cC, .slice aO (k + 1) cO])) := HXy4.out.setRowNew HB5y4.out.2 _
              refine wp_store_row 31 _ _ rfl B5 #[.slice aC k cC, .slice aO (k + 1) cO] rfl rfl 31 _ HB5y4.out.1 (by kernel_rfl) rfl (two_one _ _ _ _ _ _) ?_
              have HMa : Hid (Made (y4.setRow B5 #[.slice aC k cC, .slice aO (k + 1) cO]) L n0 k aC aO cC cO ∧ Blk w3 (y4.setRow B5 #[.slice aC k cC, .slice aO (k + 1) cO]) B5 31 #[.slice aC k cC, .slice aO (k + 1) cO] ∧ Blk w3 (y4.setRow B5 #[.slice aC k cC, .slice aO (k + 1) cO]) B6 35 #[.int .i64 0, .int .i64 0, .int .u8 0, .int .i64 0, .int .i64 0, .float .f64 0]) := ⟨HMy4.out.store HB5y4.out.1 (by decide) (by decide) _, HB5y4.out.put _, HB6y4.out.far HB5y4.out (by decide) _⟩
              obtain ⟨za, hza⟩ : ∃ Y, Y = y4.setRow B5 #[.slice aC k cC, .slice aO (k + 1) cO] := ⟨_, rfl⟩
              rw [← hza] at HXa HMa ⊢
              clear hza
              refine hK.out _ _ (HKS.out _ HXa.out) (fun hHeld => ?_)
              clear hK
              (try simp only [Act.put, List.setIfInBounds_toArray, List.set_cons_zero, List.set_cons_succ])
              refine wpAnyH_ready (rs := [7]) (by kernel_rfl) (by simp) ?_
              refine AllReadyH.cons rfl (fun K hK => ?_) AllReadyH.nil
              rw [if_pos (by rfl)]
              have HXb : Hid (Only (fun _ => False) w3 (za.setRow B6 #[.int .i64 (W1 : Int), .int .i64 (T1 : Int), .int .u8 (M1 : Int), .int .i64 (hy : Int), .int .i64 (pr : Int), .float .f64 lo])) := HXa.out.setRowNew HMa.out.2.2.2 _
              refine wp_store_row 35 _ _ rfl B6 #[.int .i64 (W1 : Int), .int .i64 (T1 : Int), .int .u8 (M1 : Int), .int .i64 (hy : Int), .int .i64 (pr : Int), .float .f64 lo] rfl rfl 35 _ HMa.out.2.2.1 (by kernel_rfl) rfl (cfg_one _ _ _ _ _ _) ?_
              have HMb : Hid (Made (za.setRow B6 #[.int .i64 (W1 : Int), .int .i64 (T1 : Int), .int .u8 (M1 : Int), .int .i64 (hy : Int), .int .i64 (pr : Int), .float .f64 lo]) L n0 k aC aO cC cO ∧ Blk w3 (za.setRow B6 #[.int .i64 (W1 : Int), .int .i64 (T1 : Int), .int .u8 (M1 : Int), .int .i64 (hy : Int), .int .i64 (pr : Int), .float .f64 lo]) B5 31 #[.slice aC k cC, .slice aO (k + 1) cO] ∧ Blk w3 (za.setRow B6 #[.int .i64 (W1 : Int), .int .i64 (T1 : Int), .int .u8 (M1 : Int), .int .i64 (hy : Int), .int .i64 (pr : Int), .float .f64 lo]) B6 35 #[.int .i64 (W1 : Int), .int .i64 (T1 : Int), .int .u8 (M1 : Int), .int .i64 (hy : Int), .int .i64 (pr : Int), .float .f64 lo]) := ⟨HMa.out.1.store HMa.out.2.2.1 (by decide) (by decide) _, HMa.out.2.1.far HMa.out.2.2 (by decide) _, HMa.out.2.2.put _⟩
              obtain ⟨zb, hzb⟩ : ∃ Y, Y = za.setRow B6 #[.int .i64 (W1 : Int), .int .i64 (T1 : Int), .int .u8 (M1 : Int), .int .i64 (hy : Int), .int .i64 (pr : Int), .float .f64 lo] := ⟨_, rfl⟩
              rw [← hzb] at HXb HMb ⊢
              clear hzb
              refine hK.out _ _ (HKS.out _ HXb.out) (fun hHeld => ?_)
              clear hK
              (try simp only [Act.put, List.setIfInBounds_toArray, List.set_cons_zero, List.set_cons_succ])
              refine wpAnyH_done (by kernel_rfl) ?_ _
              clear hHeld
              go_wp2_with fail
              go_meet
              exact ⟨k, B5, B6, aC, aO, cC, cO, _, rfl, rfl, rfl, HMb.out.1, HMb.out.2.1, HMb.out.2.2, HXb.out⟩
        · rw [if_pos (by rfl)]
          go_simp
          obtain ⟨y1, hy1⟩ : ∃ Y, Y = (w3.alloc (.cells #[.slice none 0 0, .slice none 0 0] 31)).drew := ⟨_, rfl⟩
          obtain ⟨B5, hB5⟩ : ∃ b, b = w3.heap.size := ⟨_, rfl⟩
          have ho : Only (fun _ => False) w3 y1 := by rw [hy1]; exact ((Only.refl _ _).alloc _).drew
          have HXy1 : Hid (Only (fun _ => False) w3 y1) := ho
          have HB5y1 : Hid (Blk w3 y1 B5 31 #[.slice none 0 0, .slice none 0 0]) := by rw [hy1, hB5]; exact (Blk.made (Only.refl _ _) _ _).drew
          rw [← hy1, ← hB5]
          clear hy1 hB5 ho
          refine hK.out _ _ (HKS.out _ HXy1.out) (fun hHeld => ?_)
          clear hK
          (try simp only [Act.put, List.setIfInBounds_toArray, List.set_cons_zero, List.set_cons_succ])
          refine wpAnyH_ready (rs := [1, 5]) (by kernel_rfl) (by simp) ?_
          refine AllReadyH.cons rfl (fun K hK => ?_) (AllReadyH.cons rfl (fun K hK => ?_) AllReadyH.nil)
          · rw [if_pos (by rfl)]
            go_simp
            refine Calls.mono (HPA.out _ (HW3.out.trans HXy1.out)) ?_
            rintro e y2 ⟨k, aC, aO, cC, cO, rfl, hmd, ho⟩
            have HMy2 : Hid (Made y2 L n0 k aC aO cC cO) := hmd
            clear hmd
            have HXy2 : Hid (Only (fun _ => False) w3 y2) := HXy1.out.trans ho
            have HB5y2 : Hid (Blk w3 y2 B5 31 #[.slice none 0 0, .slice none 0 0]) := HB5y1.out.keep ho
            clear ho
            refine hK.out _ _ (HKS.out _ HXy2.out) (fun hHeld => ?_)
            clear hK
            (try simp only [Act.put, List.setIfInBounds_toArray, List.set_cons_zero, List.set_cons_succ])
            refine wpAnyH_ready (rs := [3, 5]) (by kernel_rfl) (by simp) ?_
            refine AllReadyH.cons rfl (fun K hK => ?_) (AllReadyH.cons rfl (fun K hK => ?_) AllReadyH.nil)
            · rw [if_pos (by rfl)]
              go_simp
              refine Calls.mono (HCF.out _) ?_
              rintro e y3 ⟨rfl, ho⟩
              have HMy3 : Hid (Made y3 L n0 k aC aO cC cO) := HMy2.out.keep ho
              have HXy3 : Hid (Only (fun _ => False) w3 y3) := HXy2.out.trans ho
              have HB5y3 : Hid (Blk w3 y3 B5 31 #[.slice none 0 0, .slice none 0 0]) := HB5y2.out.keep ho
              clear ho
              refine hK.out _ _ (HKS.out _ HXy3.out) (fun hHeld => ?_)
              clear hK
              (try simp only [Act.put, List.setIfInBounds_toArray, List.set_cons_zero, List.set_cons_succ])
              refine wpAnyH_ready (rs := [5]) (by kernel_rfl) (by simp) ?_
              refine AllReadyH.cons rfl (fun K hK => ?_) AllReadyH.nil
              rw [if_pos (by rfl)]
              go_simp
              obtain ⟨y4, hy4⟩ : ∃ Y, Y = y3.alloc (.cells #[.int .i64 0, .int .i64 0, .int .u8 0, .int .i64 0, .int .i64 0, .float .f64 0] 35) := ⟨_, rfl⟩
              obtain ⟨B6, hB6⟩ : ∃ b, b = y3.heap.size := ⟨_, rfl⟩
              have ho : Only (fun _ => False) y3 y4 := by rw [hy4]; exact (Only.refl _ _).alloc _
              have HXy4 : Hid (Only (fun _ => False) w3 y4) := HXy3.out.trans ho
              have HB6y4 : Hid (Blk w3 y4 B6 35 #[.int .i64 0, .int .i64 0, .int .u8 0, .int .i64 0, .int .i64 0, .float .f64 0]) := by rw [hy4, hB6]; exact Blk.made HXy3.out _ _
              have HB5y4 : Hid (Blk w3 y4 B5 31 #[.slice none 0 0, .slice none 0 0]) := HB5y3.out.keep ho
              have HMy4 : Hid (Made y4 L n0 k aC aO cC cO) := HMy3.out.keep ho
              rw [← hy4, ← hB6]
              clear hy4 hB6 ho
              refine hK.out _ _ (HKS.out _ HXy4.out) (fun hHeld => ?_)
              clear hK
              (try simp only [Act.put, List.setIfInBounds_toArray, List.set_cons_zero, List.set_cons_succ])
              refine wpAnyH_ready (rs := [6]) (by kernel_rfl) (by simp) ?_
              refine AllReadyH.cons rfl (fun K hK => ?_) AllReadyH.nil
              rw [if_pos (by rfl)]
              have HXa : Hid (Only (fun _ => False) w3 (y4.setRow B5 #[.slice aC k cC, .slice aO (k + 1) cO])) := HXy4.out.setRowNew HB5y4.out.2 _
              refine wp_store_row 31 _ _ rfl B5 #[.slice aC k cC, .slice aO (k + 1) cO] rfl rfl 31 _ HB5y4.out.1 (by kernel_rfl) rfl (two_one _ _ _ _ _ _) ?_
              have HMa : Hid (Made (y4.setRow B5 #[.slice aC k cC, .slice aO (k + 1) cO]) L n0 k aC aO cC cO ∧ Blk w3 (y4.setRow B5 #[.slice aC k cC, .slice aO (k + 1) cO]) B5 31 #[.slice aC k cC, .slice aO (k + 1) cO] ∧ Blk w3 (y4.setRow B5 #[.slice aC k cC, .slice aO (k + 1) cO]) B6 35 #[.int .i64 0, .int .i64 0, .int .u8 0, .int .i64 0, .int .i64 0, .float .f64 0]) := ⟨HMy4.out.store HB5y4.out.1 (by decide) (by decide) _, HB5y4.out.put _, HB6y4.out.far HB5y4.out (by decide) _⟩
              obtain ⟨za, hza⟩ : ∃ Y, Y = y4.setRow B5 #[.slice aC k cC, .slice aO (k + 1) cO] := ⟨_, rfl⟩
              rw [← hza] at HXa HMa ⊢
              clear hza
              refine hK.out _ _ (HKS.out _ HXa.out) (fun hHeld => ?_)
              clear hK
              (try simp only [Act.put, List.setIfInBounds_toArray, List.set_cons_zero, List.set_cons_succ])
              refine wpAnyH_ready (rs := [7]) (by kernel_rfl) (by simp) ?_
              refine AllReadyH.cons rfl (fun K hK => ?_) AllReadyH.nil
              rw [if_pos (by rfl)]
              have HXb : Hid (Only (fun _ => False) w3 (za.setRow B6 #[.int .i64 (W1 : Int), .int .i64 (T1 : Int), .int .u8 (M1 : Int), .int .i64 (hy : Int), .int .i64 (pr : Int), .float .f64 lo])) := HXa.out.setRowNew HMa.out.2.2.2 _
              refine wp_store_row 35 _ _ rfl B6 #[.int .i64 (W1 : Int), .int .i64 (T1 : Int), .int .u8 (M1 : Int), .int .i64 (hy : Int), .int .i64 (pr : Int), .float .f64 lo] rfl rfl 35 _ HMa.out.2.2.1 (by kernel_rfl) rfl (cfg_one _ _ _ _ _ _) ?_
              have HMb : Hid (Made (za.setRow B6 #[.int .i64 (W1 : Int), .int .i64 (T1 : Int), .int .u8 (M1 : Int), .int .i64 (hy : Int), .int .i64 (pr : Int), .float .f64 lo]) L n0 k aC aO cC cO ∧ Blk w3 (za.setRow B6 #[.int .i64 (W1 : Int), .int .i64 (T1 : Int), .int .u8 (M1 : Int), .int .i64 (hy : Int), .int .i64 (pr : Int), .float .f64 lo]) B5 31 #[.slice aC k cC, .slice aO (k + 1) cO] ∧ Blk w3 (za.setRow B6 #[.int .i64 (W1 : Int), .int .i64 (T1 : Int), .int .u8 (M1 : Int), .int .i64 (hy : Int), .int .i64 (pr : Int), .float .f64 lo]) B6 35 #[.int .i64 (W1 : Int), .int .i64 (T1 : Int), .int .u8 (M1 : Int), .int .i64 (hy : Int), .int .i64 (pr : Int), .float .f64 lo]) := ⟨HMa.out.1.store HMa.out.2.2.1 (by decide) (by decide) _, HMa.out.2.1.far HMa.out.2.2 (by decide) _, HMa.out.2.2.put _⟩
              obtain ⟨zb, hzb⟩ : ∃ Y, Y = za.setRow B6 #[.int .i64 (W1 : Int), .int .i64 (T1 : Int), .int .u8 (M1 : Int), .int .i64 (hy : Int), .int .i64 (pr : Int), .float .f64 lo] := ⟨_, rfl⟩
              rw [← hzb] at HXb HMb ⊢
              clear hzb
              refine hK.out _ _ (HKS.out _ HXb.out) (fun hHeld => ?_)
              clear hK
              (try simp only [Act.put, List.setIfInBounds_toArray, List.set_cons_zero, List.set_cons_succ])
              refine wpAnyH_done (by kernel_rfl) ?_ _
              clear hHeld
              go_wp2_with fail
              go_meet
              exact ⟨k, B5, B6, aC, aO, cC, cO, _, rfl, rfl, rfl, HMb.out.1, HMb.out.2.1, HMb.out.2.2, HXb.out⟩
            · rw [if_pos (by rfl)]
              go_simp
              obtain ⟨y3, hy3⟩ : ∃ Y, Y = y2.alloc (.cells #[.int .i64 0, .int .i64 0, .int .u8 0, .int .i64 0, .int .i64 0, .float .f64 0] 35) := ⟨_, rfl⟩
              obtain ⟨B6, hB6⟩ : ∃ b, b = y2.heap.size := ⟨_, rfl⟩
              have ho : Only (fun _ => False) y2 y3 := by rw [hy3]; exact (Only.refl _ _).alloc _
              have HXy3 : Hid (Only (fun _ => False) w3 y3) := HXy2.out.trans ho
              have HB6y3 : Hid (Blk w3 y3 B6 35 #[.int .i64 0, .int .i64 0, .int .u8 0, .int .i64 0, .int .i64 0, .float .f64 0]) := by rw [hy3, hB6]; exact Blk.made HXy2.out _ _
              have HB5y3 : Hid (Blk w3 y3 B5 31 #[.slice none 0 0, .slice none 0 0]) := HB5y2.out.keep ho
              have HMy3 : Hid (Made y3 L n0 k aC aO cC cO) := HMy2.out.keep ho
              rw [← hy3, ← hB6]
              clear hy3 hB6 ho
              refine hK.out _ _ (HKS.out _ HXy3.out) (fun hHeld => ?_)
              clear hK
              (try simp only [Act.put, List.setIfInBounds_toArray, List.set_cons_zero, List.set_cons_succ])
              refine wpAnyH_ready (rs := [3]) (by kernel_rfl) (by simp) ?_
              refine AllReadyH.cons rfl (fun K hK => ?_) AllReadyH.nil
              rw [if_pos (by rfl)]
              go_simp
              refine Calls.mono (HCF.out _) ?_
              rintro e y4 ⟨rfl, ho⟩
              have HMy4 : Hid (Made y4 L n0 k aC aO cC cO) := HMy3.out.keep ho
              have HXy4 : Hid (Only (fun _ => False) w3 y4) := HXy3.out.trans ho
              have HB5y4 : Hid (Blk w3 y4 B5 31 #[.slice none 0 0, .slice none 0 0]) := HB5y3.out.keep ho
              have HB6y4 : Hid (Blk w3 y4 B6 35 #[.int .i64 0, .int .i64 0, .int .u8 0, .int .i64 0, .int .i64 0, .float .f64 0]) := HB6y3.out.keep ho
              clear ho
              refine hK.out _ _ (HKS.out _ HXy4.out) (fun hHeld => ?_)
              clear hK
              (try simp only [Act.put, List.setIfInBounds_toArray, List.set_cons_zero, List.set_cons_succ])
              refine wpAnyH_ready (rs := [6]) (by kernel_rfl) (by simp) ?_
              refine AllReadyH.cons rfl (fun K hK => ?_) AllReadyH.nil
              rw [if_pos (by rfl)]
              have HXa : Hid (Only (fun _ => False) w3 (y4.setRow B5 #[.slice aC k cC, .slice aO (k + 1) cO])) := HXy4.out.setRowNew HB5y4.out.2 _
              refine wp_store_row 31 _ _ rfl B5 #[.slice aC k cC, .slice aO (k + 1) cO] rfl rfl 31 _ HB5y4.out.1 (by kernel_rfl) rfl (two_one _ _ _ _ _ _) ?_
              have HMa : Hid (Made (y4.setRow B5 #[.slice aC k cC, .slice aO (k + 1) cO]) L n0 k aC aO cC cO ∧ Blk w3 (y4.setRow B5 #[.slice aC k cC, .slice aO (k + 1) cO]) B5 31 #[.slice aC k cC, .slice aO (k + 1) cO] ∧ Blk w3 (y4.setRow B5 #[.slice aC k cC, .slice aO (k + 1) cO]) B6 35 #[.int .i64 0, .int .i64 0, .int .u8 0, .int .i64 0, .int .i64 0, .float .f64 0]) := ⟨HMy4.out.store HB5y4.out.1 (by decide) (by decide) _, HB5y4.out.put _, HB6y4.out.far HB5y4.out (by decide) _⟩
              obtain ⟨za, hza⟩ : ∃ Y, Y = y4.setRow B5 #[.slice aC k cC, .slice aO (k + 1) cO] := ⟨_, rfl⟩
              rw [← hza] at HXa HMa ⊢
              clear hza
              refine hK.out _ _ (HKS.out _ HXa.out) (fun hHeld => ?_)
              clear hK
              (try simp only [Act.put, List.setIfInBounds_toArray, List.set_cons_zero, List.set_cons_succ])
              refine wpAnyH_ready (rs := [7]) (by kernel_rfl) (by simp) ?_
              refine AllReadyH.cons rfl (fun K hK => ?_) AllReadyH.nil
              rw [if_pos (by rfl)]
              have HXb : Hid (Only (fun _ => False) w3 (za.setRow B6 #[.int .i64 (W1 : Int), .int .i64 (T1 : Int), .int .u8 (M1 : Int), .int .i64 (hy : Int), .int .i64 (pr : Int), .float .f64 lo])) := HXa.out.setRowNew HMa.out.2.2.2 _
              refine wp_store_row 35 _ _ rfl B6 #[.int .i64 (W1 : Int), .int .i64 (T1 : Int), .int .u8 (M1 : Int), .int .i64 (hy : Int), .int .i64 (pr : Int), .float .f64 lo] rfl rfl 35 _ HMa.out.2.2.1 (by kernel_rfl) rfl (cfg_one _ _ _ _ _ _) ?_
              have HMb : Hid (Made (za.setRow B6 #[.int .i64 (W1 : Int), .int .i64 (T1 : Int), .int .u8 (M1 : Int), .int .i64 (hy : Int), .int .i64 (pr : Int), .float .f64 lo]) L n0 k aC aO cC cO ∧ Blk w3 (za.setRow B6 #[.int .i64 (W1 : Int), .int .i64 (T1 : Int), .int .u8 (M1 : Int), .int .i64 (hy : Int), .int .i64 (pr : Int), .float .f64 lo]) B5 31 #[.slice aC k cC, .slice aO (k + 1) cO] ∧ Blk w3 (za.setRow B6 #[.int .i64 (W1 : Int), .int .i64 (T1 : Int), .int .u8 (M1 : Int), .int .i64 (hy : Int), .int .i64 (pr : Int), .float .f64 lo]) B6 35 #[.int .i64 (W1 : Int), .int .i64 (T1 : Int), .int .u8 (M1 : Int), .int .i64 (hy : Int), .int .i64 (pr : Int), .float .f64 lo]) := ⟨HMa.out.1.store HMa.out.2.2.1 (by decide) (by decide) _, HMa.out.2.1.far HMa.out.2.2 (by decide) _, HMa.out.2.2.put _⟩
              obtain ⟨zb, hzb⟩ : ∃ Y, Y = za.setRow B6 #[.int .i64 (W1 : Int), .int .i64 (T1 : Int), .int .u8 (M1 : Int), .int .i64 (hy : Int), .int .i64 (pr : Int), .float .f64 lo] := ⟨_, rfl⟩
              rw [← hzb] at HXb HMb ⊢
              clear hzb
              refine hK.out _ _ (HKS.out _ HXb.out) (fun hHeld => ?_)
              clear hK
              (try simp only [Act.put, List.setIfInBounds_toArray, List.set_cons_zero, List.set_cons_succ])
              refine wpAnyH_done (by kernel_rfl) ?_ _
              clear hHeld
              go_wp2_with fail
              go_meet
              exact ⟨k, B5, B6, aC, aO, cC, cO, _, rfl, rfl, rfl, HMb.out.1, HMb.out.2.1, HMb.out.2.2, HXb.out⟩
          · rw [if_pos (by rfl)]
            go_simp
            obtain ⟨y2, hy2⟩ : ∃ Y, Y = y1.alloc (.cells #[.int .i64 0, .int .i64 0, .int .u8 0, .int .i64 0, .int .i64 0, .float .f64 0] 35) := ⟨_, rfl⟩
            obtain ⟨B6, hB6⟩ : ∃ b, b = y1.heap.size := ⟨_, rfl⟩
            have ho : Only (fun _ => False) y1 y2 := by rw [hy2]; exact (Only.refl _ _).alloc _
            have HXy2 : Hid (Only (fun _ => False) w3 y2) := HXy1.out.trans ho
            have HB6y2 : Hid (Blk w3 y2 B6 35 #[.int .i64 0, .int .i64 0, .int .u8 0, .int .i64 0, .int .i64 0, .float .f64 0]) := by rw [hy2, hB6]; exact Blk.made HXy1.out _ _
            have HB5y2 : Hid (Blk w3 y2 B5 31 #[.slice none 0 0, .slice none 0 0]) := HB5y1.out.keep ho
            rw [← hy2, ← hB6]
            clear hy2 hB6 ho
            refine hK.out _ _ (HKS.out _ HXy2.out) (fun hHeld => ?_)
            clear hK
            (try simp only [Act.put, List.setIfInBounds_toArray, List.set_cons_zero, List.set_cons_succ])
            refine wpAnyH_ready (rs := [1]) (by kernel_rfl) (by simp) ?_
            refine AllReadyH.cons rfl (fun K hK => ?_) AllReadyH.nil
            rw [if_pos (by rfl)]
            go_simp
            refine Calls.mono (HPA.out _ (HW3.out.trans HXy2.out)) ?_
            rintro e y3 ⟨k, aC, aO, cC, cO, rfl, hmd, ho⟩
            have HMy3 : Hid (Made y3 L n0 k aC aO cC cO) := hmd
            clear hmd
            have HXy3 : Hid (Only (fun _ => False) w3 y3) := HXy2.out.trans ho
            have HB5y3 : Hid (Blk w3 y3 B5 31 #[.slice none 0 0, .slice none 0 0]) := HB5y2.out.keep ho
            have HB6y3 : Hid (Blk w3 y3 B6 35 #[.int .i64 0, .int .i64 0, .int .u8 0, .int .i64 0, .int .i64 0, .float .f64 0]) := HB6y2.out.keep ho
            clear ho
            refine hK.out _ _ (HKS.out _ HXy3.out) (fun hHeld => ?_)
            clear hK
            (try simp only [Act.put, List.setIfInBounds_toArray, List.set_cons_zero, List.set_cons_succ])
            refine wpAnyH_ready (rs := [3]) (by kernel_rfl) (by simp) ?_
            refine AllReadyH.cons rfl (fun K hK => ?_) AllReadyH.nil
            rw [if_pos (by rfl)]
            go_simp
            refine Calls.mono (HCF.out _) ?_
            rintro e y4 ⟨rfl, ho⟩
            have HMy4 : Hid (Made y4 L n0 k aC aO cC cO) := HMy3.out.keep ho
            have HXy4 : Hid (Only (fun _ => False) w3 y4) := HXy3.out.trans ho
            have HB5y4 : Hid (Blk w3 y4 B5 31 #[.slice none 0 0, .slice none 0 0]) := HB5y3.out.keep ho
            have HB6y4 : Hid (Blk w3 y4 B6 35 #[.int .i64 0, .int .i64 0, .int .u8 0, .int .i64 0, .int .i64 0, .float .f64 0]) := HB6y3.out.keep ho
            clear ho
            refine hK.out _ _ (HKS.out _ HXy4.out) (fun hHeld => ?_)
            clear hK
            (try simp only [Act.put, List.setIfInBounds_toArray, List.set_cons_zero, List.set_cons_succ])
            refine wpAnyH_ready (rs := [6]) (by kernel_rfl) (by simp) ?_
            refine AllReadyH.cons rfl (fun K hK => ?_) AllReadyH.nil
            rw [if_pos (by rfl)]
            have HXa : Hid (Only (fun _ => False) w3 (y4.setRow B5 #[.slice aC k cC, .slice aO (k + 1) cO])) := HXy4.out.setRowNew HB5y4.out.2 _
            refine wp_store_row 31 _ _ rfl B5 #[.slice aC k cC, .slice aO (k + 1) cO] rfl rfl 31 _ HB5y4.out.1 (by kernel_rfl) rfl (two_one _ _ _ _ _ _) ?_
            have HMa : Hid (Made (y4.setRow B5 #[.slice aC k cC, .slice aO (k + 1) cO]) L n0 k aC aO cC cO ∧ Blk w3 (y4.setRow B5 #[.slice aC k cC, .slice aO (k + 1) cO]) B5 31 #[.slice aC k cC, .slice aO (k + 1) cO] ∧ Blk w3 (y4.setRow B5 #[.slice aC k cC, .slice aO (k + 1) cO]) B6 35 #[.int .i64 0, .int .i64 0, .int .u8 0, .int .i64 0, .int .i64 0, .float .f64 0]) := ⟨HMy4.out.store HB5y4.out.1 (by decide) (by decide) _, HB5y4.out.put _, HB6y4.out.far HB5y4.out (by decide) _⟩
            obtain ⟨za, hza⟩ : ∃ Y, Y = y4.setRow B5 #[.slice aC k cC, .slice aO (k + 1) cO] := ⟨_, rfl⟩
            rw [← hza] at HXa HMa ⊢
            clear hza
            refine hK.out _ _ (HKS.out _ HXa.out) (fun hHeld => ?_)
            clear hK
            (try simp only [Act.put, List.setIfInBounds_toArray, List.set_cons_zero, List.set_cons_succ])
            refine wpAnyH_ready (rs := [7]) (by kernel_rfl) (by simp) ?_
            refine AllReadyH.cons rfl (fun K hK => ?_) AllReadyH.nil
            rw [if_pos (by rfl)]
            have HXb : Hid (Only (fun _ => False) w3 (za.setRow B6 #[.int .i64 (W1 : Int), .int .i64 (T1 : Int), .int .u8 (M1 : Int), .int .i64 (hy : Int), .int .i64 (pr : Int), .float .f64 lo])) := HXa.out.setRowNew HMa.out.2.2.2 _
            refine wp_store_row 35 _ _ rfl B6 #[.int .i64 (W1 : Int), .int .i64 (T1 : Int), .int .u8 (M1 : Int), .int .i64 (hy : Int), .int .i64 (pr : Int), .float .f64 lo] rfl rfl 35 _ HMa.out.2.2.1 (by kernel_rfl) rfl (cfg_one _ _ _ _ _ _) ?_
            have HMb : Hid (Made (za.setRow B6 #[.int .i64 (W1 : Int), .int .i64 (T1 : Int), .int .u8 (M1 : Int), .int .i64 (hy : Int), .int .i64 (pr : Int), .float .f64 lo]) L n0 k aC aO cC cO ∧ Blk w3 (za.setRow B6 #[.int .i64 (W1 : Int), .int .i64 (T1 : Int), .int .u8 (M1 : Int), .int .i64 (hy : Int), .int .i64 (pr : Int), .float .f64 lo]) B5 31 #[.slice aC k cC, .slice aO (k + 1) cO] ∧ Blk w3 (za.setRow B6 #[.int .i64 (W1 : Int), .int .i64 (T1 : Int), .int .u8 (M1 : Int), .int .i64 (hy : Int), .int .i64 (pr : Int), .float .f64 lo]) B6 35 #[.int .i64 (W1 : Int), .int .i64 (T1 : Int), .int .u8 (M1 : Int), .int .i64 (hy : Int), .int .i64 (pr : Int), .float .f64 lo]) := ⟨HMa.out.1.store HMa.out.2.2.1 (by decide) (by decide) _, HMa.out.2.1.far HMa.out.2.2 (by decide) _, HMa.out.2.2.put _⟩
            obtain ⟨zb, hzb⟩ : ∃ Y, Y = za.setRow B6 #[.int .i64 (W1 : Int), .int .i64 (T1 : Int), .int .u8 (M1 : Int), .int .i64 (hy : Int), .int .i64 (pr : Int), .float .f64 lo] := ⟨_, rfl⟩
            rw [← hzb] at HXb HMb ⊢
            clear hzb
            refine hK.out _ _ (HKS.out _ HXb.out) (fun hHeld => ?_)
            clear hK
            (try simp only [Act.put, List.setIfInBounds_toArray, List.set_cons_zero, List.set_cons_succ])
            refine wpAnyH_done (by kernel_rfl) ?_ _
            clear hHeld
            go_wp2_with fail
            go_meet
            exact ⟨k, B5, B6, aC, aO, cC, cO, _, rfl, rfl, rfl, HMb.out.1, HMb.out.2.1, HMb.out.2.2, HXb.out⟩
        · rw [if_pos (by rfl)]
          go_simp
          obtain ⟨y1, hy1⟩ : ∃ Y, Y = (w3.alloc (.cells #[.int .i64 0, .int .i64 0, .int .u8 0, .int .i64 0, .int .i64 0, .float .f64 0] 35)).drew := ⟨_, rfl⟩
          obtain ⟨B6, hB6⟩ : ∃ b, b = w3.heap.size := ⟨_, rfl⟩
          have ho : Only (fun _ => False) w3 y1 := by rw [hy1]; exact ((Only.refl _ _).alloc _).drew
          have HXy1 : Hid (Only (fun _ => False) w3 y1) := ho
          have HB6y1 : Hid (Blk w3 y1 B6 35 #[.int .i64 0, .int .i64 0, .int .u8 0, .int .i64 0, .int .i64 0, .float .f64 0]) := by rw [hy1, hB6]; exact (Blk.made (Only.refl _ _) _ _).drew
          rw [← hy1, ← hB6]
          clear hy1 hB6 ho
          refine hK.out _ _ (HKS.out _ HXy1.out) (fun hHeld => ?_)
          clear hK
          (try simp only [Act.put, List.setIfInBounds_toArray, List.set_cons_zero, List.set_cons_succ])
          refine wpAnyH_ready (rs := [1, 4]) (by kernel_rfl) (by simp) ?_
          refine AllReadyH.cons rfl (fun K hK => ?_) (AllReadyH.cons rfl (fun K hK => ?_) AllReadyH.nil)
          · rw [if_pos (by rfl)]
            go_simp
            refine Calls.mono (HPA.out _ (HW3.out.trans HXy1.out)) ?_
            rintro e y2 ⟨k, aC, aO, cC, cO, rfl, hmd, ho⟩
            have HMy2 : Hid (Made y2 L n0 k aC aO cC cO) := hmd
            clear hmd
            have HXy2 : Hid (Only (fun _ => False) w3 y2) := HXy1.out.trans ho
            have HB6y2 : Hid (Blk w3 y2 B6 35 #[.int .i64 0, .int .i64 0, .int .u8 0, .int .i64 0, .int .i64 0, .float .f64 0]) := HB6y1.out.keep ho
            clear ho
            refine hK.out _ _ (HKS.out _ HXy2.out) (fun hHeld => ?_)
            clear hK
            (try simp only [Act.put, List.setIfInBounds_toArray, List.set_cons_zero, List.set_cons_succ])
            refine wpAnyH_ready (rs := [3, 4]) (by kernel_rfl) (by simp) ?_
            refine AllReadyH.cons rfl (fun K hK => ?_) (AllReadyH.cons rfl (fun K hK => ?_) AllReadyH.nil)
            · rw [if_pos (by rfl)]
              go_simp
              refine Calls.mono (HCF.out _) ?_
              rintro e y3 ⟨rfl, ho⟩
              have HMy3 : Hid (Made y3 L n0 k aC aO cC cO) := HMy2.out.keep ho
              have HXy3 : Hid (Only (fun _ => False) w3 y3) := HXy2.out.trans ho
              have HB6y3 : Hid (Blk w3 y3 B6 35 #[.int .i64 0, .int .i64 0, .int .u8 0, .int .i64 0, .int .i64 0, .float .f64 0]) := HB6y2.out.keep ho
              clear ho
              refine hK.out _ _ (HKS.out _ HXy3.out) (fun hHeld => ?_)
              clear hK
              (try simp only [Act.put, List.setIfInBounds_toArray, List.set_cons_zero, List.set_cons_succ])
              refine wpAnyH_ready (rs := [4]) (by kernel_rfl) (by simp) ?_
              refine AllReadyH.cons rfl (fun K hK => ?_) AllReadyH.nil
              rw [if_pos (by rfl)]
              go_simp
              obtain ⟨y4, hy4⟩ : ∃ Y, Y = y3.alloc (.cells #[.slice none 0 0, .slice none 0 0] 31) := ⟨_, rfl⟩
              obtain ⟨B5, hB5⟩ : ∃ b, b = y3.heap.size := ⟨_, rfl⟩
              have ho : Only (fun _ => False) y3 y4 := by rw [hy4]; exact (Only.refl _ _).alloc _
              have HXy4 : Hid (Only (fun _ => False) w3 y4) := HXy3.out.trans ho
              have HB5y4 : Hid (Blk w3 y4 B5 31 #[.slice none 0 0, .slice none 0 0]) := by rw [hy4, hB5]; exact Blk.made HXy3.out _ _
              have HB6y4 : Hid (Blk w3 y4 B6 35 #[.int .i64 0, .int .i64 0, .int .u8 0, .int .i64 0, .int .i64 0, .float .f64 0]) := HB6y3.out.keep ho
              have HMy4 : Hid (Made y4 L n0 k aC aO cC cO) := HMy3.out.keep ho
              rw [← hy4, ← hB5]
              clear hy4 hB5 ho
              refine hK.out _ _ (HKS.out _ HXy4.out) (fun hHeld => ?_)
              clear hK
              (try simp only [Act.put, List.setIfInBounds_toArray, List.set_cons_zero, List.set_cons_succ])
              refine wpAnyH_ready (rs := [6]) (by kernel_rfl) (by simp) ?_
              refine AllReadyH.cons rfl (fun K hK => ?_) AllReadyH.nil
              rw [if_pos (by rfl)]
              have HXa : Hid (Only (fun _ => False) w3 (y4.setRow B5 #[.slice aC k cC, .slice aO (k + 1) cO])) := HXy4.out.setRowNew HB5y4.out.2 _
              refine wp_store_row 31 _ _ rfl B5 #[.slice aC k cC, .slice aO (k + 1) cO] rfl rfl 31 _ HB5y4.out.1 (by kernel_rfl) rfl (two_one _ _ _ _ _ _) ?_
              have HMa : Hid (Made (y4.setRow B5 #[.slice aC k cC, .slice aO (k + 1) cO]) L n0 k aC aO cC cO ∧ Blk w3 (y4.setRow B5 #[.slice aC k cC, .slice aO (k + 1) cO]) B5 31 #[.slice aC k cC, .slice aO (k + 1) cO] ∧ Blk w3 (y4.setRow B5 #[.slice aC k cC, .slice aO (k + 1) cO]) B6 35 #[.int .i64 0, .int .i64 0, .int .u8 0, .int .i64 0, .int .i64 0, .float .f64 0]) := ⟨HMy4.out.store HB5y4.out.1 (by decide) (by decide) _, HB5y4.out.put _, HB6y4.out.far HB5y4.out (by decide) _⟩
              obtain ⟨za, hza⟩ : ∃ Y, Y = y4.setRow B5 #[.slice aC k cC, .slice aO (k + 1) cO] := ⟨_, rfl⟩
              rw [← hza] at HXa HMa ⊢
              clear hza
              refine hK.out _ _ (HKS.out _ HXa.out) (fun hHeld => ?_)
              clear hK
              (try simp only [Act.put, List.setIfInBounds_toArray, List.set_cons_zero, List.set_cons_succ])
              refine wpAnyH_ready (rs := [7]) (by kernel_rfl) (by simp) ?_
              refine AllReadyH.cons rfl (fun K hK => ?_) AllReadyH.nil
              rw [if_pos (by rfl)]
              have HXb : Hid (Only (fun _ => False) w3 (za.setRow B6 #[.int .i64 (W1 : Int), .int .i64 (T1 : Int), .int .u8 (M1 : Int), .int .i64 (hy : Int), .int .i64 (pr : Int), .float .f64 lo])) := HXa.out.setRowNew HMa.out.2.2.2 _
              refine wp_store_row 35 _ _ rfl B6 #[.int .i64 (W1 : Int), .int .i64 (T1 : Int), .int .u8 (M1 : Int), .int .i64 (hy : Int), .int .i64 (pr : Int), .float .f64 lo] rfl rfl 35 _ HMa.out.2.2.1 (by kernel_rfl) rfl (cfg_one _ _ _ _ _ _) ?_
              have HMb : Hid (Made (za.setRow B6 #[.int .i64 (W1 : Int), .int .i64 (T1 : Int), .int .u8 (M1 : Int), .int .i64 (hy : Int), .int .i64 (pr : Int), .float .f64 lo]) L n0 k aC aO cC cO ∧ Blk w3 (za.setRow B6 #[.int .i64 (W1 : Int), .int .i64 (T1 : Int), .int .u8 (M1 : Int), .int .i64 (hy : Int), .int .i64 (pr : Int), .float .f64 lo]) B5 31 #[.slice aC k cC, .slice aO (k + 1) cO] ∧ Blk w3 (za.setRow B6 #[.int .i64 (W1 : Int), .int .i64 (T1 : Int), .int .u8 (M1 : Int), .int .i64 (hy : Int), .int .i64 (pr : Int), .float .f64 lo]) B6 35 #[.int .i64 (W1 : Int), .int .i64 (T1 : Int), .int .u8 (M1 : Int), .int .i64 (hy : Int), .int .i64 (pr : Int), .float .f64 lo]) := ⟨HMa.out.1.store HMa.out.2.2.1 (by decide) (by decide) _, HMa.out.2.1.far HMa.out.2.2 (by decide) _, HMa.out.2.2.put _⟩
              obtain ⟨zb, hzb⟩ : ∃ Y, Y = za.setRow B6 #[.int .i64 (W1 : Int), .int .i64 (T1 : Int), .int .u8 (M1 : Int), .int .i64 (hy : Int), .int .i64 (pr : Int), .float .f64 lo] := ⟨_, rfl⟩
              rw [← hzb] at HXb HMb ⊢
              clear hzb
              refine hK.out _ _ (HKS.out _ HXb.out) (fun hHeld => ?_)
              clear hK
              (try simp only [Act.put, List.setIfInBounds_toArray, List.set_cons_zero, List.set_cons_succ])
              refine wpAnyH_done (by kernel_rfl) ?_ _
              clear hHeld
              go_wp2_with fail
              go_meet
              exact ⟨k, B5, B6, aC, aO, cC, cO, _, rfl, rfl, rfl, HMb.out.1, HMb.out.2.1, HMb.out.2.2, HXb.out⟩
            · rw [if_pos (by rfl)]
              go_simp
              obtain ⟨y3, hy3⟩ : ∃ Y, Y = y2.alloc (.cells #[.slice none 0 0, .slice none 0 0] 31) := ⟨_, rfl⟩
              obtain ⟨B5, hB5⟩ : ∃ b, b = y2.heap.size := ⟨_, rfl⟩
              have ho : Only (fun _ => False) y2 y3 := by rw [hy3]; exact (Only.refl _ _).alloc _
              have HXy3 : Hid (Only (fun _ => False) w3 y3) := HXy2.out.trans ho
              have HB5y3 : Hid (Blk w3 y3 B5 31 #[.slice none 0 0, .slice none 0 0]) := by rw [hy3, hB5]; exact Blk.made HXy2.out _ _
              have HB6y3 : Hid (Blk w3 y3 B6 35 #[.int .i64 0, .int .i64 0, .int .u8 0, .int .i64 0, .int .i64 0, .float .f64 0]) := HB6y2.out.keep ho
              have HMy3 : Hid (Made y3 L n0 k aC aO cC cO) := HMy2.out.keep ho
              rw [← hy3, ← hB5]
              clear hy3 hB5 ho
              refine hK.out _ _ (HKS.out _ HXy3.out) (fun hHeld => ?_)
              clear hK
              (try simp only [Act.put, List.setIfInBounds_toArray, List.set_cons_zero, List.set_cons_succ])
              refine wpAnyH_ready (rs := [3]) (by kernel_rfl) (by simp) ?_
              refine AllReadyH.cons rfl (fun K hK => ?_) AllReadyH.nil
              rw [if_pos (by rfl)]
              go_simp
              refine Calls.mono (HCF.out _) ?_
              rintro e y4 ⟨rfl, ho⟩
              have HMy4 : Hid (Made y4 L n0 k aC aO cC cO) := HMy3.out.keep ho
              have HXy4 : Hid (Only (fun _ => False) w3 y4) := HXy3.out.trans ho
              have HB5y4 : Hid (Blk w3 y4 B5 31 #[.slice none 0 0, .slice none 0 0]) := HB5y3.out.keep ho
              have HB6y4 : Hid (Blk w3 y4 B6 35 #[.int .i64 0, .int .i64 0, .int .u8 0, .int .i64 0, .int .i64 0, .float .f64 0]) := HB6y3.out.keep ho
              clear ho
              refine hK.out _ _ (HKS.out _ HXy4.out) (fun hHeld => ?_)
              clear hK
              (try simp only [Act.put, List.setIfInBounds_toArray, List.set_cons_zero, List.set_cons_succ])
              refine wpAnyH_ready (rs := [6]) (by kernel_rfl) (by simp) ?_
              refine AllReadyH.cons rfl (fun K hK => ?_) AllReadyH.nil
              rw [if_pos (by rfl)]
              have HXa : Hid (Only (fun _ => False) w3 (y4.setRow B5 #[.slice aC k cC, .slice aO (k + 1) cO])) := HXy4.out.setRowNew HB5y4.out.2 _
              refine wp_store_row 31 _ _ rfl B5 #[.slice aC k cC, .slice aO (k + 1) cO] rfl rfl 31 _ HB5y4.out.1 (by kernel_rfl) rfl (two_one _ _ _ _ _ _) ?_
              have HMa : Hid (Made (y4.setRow B5 #[.slice aC k cC, .slice aO (k + 1) cO]) L n0 k aC aO cC cO ∧ Blk w3 (y4.setRow B5 #[.slice aC k cC, .slice aO (k + 1) cO]) B5 31 #[.slice aC k cC, .slice aO (k + 1) cO] ∧ Blk w3 (y4.setRow B5 #[.slice aC k cC, .slice aO (k + 1) cO]) B6 35 #[.int .i64 0, .int .i64 0, .int .u8 0, .int .i64 0, .int .i64 0, .float .f64 0]) := ⟨HMy4.out.store HB5y4.out.1 (by decide) (by decide) _, HB5y4.out.put _, HB6y4.out.far HB5y4.out (by decide) _⟩
              obtain ⟨za, hza⟩ : ∃ Y, Y = y4.setRow B5 #[.slice aC k cC, .slice aO (k + 1) cO] := ⟨_, rfl⟩
              rw [← hza] at HXa HMa ⊢
              clear hza
              refine hK.out _ _ (HKS.out _ HXa.out) (fun hHeld => ?_)
              clear hK
              (try simp only [Act.put, List.setIfInBounds_toArray, List.set_cons_zero, List.set_cons_succ])
              refine wpAnyH_ready (rs := [7]) (by kernel_rfl) (by simp) ?_
              refine AllReadyH.cons rfl (fun K hK => ?_) AllReadyH.nil
              rw [if_pos (by rfl)]
              have HXb : Hid (Only (fun _ => False) w3 (za.setRow B6 #[.int .i64 (W1 : Int), .int .i64 (T1 : Int), .int .u8 (M1 : Int), .int .i64 (hy : Int), .int .i64 (pr : Int), .float .f64 lo])) := HXa.out.setRowNew HMa.out.2.2.2 _
              refine wp_store_row 35 _ _ rfl B6 #[.int .i64 (W1 : Int), .int .i64 (T1 : Int), .int .u8 (M1 : Int), .int .i64 (hy : Int), .int .i64 (pr : Int), .float .f64 lo] rfl rfl 35 _ HMa.out.2.2.1 (by kernel_rfl) rfl (cfg_one _ _ _ _ _ _) ?_
              have HMb : Hid (Made (za.setRow B6 #[.int .i64 (W1 : Int), .int .i64 (T1 : Int), .int .u8 (M1 : Int), .int .i64 (hy : Int), .int .i64 (pr : Int), .float .f64 lo]) L n0 k aC aO cC cO ∧ Blk w3 (za.setRow B6 #[.int .i64 (W1 : Int), .int .i64 (T1 : Int), .int .u8 (M1 : Int), .int .i64 (hy : Int), .int .i64 (pr : Int), .float .f64 lo]) B5 31 #[.slice aC k cC, .slice aO (k + 1) cO] ∧ Blk w3 (za.setRow B6 #[.int .i64 (W1 : Int), .int .i64 (T1 : Int), .int .u8 (M1 : Int), .int .i64 (hy : Int), .int .i64 (pr : Int), .float .f64 lo]) B6 35 #[.int .i64 (W1 : Int), .int .i64 (T1 : Int), .int .u8 (M1 : Int), .int .i64 (hy : Int), .int .i64 (pr : Int), .float .f64 lo]) := ⟨HMa.out.1.store HMa.out.2.2.1 (by decide) (by decide) _, HMa.out.2.1.far HMa.out.2.2 (by decide) _, HMa.out.2.2.put _⟩
              obtain ⟨zb, hzb⟩ : ∃ Y, Y = za.setRow B6 #[.int .i64 (W1 : Int), .int .i64 (T1 : Int), .int .u8 (M1 : Int), .int .i64 (hy : Int), .int .i64 (pr : Int), .float .f64 lo] := ⟨_, rfl⟩
              rw [← hzb] at HXb HMb ⊢
              clear hzb
              refine hK.out _ _ (HKS.out _ HXb.out) (fun hHeld => ?_)
              clear hK
              (try simp only [Act.put, List.setIfInBounds_toArray, List.set_cons_zero, List.set_cons_succ])
              refine wpAnyH_done (by kernel_rfl) ?_ _
              clear hHeld
              go_wp2_with fail
              go_meet
              exact ⟨k, B5, B6, aC, aO, cC, cO, _, rfl, rfl, rfl, HMb.out.1, HMb.out.2.1, HMb.out.2.2, HXb.out⟩
          · rw [if_pos (by rfl)]
            go_simp
            obtain ⟨y2, hy2⟩ : ∃ Y, Y = y1.alloc (.cells #[.slice none 0 0, .slice none 0 0] 31) := ⟨_, rfl⟩
            obtain ⟨B5, hB5⟩ : ∃ b, b = y1.heap.size := ⟨_, rfl⟩
            have ho : Only (fun _ => False) y1 y2 := by rw [hy2]; exact (Only.refl _ _).alloc _
            have HXy2 : Hid (Only (fun _ => False) w3 y2) := HXy1.out.trans ho
            have HB5y2 : Hid (Blk w3 y2 B5 31 #[.slice none 0 0, .slice none 0 0]) := by rw [hy2, hB5]; exact Blk.made HXy1.out _ _
            have HB6y2 : Hid (Blk w3 y2 B6 35 #[.int .i64 0, .int .i64 0, .int .u8 0, .int .i64 0, .int .i64 0, .float .f64 0]) := HB6y1.out.keep ho
            rw [← hy2, ← hB5]
            clear hy2 hB5 ho
            refine hK.out _ _ (HKS.out _ HXy2.out) (fun hHeld => ?_)
            clear hK
            (try simp only [Act.put, List.setIfInBounds_toArray, List.set_cons_zero, List.set_cons_succ])
            refine wpAnyH_ready (rs := [1]) (by kernel_rfl) (by simp) ?_
            refine AllReadyH.cons rfl (fun K hK => ?_) AllReadyH.nil
            rw [if_pos (by rfl)]
            go_simp
            refine Calls.mono (HPA.out _ (HW3.out.trans HXy2.out)) ?_
            rintro e y3 ⟨k, aC, aO, cC, cO, rfl, hmd, ho⟩
            have HMy3 : Hid (Made y3 L n0 k aC aO cC cO) := hmd
            clear hmd
            have HXy3 : Hid (Only (fun _ => False) w3 y3) := HXy2.out.trans ho
            have HB5y3 : Hid (Blk w3 y3 B5 31 #[.slice none 0 0, .slice none 0 0]) := HB5y2.out.keep ho
            have HB6y3 : Hid (Blk w3 y3 B6 35 #[.int .i64 0, .int .i64 0, .int .u8 0, .int .i64 0, .int .i64 0, .float .f64 0]) := HB6y2.out.keep ho
            clear ho
            refine hK.out _ _ (HKS.out _ HXy3.out) (fun hHeld => ?_)
            clear hK
            (try simp only [Act.put, List.setIfInBounds_toArray, List.set_cons_zero, List.set_cons_succ])
            refine wpAnyH_ready (rs := [3]) (by kernel_rfl) (by simp) ?_
            refine AllReadyH.cons rfl (fun K hK => ?_) AllReadyH.nil
            rw [if_pos (by rfl)]
            go_simp
            refine Calls.mono (HCF.out _) ?_
            rintro e y4 ⟨rfl, ho⟩
            have HMy4 : Hid (Made y4 L n0 k aC aO cC cO) := HMy3.out.keep ho
            have HXy4 : Hid (Only (fun _ => False) w3 y4) := HXy3.out.trans ho
            have HB5y4 : Hid (Blk w3 y4 B5 31 #[.slice none 0 0, .slice none 0 0]) := HB5y3.out.keep ho
            have HB6y4 : Hid (Blk w3 y4 B6 35 #[.int .i64 0, .int .i64 0, .int .u8 0, .int .i64 0, .int .i64 0, .float .f64 0]) := HB6y3.out.keep ho
            clear ho
            refine hK.out _ _ (HKS.out _ HXy4.out) (fun hHeld => ?_)
            clear hK
            (try simp only [Act.put, List.setIfInBounds_toArray, List.set_cons_zero, List.set_cons_succ])
            refine wpAnyH_ready (rs := [6]) (by kernel_rfl) (by simp) ?_
            refine AllReadyH.cons rfl (fun K hK => ?_) AllReadyH.nil
            rw [if_pos (by rfl)]
            have HXa : Hid (Only (fun _ => False) w3 (y4.setRow B5 #[.slice aC k cC, .slice aO (k + 1) cO])) := HXy4.out.setRowNew HB5y4.out.2 _
            refine wp_store_row 31 _ _ rfl B5 #[.slice aC k cC, .slice aO (k + 1) cO] rfl rfl 31 _ HB5y4.out.1 (by kernel_rfl) rfl (two_one _ _ _ _ _ _) ?_
            have HMa : Hid (Made (y4.setRow B5 #[.slice aC k cC, .slice aO (k + 1) cO]) L n0 k aC aO cC cO ∧ Blk w3 (y4.setRow B5 #[.slice aC k cC, .slice aO (k + 1) cO]) B5 31 #[.slice aC k cC, .slice aO (k + 1) cO] ∧ Blk w3 (y4.setRow B5 #[.slice aC k cC, .slice aO (k + 1) cO]) B6 35 #[.int .i64 0, .int .i64 0, .int .u8 0, .int .i64 0, .int .i64 0, .float .f64 0]) := ⟨HMy4.out.store HB5y4.out.1 (by decide) (by decide) _, HB5y4.out.put _, HB6y4.out.far HB5y4.out (by decide) _⟩
            obtain ⟨za, hza⟩ : ∃ Y, Y = y4.setRow B5 #[.slice aC k cC, .slice aO (k + 1) cO] := ⟨_, rfl⟩
            rw [← hza] at HXa HMa ⊢
            clear hza
            refine hK.out _ _ (HKS.out _ HXa.out) (fun hHeld => ?_)
            clear hK
            (try simp only [Act.put, List.setIfInBounds_toArray, List.set_cons_zero, List.set_cons_succ])
            refine wpAnyH_ready (rs := [7]) (by kernel_rfl) (by simp) ?_
            refine AllReadyH.cons rfl (fun K hK => ?_) AllReadyH.nil
            rw [if_pos (by rfl)]
            have HXb : Hid (Only (fun _ => False) w3 (za.setRow B6 #[.int .i64 (W1 : Int), .int .i64 (T1 : Int), .int .u8 (M1 : Int), .int .i64 (hy : Int), .int .i64 (pr : Int), .float .f64 lo])) := HXa.out.setRowNew HMa.out.2.2.2 _
            refine wp_store_row 35 _ _ rfl B6 #[.int .i64 (W1 : Int), .int .i64 (T1 : Int), .int .u8 (M1 : Int), .int .i64 (hy : Int), .int .i64 (pr : Int), .float .f64 lo] rfl rfl 35 _ HMa.out.2.2.1 (by kernel_rfl) rfl (cfg_one _ _ _ _ _ _) ?_
            have HMb : Hid (Made (za.setRow B6 #[.int .i64 (W1 : Int), .int .i64 (T1 : Int), .int .u8 (M1 : Int), .int .i64 (hy : Int), .int .i64 (pr : Int), .float .f64 lo]) L n0 k aC aO cC cO ∧ Blk w3 (za.setRow B6 #[.int .i64 (W1 : Int), .int .i64 (T1 : Int), .int .u8 (M1 : Int), .int .i64 (hy : Int), .int .i64 (pr : Int), .float .f64 lo]) B5 31 #[.slice aC k cC, .slice aO (k + 1) cO] ∧ Blk w3 (za.setRow B6 #[.int .i64 (W1 : Int), .int .i64 (T1 : Int), .int .u8 (M1 : Int), .int .i64 (hy : Int), .int .i64 (pr : Int), .float .f64 lo]) B6 35 #[.int .i64 (W1 : Int), .int .i64 (T1 : Int), .int .u8 (M1 : Int), .int .i64 (hy : Int), .int .i64 (pr : Int), .float .f64 lo]) := ⟨HMa.out.1.store HMa.out.2.2.1 (by decide) (by decide) _, HMa.out.2.1.far HMa.out.2.2 (by decide) _, HMa.out.2.2.put _⟩
            obtain ⟨zb, hzb⟩ : ∃ Y, Y = za.setRow B6 #[.int .i64 (W1 : Int), .int .i64 (T1 : Int), .int .u8 (M1 : Int), .int .i64 (hy : Int), .int .i64 (pr : Int), .float .f64 lo] := ⟨_, rfl⟩
            rw [← hzb] at HXb HMb ⊢
            clear hzb
            refine hK.out _ _ (HKS.out _ HXb.out) (fun hHeld => ?_)
            clear hK
            (try simp only [Act.put, List.setIfInBounds_toArray, List.set_cons_zero, List.set_cons_succ])
            refine wpAnyH_done (by kernel_rfl) ?_ _
            clear hHeld
            go_wp2_with fail
            go_meet
            exact ⟨k, B5, B6, aC, aO, cC, cO, _, rfl, rfl, rfl, HMb.out.1, HMb.out.2.1, HMb.out.2.2, HXb.out⟩
      case rest =>
        obtain ⟨k, B5, B6, aC, aO, cC, cO, X, hX, rfl, rfl, hmd, hb5, hb6, hoX⟩ := hcut
        subst hX
        obtain ⟨C, hC⟩ : ∃ x, x = Pa.cts (L.take k) 0 := ⟨_, rfl⟩
        obtain ⟨O, hO⟩ : ∃ x, x = Pa.ops L k ++ [2] := ⟨_, rfl⟩
        have HMD : Hid (Made X L n0 k aC aO cC cO ∧ C = Pa.cts (L.take k) 0 ∧ O = Pa.ops L k ++ [2]) := ⟨hmd, hC, hO⟩
        have HPv : Hid (∀ W', Only (fun _ => False) X W' → Pv W' C O k (k + 1) aC aO cC cO) := fun W' ho => by rw [hC, hO]; exact (hmd.pv (by omega) HN.out).keep ho
        have HO4 : Hid (∀ x ∈ O, x < 4) := by rw [hO]; exact ops_lt L k
        have HOL : Hid (O.length = k + 1 ∧ O.getD k 0 = 2) := by rw [hO]; exact ⟨by rw [List.length_append, Pa.ops_len]; rfl, ops_end L k⟩
        have hk0 : k ≤ n0 := hmd.le
        have HPC : Hid (∀ W', Only (fun _ => False) X W' → (W'.cell? ⟨B5, 0, none⟩ = some (.slice aC k cC) ∧ W'.cell? ⟨B5, 1, none⟩ = some (.slice aO (k + 1) cO)) ∧ (W'.cell? ⟨B6, 0, none⟩ = some (.int .i64 (W1 : Int)) ∧ W'.cell? ⟨B6, 1, none⟩ = some (.int .i64 (T1 : Int)) ∧ W'.cell? ⟨B6, 2, none⟩ = some (.int .u8 (M1 : Int)) ∧ W'.cell? ⟨B6, 3, none⟩ = some (.int .i64 (hy : Int)) ∧ W'.cell? ⟨B6, 4, none⟩ = some (.int .i64 (pr : Int)) ∧ W'.cell? ⟨B6, 5, none⟩ = some (.float .f64 lo))) := fun W' ho => ⟨⟨(blk_two (blk_keep ho hb5.1)).1, (blk_two (blk_keep ho hb5.1)).2.1⟩, blk_six (blk_keep ho hb6.1)⟩
        have HLT : Hid (∀ W', Only (fun _ => False) X W' → B5 < W'.heap.size ∧ B6 < W'.heap.size) := fun W' ho => ⟨(Array.getElem?_eq_some_iff.1 (blk_keep ho hb5.1)).1, (Array.getElem?_eq_some_iff.1 (blk_keep ho hb6.1)).1⟩
        have HWX : Hid (Only (fun _ => False) w X ∧ Blk w3 X B6 35 #[.int .i64 (W1 : Int), .int .i64 (T1 : Int), .int .u8 (M1 : Int), .int .i64 (hy : Int), .int .i64 (pr : Int), .float .f64 lo]) := ⟨HW3.out.trans hoX, hb6⟩
        clear hmd hC hO hb5 hb6 hoX
        obtain ⟨Ls, hLs⟩ : ∃ l, l = Sp.lines C O T1 W1 0 k := ⟨_, rfl⟩
        obtain ⟨nL, hnL⟩ : ∃ l, l = Ls.length := ⟨_, rfl⟩
        have hnL2 : nL ≤ 1000 := by rw [hnL, hLs]; exact Nat.le_trans (lines_len C O T1 W1 k 0) (by omega)
        have HLL : Hid (Ls = Sp.lines C O T1 W1 0 k ∧ nL = Ls.length) := ⟨hLs, hnL⟩
        have HBK : Hid (∀ W' f j, Only (fun _ => False) X W' → f ≤ k → Ls.drop j = Sp.lines C O T1 W1 f k → Calls Try.prog 13 #[.agg #[.slice aC k cC, .slice aO (k + 1) cO], .int .i64 ((f : Nat) : Int), .int .i64 (k : Int), .agg #[.int .i64 (W1 : Int), .int .i64 (T1 : Int), .int .u8 (M1 : Int), .int .i64 (hy : Int), .int .i64 (pr : Int), .float .f64 lo]] W' fun e w' => ∃ (a : Option Addr) (c : Nat), e = .returned (.slice a (nL - j) c) ∧ nL - j ≤ c ∧ Vw w' a (lnC (Ls.drop j)) ∧ Only (fun _ => False) W' w') := fun W' f j ho hf hd => by
          refine (break_any C O k (k + 1) aC aO cC cO f k W1 T1 M1 hy pr lo W' (HPv.out W' ho) (by omega) hf (Nat.le_refl _) (by omega) ht0 (by omega)).mono ?_
          rintro e w' ⟨n, a, c, hn, he, hown, ho'⟩
          rw [← hd] at hn hown
          rw [List.length_drop, ← hnL] at hn
          subst hn
          exact ⟨a, c, he, own_le hown, own_vw hown, ho'⟩
        have HB0 : Hid (∀ W', Only (fun _ => False) X W' → Calls Try.prog 13 #[.agg #[.slice aC k cC, .slice aO (k + 1) cO], .int .i64 0, .int .i64 (k : Int), .agg #[.int .i64 (W1 : Int), .int .i64 (T1 : Int), .int .u8 (M1 : Int), .int .i64 (hy : Int), .int .i64 (pr : Int), .float .f64 lo]] W' fun e w' => ∃ (a : Option Addr) (c : Nat), e = .returned (.slice a nL c) ∧ nL ≤ c ∧ Vw w' a (lnC Ls) ∧ Only (fun _ => False) W' w') := fun W' ho => HBK.out W' 0 0 ho (Nat.zero_le _) hLs
        clear hLs hnL
        obtain ⟨⟨r0, r1⟩, k0, k1, k2, k3, k4, k5⟩ := HPC.out X (Only.refl _ _)
        obtain ⟨l5, l6⟩ := HLT.out X (Only.refl _ _)
        go_wp2_with fail
        refine Calls.mono (HB0.out _ (Only.refl _ _)) ?_
        rintro e V0 ⟨aL, cL, rfl, hcL, hV0, hoV0⟩
        have HV0 : Hid (Vw V0 aL (lnC Ls) ∧ Only (fun _ => False) X V0) := ⟨hV0, hoV0⟩
        clear hV0 hoV0 r0 r1 k0 k1 k2 k3 k4 k5 l5 l6
        go_wp2_with fail
        go_loopg [55] nL (fun gh v55 wr => ∃ (j : Nat) (V : World), V = wr ∧ gh = nL - j ∧ j ≤ nL ∧ v55 = .int .i64 (j : Int) ∧ Only (fun _ => False) V0 V)
        case atStart => exact ⟨0, _, rfl, rfl, Nat.zero_le _, rfl, Only.refl _ _⟩
        case round =>
          obtain ⟨j, V, hV, rfl, hj, rfl, hoV⟩ := hrel
          subst hV
          have HGV : Hid (Only (fun _ => False) V0 V ∧ Only (fun _ => False) X V) := ⟨hoV, HV0.out.2.trans hoV⟩
          clear hoV
          by_cases hjl : j < nL
          · have t3 : (j : Int) < (nL : Int) := by omega
            obtain ⟨f, hf0, hf1, hdr⟩ := Sp.lines_drop (C := C) (O := O) (t := T1) (W := W1) (Nat.zero_le k) j (by rw [← HLL.out.1, ← HLL.out.2]; omega)
            rw [← HLL.out.1] at hdr
            obtain ⟨hfk, hat, _⟩ := Sp.lines_at hdr (by rw [← HLL.out.2]; exact hjl)
            have HVL := HV0.out.1.keep HGV.out.1
            obtain ⟨g, off, rfl, hg, c0', c1', c2', c3'⟩ := HVL.line hat
            have HC0 : Hid (∀ W', Only (fun _ => False) V W' → W'.cell? ⟨g, off + j * 4, none⟩ = some (.int .i64 (f : Int)) ∧ Vw W' (some ⟨g, off + j * 4, none⟩) (lnC (Ls.drop j))) := fun W' ho => ⟨keep0 ho c0', (Vw.lnDrop HVL j).keep ho⟩
            obtain ⟨nd, hnd⟩ : ∃ n, n = nL - j := ⟨_, rfl⟩
            have HB1 : Hid (∀ W', Only (fun _ => False) X W' → Calls Try.prog 13 #[.agg #[.slice aC k cC, .slice aO (k + 1) cO], .int .i64 (f : Int), .int .i64 (k : Int), .agg #[.int .i64 (W1 : Int), .int .i64 (T1 : Int), .int .u8 (M1 : Int), .int .i64 (hy : Int), .int .i64 (pr : Int), .float .f64 lo]] W' fun e w' => ∃ (a : Option Addr) (c : Nat), e = .returned (.slice a nd c) ∧ Vw w' a (lnC (Ls.drop j)) ∧ Only (fun _ => False) W' w') := fun W' ho => by
              refine (HBK.out W' f j ho (by omega) hdr).mono ?_
              rintro e w' ⟨a, c, he, _, hv, ho'⟩
              rw [← hnd] at he
              exact ⟨a, c, he, hv, ho'⟩
            have HSL : Hid (∀ W' a c c', Vw W' a (lnC (Ls.drop j)) → Vw W' (some ⟨g, off + j * 4, none⟩) (lnC (Ls.drop j)) → Calls Try.prog 12 #[.slice a nd c, .slice (some ⟨g, off + j * 4, none⟩) (nL - j) c'] W' fun e w' => e = .returned (.bool true) ∧ Only (fun _ => False) W' w') := fun W' a c c' h1 h2 => by
              rw [← hnd]
              exact sameLines_any (Ls.drop j) nd a _ c c' W' (by rw [List.length_drop, ← HLL.out.2, hnd]) h1 h2 (by omega)
            have ncap : ¬ cL = j := by omega
            clear hf0 hdr hat HVL c0' c1' c2' c3' hnd
            go_wp2_with fail
            go_region_held3 (fun W' => ((W'.cell? ⟨B5, 0, none⟩ = some (.slice aC k cC) ∧ W'.cell? ⟨B5, 1, none⟩ = some (.slice aO (k + 1) cO)) ∧ (W'.cell? ⟨B6, 0, none⟩ = some (.int .i64 (W1 : Int)) ∧ W'.cell? ⟨B6, 1, none⟩ = some (.int .i64 (T1 : Int)) ∧ W'.cell? ⟨B6, 2, none⟩ = some (.int .u8 (M1 : Int)) ∧ W'.cell? ⟨B6, 3, none⟩ = some (.int .i64 (hy : Int)) ∧ W'.cell? ⟨B6, 4, none⟩ = some (.int .i64 (pr : Int)) ∧ W'.cell? ⟨B6, 5, none⟩ = some (.float .f64 lo))) ∧ W'.cell? ⟨g, off + j * 4, none⟩ = some (.int .i64 (f : Int))) ((first | exact ⟨HPC.out _ HGV.out.2.drew, (HC0.out _ (Only.refl _ _).drew).1⟩ | exact ⟨HPC.out _ H1.out.2.1, (HC0.out _ H1.out.2.2).1⟩ | exact ⟨HPC.out _ H2.out.1, (HC0.out _ H2.out.2).1⟩)) ((first | (go_at_call 13; refine Calls.mono (HB1.out _ HGV.out.2.drew) ?_; rintro e w5 ⟨a5, c5, rfl, hv5, ho5⟩; have H1 : Hid (Vw w5 a5 (lnC (Ls.drop j)) ∧ Only (fun _ => False) X w5 ∧ Only (fun _ => False) V w5) := ⟨hv5, HGV.out.2.drew.trans ho5, (Only.refl _ _).drew.trans ho5⟩; clear hv5 ho5) | (go_at_call 12; refine Calls.mono (HSL.out _ _ _ _ H1.out.1 (HC0.out _ H1.out.2.2).2) ?_; rintro e w7 ⟨rfl, ho7⟩; have H2 : Hid (Only (fun _ => False) X w7 ∧ Only (fun _ => False) V w7) := ⟨H1.out.2.1.trans ho7, H1.out.2.2.trans ho7⟩; clear ho7)))
            go_wp2_with fail
            go_roundg (nL - (j + 1))
            case measure => omega
            case rel => exact ⟨j + 1, _, rfl, rfl, by omega, by go_num, HGV.out.1.trans H2.out.2⟩
          · have t3 : decide ((j : Int) < (nL : Int)) = false := decide_eq_false (by omega)
            go_wp2_with fail
            go_ret
            exact ⟨rfl, HWX.out.1.trans HGV.out.2⟩
set_option maxRecDepth 100000 in
set_option maxHeartbeats 4000000 in
theorem walk0 (L : List Bt) (a0 : Option Addr) (c0 : Nat) (K : Wy) (w : World) (hc : L.length ≤ c0) (hm : c0 ≤ maxLen) (h5 : ¬ L.length ≤ 200) :
    Calls Try.prog 6 #[.slice a0 L.length c0, K.val] w fun e w' => e = .returned (.bool true) ∧ Only (fun _ => False) w w' := by
  obtain ⟨wi, tb, mo, hy, pr, lo⟩ := K
  obtain ⟨n0, hn0⟩ : ∃ n, n = L.length := ⟨_, rfl⟩
  unfold Wy.val
  simp only
  rw [← hn0] at h5 hc ⊢
  clear hn0
  unfold maxLen at hm
  have s0 : (200 : Int) < (n0 : Int) := by omega
  go_enter Try.func6, Try.ntmps6
  go_wp2_with fail
  refine Calls.mono (awake14_any _) ?_
  rintro e w2 ⟨rfl, ho2⟩
  have HW2 : Hid (Only (fun _ => False) w w2) := ((Only.refl _ _).alloc _).trans ho2
  clear ho2
  go_wp2_with fail
  go_ret
  exact ⟨rfl, HW2.out⟩
theorem walkN (n : Nat) : ∀ (L : List Bt) (a0 : Option Addr) (c0 : Nat) (K : Wy) (w : World), L.length = n → L.length ≤ 200 → L.length ≤ c0 → Vw w a0 (btC L) → (∀ b ∈ L, b.cells < 256 ∧ b.kind < 256 ∧ b.len < 256 ∧ b.opp < 256) → K.Ok → Calls Try.prog 6 #[.slice a0 L.length c0, K.val] w fun e w' => e = .returned (.bool true) ∧ Only (fun _ => False) w w' := by
  induction n using Nat.strongRecOn with
  | ind n ih =>
    intro L a0 c0 K w hn h2 hc hV hB hK
    exact walk1 L (fun L' a' c' K' w' h1 hc' hV' hB' hK' => ih L'.length (by omega) L' a' c' K' w' rfl (by omega) hc' hV' hB' hK') a0 c0 K w hc hV hB h2 hK
theorem walk (L : List Bt) (a0 : Option Addr) (c0 : Nat) (K : Wy) (w : World) (hV : Vw w a0 (btC L)) (hB : ∀ b ∈ L, b.cells < 256 ∧ b.kind < 256 ∧ b.len < 256 ∧ b.opp < 256) (hc : L.length ≤ c0) (hm : c0 ≤ maxLen) (hK : K.Ok) : Calls Try.prog 6 #[.slice a0 L.length c0, K.val] w fun e w' => e = .returned (.bool true) ∧ Only (fun _ => False) w w' := by
  by_cases h5 : L.length ≤ 200
  · exact walkN _ L a0 c0 K w rfl h5 hc hV hB hK
  · exact walk0 L a0 c0 K w hc hm h5
end Go.Proofs.Ytjahocnkpomlpaa.firstRest

