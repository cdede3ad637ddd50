/-
  stanzalaw04.AutoMatches: the classes made to fit.
-/
import Derived.Test.YtfbcijnacbfjpaaAm0z
import Derived.Test.YtfbcijnacbfjpaaEn5z
import Derived.Test.YtfbcijnacbfjpaaEx1z
import Derived.BigRegion
import Derived.BigQuiet
import Derived.Deep.RegionHeldLaw
import Derived.Deep.RegionHeld3
namespace Go.Proofs.Ytfbcijnacbfjpaa
open Go.RowKit Go.Maps
set_option linter.unusedVariables false
set_option linter.unusedSimpArgs false
open Rl (Ex)
theorem mk_one (es : List Ex) (a : Option Addr) (c : Nat) (cl : Int) (w : World) (hL : Lex w (fun b => b < w.heap.size) es a c) (hD : ∀ e ∈ es, Au.dp e ≤ 1000000) (h1 : 1 ≤ cl) (h2 : cl ≤ 24) (h3 : es.length ≤ 24) :
    Calls Try.prog 11 #[.slice a es.length c, .int .i64 cl] w fun e w1 => ∃ (aN : Option Addr) (nN cN : Nat) (aO : Option Addr) (nO cO : Nat) (k : Int), e = .returned (.tuple #[.agg #[.slice aN nN cN, .slice aO nO cO], .int .i64 k]) ∧ Only (fun _ => False) w w1 ∧
      ((k = 26 ∨ k = 27) ∨ (k = 0 ∧ ∃ nx o, Au.make es cl = .ok (nx, o) ∧ Aut w1 w.heap.size cl.toNat (.agg #[.slice aN nN cN, .slice aO nO cO]) nx o)) := by
  refine Calls.mono (make_all _ es a c cl w hL (fun b h => h) hD) ?_
  rintro e w1 ⟨hm, ho⟩
  cases hR : Au.make es cl with
  | error k =>
    rw [hR] at hm
    simp only at hm
    have hk : k = 2 ∨ k = 3 := by
      unfold Au.make at hR
      rw [if_neg (by omega)] at hR
      split at hR
      · injection hR with hR; exact Or.inl hR.symm
      · split at hR
        · injection hR with hR; exact Or.inr hR.symm
        · cases hR
    refine ⟨none, 0, 0, none, 0, 0, errN k, hm, ho, Or.inl ?_⟩
    rcases hk with rfl | rfl
    · exact Or.inl rfl
    · exact Or.inr rfl
  | ok r =>
    obtain ⟨nx, o⟩ := r
    rw [hR] at hm
    simp only at hm
    obtain ⟨v, rfl, hA⟩ := hm
    obtain ⟨aN, cN, aO, cO, rfl⟩ := hA.form
    exact ⟨aN, _, cN, aO, _, cO, 0, rfl, ho, Or.inr ⟨rfl, nx, o, rfl, hA⟩⟩
def fitc (n : Int) (x : Int) : Int := (IntKind.u64.wrap x).tmod n
theorem wrapu_small (x : Int) (h0 : 0 ≤ x) (h1 : x < 2 ^ 64) : IntKind.u64.wrap x = x := by
  simp only [IntKind.wrap, IntKind.bits, IntKind.signed]
  simp
  omega
theorem wrapu_nn (x : Int) : 0 ≤ IntKind.u64.wrap x := by
  simp only [IntKind.wrap, IntKind.bits, IntKind.signed]
  simp
  omega
theorem own_cap {w : World} {base e size n g cap : Nat} {xs : List Value} (h : w.ownsRow base e size (.slice (some ⟨g, 0, none⟩) n cap) n xs) : n ≤ cap ∧ cap ≤ 9223372036854775807 := by
  obtain ⟨_, ⟨e, _⟩ | ⟨g', cap', cur, e, hb, hh, hc, hm, _⟩⟩ := h
  · cases e
  · injection e with _ _ e
    subst e
    unfold maxLen at hm
    omega
theorem own_iw {w : World} {base n g cap : Nat} {D : List Int} (h : w.ownsRow base 3 1 (.slice (some ⟨g, 0, none⟩) n cap) n (ints D)) (hl : D.length = n) (hg : g < w.heap.size) : Iw w (some ⟨g, 0, none⟩) n D := by
  refine ⟨hl, g, 0, fun _ => ⟨rfl, hg⟩, fun j x hj => ?_⟩
  have := own_news h hl j (.int .i64 x) (by unfold ints; rw [List.getElem?_map, hj]; rfl)
  rw [Addr.add_mid] at this
  exact this
theorem set_len {D : List Int} {k L : Nat} {r : Int} (h : D.length = L) (hk : k < L) : (([] ++ D.take k) ++ ([r] ++ D.drop (k + 1))).length = L := by
  simp
  omega
theorem set_ok {D : List Int} {k : Nat} {r n : Int} (hk : k < D.length) (h : ∀ j x, j < k → D[j]? = some x → 0 ≤ x ∧ x < n) (h0 : 0 ≤ r) (h1 : r < n) : ∀ j x, j < k + 1 → (([] ++ D.take k) ++ ([r] ++ D.drop (k + 1)))[j]? = some x → 0 ≤ x ∧ x < n := by
  intro j x hj hx
  rw [List.nil_append] at hx
  have hl : (D.take k).length = k := by simp; omega
  by_cases e : j = k
  · subst e
    rw [List.getElem?_append_right (by omega), hl, Nat.sub_self] at hx
    simp at hx
    subst hx
    exact ⟨h0, h1⟩
  · rw [List.getElem?_append_left (by omega), List.getElem?_take, if_pos (by omega)] at hx
    exact h j x (by omega) hx
theorem set_len1 {D : List Int} {k k1 L : Nat} {r : Int} (h : D.length = L) (hk : k < L) (h1 : k1 ≤ k + 1) (h2 : k + 1 ≤ k1) : (([] ++ D.take k) ++ ([r] ++ D.drop k1)).length = L := by
  obtain rfl : k1 = k + 1 := by omega
  exact set_len h hk
theorem set_ok1 {D : List Int} {k k1 : Nat} {r n : Int} (hk : k < D.length) (h1 : k1 ≤ k + 1) (h2 : k + 1 ≤ k1) (h : ∀ j x, j < k → D[j]? = some x → 0 ≤ x ∧ x < n) (h0 : 0 ≤ r) (h3 : r < n) : ∀ j x, j < k + 1 → (([] ++ D.take k) ++ ([r] ++ D.drop k1))[j]? = some x → 0 ≤ x ∧ x < n := by
  obtain rfl : k1 = k + 1 := by omega
  exact set_ok hk h h0 h3
theorem lex_at {w W : World} {es : List Ex} {a : Option Addr} {c : Nat} (hL : Lex w (fun b => b < w.heap.size) es a c) (ho : Only (fun _ => False) w W) {i : Nat} {kd : Ex} (hi : es[i]? = some kd) :
    ∃ kb ko op set a' n' c', a = some ⟨kb, ko, none⟩ ∧ kb < W.heap.size ∧ W.cell? ⟨kb, ko + i * 3, none⟩ = some (.int .u8 op) ∧ W.cell? ⟨kb, ko + i * 3 + 1, none⟩ = some (.int .u32 set) ∧ W.cell? ⟨kb, ko + i * 3 + 2, none⟩ = some (.slice a' n' c') ∧ Te W (fun b => b < w.heap.size) kd (.agg #[.int .u8 op, .int .u32 set, .slice a' n' c']) :=
  kid_at0 (c := es.length) (show Lf w (fun b => b < w.heap.size) es a es.length from ⟨Nat.le_refl _, hL.1, hL.2⟩) ho hi
theorem Iw.take {w : World} {a : Option Addr} {L : Nat} {D : List Int} (h : Iw w a L D) {k : Nat} (hk : k ≤ L) : Iw w a k (D.take k) := by
  obtain ⟨hl, b, off, h1, h2⟩ := h
  refine ⟨by simp; omega, b, off, fun h0 => h1 (by omega), fun j x hj => h2 j x ?_⟩
  rw [List.getElem?_take] at hj
  split at hj
  · exact hj
  · cases hj
theorem and32 (O i : Nat) : (bits .and .u32 ((O : Int) / 2 ^ i) 1 == 1) = O.testBit i := by
  have e : ((O : Int) / 2 ^ i) = ((O / 2 ^ i : Nat) : Int) := by push_cast; rfl
  have h : bits .and .u32 ((O / 2 ^ i : Nat) : Int) 1 = ((O / 2 ^ i % 2 : Nat) : Int) := by
    show IntKind.u32.wrap ((BitVec.ofInt 32 ((O / 2 ^ i : Nat) : Int) &&& BitVec.ofInt 32 ((1 : Nat) : Int)).toNat : Int) = _
    rw [BitVec.toNat_and, BitVec.ofInt_natCast, BitVec.ofInt_natCast, BitVec.toNat_ofNat, BitVec.toNat_ofNat, show 1 % 2 ^ 32 = 1 from rfl, nat_mask1, IntKind.wrap_u32]
    omega
  rw [e, h, Nat.testBit_eq_decide_div_mod_eq]
  rcases Nat.mod_two_eq_zero_or_one (O / 2 ^ i) with h0 | h0 <;> rw [h0] <;> rfl
theorem new_d (w : World) (o : Obj) : ((w.alloc o).drew).heap[w.heap.size]? = some o := heap_alloc_new w o
theorem bx_d (w : World) (o p : Obj) : (((w.alloc o).alloc p).drew).heap[w.heap.size]? = some o := bx_made w o p
theorem two_d (w : World) (o p : Obj) : (((w.alloc o).alloc p).drew).heap[w.heap.size + 1]? = some p := heap_two w o p
set_option maxRecDepth 100000 in
set_option maxHeartbeats 16000000 in
theorem fits (c jo af : Nat) (aT : Option Addr) (nT cT : Nat) (T : List Nat) (aR : Option Addr) (nR cR : Nat) (rs : List Pr) (aC : Option Addr) (L cC : Nat) (C : List Int) (w : World) (hc : c ≤ 255) (hjo : jo ≤ 255) (haf : af ≤ 255) (hT : Bw w aT nT T) (hR : Rw w aR nR rs) (hC : Iw w aC L C) (hLm : L ≤ maxLen) (hLc : L ≤ cC) (hcm : cC ≤ maxLen) :
    Calls Try.prog 5 #[planV c jo af aT nT cT aR nR cR, .slice aC L cC] w fun e w' => e = .returned (.bool true) ∧ Only (fun _ => False) w w' := by
  have HT : Hid (Bw w aT nT T) := hT
  have HR : Hid (Rw w aR nR rs) := hR
  have HC : Hid (Iw w aC L C) := hC
  unfold maxLen at hLm hcm
  clear hT hR hC
  have B0 : Hid ((w.alloc (.cells #[.int .u8 (c : Int), .int .u8 (jo : Int), .int .u8 (af : Int), .slice aT nT cT, .slice aR nR cR] 25)).heap[w.heap.size]? = some (.cells #[.int .u8 (c : Int), .int .u8 (jo : Int), .int .u8 (af : Int), .slice aT nT cT, .slice aR nR cR] 25 (0, 0))) := heap_alloc_new _ _
  obtain ⟨n, hn⟩ : ∃ n, n = 1 + c % 6 := ⟨_, rfl⟩
  have HN : Hid (n = 1 + c % 6) := hn
  have hn1 : 1 ≤ n := by omega
  have hn6 : n ≤ 6 := by omega
  clear hn
  unfold planV
  go_enter Try.func5, Try.ntmps5
  go_wp2_with (first
    | (go_at_call 9; refine (awake_any _).mono ?_; rintro e w1 ⟨rfl, ho1⟩; have HO1 : Hid (Only (fun _ => False) w w1) := ((Only.refl _ _).alloc _).trans ho1; have hb := (ho1.block _ (Array.getElem?_eq_some_iff.1 B0.out).1 (fun h => h)).trans B0.out; have y0 : w1.cell? ⟨w.heap.size, 0, none⟩ = some (.int .u8 (c : Int)) := cell_blk hb; have y1 : w1.cell? ⟨w.heap.size, 1, none⟩ = some (.int .u8 (jo : Int)) := cell_blk hb; have y2 : w1.cell? ⟨w.heap.size, 2, none⟩ = some (.int .u8 (af : Int)) := cell_blk hb; have y3 : w1.cell? ⟨w.heap.size, 3, none⟩ = some (.slice aT nT cT) := cell_blk hb; have y4 : w1.cell? ⟨w.heap.size, 4, none⟩ = some (.slice aR nR cR) := cell_blk hb; have hl1 : w.heap.size < w1.heap.size := (Array.getElem?_eq_some_iff.1 hb).1; clear ho1 hb)
    | (go_at_call 10; have hq := exprs_any c jo af aT nT cT T aR nR cR rs w1 hc hjo haf (HT.out.keep HO1.out) (HR.out.keep HO1.out); unfold planV at hq; rw [← HN.out] at hq; refine hq.mono ?_; clear hq; rintro e w2 ⟨s, aE, cE, rfl, hLx, hFi, hcl, hll, ho2⟩; have HO2 : Hid (Only (fun _ => False) w w2) := HO1.out.trans ho2; have HLX : Hid (Lex w2 (fun b => b < w2.heap.size) (Rl.sides s.list) aE cE) := hLx; have HNN : Hid (Nns (Rl.sides s.list)) := hFi.nn; have HLN : Hid ((Rl.sides s.list).length ≤ 20) := (by show _ ≤ _; rw [sides_len]; omega); have HCL : Hid _ := mk_one (Rl.sides s.list) aE cE (n : Int) w2 hLx (fun e he => Nat.le_trans (Au.dps_mem _ _ he) (by have := hFi.dp; omega)) (by omega) (by omega) (by rw [sides_len]; omega); clear ho2 hLx hFi hcl hll y0 y1 y2 y3 y4))
  refine Calls.mono HCL.out ?_
  rintro e w3 ⟨aN, nN, cN, aO, nO, cO, k, rfl, ho3, h3⟩
  have HO3 : Hid (Only (fun _ => False) w w3) := HO2.out.trans ho3
  have HO23 : Hid (Only (fun _ => False) w2 w3) := ho3
  obtain ⟨es, hes⟩ : ∃ es, es = Rl.sides s.list := ⟨_, rfl⟩
  rw [← hes] at HLX HNN HLN h3
  have HES : Hid (es = Rl.sides s.list) := hes
  rw [← hes]
  clear hes ho3 HCL
  rcases h3 with (rfl | rfl) | ⟨rfl, nx, o, hmk, hA⟩
  · go_wp2_with fail
    go_ret
    exact ⟨rfl, HO3.out.alloc _⟩
  · go_wp2_with fail
    go_ret
    exact ⟨rfl, HO3.out.alloc _⟩
  have HMK : Hid (Au.make es (n : Int) = .ok (nx, o)) := hmk
  have HA : Hid (Aut w3 w2.heap.size n (.agg #[.slice aN nN cN, .slice aO nO cO]) nx o) := hA
  clear hmk hA
  by_cases hL : 40 < L
  · have h40 : (40 : Int) < (L : Int) := by omega
    go_wp2_with fail
    go_ret
    exact ⟨rfl, HO3.out.alloc _⟩
  have h40 : ¬ (40 : Int) < (L : Int) := by omega
  go_wp2_with fail
  go_loopg [1, 47] L (fun gh v1 v47 wr => ∃ (k : Nat) (aV : Option Addr) (cap : Nat) (D : List Int) (V : World), V = wr ∧ gh = L - k ∧ k ≤ L ∧ v1 = .slice aV L cap ∧ v47 = .int .i64 (k : Int) ∧ L ≤ cap ∧ cap ≤ 9223372036854775807 ∧ Iw V aV L D ∧ (∀ j x, j < k → D[j]? = some x → 0 ≤ x ∧ x < (n : Int)) ∧ Only (fun _ => False) (w3.alloc (.cells #[.slice aN nN cN, .slice aO nO cO] 33)) V)
  case atStart => exact ⟨0, aC, cC, C, _, rfl, rfl, Nat.zero_le _, rfl, rfl, hLc, by omega, (HC.out.keep HO3.out).keep ((Only.refl _ _).alloc _), fun j x h => absurd h (Nat.not_lt_zero j), Only.refl _ _⟩
  case round =>
    obtain ⟨k, aV, cap, D, V, hV, rfl, hk, rfl, rfl, hcap, hcap2, hI, hD, ho⟩ := hrel
    subst hV
    have HI : Hid (Iw V aV L D) := hI
    have HD : Hid (∀ j x, j < k → D[j]? = some x → 0 ≤ x ∧ x < (n : Int)) := hD
    have HOV : Hid (Only (fun _ => False) (w3.alloc (.cells #[.slice aN nN cN, .slice aO nO cO] 33)) V) := ho
    clear hI hD ho
    by_cases hlt : k < L
    · have t1 : (k : Int) < (L : Int) := by omega
      obtain ⟨b, off, x, rfl, hbl, hx, hcx⟩ := HI.out.at hlt
      have HX : Hid (D[k]? = some x) := hx
      have cx := hcx V (Only.refl _ _)
      have p0 : (0 : Int) < (n : Int) := by omega
      have p1 : ¬ (n : Int) = 0 := by omega
      have p2 : ((n : Int) == 0) = false := by simpa using p1
      have p11 : ¬ n = 0 := by omega
      have p3 : IntKind.u64.wrap (n : Int) = (n : Int) := wrapu_small _ (by omega) (by omega)
      obtain ⟨ux, p4, p5⟩ : ∃ ux : Int, IntKind.u64.wrap x = ux ∧ 0 ≤ ux := ⟨_, rfl, wrapu_nn x⟩
      obtain ⟨r, p6, p7, p8⟩ : ∃ r : Int, ux.tmod (n : Int) = r ∧ 0 ≤ r ∧ r < (n : Int) := ⟨_, rfl, Int.tmod_nonneg _ p5, Int.tmod_lt_of_pos _ p0⟩
      have p9 : IntKind.u64.wrap r = r := wrapu_small _ (by omega) (by omega)
      have p10 : IntKind.i64.wrap r = r := wrap_small _ (by omega) (by omega)
      obtain ⟨k1, hk1⟩ : ∃ k1, k1 = k + 1 := ⟨_, rfl⟩
      have hk1a : k1 ≤ k + 1 := by omega
      have hk1b : k + 1 ≤ k1 := by omega
      have s1 : (k : Int) ≤ (cap : Int) := by omega
      have s5 : (k1 : Int) ≤ (L : Int) := by omega
      have s6 : k1 ≤ L := by omega
      have s4 : (L : Int) ≤ (cap : Int) := by omega
      have sw : IntKind.i64.wrap ((k : Int) + 1) = (k1 : Int) := by rw [hk1]; push_cast; exact wrap_small _ (by omega) (by omega)
      clear hk1
      have HCX : Hid (∀ W, Only (fun _ => False) V W → W.cell? ⟨b, off + k, none⟩ = some (.int .i64 x)) := hcx
      clear p5 hx hcx
      go_wp2_with fail
      by_cases hce : cap = k1
      · have hce := hce.symm
        subst hce
        go_region_held3 (fun w' => w'.cell? ⟨b, off + k, none⟩ = some (.int .i64 x)) ((first | exact HCX.out _ HOF.out | exact HCX.out _ HOA.out | exact HCX.out _ HOB.out | exact HCX.out _ (Only.refl _ _) | exact HCX.out _ (Only.refl _ _).drew | exact HCX.out _ ((Only.refl _ _).alloc _) | exact HCX.out _ ((Only.refl _ _).alloc _).drew | exact HCX.out _ (((Only.refl _ _).alloc _).alloc _) | exact HCX.out _ (((Only.refl _ _).alloc _).alloc _).drew | exact HCX.out _ (HOA.out.alloc _) | exact HCX.out _ (HOB.out.alloc _) | exact HCX.out _ (HOA.out.alloc _).drew | exact HCX.out _ (HOB.out.alloc _).drew | exact HCX.out _ HOF.out.drew)) (first
          | (refine step_app (by rfl) (.tmp 50) (.tmp 53) (by rfl) V.heap.size _ 0 0 [] (by rfl) (own_e0 (by first | exact heap_alloc_new _ _ | exact bx_made _ _ _ | exact heap_two _ _ _ | exact new_d _ _ | exact bx_d _ _ _ | exact two_d _ _ _ | exact HTB.out _ _ (bx_made V _ _) (by omega) | exact HTB.out _ _ (heap_two V _ _) (by omega) | exact HTB.out _ _ (bx_d V _ _) (by omega) | exact HTB.out _ _ (two_d V _ _) (by omega)) (by first | (simp; done) | (simp; omega) | (have q := HOA.out.size; simp; omega) | (have q := HOB.out.size; simp; omega) | (have q := HOA.out.size; omega) | (have q := HOB.out.size; omega))) _ _ _ (D.take k) (by rfl) (by have := HI.out.1; simp; omega) (news_take HI.out (by first | exact ((Only.refl _ _).alloc _).drew | exact (((Only.refl _ _).alloc _).alloc _).drew | exact HOB.out | exact HOA.out | exact (HOB.out.alloc _) | exact (HOA.out.alloc _) | exact (HOB.out.alloc _).drew | exact (HOA.out.alloc _).drew | exact HOB.out.drew | exact HOA.out.drew) k) k (Nat.zero_add _) (by omega) (by first | (simp; done) | (simp; omega) | (have q := HOA.out.size; simp; omega) | (have q := HOB.out.size; simp; omega) | (have q := HOA.out.size; omega) | (have q := HOB.out.size; omega)) ?_; intro gA cA wA hoA hgA horA hcA hbA hlA; have HA1 : Hid (wA.ownsRow V.heap.size 3 1 (.slice (some ⟨gA, 0, none⟩) k cA) k (ints ([] ++ D.take k))) := hoA; have HTA : Hid _ := grow_keep hgA; have HOA : Hid (Only (fun _ => False) V wA) := grow_only (by first | exact ((Only.refl _ _).alloc _).drew | exact (((Only.refl _ _).alloc _).alloc _).drew | exact HOB.out | exact HOA.out | exact (HOB.out.alloc _) | exact (HOA.out.alloc _) | exact (HOB.out.alloc _).drew | exact (HOA.out.alloc _).drew | exact HOB.out.drew | exact HOA.out.drew) (by first | (simp; done) | (simp; omega) | (have q := HOA.out.size; simp; omega) | (have q := HOB.out.size; simp; omega) | (have q := HOA.out.size; omega) | (have q := HOB.out.size; omega)) hgA; (try simp at horA); have cxA := HCX.out wA HOA.out; try (have HB2 : Hid (wA.ownsRow V.heap.size 3 1 (.slice (some ⟨gB, 0, none⟩) (L - k) cB) (L - k) (ints ([r] ++ D.drop k1))) := (by first | exact World.ownsRow.kept HB1.out hgA (Or.inr (by intro hq; simp [Value.ownBlock] at hq; omega)) | exact World.ownsRow.kept (HB1.out.alloc _) hgA (Or.inr (by intro hq; simp [Value.ownBlock] at hq; omega)))); clear hoA hgA)
          | (refine step_app (by rfl) (.tmp 64) (.tmp 68) (by rfl) V.heap.size _ 1 1 [r] (by rfl) (own_e1 (by first | exact heap_alloc_new _ _ | exact bx_made _ _ _ | exact heap_two _ _ _ | exact new_d _ _ | exact bx_d _ _ _ | exact two_d _ _ _ | exact HTA.out _ _ (bx_made V _ _) (by omega) | exact HTA.out _ _ (heap_two V _ _) (by omega) | exact HTA.out _ _ (bx_d V _ _) (by omega) | exact HTA.out _ _ (two_d V _ _) (by omega)) (by first | (simp; done) | (simp; omega) | (have q := HOA.out.size; simp; omega) | (have q := HOB.out.size; simp; omega) | (have q := HOA.out.size; omega) | (have q := HOB.out.size; omega))) _ _ _ (D.drop k1) (by rfl) (by have := HI.out.1; simp; omega) (news_drop HI.out (by first | exact ((Only.refl _ _).alloc _).drew | exact (((Only.refl _ _).alloc _).alloc _).drew | exact HOB.out | exact HOA.out | exact (HOB.out.alloc _) | exact (HOA.out.alloc _) | exact (HOB.out.alloc _).drew | exact (HOA.out.alloc _).drew | exact HOB.out.drew | exact HOA.out.drew) k1 _ (by intro hq; first | rfl | omega | (simp; omega))) (L - k) (by omega) (by omega) (by first | (simp; done) | (simp; omega) | (have q := HOA.out.size; simp; omega) | (have q := HOB.out.size; simp; omega) | (have q := HOA.out.size; omega) | (have q := HOB.out.size; omega)) ?_; intro gB cB wB hoB hgB horB hcB hbB hlB; have HB1 : Hid (wB.ownsRow V.heap.size 3 1 (.slice (some ⟨gB, 0, none⟩) (L - k) cB) (L - k) (ints ([r] ++ D.drop k1))) := hoB; have HTB : Hid _ := grow_keep hgB; have HOB : Hid (Only (fun _ => False) V wB) := grow_only (by first | exact ((Only.refl _ _).alloc _).drew | exact (((Only.refl _ _).alloc _).alloc _).drew | exact HOB.out | exact HOA.out | exact (HOB.out.alloc _) | exact (HOA.out.alloc _) | exact (HOB.out.alloc _).drew | exact (HOA.out.alloc _).drew | exact HOB.out.drew | exact HOA.out.drew) (by first | (simp; done) | (simp; omega) | (have q := HOA.out.size; simp; omega) | (have q := HOB.out.size; simp; omega) | (have q := HOA.out.size; omega) | (have q := HOB.out.size; omega)) hgB; (try simp at horB); try (have HA2 : Hid (wB.ownsRow V.heap.size 3 1 (.slice (some ⟨gA, 0, none⟩) k cA) k (ints ([] ++ D.take k))) := (by first | exact World.ownsRow.kept HA1.out hgB (Or.inr (by intro hq; simp [Value.ownBlock] at hq; omega)) | exact World.ownsRow.kept (HA1.out.alloc _) hgB (Or.inr (by intro hq; simp [Value.ownBlock] at hq; omega)))); clear hoB hgB)
          | (refine step_app (by rfl) (.tmp 54) (.tmp 69) (by rfl) V.heap.size gA k cA ([] ++ D.take k) (by rfl) (by first | exact HA2.out | exact HA1.out) ⟨gB, 0, none⟩ (L - k) cB ([r] ++ D.drop k1) (by rfl) (by have := HI.out.1; simp; omega) (by first | exact own_news HB2.out (by have := HI.out.1; simp; omega) | exact own_news HB1.out (by have := HI.out.1; simp; omega)) L (by omega) (by omega) (by first | (simp; done) | (simp; omega) | (have q := HOA.out.size; simp; omega) | (have q := HOB.out.size; simp; omega) | (have q := HOA.out.size; omega) | (have q := HOB.out.size; omega)) ?_; intro gF cF wF hoF hgF horF hcF hbF hlF; have HF : Hid (wF.ownsRow V.heap.size 3 1 (.slice (some ⟨gF, 0, none⟩) L cF) L (ints (([] ++ D.take k) ++ ([r] ++ D.drop k1)))) := hoF; have HOF : Hid (Only (fun _ => False) V wF) := (by first | exact grow_only HOA.out hbA hgF | exact grow_only HOB.out hbA hgF); clear hoF hgF horF) | fail)
        all_goals
          go_wp2_with fail
          go_roundg (L - (k + 1))
          case measure => omega
          case rel => exact ⟨k + 1, _, cF, _, _, rfl, rfl, by omega, rfl, by go_num, (own_cap HF.out).1, (own_cap HF.out).2, own_iw HF.out (set_len1 HI.out.1 hlt hk1a hk1b) hlF, set_ok1 (by have := HI.out.1; omega) hk1a hk1b HD.out p7 p8, HOV.out.trans HOF.out⟩
      · go_region_held3 (fun w' => w'.cell? ⟨b, off + k, none⟩ = some (.int .i64 x)) ((first | exact HCX.out _ HOF.out | exact HCX.out _ HOA.out | exact HCX.out _ HOB.out | exact HCX.out _ (Only.refl _ _) | exact HCX.out _ (Only.refl _ _).drew | exact HCX.out _ ((Only.refl _ _).alloc _) | exact HCX.out _ ((Only.refl _ _).alloc _).drew | exact HCX.out _ (((Only.refl _ _).alloc _).alloc _) | exact HCX.out _ (((Only.refl _ _).alloc _).alloc _).drew | exact HCX.out _ (HOA.out.alloc _) | exact HCX.out _ (HOB.out.alloc _) | exact HCX.out _ (HOA.out.alloc _).drew | exact HCX.out _ (HOB.out.alloc _).drew | exact HCX.out _ HOF.out.drew)) (first
          | (refine step_app (by rfl) (.tmp 50) (.tmp 53) (by rfl) V.heap.size _ 0 0 [] (by rfl) (own_e0 (by first | exact heap_alloc_new _ _ | exact bx_made _ _ _ | exact heap_two _ _ _ | exact new_d _ _ | exact bx_d _ _ _ | exact two_d _ _ _ | exact HTB.out _ _ (bx_made V _ _) (by omega) | exact HTB.out _ _ (heap_two V _ _) (by omega) | exact HTB.out _ _ (bx_d V _ _) (by omega) | exact HTB.out _ _ (two_d V _ _) (by omega)) (by first | (simp; done) | (simp; omega) | (have q := HOA.out.size; simp; omega) | (have q := HOB.out.size; simp; omega) | (have q := HOA.out.size; omega) | (have q := HOB.out.size; omega))) _ _ _ (D.take k) (by rfl) (by have := HI.out.1; simp; omega) (news_take HI.out (by first | exact ((Only.refl _ _).alloc _).drew | exact (((Only.refl _ _).alloc _).alloc _).drew | exact HOB.out | exact HOA.out | exact (HOB.out.alloc _) | exact (HOA.out.alloc _) | exact (HOB.out.alloc _).drew | exact (HOA.out.alloc _).drew | exact HOB.out.drew | exact HOA.out.drew) k) k (Nat.zero_add _) (by omega) (by first | (simp; done) | (simp; omega) | (have q := HOA.out.size; simp; omega) | (have q := HOB.out.size; simp; omega) | (have q := HOA.out.size; omega) | (have q := HOB.out.size; omega)) ?_; intro gA cA wA hoA hgA horA hcA hbA hlA; have HA1 : Hid (wA.ownsRow V.heap.size 3 1 (.slice (some ⟨gA, 0, none⟩) k cA) k (ints ([] ++ D.take k))) := hoA; have HTA : Hid _ := grow_keep hgA; have HOA : Hid (Only (fun _ => False) V wA) := grow_only (by first | exact ((Only.refl _ _).alloc _).drew | exact (((Only.refl _ _).alloc _).alloc _).drew | exact HOB.out | exact HOA.out | exact (HOB.out.alloc _) | exact (HOA.out.alloc _) | exact (HOB.out.alloc _).drew | exact (HOA.out.alloc _).drew | exact HOB.out.drew | exact HOA.out.drew) (by first | (simp; done) | (simp; omega) | (have q := HOA.out.size; simp; omega) | (have q := HOB.out.size; simp; omega) | (have q := HOA.out.size; omega) | (have q := HOB.out.size; omega)) hgA; (try simp at horA); have cxA := HCX.out wA HOA.out; try (have HB2 : Hid (wA.ownsRow V.heap.size 3 1 (.slice (some ⟨gB, 0, none⟩) (L - k) cB) (L - k) (ints ([r] ++ D.drop k1))) := (by first | exact World.ownsRow.kept HB1.out hgA (Or.inr (by intro hq; simp [Value.ownBlock] at hq; omega)) | exact World.ownsRow.kept (HB1.out.alloc _) hgA (Or.inr (by intro hq; simp [Value.ownBlock] at hq; omega)))); clear hoA hgA)
          | (refine step_app (by rfl) (.tmp 64) (.tmp 68) (by rfl) V.heap.size _ 1 1 [r] (by rfl) (own_e1 (by first | exact heap_alloc_new _ _ | exact bx_made _ _ _ | exact heap_two _ _ _ | exact new_d _ _ | exact bx_d _ _ _ | exact two_d _ _ _ | exact HTA.out _ _ (bx_made V _ _) (by omega) | exact HTA.out _ _ (heap_two V _ _) (by omega) | exact HTA.out _ _ (bx_d V _ _) (by omega) | exact HTA.out _ _ (two_d V _ _) (by omega)) (by first | (simp; done) | (simp; omega) | (have q := HOA.out.size; simp; omega) | (have q := HOB.out.size; simp; omega) | (have q := HOA.out.size; omega) | (have q := HOB.out.size; omega))) _ _ _ (D.drop k1) (by rfl) (by have := HI.out.1; simp; omega) (news_drop HI.out (by first | exact ((Only.refl _ _).alloc _).drew | exact (((Only.refl _ _).alloc _).alloc _).drew | exact HOB.out | exact HOA.out | exact (HOB.out.alloc _) | exact (HOA.out.alloc _) | exact (HOB.out.alloc _).drew | exact (HOA.out.alloc _).drew | exact HOB.out.drew | exact HOA.out.drew) k1 _ (by intro hq; first | rfl | omega | (simp; omega))) (L - k) (by omega) (by omega) (by first | (simp; done) | (simp; omega) | (have q := HOA.out.size; simp; omega) | (have q := HOB.out.size; simp; omega) | (have q := HOA.out.size; omega) | (have q := HOB.out.size; omega)) ?_; intro gB cB wB hoB hgB horB hcB hbB hlB; have HB1 : Hid (wB.ownsRow V.heap.size 3 1 (.slice (some ⟨gB, 0, none⟩) (L - k) cB) (L - k) (ints ([r] ++ D.drop k1))) := hoB; have HTB : Hid _ := grow_keep hgB; have HOB : Hid (Only (fun _ => False) V wB) := grow_only (by first | exact ((Only.refl _ _).alloc _).drew | exact (((Only.refl _ _).alloc _).alloc _).drew | exact HOB.out | exact HOA.out | exact (HOB.out.alloc _) | exact (HOA.out.alloc _) | exact (HOB.out.alloc _).drew | exact (HOA.out.alloc _).drew | exact HOB.out.drew | exact HOA.out.drew) (by first | (simp; done) | (simp; omega) | (have q := HOA.out.size; simp; omega) | (have q := HOB.out.size; simp; omega) | (have q := HOA.out.size; omega) | (have q := HOB.out.size; omega)) hgB; (try simp at horB); try (have HA2 : Hid (wB.ownsRow V.heap.size 3 1 (.slice (some ⟨gA, 0, none⟩) k cA) k (ints ([] ++ D.take k))) := (by first | exact World.ownsRow.kept HA1.out hgB (Or.inr (by intro hq; simp [Value.ownBlock] at hq; omega)) | exact World.ownsRow.kept (HA1.out.alloc _) hgB (Or.inr (by intro hq; simp [Value.ownBlock] at hq; omega)))); clear hoB hgB)
          | (refine step_app (by rfl) (.tmp 54) (.tmp 69) (by rfl) V.heap.size gA k cA ([] ++ D.take k) (by rfl) (by first | exact HA2.out | exact HA1.out) ⟨gB, 0, none⟩ (L - k) cB ([r] ++ D.drop k1) (by rfl) (by have := HI.out.1; simp; omega) (by first | exact own_news HB2.out (by have := HI.out.1; simp; omega) | exact own_news HB1.out (by have := HI.out.1; simp; omega)) L (by omega) (by omega) (by first | (simp; done) | (simp; omega) | (have q := HOA.out.size; simp; omega) | (have q := HOB.out.size; simp; omega) | (have q := HOA.out.size; omega) | (have q := HOB.out.size; omega)) ?_; intro gF cF wF hoF hgF horF hcF hbF hlF; have HF : Hid (wF.ownsRow V.heap.size 3 1 (.slice (some ⟨gF, 0, none⟩) L cF) L (ints (([] ++ D.take k) ++ ([r] ++ D.drop k1)))) := hoF; have HOF : Hid (Only (fun _ => False) V wF) := (by first | exact grow_only HOA.out hbA hgF | exact grow_only HOB.out hbA hgF); clear hoF hgF horF) | fail)
        all_goals
          go_wp2_with fail
          go_roundg (L - (k + 1))
          case measure => omega
          case rel => exact ⟨k + 1, _, cF, _, _, rfl, rfl, by omega, rfl, by go_num, (own_cap HF.out).1, (own_cap HF.out).2, own_iw HF.out (set_len1 HI.out.1 hlt hk1a hk1b) hlF, set_ok1 (by have := HI.out.1; omega) hk1a hk1b HD.out p7 p8, HOV.out.trans HOF.out⟩
    · have t2 : decide ((k : Int) < (L : Int)) = false := decide_eq_false (by omega)
      have HDD : Hid (∀ c ∈ D, 0 ≤ c ∧ c < (n : Int)) := fun c hc => by
        obtain ⟨j, hj⟩ := List.getElem?_of_mem hc
        exact HD.out j c (by have := (List.getElem?_eq_some_iff.1 hj).1; have := HI.out.1; omega) hj
      obtain ⟨_, _, _, nds, p, Fd, hall, h00, hnl, hol, hF3, hOk⟩ := Au.make_says es (n : Int) nx o HMK.out
      rw [Int.toNat_natCast] at hOk
      have hFd0 : 0 < Fd.length := (List.getElem?_eq_some_iff.1 h00).1
      obtain ⟨ws, hNw, hnN, hnO, hnM, hws, gO, haO, hgO, hcO⟩ := aut_nw HA.out (by omega) (by omega) (by omega)
      subst haO
      have HRE : Hid (run ws 0 D = (Au.runs nx 0 D).map (fun (t : Nat) => (t : Int))) := run_runs hws (ok_nexts hnl hOk) D 0 (by omega) HDD.out
      have HO3V : Hid (Only (fun _ => False) w3 V) := ((Only.refl _ _).alloc _).trans HOV.out
      have HAb : Hid (Abx V w3.heap.size aN nN cN (some ⟨gO, 0, none⟩) nO cO) := Abx.keep (heap_alloc_new w3 _) HOV.out
      have HOUT : Hid (∀ W, Only (fun _ => False) w3 W → ∀ (s x : Nat), o[s]? = some x → W.cell? ⟨gO, s, none⟩ = some (.int .u32 (x : Int))) := fun W hW s x hx => (World.cell?_of_block (a := ⟨gO, s, none⟩) (hW.block _ hgO (fun h => h))).trans (hcO s x hx)
      obtain ⟨M, hM⟩ : ∃ M, M = L + 1 := ⟨_, rfl⟩
      have HM : Hid (M = L + 1) := hM
      have hM41 : M ≤ 41 := by omega
      have HCR : Hid (Calls Try.prog 15 #[.agg #[.slice aN nN cN, .slice (some ⟨gO, 0, none⟩) nO cO], .slice aV L cap] V fun e w' => ∃ g cp, e = .returned (.slice (some ⟨g, 0, none⟩) M cp) ∧ g < w'.heap.size ∧ (∀ (j x : Nat), (0 :: Au.runs nx 0 D)[j]? = some x → w'.cell? ⟨g, j, none⟩ = some (.int .i64 (x : Int))) ∧ Only (fun _ => False) V w') := by
        refine Calls.mono (run_any aN nN cN (some ⟨gO, 0, none⟩) nO cO ws aV L cap D V (hNw.keep HO3V.out) hnM (by omega) HI.out (by omega)) ?_
        rintro e w' ⟨v, rfl, hown, ho⟩
        rw [HRE.out, List.length_map, Au.runs_len, HI.out.1, ← hM] at hown
        obtain ⟨g, cp, rfl, hg, _, hc⟩ := own_cells hown (by omega)
        refine ⟨g, cp, rfl, hg, fun j x hx => hc j _ ?_, ho⟩
        unfold ints
        rw [show (0 : Int) :: (Au.runs nx 0 D).map (fun (t : Nat) => (t : Int)) = (0 :: Au.runs nx 0 D).map (fun (t : Nat) => (t : Int)) by rfl, List.getElem?_map, List.getElem?_map, hx]
        rfl
      have HTL : Hid (∀ kk sx, (0 :: Au.runs nx 0 D)[kk]? = some sx → sx < nx.length ∧ ∃ O, o[sx]? = some O ∧ ∀ r e, es[r]? = some e → (O.testBit r = true ↔ ∃ i, Au.mt (D.take kk) e i (D.take kk).length)) := fun kk sx hs => Au.make_tells es (n : Int) nx o HMK.out D HDD.out kk sx hs
      have HNL : Hid (nO = o.length ∧ nx.length = o.length) := ⟨hnO, by omega⟩
      have mw : IntKind.i64.wrap ((L : Int) + 1) = (M : Int) := by rw [hM]; push_cast; exact wrap_small _ (by omega) (by omega)
      have z0 := HAb.out.c0
      have z1 := HAb.out.c1
      have zl : w3.heap.size < V.heap.size := (Array.getElem?_eq_some_iff.1 HAb.out).1
      clear hM hall h00 hnl hol hF3 hOk hFd0 hNw hnN hnO hws hcO
      go_wp2_with (go_at_call 15; refine Calls.mono HCR.out ?_; rintro e w4 ⟨g, cp, rfl, hgl, hcs, ho4⟩; have HCS : Hid (∀ (j x : Nat), (0 :: Au.runs nx 0 D)[j]? = some x → w4.cell? ⟨g, j, none⟩ = some (.int .i64 (x : Int))) := hcs; have HO4 : Hid (Only (fun _ => False) V w4) := ho4; clear hcs ho4)
      clear mw z0 z1
      have HLEX : Hid (Lex w2 (fun b => b < w2.heap.size) es aE cE) := HLX.out
      have HLE : Hid (es.length ≤ 20) := HLN.out
      obtain ⟨E, hE⟩ : ∃ E, E = es.length := ⟨_, rfl⟩
      have HEE : Hid (E = es.length) := hE
      have hE20 : E ≤ 20 := by have := HLE.out; omega
      rw [← hE]
      clear hE
      have HO2V : Hid (Only (fun _ => False) w2 w4) := (HO23.out.trans HO3V.out).trans HO4.out
      go_loopg [83] M (fun gh v wr => ∃ (kk : Nat) (W : World), W = wr ∧ gh = M - kk ∧ kk ≤ M ∧ v = .int .i64 (kk : Int) ∧ Only (fun _ => False) w4 W)
      case atStart => exact ⟨0, _, rfl, rfl, Nat.zero_le _, rfl, Only.refl _ _⟩
      case round =>
        obtain ⟨kk, W, hW, rfl, hkk, rfl, hoW⟩ := hrel
        subst hW
        have HOW : Hid (Only (fun _ => False) w4 W) := hoW
        clear hoW
        by_cases hlk : kk < M
        · have u1 : (kk : Int) < (M : Int) := by omega
          obtain ⟨sx, hsx⟩ : ∃ sx, (0 :: Au.runs nx 0 D)[kk]? = some sx := ⟨_, List.getElem?_eq_getElem (by have := HM.out; have := HI.out.1; simp [Au.runs_len]; omega)⟩
          have cs := (World.cell?_of_block (a := ⟨g, kk, none⟩) (HOW.out.block _ hgl (fun h => h))).trans (HCS.out kk sx hsx)
          have gl2 : g < W.heap.size := Nat.lt_of_lt_of_le hgl HOW.out.size
          obtain ⟨hsn, O, hO, hte⟩ := HTL.out kk sx hsx
          have HTE : Hid (∀ r e, es[r]? = some e → (O.testBit r = true ↔ ∃ i, Au.mt (D.take kk) e i (D.take kk).length)) := hte
          have HOO : Hid (o[sx]? = some O) := hO
          have hsO : sx < nO := by have := HNL.out; omega
          clear hsx hO hte
          go_wp2_with fail
          go_loopg [90] E (fun gh v wr => ∃ (ii : Nat) (W2 : World), W2 = wr ∧ gh = E - ii ∧ ii ≤ E ∧ v = .int .i64 (ii : Int) ∧ Only (fun _ => False) W W2)
          case atStart => exact ⟨0, _, rfl, rfl, Nat.zero_le _, rfl, Only.refl _ _⟩
          case round =>
            obtain ⟨ii, W2, hW2, rfl, hii, rfl, hoW2⟩ := hrel
            subst hW2
            have HOW2 : Hid (Only (fun _ => False) W W2) := hoW2
            clear hoW2
            by_cases hli : ii < E
            · have v1 : (ii : Int) < (E : Int) := by omega
              obtain ⟨e, he⟩ : ∃ e, es[ii]? = some e := ⟨_, List.getElem?_eq_getElem (by rw [← HEE.out]; exact hli)⟩
              have HW2 : Hid (Only (fun _ => False) w2 W2) := (HO2V.out.trans HOW.out).trans HOW2.out
              have HW3 : Hid (Only (fun _ => False) w3 W2) := ((HO3V.out.trans HO4.out).trans HOW.out).trans HOW2.out
              have HWV : Hid (Only (fun _ => False) V W2) := (HO4.out.trans HOW.out).trans HOW2.out
              obtain ⟨eb, eo, op', set', a', n', c', rfl, hel, d0, d1, d2, hTe⟩ := lex_at HLEX.out HW2.out he
              have hNe : Nn e := Nns.mem HNN.out (List.mem_of_getElem? he)
              have hbit := HTE.out ii e he
              have hkL : kk ≤ L := by have := HM.out; omega
              obtain ⟨bt, hbt⟩ : ∃ bt, bt = O.testBit ii := ⟨_, rfl⟩
              have HBT : Hid (bt = O.testBit ii) := hbt
              have HC16 : Hid (∀ Wx, Only (fun _ => False) W2 Wx → Calls Try.prog 16 #[.agg #[.int .u8 op', .int .u32 set', .slice a' n' c'], .slice aV kk cap] Wx fun e' w' => e' = .returned (.bool bt) ∧ Only (fun _ => False) Wx w') := fun Wx hx => by
                refine Calls.mono (endsSo_any (D.take kk) e _ op' set' a' n' c' Wx aV kk cap (Te.keep (Kp.only hx (fun b hb h => h)) (fun _ h => h) _ _ hTe) hNe ((HI.out.take hkL).keep (HWV.out.trans hx)) (by omega)) ?_
                rintro e' w' ⟨b, rfl, hb, ho⟩
                have : b = bt := by
                  rw [hbt]
                  cases hq : O.testBit ii with
                  | true => exact hb.2 (hbit.1 hq)
                  | false => cases b with
                    | true => rw [hbit.2 (hb.1 rfl)] at hq; cases hq
                    | false => rfl
                rw [this]
                exact ⟨rfl, ho⟩
              have y1 := (HAb.out.keep HWV.out).c1
              have yl : w3.heap.size < W2.heap.size := Nat.lt_of_lt_of_le zl HWV.out.size
              have yo := HOUT.out W2 HW3.out sx O HOO.out
              have ygl : gO < W2.heap.size := Nat.lt_of_lt_of_le hgO HW3.out.size
              have ys : (sx : Int) < (nO : Int) := by omega
              have yk : (kk : Int) ≤ (cap : Int) := by omega
              have HKS : Hid (∀ W', Only (fun _ => False) (W2.alloc (.cells #[.int .u8 op', .int .u32 set', .slice a' n' c'] 49)) W' → (W'.cell? ⟨w3.heap.size, 1, none⟩ = some (.slice (some ⟨gO, 0, none⟩) nO cO) ∧ W'.cell? ⟨gO, sx, none⟩ = some (.int .u32 (O : Int)) ∧ W'.cell? ⟨W2.heap.size, 0, none⟩ = some (.int .u8 op') ∧ W'.cell? ⟨W2.heap.size, 1, none⟩ = some (.int .u32 set') ∧ W'.cell? ⟨W2.heap.size, 2, none⟩ = some (.slice a' n' c'))) := fun W' ho => by
                have ho2 : Only (fun _ => False) W2 W' := ((Only.refl _ _).alloc _).trans ho
                have hb := (ho.block W2.heap.size (by simp) (fun h => h)).trans (heap_alloc_new W2 _)
                exact ⟨(World.cell?_of_block (a := ⟨w3.heap.size, 1, none⟩) (ho2.block _ yl (fun h => h))).trans y1, (World.cell?_of_block (a := ⟨gO, sx, none⟩) (ho2.block _ ygl (fun h => h))).trans yo, cell_blk hb, cell_blk hb, cell_blk hb⟩
              clear he hTe hNe hbit hbt
              go_wp2_with fail
              go_region_held3 (fun w' => w'.cell? ⟨w3.heap.size, 1, none⟩ = some (.slice (some ⟨gO, 0, none⟩) nO cO) ∧ w'.cell? ⟨gO, sx, none⟩ = some (.int .u32 (O : Int)) ∧ w'.cell? ⟨W2.heap.size, 0, none⟩ = some (.int .u8 op') ∧ w'.cell? ⟨W2.heap.size, 1, none⟩ = some (.int .u32 set') ∧ w'.cell? ⟨W2.heap.size, 2, none⟩ = some (.slice a' n' c')) (first | exact HKS.out _ HO5.out | exact HKS.out _ (Only.refl _ _) | exact HKS.out _ (Only.refl _ _).drew | exact HKS.out _ HO5.out.drew) (first | (go_at_call 16; refine Calls.mono (HC16.out _ (by first | exact ((Only.refl _ _).alloc _).drew | exact (Only.refl _ _).alloc _)) ?_; rintro e' w5 ⟨rfl, ho5⟩; have HO5 : Hid (Only (fun _ => False) (W2.alloc (.cells #[.int .u8 op', .int .u32 set', .slice a' n' c'] 49)) w5) := (by first | exact ho5 | exact (Only.refl _ _).drew.trans ho5); clear ho5) | fail)
              go_wp2_with fail
              · exfalso
                rename_i hq
                rw [and32 O ii, ← HBT.out] at hq
                cases bt <;> simp at hq
              go_roundg (E - (ii + 1))
              case measure => omega
              case rel => exact ⟨ii + 1, _, rfl, rfl, by omega, by go_num, HOW2.out.trans (((Only.refl _ _).alloc _).trans HO5.out)⟩
            · have v2 : decide ((ii : Int) < (E : Int)) = false := decide_eq_false (by omega)
              go_wp2_with fail
              go_roundg (M - (kk + 1))
              case measure => omega
              case rel => exact ⟨kk + 1, _, rfl, rfl, by omega, by go_num, HOW.out.trans HOW2.out⟩
        · have u2 : decide ((kk : Int) < (M : Int)) = false := decide_eq_false (by omega)
          go_wp2_with fail
          go_ret
          exact ⟨rfl, (((HO3.out.trans HO3V.out).trans HO4.out).trans HOW.out)⟩
end Go.Proofs.Ytfbcijnacbfjpaa
