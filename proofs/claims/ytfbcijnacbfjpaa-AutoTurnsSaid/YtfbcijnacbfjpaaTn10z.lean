/-
  stanzalaw04.AutoTurns: its walk.
-/
import Derived.Test.YtfbcijnacbfjpaaTn9z
import Derived.Test.YtfbcijnacbfjpaaEx2z
import Derived.Test.YtfbcijnacbfjpaaAwkz
namespace Go.Proofs.Ytfbcijnacbfjpaa
open Go.RowKit Go.Maps
set_option linter.unusedVariables false
set_option linter.unusedSimpArgs false
open Rl (Ex Small)
def everyB : Nat → Prop := fun _ => True
theorem turns_mem {kids : List Ex} {x : Ex} (h : x ∈ Au.turns kids) : ∃ k ∈ kids, x = Au.turn k := by
  rw [Au.turns_map] at h
  obtain ⟨k, hk, e⟩ := List.mem_map.1 h
  exact ⟨k, hk, e.symm⟩
theorem small_turn : ∀ e : Ex, Small e → Small (Au.turn e) := by
  intro e
  apply Ex.rec (motive_1 := fun e => Small e → Small (Au.turn e)) (motive_2 := fun es => (∀ k ∈ es, Small k) → ∀ k ∈ es, Small (Au.turn k))
  · intro op set kids ih h
    rw [turn_mk]
    refine .mk _ _ _ (by rw [Au.turns_len, kd_len]; exact h.kids.1) (fun k hk => ?_)
    obtain ⟨x, hx, rfl⟩ := turns_mem hk
    exact ih h.kids.2 x (kd_mem hx)
  · intro _ k hk; cases hk
  · intro e es he hs h k hk
    rcases List.mem_cons.1 hk with rfl | hk
    · exact he (h _ (by simp))
    · exact hs (fun k hk => h k (by simp [hk])) k hk
theorem dp_turn : ∀ e : Ex, Au.dp (Au.turn e) ≤ Au.dp e := by
  intro e
  apply Ex.rec (motive_1 := fun e => Au.dp (Au.turn e) ≤ Au.dp e) (motive_2 := fun es => ∀ k ∈ es, Au.dp (Au.turn k) ≤ Au.dp k)
  · intro op set kids ih
    rw [turn_mk]
    unfold Au.dp
    have : Au.dps (Au.turns (kd op kids)) ≤ Au.dps kids := Au.dps_le _ _ (fun k hk => by
      obtain ⟨x, hx, rfl⟩ := turns_mem hk
      exact Nat.le_trans (ih x (kd_mem hx)) (Au.dps_mem _ _ (kd_mem hx)))
    omega
  · intro k hk; cases hk
  · intro e es he hs k hk
    rcases List.mem_cons.1 hk with rfl | hk
    · exact he
    · exact hs k hk
theorem nns_of : ∀ {es : List Ex}, (∀ k ∈ es, Nn k) → Nns es
  | [], _ => by unfold Nns; trivial
  | e :: es, h => by
    unfold Nns
    exact ⟨h e (by simp), nns_of (fun k hk => h k (by simp [hk]))⟩
theorem nn_turn : ∀ e : Ex, Nn e → Nn (Au.turn e) := by
  intro e
  apply Ex.rec (motive_1 := fun e => Nn e → Nn (Au.turn e)) (motive_2 := fun es => (∀ k ∈ es, Nn k) → ∀ k ∈ es, Nn (Au.turn k))
  · intro op set kids ih h
    rw [turn_mk]
    unfold Nn at h ⊢
    refine ⟨h.1, nns_of (fun k hk => ?_)⟩
    obtain ⟨x, hx, rfl⟩ := turns_mem hk
    exact ih (fun k hk => Nns.mem h.2 hk) x (kd_mem hx)
  · intro _ k hk; cases hk
  · intro e es he hs h k hk
    rcases List.mem_cons.1 hk with rfl | hk
    · exact he (h _ (by simp))
    · exact hs (fun k hk => h k (by simp [hk])) k hk
theorem sides_small {s : Rl.St} (h : Rl.SmallS s) : ∀ e ∈ Rl.sides s.list, Small e := by
  have key : ∀ l : List Rl.Rule, (∀ r ∈ l, Small r.left ∧ Small r.right) → ∀ e ∈ Rl.sides l, Small e := by
    intro l
    induction l with
    | nil => intro _ e he; simp [Rl.sides] at he
    | cons r l ih =>
      intro h e he
      simp only [Rl.sides, List.mem_cons] at he
      have h1 := h r (by simp)
      rcases he with rfl | rfl | he
      · exact h1.1
      · exact h1.2
      · exact ih (fun r hr => h r (by simp [hr])) e he
  exact key _ h.2
theorem turn_form {W : World} {F : Nat → Prop} {e : Ex} {v : Value} (h : Te W F e v) : ∃ o s a m c, v = .agg #[.int .u8 o, .int .u32 s, .slice a m c] := by
  obtain ⟨o, s, kids⟩ := e
  obtain ⟨a, cap, hv, _⟩ := h.kids
  exact ⟨o, s, a, _, cap, hv⟩
theorem wrapu_small (x : Int) (h0 : 0 ≤ x) (h1 : x < 2 ^ 64) : IntKind.u64.wrap x = x := by
  simp only [IntKind.wrap, IntKind.bits, IntKind.signed]
  simp
  omega
theorem wrapu_nn (x : Int) : 0 ≤ IntKind.u64.wrap x := by
  simp only [IntKind.wrap, IntKind.bits, IntKind.signed]
  simp
  omega
theorem own_iwa {w : World} {base n c : Nat} {a : Option Addr} {D : List Int} (h : w.ownsRow base 3 1 (.slice a n c) n (ints D)) (hl : D.length = n) : Iw w a n D := by
  by_cases h0 : n = 0
  · subst h0
    have : D = [] := List.eq_nil_of_length_eq_zero hl
    subst this
    exact ⟨rfl, 0, 0, fun h => by omega, fun j x h => by simp at h⟩
  · obtain ⟨g, cap, hv, hg, _, hc⟩ := own_cells h (by omega)
    injection hv with e1
    refine ⟨hl, g, 0, fun _ => ⟨e1, hg⟩, fun j x hj => ?_⟩
    rw [Nat.zero_add]
    exact hc j _ (by unfold ints; rw [List.getElem?_map, hj]; rfl)
theorem lex_at {w W : World} {es : List Ex} {a : Option Addr} {c : Nat} (hL : Lex w (fun b => b < w.heap.size) es a c) (ho : Only (fun _ => False) w W) {i : Nat} {kd : Ex} (hi : es[i]? = some kd) :
    ∃ kb ko op set a' n' c', a = some ⟨kb, ko, none⟩ ∧ kb < W.heap.size ∧ W.cell? ⟨kb, ko + i * 3, none⟩ = some (.int .u8 op) ∧ W.cell? ⟨kb, ko + i * 3 + 1, none⟩ = some (.int .u32 set) ∧ W.cell? ⟨kb, ko + i * 3 + 2, none⟩ = some (.slice a' n' c') ∧ Te W (fun b => b < w.heap.size) kd (.agg #[.int .u8 op, .int .u32 set, .slice a' n' c']) :=
  kid_at0 (c := es.length) (show Lf w (fun b => b < w.heap.size) es a es.length from ⟨Nat.le_refl _, hL.1, hL.2⟩) ho hi
/-- a row of numbers grows: what else lay there still lies there. -/
theorem row_only {V w6 : World} {base j cap : Nat} {aV : Option Addr} {xs : List Value} {o : Obj} {w0 : World} (hown : V.ownsRow base 3 1 (.slice aV j cap) j xs) (hb : w0.heap.size ≤ base) (h0 : Only (fun _ => False) w0 V) (hg : (V.alloc o).grownBy w6 (Value.slice aV j cap).ownBlock) : Only (fun _ => False) w0 w6 := by
  have o1 : Only (fun q => (Value.slice aV j cap).ownBlock = some q) (V.alloc o) w6 := (Only.refl _ _).grown hg (fun k h => h)
  have o2 : Only (fun q => (Value.slice aV j cap).ownBlock = some q) w0 w6 := ((h0.alloc o).mono (fun _ h => h.elim)).trans o1
  exact ⟨o2.os, o2.tape, o2.output, o2.size, fun b hb' _ => o2.block b hb' (fun e => by have := (hown.lt b e).1; omega)⟩
theorem take_rev {D : List Int} {L j kx : Nat} {x : Int} (hl : D.length = L) (hk : kx + j + 1 = L) (hx : D[kx]? = some x) : D.reverse.take (j + 1) = D.reverse.take j ++ [x] := by
  have hj : j < D.reverse.length := by simp; omega
  rw [List.take_succ_eq_append_getElem hj]
  congr 2
  have : D.reverse[j]? = some x := by
    rw [List.getElem?_reverse (by omega), show D.length - 1 - j = kx by omega]
    exact hx
  exact (List.getElem?_eq_some_iff.1 this).2
set_option maxRecDepth 100000 in
set_option maxHeartbeats 16000000 in
theorem turns_all (c jo af : Nat) (aT : Option Addr) (nT cT : Nat) (T : List Nat) (aR : Option Addr) (nR cR : Nat) (rs : List Pr) (aC : Option Addr) (L cC : Nat) (C : List Int) (w : World) (hc : c ≤ 255) (hjo : jo ≤ 255) (haf : af ≤ 255) (hT : Bw w aT nT T) (hR : Rw w aR nR rs) (hC : Iw w aC L C) (hLm : L ≤ maxLen) :
    Calls Try.prog 6 #[planV c jo af aT nT cT aR nR cR, .slice aC L cC] w fun e w' => e = .returned (.bool true) ∧ Only (fun _ => False) w w' := by
  have HT : Hid (Bw w aT nT T) := hT
  have HR : Hid (Rw w aR nR rs) := hR
  have HC : Hid (Iw w aC L C) := hC
  unfold maxLen at hLm
  clear hT hR hC
  have B0 : Hid ((w.alloc (.cells #[.int .u8 (c : Int), .int .u8 (jo : Int), .int .u8 (af : Int), .slice aT nT cT, .slice aR nR cR] 25)).heap[w.heap.size]? = some (.cells #[.int .u8 (c : Int), .int .u8 (jo : Int), .int .u8 (af : Int), .slice aT nT cT, .slice aR nR cR] 25 (0, 0))) := heap_alloc_new _ _
  obtain ⟨n, hn⟩ : ∃ n, n = 1 + c % 6 := ⟨_, rfl⟩
  have HN : Hid (n = 1 + c % 6) := hn
  have hn1 : 1 ≤ n := by omega
  have hn6 : n ≤ 6 := by omega
  obtain ⟨i0, hi0, hz0, hz1, hz2⟩ := info_parts info3'
  clear hn
  unfold planV
  go_enter Try.func6, Try.ntmps6
  go_wp2_with (first
    | (go_at_call 9; refine (awake_any _).mono ?_; rintro e w1 ⟨rfl, ho1⟩; have HO1 : Hid (Only (fun _ => False) w w1) := ((Only.refl _ _).alloc _).trans ho1; have hb := (ho1.block _ (Array.getElem?_eq_some_iff.1 B0.out).1 (fun h => h)).trans B0.out; have y0 : w1.cell? ⟨w.heap.size, 0, none⟩ = some (.int .u8 (c : Int)) := cell_blk hb; have y1 : w1.cell? ⟨w.heap.size, 1, none⟩ = some (.int .u8 (jo : Int)) := cell_blk hb; have y2 : w1.cell? ⟨w.heap.size, 2, none⟩ = some (.int .u8 (af : Int)) := cell_blk hb; have y3 : w1.cell? ⟨w.heap.size, 3, none⟩ = some (.slice aT nT cT) := cell_blk hb; have y4 : w1.cell? ⟨w.heap.size, 4, none⟩ = some (.slice aR nR cR) := cell_blk hb; have hl1 : w.heap.size < w1.heap.size := (Array.getElem?_eq_some_iff.1 hb).1; clear ho1 hb))
  have hq := exprs_small c jo af aT nT cT T aR nR cR rs w1 hc hjo haf (HT.out.keep HO1.out) (HR.out.keep HO1.out)
  unfold planV at hq
  rw [← HN.out] at hq
  refine hq.mono ?_
  clear hq
  rintro e w2 ⟨s, aE, cE, rfl, hLx, hFi, hcl, hll, ho2, hsm⟩
  have HO2 : Hid (Only (fun _ => False) w w2) := HO1.out.trans ho2
  obtain ⟨es, hes⟩ : ∃ es, es = Rl.sides s.list := ⟨_, rfl⟩
  have hdp := hFi.dp
  have hnn := hFi.nn
  have hel : es.length ≤ 20 := by rw [hes, sides_len]; omega
  have hsml := sides_small hsm
  rw [← hes] at hLx hdp hnn hsml ⊢
  have HLX : Hid (Lex w2 (fun b => b < w2.heap.size) es aE cE) := hLx
  have HDP : Hid (∀ e ∈ es, Au.dp e ≤ 100) := fun e he => Nat.le_trans (Au.dps_mem _ _ he) hdp
  have HNN : Hid (∀ e ∈ es, Nn e) := fun e he => Nns.mem hnn he
  have HSM : Hid (∀ e ∈ es, Small e) := hsml
  obtain ⟨E, hE⟩ : ∃ E, E = es.length := ⟨_, rfl⟩
  have HE : Hid (E = es.length) := hE
  rw [← hE]
  have hE20 : E ≤ 20 := by omega
  clear hE hes hLx hFi hcl hll ho2 hdp hnn hsm hsml hel y0 y1 y2 y3 y4
  by_cases hL : 12 < L
  · have h40 : (12 : Int) < (L : Int) := by omega
    go_wp2_with fail
    go_ret
    exact ⟨rfl, HO2.out⟩
  have h40 : ¬ (12 : Int) < (L : Int) := by omega
  go_wp2_with fail
  go_loopg [7, 26] L (fun gh v7 v26 wr => ∃ (j : Nat) (aV : Option Addr) (cap : Nat) (D : List Int) (V : World), V = wr ∧ gh = L - j ∧ j ≤ L ∧ v7 = .slice aV j cap ∧ v26 = .int .i64 (j : Int) ∧ D.length = j ∧ V.ownsRow w2.heap.size 3 1 (.slice aV j cap) j (ints D) ∧ Only (fun _ => False) w2 V)
  case atStart => exact ⟨0, none, 0, [], _, rfl, rfl, Nat.zero_le _, rfl, rfl, rfl, World.ownsRow_nil _ _ _ _, Only.refl _ _⟩
  case round =>
    obtain ⟨j, aV, cV, D, V, hV, rfl, hj, rfl, rfl, hDl, hown, hoV⟩ := hrel
    subst hV
    have HOW : Hid (V.ownsRow w2.heap.size 3 1 (.slice aV j cV) j (ints D)) := hown
    have HDL : Hid (D.length = j) := hDl
    have HOV : Hid (Only (fun _ => False) w2 V) := hoV
    have hvs : w2.heap.size ≤ V.heap.size := hoV.size
    clear hown hDl hoV
    by_cases hlt : j < L
    · have t1 : (j : Int) < (L : Int) := by omega
      have HCV : Hid (Iw V aC L C) := (HC.out.keep (HO2.out.trans HOV.out))
      obtain ⟨b, off, x, rfl, hbl, hx, hcx⟩ := HCV.out.at hlt
      have cx := hcx V (Only.refl _ _)
      have p0 : (0 : Int) < (n : Int) := by omega
      have p1 : ¬ (n : Int) = 0 := by omega
      have p2 : ((n : Int) == 0) = false := by simpa using p1
      have p3 : IntKind.u64.wrap (n : Int) = (n : Int) := wrapu_small _ (by omega) (by omega)
      obtain ⟨ux, p4, p5⟩ : ∃ ux : Int, IntKind.u64.wrap x = ux ∧ 0 ≤ ux := ⟨_, rfl, wrapu_nn x⟩
      obtain ⟨r, p6, p7, p8⟩ : ∃ r : Int, ux.tmod (n : Int) = r ∧ 0 ≤ r ∧ r < (n : Int) := ⟨_, rfl, Int.tmod_nonneg _ p5, Int.tmod_lt_of_pos _ p0⟩
      have p9 : IntKind.u64.wrap r = r := wrapu_small _ (by omega) (by omega)
      have p10 : IntKind.i64.wrap r = r := wrap_small _ (by omega) (by omega)
      clear p5 hx hcx
      go_wp2_with (at_builtin; refine wpList_append_own_at _ rfl _ _ 43 rfl w2.heap.size 3 i0 (.int .i64 0) 1 8 Try.underlying43 hi0 hz0 hz1 hz2 rfl (by decide) _ _ _ rfl (HOW.out.alloc (.cells #[.int .i64 r] 3)) ⟨V.heap.size, 0, none⟩ 1 1 [.int .i64 r] rfl rfl (news1 _ _ _) (fun u hu => by simp at hu; subst hu; rfl) (by unfold maxLen; omega) (by omega) (by simp; omega) ?_; intro v6 w6 hown6 hg6 _ _; obtain ⟨g6, cap6, rfl, hgb6, hgl6, hgc6, _⟩ := row_form hown6 (by omega))
      have hints : ints D ++ [.int .i64 r] = ints (D ++ [r]) := by unfold ints; simp
      rw [hints] at hown6
      go_roundg (L - (j + 1))
      case measure => omega
      case rel => exact ⟨j + 1, some ⟨g6, 0, none⟩, cap6, D ++ [r], w6, rfl, rfl, by omega, rfl, by go_num, by rw [List.length_append, HDL.out]; rfl, hown6, row_only HOW.out (Nat.le_refl _) HOV.out hg6⟩
    · have t2 : decide ((j : Int) < (L : Int)) = false := decide_eq_false (by omega)
      obtain rfl : L = j := by omega
      have HID : Hid (Iw V aV L D) := own_iwa HOW.out HDL.out
      clear t2 hlt hj
      go_wp2_with fail
      go_loopg [8, 44] L (fun gh v8 v44 wr => ∃ (j : Nat) (aB : Option Addr) (cap : Nat) (X : World), X = wr ∧ gh = L - j ∧ j ≤ L ∧ v8 = .slice aB j cap ∧ v44 = .int .i64 (j : Int) ∧ X.ownsRow V.heap.size 3 1 (.slice aB j cap) j (ints (D.reverse.take j)) ∧ Only (fun _ => False) V X)
      case atStart => exact ⟨0, none, 0, _, rfl, rfl, Nat.zero_le _, rfl, rfl, World.ownsRow_nil _ _ _ _, Only.refl _ _⟩
      case round =>
        obtain ⟨j, aB, cB, X, hX, rfl, hj, rfl, rfl, hown, hoX⟩ := hrel
        subst hX
        have HOB : Hid (X.ownsRow V.heap.size 3 1 (.slice aB j cB) j (ints (D.reverse.take j))) := hown
        have HOX : Hid (Only (fun _ => False) V X) := hoX
        have hxs : V.heap.size ≤ X.heap.size := hoX.size
        clear hown hoX
        by_cases hlt : j < L
        · have t1 : (j : Int) < (L : Int) := by omega
          obtain ⟨kx, hkx⟩ : ∃ kx, kx + j + 1 = L := ⟨L - 1 - j, by omega⟩
          have ek : (L : Int) - 1 - (j : Int) = (kx : Int) := by omega
          have hkl : kx < L := by omega
          have kxl : (kx : Int) < (L : Int) := by omega
          have HIX : Hid (Iw X aV L D) := HID.out.keep HOX.out
          obtain ⟨b, off, x, rfl, hbl, hx, hcx⟩ := HIX.out.at hkl
          have cx := hcx X (Only.refl _ _)
          have HTK : Hid (D.reverse.take (j + 1) = D.reverse.take j ++ [x]) := take_rev HDL.out hkx hx
          clear hkx hx hcx
          go_wp2_with (at_builtin; refine wpList_append_own_at _ rfl _ _ 43 rfl V.heap.size 3 i0 (.int .i64 0) 1 8 Try.underlying43 hi0 hz0 hz1 hz2 rfl (by decide) _ _ _ rfl (HOB.out.alloc (.cells #[.int .i64 x] 3)) ⟨X.heap.size, 0, none⟩ 1 1 [.int .i64 x] rfl rfl (news1 _ _ _) (fun u hu => by simp at hu; subst hu; rfl) (by unfold maxLen; omega) (by omega) (by simp; omega) ?_; intro v6 w6 hown6 hg6 _ _; obtain ⟨g6, cap6, rfl, hgb6, hgl6, hgc6, _⟩ := row_form hown6 (by omega))
          have hints : ints (D.reverse.take j) ++ [.int .i64 x] = ints (D.reverse.take (j + 1)) := by rw [HTK.out]; unfold ints; simp
          rw [hints] at hown6
          go_roundg (L - (j + 1))
          case measure => omega
          case rel => exact ⟨j + 1, some ⟨g6, 0, none⟩, cap6, w6, rfl, rfl, by omega, rfl, by go_num, hown6, row_only HOB.out (Nat.le_refl _) HOX.out hg6⟩
        · have t2 : decide ((j : Int) < (L : Int)) = false := decide_eq_false (by omega)
          obtain rfl : L = j := by omega
          have HBW : Hid (Iw X aB L D.reverse) := by
            have h1 := HOB.out
            rw [List.take_of_length_le (by rw [List.length_reverse, HDL.out]; exact Nat.le_refl _)] at h1
            exact own_iwa h1 (by rw [List.length_reverse]; exact HDL.out)
          have HXD : Hid (Iw X aV L D) := HID.out.keep HOX.out
          have HX2 : Hid (Only (fun _ => False) w2 X) := HOV.out.trans HOX.out
          clear t2 hlt hj hi0 hz0 hz1 hz2
          go_wp2_with fail
          go_loopg [61] E (fun gh v wr => ∃ (i : Nat) (W : World), W = wr ∧ gh = E - i ∧ i ≤ E ∧ v = .int .i64 (i : Int) ∧ Only (fun _ => False) X W)
          case atStart => exact ⟨0, _, rfl, rfl, Nat.zero_le _, rfl, Only.refl _ _⟩
          case round =>
            obtain ⟨i, W, hW, rfl, hi, rfl, hoW⟩ := hrel
            subst hW
            have HOWX : Hid (Only (fun _ => False) X W) := hoW
            clear hoW
            by_cases hli : i < E
            · have u1 : (i : Int) < (E : Int) := by omega
              obtain ⟨e, he⟩ : ∃ e, es[i]? = some e := ⟨_, List.getElem?_eq_getElem (by rw [← HE.out]; exact hli)⟩
              have hmem := List.mem_of_getElem? he
              have HDe : Hid (Au.dp e ≤ 100) := HDP.out e hmem
              have HNe : Hid (Nn e) := HNN.out e hmem
              have HSe : Hid (Small e) := HSM.out e hmem
              have HW2 : Hid (Only (fun _ => False) w2 W) := HX2.out.trans HOWX.out
              obtain ⟨eb, eo, eop, est, ea, en, ec, rfl, hel, d0, d1, d2, hTe⟩ := lex_at HLX.out HW2.out he
              have HWA : Hid (Only (fun _ => False) W (W.alloc (.cells #[.int .u8 eop, .int .u32 est, .slice ea en ec] 49))) := (Only.refl _ _).alloc _
              have HTA : Hid (Te (W.alloc (.cells #[.int .u8 eop, .int .u32 est, .slice ea en ec] 49)) (fun b => b < (W.alloc (.cells #[.int .u8 eop, .int .u32 est, .slice ea en ec] 49)).heap.size) e (.agg #[.int .u8 eop, .int .u32 est, .slice ea en ec])) := Te.keep (Kp.only HWA.out (fun _ _ h => h)) (fun b hb => by have := HW2.out.size; simp; omega) _ _ hTe
              have HB12 : Hid ((W.alloc (.cells #[.int .u8 eop, .int .u32 est, .slice ea en ec] 49)).heap[W.heap.size]? = some (.cells #[.int .u8 eop, .int .u32 est, .slice ea en ec] 49 (0, 0))) := heap_alloc_new _ _
              clear he hmem hTe
              go_wp2_with (go_at_call 17; refine Calls.mono (turn_any e eop est ea en ec _ HTA.out HSe.out HDe.out) ?_; rintro e' w4 ⟨v4, rfl, hT4, ho4⟩; obtain ⟨top, tst, ta, tn, tc, rfl⟩ := turn_form hT4; have HT4 : Hid (Te w4 everyB (Au.turn e) (.agg #[.int .u8 top, .int .u32 tst, .slice ta tn tc])) := Te.keep (fun _ _ _ _ h => h) (fun _ _ => trivial) _ _ hT4; have HO4 : Hid (Only (fun _ => False) (W.alloc (.cells #[.int .u8 eop, .int .u32 est, .slice ea en ec] 49)) w4) := ho4; clear hT4 ho4)
              obtain ⟨Wb, hWb⟩ : ∃ Wb, Wb = w4.alloc (.cells #[.int .u8 top, .int .u32 tst, .slice ta tn tc] 49) := ⟨_, rfl⟩
              have HO4b : Hid (Only (fun _ => False) w4 Wb) := by show Only _ _ _; rw [hWb]; exact (Only.refl _ _).alloc _
              have HOab : Hid (Only (fun _ => False) (W.alloc (.cells #[.int .u8 eop, .int .u32 est, .slice ea en ec] 49)) Wb) := HO4.out.trans HO4b.out
              have HWb : Hid (Only (fun _ => False) X Wb) := (HOWX.out.trans HWA.out).trans HOab.out
              have h12 : Wb.heap[W.heap.size]? = some (.cells #[.int .u8 eop, .int .u32 est, .slice ea en ec] 49 (0, 0)) := (HOab.out.block _ (by simp) (fun h => h)).trans HB12.out
              have h13 : Wb.heap[w4.heap.size]? = some (.cells #[.int .u8 top, .int .u32 tst, .slice ta tn tc] 49 (0, 0)) := by rw [hWb]; exact heap_alloc_new _ _
              have HCE : Hid (∀ Wx, Only (fun _ => False) Wb Wx → (Wx.cell? ⟨W.heap.size, 0, none⟩ = some (.int .u8 eop) ∧ Wx.cell? ⟨W.heap.size, 1, none⟩ = some (.int .u32 est) ∧ Wx.cell? ⟨W.heap.size, 2, none⟩ = some (.slice ea en ec) ∧ Wx.cell? ⟨w4.heap.size, 0, none⟩ = some (.int .u8 top) ∧ Wx.cell? ⟨w4.heap.size, 1, none⟩ = some (.int .u32 tst) ∧ Wx.cell? ⟨w4.heap.size, 2, none⟩ = some (.slice ta tn tc))) := fun Wx hx => by
                have k1 := (hx.block _ (Array.getElem?_eq_some_iff.1 h12).1 (fun h => h)).trans h12
                have k2 := (hx.block _ (Array.getElem?_eq_some_iff.1 h13).1 (fun h => h)).trans h13
                exact ⟨cell_blk k1, cell_blk k1, cell_blk k1, cell_blk k2, cell_blk k2, cell_blk k2⟩
              have HEx : Hid (∀ Wx, Only (fun _ => False) Wb Wx → Te Wx (fun b => b < Wx.heap.size) e (.agg #[.int .u8 eop, .int .u32 est, .slice ea en ec])) := fun Wx hx => Te.keep (Kp.only (HOab.out.trans hx) (fun _ _ h => h)) (fun b hb => Nat.lt_of_lt_of_le hb (HOab.out.trans hx).size) _ _ HTA.out
              have HTx : Hid (∀ Wx, Only (fun _ => False) Wb Wx → Te Wx (fun b => b < Wx.heap.size) (Au.turn e) (.agg #[.int .u8 top, .int .u32 tst, .slice ta tn tc])) := fun Wx hx => Te.here (fun b _ o v hv => by
                have h1 := Kp.only (F := everyB) (HO4b.out.trans hx) (fun _ _ h => h) b trivial o v hv
                exact ⟨World.block_lt_of_cell? Wx _ h1, h1⟩) _ _ HT4.out
              have HC19 : Hid (∀ Wx, Only (fun _ => False) Wb Wx → Calls Try.prog 19 #[.agg #[.int .u8 eop, .int .u32 est, .slice ea en ec]] Wx fun e' w' => ∃ o s a m c, e' = .returned (.agg #[.int .u8 o, .int .u32 s, .slice a m c]) ∧ Te w' (fun b => Wx.heap.size ≤ b ∧ b < w'.heap.size) (Au.turn e) (.agg #[.int .u8 o, .int .u32 s, .slice a m c]) ∧ Only (fun _ => False) Wx w') := fun Wx hx => rturn_any e _ _ Wx (HEx.out Wx hx) (fun b h => h) HSe.out
              have HC18 : Hid (∀ Wx, Only (fun _ => False) Wb Wx → ∀ v, Te Wx everyB (Au.turn e) v → Calls Try.prog 18 #[.agg #[.int .u8 top, .int .u32 tst, .slice ta tn tc], v] Wx fun en w' => en = .returned (.bool true) ∧ Only (fun _ => False) Wx w') := fun Wx hx v hv => sameT_any _ (small_turn e HSe.out) _ _ _ _ Wx (HTx.out Wx hx) hv
              have HC17 : Hid (∀ Wx, Only (fun _ => False) Wb Wx → Calls Try.prog 17 #[.agg #[.int .u8 top, .int .u32 tst, .slice ta tn tc]] Wx fun e' w' => ∃ o s a m c, e' = .returned (.agg #[.int .u8 o, .int .u32 s, .slice a m c]) ∧ Te w' everyB e (.agg #[.int .u8 o, .int .u32 s, .slice a m c]) ∧ Only (fun _ => False) Wx w') := fun Wx hx => by
                refine Calls.mono (turn_any (Au.turn e) top tst ta tn tc Wx (HTx.out Wx hx) (small_turn e HSe.out) (Nat.le_trans (dp_turn e) HDe.out)) ?_
                rintro e' w' ⟨v, rfl, hv, ho⟩
                rw [Au.turn_turn] at hv
                obtain ⟨o, s, a, m, c, rfl⟩ := turn_form hv
                exact ⟨o, s, a, m, c, rfl, Te.keep (fun _ _ _ _ h => h) (fun _ _ => trivial) _ _ hv, ho⟩
              have HC18b : Hid (∀ Wx, Only (fun _ => False) Wb Wx → ∀ v, Te Wx everyB e v → Calls Try.prog 18 #[v, .agg #[.int .u8 eop, .int .u32 est, .slice ea en ec]] Wx fun en w' => en = .returned (.bool true) ∧ Only (fun _ => False) Wx w') := fun Wx hx v hv => sameT_any _ HSe.out _ _ _ _ Wx hv (HEx.out Wx hx)
              obtain ⟨bb, hbb⟩ : ∃ bb : Bool, (bb = true ↔ Au.mt D e 0 D.length) := by
                by_cases h : Au.mt D e 0 D.length
                · exact ⟨true, by simp [h]⟩
                · exact ⟨false, by simp [h]⟩
              have HC20 : Hid (∀ Wx, Only (fun _ => False) Wb Wx → Calls Try.prog 20 #[.agg #[.int .u8 eop, .int .u32 est, .slice ea en ec], .slice aV L cV] Wx fun e' w' => e' = .returned (.bool bb) ∧ Only (fun _ => False) Wx w') := fun Wx hx => by
                refine Calls.mono (says_any D e _ eop est ea en ec Wx aV L cV (HEx.out Wx hx) HNe.out (HXD.out.keep (HWb.out.trans hx)) (by omega)) ?_
                rintro e' w' ⟨b, rfl, hb, ho⟩
                have : b = bb := by rw [Bool.eq_iff_iff, hb, hbb]
                rw [this]
                exact ⟨rfl, ho⟩
              have HC20b : Hid (∀ Wx, Only (fun _ => False) Wb Wx → Calls Try.prog 20 #[.agg #[.int .u8 top, .int .u32 tst, .slice ta tn tc], .slice aB L cB] Wx fun e' w' => e' = .returned (.bool bb) ∧ Only (fun _ => False) Wx w') := fun Wx hx => by
                refine Calls.mono (says_any D.reverse (Au.turn e) _ top tst ta tn tc Wx aB L cB (HTx.out Wx hx) (nn_turn e HNe.out) (HBW.out.keep (HWb.out.trans hx)) (by omega)) ?_
                rintro e' w' ⟨b, rfl, hb, ho⟩
                have : b = bb := by rw [Bool.eq_iff_iff, hb, hbb]; exact (Au.mt_turn D e).symm
                rw [this]
                exact ⟨rfl, ho⟩
              have hS0 := HCE.out Wb.drew (Only.refl _ _).drew
              clear h12 h13 hbb d0 d1 d2
              rw [← hWb]
              clear hWb
              refine wp_region_held_drew (S := fun w' => w'.cell? ⟨W.heap.size, 0, none⟩ = some (.int .u8 eop) ∧ w'.cell? ⟨W.heap.size, 1, none⟩ = some (.int .u32 est) ∧ w'.cell? ⟨W.heap.size, 2, none⟩ = some (.slice ea en ec) ∧ w'.cell? ⟨w4.heap.size, 0, none⟩ = some (.int .u8 top) ∧ w'.cell? ⟨w4.heap.size, 1, none⟩ = some (.int .u32 tst) ∧ w'.cell? ⟨w4.heap.size, 2, none⟩ = some (.slice ta tn tc)) (by kernel_rfl) hS0 (fun hHeld => ?_)
              clear hS0
              refine wpAnyH_take (i := 0) (oi := { dst := some 67, op := _, type := _, pos := _, after := _, guard := _ }) (v := Value.agg #[.int .u8 top, .int .u32 tst, .slice ta tn tc]) rfl (by kernel_rfl) (by kernel_rfl) (by kernel_rfl) (fun _ _ _ h => h) (Or.inl ⟨by rfl, fun w hSw => by obtain ⟨q0, q1, q2, q3, q4, q5⟩ := hSw; first | (go_simp; done) | go_simp⟩) (by assumption) ?_
              (try simp only [Act.put, List.setIfInBounds_toArray, List.set_cons_zero, List.set_cons_succ])
              refine wpAnyH_take (i := 1) (oi := { dst := some 68, op := _, type := _, pos := _, after := _, guard := _ }) (v := Value.agg #[.int .u8 eop, .int .u32 est, .slice ea en ec]) rfl (by kernel_rfl) (by kernel_rfl) (by kernel_rfl) (fun _ _ _ h => h) (Or.inl ⟨by rfl, fun w hSw => by obtain ⟨q0, q1, q2, q3, q4, q5⟩ := hSw; first | (go_simp; done) | go_simp⟩) (by assumption) ?_
              (try simp only [Act.put, List.setIfInBounds_toArray, List.set_cons_zero, List.set_cons_succ])
              refine wpAnyH_ready (rs := [2]) (by kernel_rfl) (by simp) ?_
              refine AllReadyH.cons rfl (fun K hK => ?_) AllReadyH.nil
              rw [if_pos (by rfl)]
              go_simp
              refine Calls.mono (HC19.out _ (Only.refl _ _).drew) ?_
              rintro e' w5 ⟨o5, s5, a5, m5, c5, rfl, hT5, ho5⟩
              have HT5 : Hid (Te w5 everyB (Au.turn e) (.agg #[.int .u8 o5, .int .u32 s5, .slice a5 m5 c5])) := Te.keep (fun _ _ _ _ h => h) (fun _ _ => trivial) _ _ hT5
              have HO5 : Hid (Only (fun _ => False) Wb w5) := (Only.refl _ _).drew.trans ho5
              clear hT5 ho5
              refine hK.out _ _ (HCE.out _ HO5.out) (fun hHd2 => ?_)
              (try simp only [Act.put, List.setIfInBounds_toArray, List.set_cons_zero, List.set_cons_succ])
              refine wpAnyH_ready (rs := [3]) (by kernel_rfl) (by simp) ?_
              refine AllReadyH.cons rfl (fun K hK => ?_) AllReadyH.nil
              rw [if_pos (by rfl)]
              go_simp
              refine Calls.mono (HC18.out _ HO5.out _ HT5.out) ?_
              rintro e' w6 ⟨rfl, ho6⟩
              have HO6 : Hid (Only (fun _ => False) Wb w6) := HO5.out.trans ho6
              clear ho6
              refine hK.out _ _ (HCE.out _ HO6.out) (fun hHd3 => ?_)
              (try simp only [Act.put, List.setIfInBounds_toArray, List.set_cons_zero, List.set_cons_succ])
              refine wpAnyH_take (i := 4) (oi := { dst := some 71, op := _, type := _, pos := _, after := _, guard := _ }) (v := Value.bool false) rfl (by kernel_rfl) (by kernel_rfl) (by kernel_rfl) (fun _ _ _ h => h) (Or.inl ⟨by rfl, fun w hSw => by first | (go_simp; done) | go_simp⟩) (by assumption) ?_
              (try simp only [Act.put, List.setIfInBounds_toArray, List.set_cons_zero, List.set_cons_succ])
              refine wpAnyH_take (i := 5) (oi := { dst := some 72, op := _, type := _, pos := _, after := _, guard := _ }) (v := Value.bool false) rfl (by kernel_rfl) (by kernel_rfl) (by kernel_rfl) (fun _ _ _ h => h) (Or.inl ⟨by rfl, fun w hSw => by first | (go_simp; done) | go_simp⟩) (by assumption) ?_
              (try simp only [Act.put, List.setIfInBounds_toArray, List.set_cons_zero, List.set_cons_succ])
              refine wpAnyH_take (i := 6) (oi := { dst := some 73, op := _, type := _, pos := _, after := _, guard := _ }) (v := Value.agg #[.int .u8 top, .int .u32 tst, .slice ta tn tc]) rfl (by kernel_rfl) (by kernel_rfl) (by kernel_rfl) (fun _ _ _ h => h) (Or.inl ⟨by rfl, fun w hSw => by obtain ⟨q0, q1, q2, q3, q4, q5⟩ := hSw; first | (go_simp; done) | go_simp⟩) (by assumption) ?_
              (try simp only [Act.put, List.setIfInBounds_toArray, List.set_cons_zero, List.set_cons_succ])
              refine wpAnyH_take (i := 8) (oi := { dst := some 75, op := _, type := _, pos := _, after := _, guard := _ }) (v := Value.agg #[.int .u8 eop, .int .u32 est, .slice ea en ec]) rfl (by kernel_rfl) (by kernel_rfl) (by kernel_rfl) (fun _ _ _ h => h) (Or.inl ⟨by rfl, fun w hSw => by obtain ⟨q0, q1, q2, q3, q4, q5⟩ := hSw; first | (go_simp; done) | go_simp⟩) (by assumption) ?_
              (try simp only [Act.put, List.setIfInBounds_toArray, List.set_cons_zero, List.set_cons_succ])
              refine wpAnyH_ready (rs := [7]) (by kernel_rfl) (by simp) ?_
              refine AllReadyH.cons rfl (fun K hK => ?_) AllReadyH.nil
              rw [if_pos (by rfl)]
              go_simp
              refine Calls.mono (HC17.out _ HO6.out) ?_
              rintro e' w7 ⟨o7, s7, a7, m7, c7, rfl, hT7, ho7⟩
              have HT7 : Hid (Te w7 everyB e (.agg #[.int .u8 o7, .int .u32 s7, .slice a7 m7 c7])) := hT7
              have HO7 : Hid (Only (fun _ => False) Wb w7) := HO6.out.trans ho7
              clear hT7 ho7
              refine hK.out _ _ (HCE.out _ HO7.out) (fun hHd7 => ?_)
              (try simp only [Act.put, List.setIfInBounds_toArray, List.set_cons_zero, List.set_cons_succ])
              refine wpAnyH_ready (rs := [9]) (by kernel_rfl) (by simp) ?_
              refine AllReadyH.cons rfl (fun K hK => ?_) AllReadyH.nil
              rw [if_pos (by rfl)]
              go_simp
              refine Calls.mono (HC18b.out _ HO7.out _ HT7.out) ?_
              rintro e' w8 ⟨rfl, ho8⟩
              have HO8 : Hid (Only (fun _ => False) Wb w8) := HO7.out.trans ho8
              clear ho8
              refine hK.out _ _ (HCE.out _ HO8.out) (fun hHd9 => ?_)
              (try simp only [Act.put, List.setIfInBounds_toArray, List.set_cons_zero, List.set_cons_succ])
              refine wpAnyH_take (i := 10) (oi := { dst := some 77, op := _, type := _, pos := _, after := _, guard := _ }) (v := Value.bool false) rfl (by kernel_rfl) (by kernel_rfl) (by kernel_rfl) (fun _ _ _ h => h) (Or.inl ⟨by rfl, fun w hSw => by first | (go_simp; done) | go_simp⟩) (by assumption) ?_
              (try simp only [Act.put, List.setIfInBounds_toArray, List.set_cons_zero, List.set_cons_succ])
              refine wpAnyH_take (i := 11) (oi := { dst := some 78, op := _, type := _, pos := _, after := _, guard := _ }) (v := Value.bool false) rfl (by kernel_rfl) (by kernel_rfl) (by kernel_rfl) (fun _ _ _ h => h) (Or.inl ⟨by rfl, fun w hSw => by first | (go_simp; done) | go_simp⟩) (by assumption) ?_
              (try simp only [Act.put, List.setIfInBounds_toArray, List.set_cons_zero, List.set_cons_succ])
              refine wpAnyH_take (i := 12) (oi := { dst := some 79, op := _, type := _, pos := _, after := _, guard := _ }) (v := Value.bool false) rfl (by kernel_rfl) (by kernel_rfl) (by kernel_rfl) (fun _ _ _ h => h) (Or.inl ⟨by rfl, fun w hSw => by first | (go_simp; done) | go_simp⟩) (by assumption) ?_
              (try simp only [Act.put, List.setIfInBounds_toArray, List.set_cons_zero, List.set_cons_succ])
              refine wpAnyH_take (i := 13) (oi := { dst := some 80, op := _, type := _, pos := _, after := _, guard := _ }) (v := Value.agg #[.int .u8 eop, .int .u32 est, .slice ea en ec]) rfl (by kernel_rfl) (by kernel_rfl) (by kernel_rfl) (fun _ _ _ h => h) (Or.inl ⟨by rfl, fun w hSw => by obtain ⟨q0, q1, q2, q3, q4, q5⟩ := hSw; first | (go_simp; done) | go_simp⟩) (by assumption) ?_
              (try simp only [Act.put, List.setIfInBounds_toArray, List.set_cons_zero, List.set_cons_succ])
              refine wpAnyH_take (i := 14) (oi := { dst := some 81, op := _, type := _, pos := _, after := _, guard := _ }) (v := Value.slice aV L cV) rfl (by kernel_rfl) (by kernel_rfl) (by kernel_rfl) (fun _ _ _ h => h) (Or.inl ⟨by rfl, fun w hSw => by first | (go_simp; done) | go_simp⟩) (by assumption) ?_
              (try simp only [Act.put, List.setIfInBounds_toArray, List.set_cons_zero, List.set_cons_succ])
              refine wpAnyH_take (i := 16) (oi := { dst := some 83, op := _, type := _, pos := _, after := _, guard := _ }) (v := Value.agg #[.int .u8 top, .int .u32 tst, .slice ta tn tc]) rfl (by kernel_rfl) (by kernel_rfl) (by kernel_rfl) (fun _ _ _ h => h) (Or.inl ⟨by rfl, fun w hSw => by obtain ⟨q0, q1, q2, q3, q4, q5⟩ := hSw; first | (go_simp; done) | go_simp⟩) (by assumption) ?_
              (try simp only [Act.put, List.setIfInBounds_toArray, List.set_cons_zero, List.set_cons_succ])
              refine wpAnyH_take (i := 17) (oi := { dst := some 84, op := _, type := _, pos := _, after := _, guard := _ }) (v := Value.slice aB L cB) rfl (by kernel_rfl) (by kernel_rfl) (by kernel_rfl) (fun _ _ _ h => h) (Or.inl ⟨by rfl, fun w hSw => by first | (go_simp; done) | go_simp⟩) (by assumption) ?_
              (try simp only [Act.put, List.setIfInBounds_toArray, List.set_cons_zero, List.set_cons_succ])
              refine wpAnyH_ready (rs := [15]) (by kernel_rfl) (by simp) ?_
              refine AllReadyH.cons rfl (fun K hK => ?_) AllReadyH.nil
              rw [if_pos (by rfl)]
              go_simp
              refine Calls.mono (HC20.out _ HO8.out) ?_
              rintro e' w9 ⟨rfl, ho9⟩
              have HO9 : Hid (Only (fun _ => False) Wb w9) := HO8.out.trans ho9
              clear ho9
              refine hK.out _ _ (HCE.out _ HO9.out) (fun hHd15 => ?_)
              (try simp only [Act.put, List.setIfInBounds_toArray, List.set_cons_zero, List.set_cons_succ])
              refine wpAnyH_ready (rs := [18]) (by kernel_rfl) (by simp) ?_
              refine AllReadyH.cons rfl (fun K hK => ?_) AllReadyH.nil
              rw [if_pos (by rfl)]
              go_simp
              refine Calls.mono (HC20b.out _ HO9.out) ?_
              rintro e' w10 ⟨rfl, ho10⟩
              have HO10 : Hid (Only (fun _ => False) Wb w10) := HO9.out.trans ho10
              clear ho10
              refine hK.out _ _ (HCE.out _ HO10.out) (fun hHd18 => ?_)
              (try simp only [Act.put, List.setIfInBounds_toArray, List.set_cons_zero, List.set_cons_succ])
              refine wpAnyH_take (i := 19) (oi := { dst := some 86, op := _, type := _, pos := _, after := _, guard := _ }) (v := Value.bool false) rfl (by kernel_rfl) (by kernel_rfl) (by kernel_rfl) (fun _ _ _ h => h) (Or.inl ⟨by rfl, fun w hSw => by first | (go_simp; done) | go_simp⟩) (by assumption) ?_
              (try simp only [Act.put, List.setIfInBounds_toArray, List.set_cons_zero, List.set_cons_succ])
              refine wpAnyH_take (i := 20) (oi := { dst := some 87, op := _, type := _, pos := _, after := _, guard := _ }) (v := Value.bool false) rfl (by kernel_rfl) (by kernel_rfl) (by kernel_rfl) (fun _ _ _ h => h) (Or.inl ⟨by rfl, fun w hSw => by first | (go_simp; done) | go_simp⟩) (by assumption) ?_
              (try simp only [Act.put, List.setIfInBounds_toArray, List.set_cons_zero, List.set_cons_succ])
              refine wpAnyH_done (by kernel_rfl) ?_ _
              clear hHeld hHd2 hHd3 hHd7 hHd9 hHd15 hHd18
              go_wp2_with fail
              go_roundg (E - (i + 1))
              case measure => omega
              case rel => exact ⟨i + 1, _, rfl, rfl, by omega, by go_num, HWb.out.trans HO10.out⟩
            · have u2 : decide ((i : Int) < (E : Int)) = false := decide_eq_false (by omega)
              go_wp2_with fail
              go_ret
              exact ⟨rfl, (HO2.out.trans HX2.out).trans HOWX.out⟩
end Go.Proofs.Ytfbcijnacbfjpaa
