/-
  stanzalaw07.PatsWords returns true at every slice of strings and every uint8, which read afterwards as they read before; unicode/utf8's two tables are as the program's text lays them (the card ties them).
-/
import Derived.Test.YtjgbfpemkjpikaaDoorCards
import Derived.Test.YtjgbfpemkjpikaaDoorTie
import Derived.Test.YtjgbfpemkjpikaaDoorView
import Derived.Test.YtjgbfpemkjpikaaDoorAw
import Derived.Test.YtjgbfpemkjpikaaDoorR6
import Derived.ChangeMaps5
import Derived.Deep.Strs
namespace Go.Proofs.YtjgbfpemkjpikaaDoor.patsWords
open Go.ChangeShapes Go.WideShapes Go.ChangeAt Go.RowKit Go.Maps
open Go.ChangeMaps (open_string shut_string)
set_option linter.unusedVariables false
set_option linter.unusedSimpArgs false
theorem wf8 {a : Int} (h : (Lit.int .u8 a).wf = true) : 0 ≤ a ∧ a ≤ 255 := by
  simp only [Lit.wf, Bool.and_eq_true, decide_eq_true_eq] at h
  have e1 : IntKind.min .u8 = 0 := by decide
  have e2 : IntKind.max .u8 = 255 := by decide
  rw [e1, e2] at h
  omega
/-- strings that lie in memory. -/
def Sl (w : World) (a : Option Addr) (n : Nat) (X : Nat → ByteArray) : Prop := ∃ b off, (0 < n → a = some ⟨b, off, none⟩ ∧ b < w.heap.size) ∧ ∀ j, j < n → w.cell? ⟨b, off + j, none⟩ = some (.string (X j)) ∧ (X j).size ≤ maxLen
theorem Sl.at {w W : World} {a : Option Addr} {n : Nat} {X : Nat → ByteArray} (h : Sl w a n X) (ho : Only (fun _ => False) w W) {i : Nat} (hi : i < n) : ∃ b off, a = some ⟨b, off, none⟩ ∧ b < W.heap.size ∧ W.cell? ⟨b, off + i, none⟩ = some (.string (X i)) ∧ (X i).size ≤ maxLen := by
  obtain ⟨b, off, h1, h2⟩ := h
  obtain ⟨e, hb⟩ := h1 (by omega)
  obtain ⟨c, hs⟩ := h2 i hi
  exact ⟨b, off, e, Nat.lt_of_lt_of_le hb ho.size, (World.cell?_of_block (a := ⟨b, off + i, none⟩) (ho.block b hb (fun h => h))).trans c, hs⟩
theorem strs_view {H : Type} {enc : TypeId × Value → H} {W : World} {r : Reach} {base : Nat} {v : Value} {d : DataW H} {p : List MemPlace} (hv : Value.okWide Tryd.prog W r base 24 v)
    (h : DataW.Trod enc Tryd.prog W 0 (fun _ => true) true 24 v d p) : ∃ (a : Option Addr) (n c : Nat) (X : Nat → ByteArray), v = .slice a n c ∧ n ≤ c ∧ c ≤ maxLen ∧ Sl W a n X := by
  obtain ⟨a, n, c, rfl⟩ := okWide_slice Tryd.underlying24 hv
  obtain ⟨fuel, hf⟩ := h
  rcases Go.Deep.open_strs Tryd.underlying24 Tryd.underlying9 (by kernel_rfl) hf with ⟨hcs, _⟩ | ⟨y, l, cp, m, X, hcs, _, hl, hm, hmm, _, hx⟩
  · simp [Value.cells] at hcs
    obtain ⟨rfl, rfl, rfl⟩ := hcs
    exact ⟨none, 0, 0, fun _ => ⟨#[]⟩, rfl, Nat.le_refl _, by simp [maxLen], 0, 0, fun h => absurd h (by omega), fun j hj => absurd hj (by omega)⟩
  · simp [Value.cells] at hcs
    obtain ⟨rfl, rfl, rfl⟩ := hcs
    simp only [if_true] at hmm
    subst hmm
    refine ⟨some y, n, m, X, rfl, hl, hm, ?_⟩
    by_cases h0 : 0 < n
    · obtain ⟨yb, yo, ys⟩ := y
      have hys : ys = none := by simpa [Addr.add] using World.cell?_spot (hx 0 (by omega)).1
      subst hys
      have hc : ∀ j, j < m → W.cell? ⟨yb, yo + j, none⟩ = some (.string (X j)) := fun j hj => by rw [← Go.WideShapes.add_plain]; exact (hx j hj).1
      exact ⟨yb, yo, fun _ => ⟨rfl, World.block_lt_of_cell? W ⟨yb, yo + 0, none⟩ (hc 0 (by omega))⟩, fun j hj => ⟨hc j (by omega), (hx j (by omega)).2⟩⟩
    · exact ⟨0, 0, fun h => absurd h h0, fun j hj => absurd hj (by omega)⟩
def gaps : Array Value := #[.string ⟨#[32]⟩, .string ⟨#[10]⟩, .string ⟨#[9, 13, 32]⟩, .string ⟨#[32, 32]⟩]
theorem gap_at (k : Nat) (h : k < 4) : ∃ G : ByteArray, gaps[k]? = some (.string G) ∧ G.size ≤ 3 := by
  obtain rfl | rfl | rfl | rfl : k = 0 ∨ k = 1 ∨ k = 2 ∨ k = 3 := by omega
  · exact ⟨_, rfl, by decide⟩
  · exact ⟨_, rfl, by decide⟩
  · exact ⟨_, rfl, by decide⟩
  · exact ⟨_, rfl, by decide⟩
set_option maxRecDepth 100000 in
set_option maxHeartbeats 4000000 in
theorem walkO (a : Option Addr) (n c : Nat) (X : Nat → ByteArray) (g : Int) (hg : 0 ≤ g ∧ g ≤ 255) (hnc : n ≤ c) (hc : c ≤ maxLen) (w : World) (hS : Sl w a n X) (hz : 2 ≤ w.heap.size) (hT : Lib.Utf8Tabs 0 1 w) : Calls Tryd.prog 4 #[.slice a n c, .int .u8 g] w fun e w' => e = .returned (.bool true) ∧ Only (fun _ => False) w w' := by
  have HT : Hid (Lib.Utf8Tabs 0 1 w) := hT
  have HS : Hid (Sl w a n X) := hS
  unfold maxLen at hc
  obtain ⟨hg0, hg1⟩ := hg
  obtain ⟨k, hk⟩ : ∃ k : Nat, g % 4 = (k : Int) := ⟨(g % 4).toNat, by omega⟩
  have hk4 : k < 4 := by omega
  obtain ⟨G, hG, hG3⟩ := gap_at k hk4
  have HG : Hid (gaps[k]? = some (.string G)) := hG
  clear hT hS hG
  go_enter Tryd.func4, Tryd.ntmps4
  go_wp2_with (first | (go_at_call 8; refine Calls.mono (awake_law w hz HT.out) ?_; rintro e w1 ⟨rfl, ho1⟩; have HO1 : Hid (Only (fun _ => False) w w1) := ho1; clear ho1))
  go_loopg [12, 5] n (fun gh v v5 wr => ∃ (i : Nat) (s : ByteArray) (W : World), W = wr ∧ gh = n - i ∧ i ≤ n ∧ v = .int .i64 (i : Int) ∧ v5 = .string s ∧ i ≤ 301 ∧ s.size ≤ i * 103 ∧ Only (fun _ => False) w W)
  case atStart => exact ⟨0, _, _, rfl, rfl, Nat.zero_le _, rfl, rfl, by omega, by decide, HO1.out⟩
  case round =>
    obtain ⟨i, s, W, hW, rfl, hi, rfl, rfl, hi3, hsz, ho⟩ := hrel
    subst hW
    have HO : Hid (Only (fun _ => False) w W) := ho
    have hzW : 2 ≤ W.heap.size := Nat.le_trans hz ho.size
    have HTW : Hid (Lib.Utf8Tabs 0 1 W) := ho.tabs hz HT.out
    clear ho
    by_cases hlt : i < n
    · have t1 : (i : Int) < (n : Int) := by omega
      obtain ⟨b, off, rfl, hbW, cc, hxm⟩ := HS.out.at HO.out hlt
      unfold maxLen at hxm
      obtain ⟨x, hx⟩ : ∃ x, x = X i := ⟨_, rfl⟩
      rw [← hx] at cc hxm
      clear hx
      by_cases h300 : 300 < i
      · have q1 : (300 : Int) < (i : Int) := by omega
        go_wp2_with fail
        go_ret
        exact ⟨rfl, HO.out⟩
      · have q1 : decide ((300 : Int) < (i : Int)) = false := decide_eq_false (by omega)
        by_cases h100 : 100 < x.size
        · have q2 : (100 : Int) < (x.size : Int) := by omega
          go_wp2_with fail
          go_ret
          exact ⟨rfl, HO.out⟩
        · have q2 : decide ((100 : Int) < (x.size : Int)) = false := decide_eq_false (by omega)
          have cg : (W.alloc (.cells gaps 9)).cell? ⟨W.heap.size, k, none⟩ = some (.string G) := (cell_blk (heap_alloc_new W _)).trans HG.out
          unfold gaps at cg
          have hz2 : 2 ≤ (W.alloc (.cells gaps 9)).heap.size := by simp; omega
          unfold gaps at hz2
          by_cases h30 : i < 30
          · have q3 : (i : Int) < 30 := by omega
            go_wp2_with (first | (go_at_call 9; refine Calls.mono (told_all x _ hz2 (((Only.refl _ _).alloc _).tabs hzW HTW.out)) ?_; rintro e w6 ⟨rfl, ho6⟩; have HO6 : Hid (Only (fun _ => False) W w6) := ((Only.refl _ _).alloc _).trans ho6; clear ho6))
            go_roundg (n - (i + 1))
            case measure => omega
            case rel => exact ⟨i + 1, _, _, rfl, rfl, by omega, by go_num, rfl, by omega, by simp only [ByteArray.size_append]; omega, HO.out.trans HO6.out⟩
          · have q3 : decide ((i : Int) < 30) = false := decide_eq_false (by omega)
            go_wp2_with fail
            go_roundg (n - (i + 1))
            case measure => omega
            case rel => exact ⟨i + 1, _, _, rfl, rfl, by omega, by go_num, rfl, by omega, by simp only [ByteArray.size_append]; omega, HO.out.alloc _⟩
    · have t2 : decide ((i : Int) < (n : Int)) = false := decide_eq_false (by omega)
      by_cases hb : 10000 < s.size
      · have q1 : (10000 : Int) < (s.size : Int) := by omega
        go_wp2_with fail
        go_ret
        exact ⟨rfl, HO.out⟩
      · have q1 : decide ((10000 : Int) < (s.size : Int)) = false := decide_eq_false (by omega)
        go_wp2_with (first | (go_at_call 9; refine Calls.mono (told_all s W hzW HTW.out) ?_; rintro e w6 ⟨rfl, ho6⟩; have HO6 : Hid (Only (fun _ => False) W w6) := ho6; clear ho6))
        go_ret
        exact ⟨rfl, HO.out.trans HO6.out⟩
theorem walk {w : World} (a : Option Addr) (n c : Nat) (X : Nat → ByteArray) (g : Int) (hg : 0 ≤ g ∧ g ≤ 255) (hB : n ≤ c ∧ c ≤ maxLen ∧ Sl w a n X) (hz : 2 ≤ w.heap.size) (hT : Lib.Utf8Tabs 0 1 w) : Calls Tryd.prog 4 #[.slice a n c, .int .u8 g] w fun e w' => e = .returned (.bool true) ∧ Below w.heap.size w w' :=
  (walkO a n c X g hg hB.1 hB.2.1 w hB.2.2 hz hT).mono fun e w' ⟨he, ho⟩ => ⟨he, ho.below (Nat.le_refl _) (fun _ h => h.elim)⟩
theorem contract (H : Type) (enc : TypeId × Value → H) (W : World) (base : Nat) (args : Array Value) (ds gs : List (DataW H)) (before : List MemPlace)
    (hval : ∀ (j : Nat) t v, Tryd.f4.params[j]? = some t → args[j]? = some v → Value.okWide Tryd.prog W .any base t v)
    (hW : DataW.Whole enc Tryd.prog Tryd.f4.params.toList Rows.patsWordsSpec.vars false W args.toList ds gs before) (hL : laidMetH Tryd.prog Rows.patsWordsRow.laid W) :
    Calls Tryd.prog 4 args W fun e W' => ∃ v, e = .returned v ∧ Rows.patsWordsSpec.post enc Tryd.prog Tryd.f4 false true false false W args v W' := by
  have hW' := hW
  obtain ⟨p, q, hA0, hV, rfl, hfz, hnd⟩ := hW
  have hA : DataW.TrodAll enc Tryd.prog W 0 (fun _ => true) true Tryd.f4.params.toList args.toList ds p := hA0
  rw [Tryd.params4] at hA hval
  obtain ⟨v0, vs0, d0, ds0, p0, q0, hargs, rfl, rfl, h0, r0⟩ := trodAll_cons hA
  obtain ⟨v1, vs1, d1, ds1, p1, q1, rfl, rfl, rfl, h1, r1⟩ := trodAll_cons r0
  obtain ⟨rfl, rfl, rfl⟩ := trodAll_nil r1
  obtain rfl : args = #[v0, v1] := by cases args; simp_all
  obtain ⟨rfl, rfl⟩ := trodVars_none hV
  have k0 := h0
  have lt0 : ∀ x ∈ p0, x.block < W.heap.size := by obtain ⟨m, hm⟩ := k0; exact DataW.trod_lt m _ _ _ hm
  obtain ⟨a0, len0, cap0, L0, rfl, hB0⟩ := strs_view (hval 0 24 v0 rfl rfl) h0
  obtain ⟨a1, rfl, rfl, rfl, w1⟩ := open_int Tryd.underlying5 (hval 1 5 v1 rfl rfl) h1
  clear hA0
  obtain ⟨hT, hz⟩ := tabs_of hL
  refine (walk a0 len0 cap0 L0 a1 (wf8 w1) hB0 hz hT).mono fun e W' ⟨he, bel⟩ => ?_
  subst he
  exact ⟨_, rfl, _, _, _, [], _, [], hW', trodAll_mk1 (shut_bool Tryd.underlying4 _), (trodAll_cons_mk (Below.trod laidOut (by kernel_rfl) (of_decide_eq_true (by kernel_rfl)) k0 bel lt0) (trodAll_cons_mk (shut_int Tryd.underlying5 w1) trodAll_mk0)), rfl, bel.frame _, fun h => by cases h⟩

theorem reads (os : Os) {H : Type} (enc : TypeId × Value → H) : ∃ places, DataW.whole enc Tryd.prog ((laidWorld Tryd.prog os).forCall (fun _ _ => 0) ⟨#[], #[.slice none 0 0, .int .u8 0], []⟩).memory Tryd.f4.params.toList Rows.patsWordsSpec.vars false (#[.slice none 0 0, .int .u8 0] : Array Value).toList 8 = some ([.nil, .lit (.int .u8 0)], [], places) :=
  ⟨[], by kernel_rfl⟩

set_option maxRecDepth 100000 in
theorem lifted (os : Os) (started : os.Started) (H : Type) (enc : TypeId × Value → H) (F : Stop.Interp) :
    ReturnsInHanded {} Tryd.checked os 4 .any ((OpenSpec.ofChange Rows.patsWordsSpec).preRow enc Tryd.prog Tryd.f4 Rows.patsWordsRow.domain false Rows.patsWordsRow.laid) (((OpenSpec.ofChange Rows.patsWordsSpec).at F).post enc Tryd.prog Tryd.f4 false true false false) := by
  obtain ⟨places, hx⟩ := reads os enc
  refine returnsInHanded_of_row (C := Tryd.checked) (s := OpenSpec.ofChange Rows.patsWordsSpec) own started (by kernel_rfl) Tryd.func4
    (witness_row_at (enc := enc) (C := Tryd.checked) false (laidWorld Tryd.prog os) #[.slice none 0 0, .int .u8 0] rfl (by kernel_rfl) (by kernel_rfl) (by kernel_rfl)
      (OpenSpec.preRow_of_cond 8 hx (by kernel_rfl) (fun k hk => by cases hk) (by kernel_rfl) (laid_met os _))) ?_
  intro W base args ds gs before hval hW _ _ _ hL _ _
  exact contract H enc W base args ds gs before hval hW hL

theorem said : Rows.PatsWordsSaid :=
  OpenClaim.holds_of_cond 4 Tryd.f4 rfl rfl rfl rfl rfl rfl rfl ⟨rfl, rfl, rfl, rfl, rfl⟩ rfl rfl rfl rfl rfl (by kernel_rfl) Tryd.func4 (by kernel_rfl)
    (of_decide_eq_true (by kernel_rfl)) (by unfold Func.isWrapper; first | (rw [if_pos (by decide +kernel)]; kernel_rfl) | (rw [if_neg (by decide +kernel)]; exact ⟨rfl, rfl⟩))
    (fun os started H enc _ F => by rw [OpenClaim.pre_eq_preRow]; exact lifted os started H enc F)

theorem plain (f : FuncId) (fn : Func) (hf : Tryd.pinned.checked.prog.funcNamed "stanza/stanzalaw07.PatsWords" = some f) (hfn : Tryd.pinned.checked.prog.funcs[f]? = some fn) :
    false = Tryd.pinned.checked.prog.looks [] ∧ ∀ (j : Nat) t, fn.params[j]? = some t → Tryd.pinned.checked.prog.wantsStandIn t = false := by
  obtain rfl : f = 4 := Option.some.inj ((show Tryd.prog.funcNamed "stanza/stanzalaw07.PatsWords" = some 4 by kernel_rfl).symm.trans hf) |>.symm
  obtain rfl : fn = Tryd.f4 := (Option.some.inj (Tryd.func4.symm.trans hfn)).symm
  refine ⟨by kernel_rfl, fun j t ht => ?_⟩
  rw [Tryd.params4] at ht
  have hm : t ∈ [24, 5] := by simpa using Array.mem_of_getElem? ht
  have hall : ([24, 5].all fun u => !Tryd.prog.wantsStandIn u) = true := by kernel_rfl
  exact (show Tryd.prog.wantsStandIn t = false by simpa using List.all_eq_true.1 hall t hm)

/-- THE CARD. -/
theorem card : Rows.PatsWordsCardSaid :=
  Claim7.holds_tied_plain_at .later [] _ _ _ _ said (fun _ h => by cases h) (by kernel_rfl) (fun _ h => by cases h) patsWords_row_tie rfl ⟨rfl, rfl⟩ (by kernel_rfl) rfl plain (by kernel_rfl)
end Go.Proofs.YtjgbfpemkjpikaaDoor.patsWords
namespace Go.Proofs.YtjgbfpemkjpikaaDoor
/-- THE STATEMENT. -/
theorem patsWordsCard_holds : Rows.PatsWordsCardSaid := patsWords.card
#print axioms patsWordsCard_holds
end Go.Proofs.YtjgbfpemkjpikaaDoor
