/-
  edit.Undo.
-/
import Derived.Test.YtmhnghkodneodaaUd
namespace Go.Proofs.Ytmhnghkodneodaa
open Go.RowKit Go.Maps
set_option linter.unusedVariables false
set_option linter.unusedSimpArgs false
theorem results_rt {P : Program} {fn : Func} {p u : Tmp} {ty : TypeId} (h : fn.results = #[.cell p ty, .tmp u]) (tmps : Array Value) (w : World) (g : Nat) (t : TypeId) (cs : Array Value) (fr : Nat × Nat) (d : TypeDesc)
    (hp : tmps.getD p undef = .pointer (some ⟨g, 0, none⟩)) (hg : w.heap[g]? = some (.cells cs t fr))
    (hu : P.underlying ty = some d) (hd : (match d with | .struct _ | .array _ _ => true | _ => false) = true) (hi : (P.info? ty).map (·.size) = some cs.size) (v : Value) (hv : tmps.getD u undef = v) :
    (results fn tmps).run P w = .ok (.tuple #[.agg cs, v]) w := by
  subst hv
  have hp' : tmps[p]?.getD undef = .pointer (some ⟨g, 0, none⟩) := by simpa using hp
  simp [results, h, hp', asAddr, run_loadVar_row w g t ty cs fr d hg hu hd hi]
theorem Only.setRowNew {S : Nat → Prop} {a w : World} (h : Only S a w) {g : Nat} (hp : a.heap.size ≤ g) (cs : Array Value) : Only S a (w.setRow g cs) :=
  ⟨h.os, h.tape, h.output, by rw [setRow_size]; exact h.size, fun k hk hS => (Go.setRow_other w g k cs (by omega)).trans (h.block k hk hS)⟩
set_option maxRecDepth 100000 in
set_option maxHeartbeats 4000000 in
theorem undo_bad (n c m cI k : Nat) (aB aI : Option Addr) (A D : Int) (w : World) (hA : -9223372036854775808 ≤ A ∧ A ≤ 9223372036854775807) (hD : -9223372036854775808 ≤ D ∧ D ≤ 9223372036854775807) (hn : n ≤ 2147483647) (hm : m ≤ 2147483647) (hk : Ed.code n A D m = k) (h0 : k ≠ 0) :
    Calls Try.prog 15 #[.slice aB n c, .agg #[.int .i64 A, .int .i64 D, .slice aI m cI]] w fun e w' => e = .returned (.tuple #[.agg #[.int .i64 0, .int .i64 0, .slice none 0 0], .int .i64 (k : Int)]) ∧ Only (fun _ => False) w w' := by
  have HC : Hid (∀ W, Calls Try.prog 10 #[.int .i64 (n : Int), .agg #[.int .i64 A, .int .i64 D, .slice aI m cI]] W fun e w' => e = .returned (.int .i64 (k : Int)) ∧ Only (fun _ => False) W w') := fun W => by
    have h := check_any n m cI A D aI W hA hD hn hm
    rw [hk] at h
    exact h
  have t1 : ((k : Int) == 0) = false := by rw [beq_eq_false_iff_ne]; omega
  clear hk
  go_enter Try.func15, Try.ntmps15
  go_upto_region 1 with fail
  obtain ⟨R, b, w0, hw0, hb, hR, H0, lRb, lb⟩ := box33 w (.int .i64 A) (.int .i64 D) (.slice aI m cI) (.int .i64 0) (.int .i64 0) (.slice none 0 0) 24 24
  rw [hw0, hb, hR]
  clear hw0 hb hR
  obtain ⟨r0, r1, r2, lR⟩ := blk_three H0.out.1
  go_wp2_with fail
  refine Calls.mono (HC.out _) ?_
  rintro e w2 ⟨rfl, ho2⟩
  have H2 : Hid (Only (fun _ => False) w w2 ∧ w2.heap[b]? = some (.cells #[.int .i64 0, .int .i64 0, .slice none 0 0] 24 (0, 0)) ∧ w.heap.size ≤ b) := ⟨H0.out.2.2.1.trans ho2, blk_keep ho2 H0.out.2.1, by have := H0.out.2.2.2; omega⟩
  clear ho2
  obtain ⟨b0, b1, b2, lb2⟩ := blk_three H2.out.2.1
  have fb : ∀ x, w2.frozen? ⟨b, x, none⟩ = false := fun x => fz_blk H2.out.2.1 x
  go_wp2_with (refine wpList_store_row rfl 24 _ _ rfl b #[.int .i64 0, .int .i64 0, .slice none 0 0] rfl rfl 24 _ H2.out.2.1 (by kernel_rfl) rfl (ed_one _ _ _ _ _) ?_)
  refine bodyPost_ret (results_rt rfl _ _ b 24 #[.int .i64 0, .int .i64 0, .slice none 0 0] (0, 0) _ rfl (setRow_heap _ _ _ _ _ _ H2.out.2.1) Try.underlying24 rfl (by kernel_rfl) _ rfl) rfl ⟨rfl, H2.out.1.setRowNew H2.out.2.2 _⟩
set_option maxRecDepth 100000 in
set_option maxHeartbeats 4000000 in
theorem undo_ok (L : List Nat) (n c m cI a d : Nat) (aB aI : Option Addr) (w : World) (hn : n = L.length) (hVB : Vw w aB (u8s L)) (hc : n ≤ c) (hc2 : c ≤ maxLen) (hnil : aB = none → n = 0 ∧ c = 0) (ha : a + d ≤ n) (h4 : n - d + m ≤ 4096) (hn2 : n ≤ 1000000) :
    Calls Try.prog 15 #[.slice aB n c, .agg #[.int .i64 (a : Int), .int .i64 (d : Int), .slice aI m cI]] w fun e w' => ∃ a' c', e = .returned (.tuple #[.agg #[.int .i64 (a : Int), .int .i64 (m : Int), .slice a' d c'], .int .i64 0]) ∧ w'.ownsRow w.heap.size 5 1 (.slice a' d c') d (u8s (Ed.gone L a d)) ∧ Only (fun _ => False) w w' := by
  have HC : Hid (∀ W, Calls Try.prog 10 #[.int .i64 (n : Int), .agg #[.int .i64 (a : Int), .int .i64 (d : Int), .slice aI m cI]] W fun e w' => e = .returned (.int .i64 0) ∧ Only (fun _ => False) W w') := fun W => by
    have h := check_any n m cI a d aI W (by omega) (by omega) (by omega) (by omega)
    rw [Ed.code_nat ha h4] at h
    exact h
  have t1 : ((0 : Int) == 0) = true := rfl
  unfold maxLen at hc2
  obtain ⟨s, hs⟩ : ∃ s, s = a + d := ⟨_, rfl⟩
  have m1 : IntKind.i64.wrap ((a : Int) + (d : Int)) = (s : Int) := by rw [IntKind.wrap_i64]; omega
  have i0 : (0 : Int) ≤ (a : Int) := by omega
  have i1 : (a : Int) ≤ (s : Int) := by omega
  have i3 : (s : Int) ≤ (c : Int) := by omega
  have hd : s - a = d := by omega
  obtain ⟨aT, haT⟩ : ∃ x, (if c = a then aB else Option.map (fun x => x.add a) aB) = x := ⟨_, rfl⟩
  have HCL : Hid (∀ W, Only (fun _ => False) w W → Calls Try.prog 17 #[.slice aT d (c - a)] W fun e w' => ∃ a' c', e = .returned (.slice a' d c') ∧ w'.ownsRow W.heap.size 5 1 (.slice a' d c') d (u8s (Ed.gone L a d)) ∧ Only (fun _ => False) W w') := fun W ho => by
    refine clone_any (Ed.gone L a d) d (c - a) aT W (Ed.gone_len (by omega)).symm ?_ (fun h => ?_) (by omega)
    · rw [← haT]
      split
      · have e : Ed.gone L a d = [] := List.eq_nil_of_length_eq_zero (by rw [Ed.gone_len (by omega)]; omega)
        rw [e]
        exact Vw.nil _ _
      · exact (vw_cutY hVB a d).keep ho
    · rw [← haT] at h
      have hB : aB = none := by
        split at h
        · exact h
        · cases aB with
          | none => rfl
          | some y => cases h
      have := hnil hB
      omega
  have HSA : Hid (s = a + d) := hs
  clear hs hVB hnil hn
  go_enter Try.func15, Try.ntmps15
  go_upto_region 1 with fail
  obtain ⟨R, b, w0, hw0, hb, hR, H0, lRb, lb⟩ := box33 w (.int .i64 (a : Int)) (.int .i64 (d : Int)) (.slice aI m cI) (.int .i64 0) (.int .i64 0) (.slice none 0 0) 24 24
  rw [hw0, hb, hR]
  clear hw0 hb hR
  obtain ⟨r0, r1, r2, lR⟩ := blk_three H0.out.1
  go_wp2_with fail
  refine Calls.mono (HC.out _) ?_
  rintro e w2 ⟨rfl, ho2⟩
  have H2 : Hid (Only (fun _ => False) w w2 ∧ w2.heap[R]? = some (.cells #[.int .i64 (a : Int), .int .i64 (d : Int), .slice aI m cI] 24 (0, 0)) ∧ w2.heap[b]? = some (.cells #[.int .i64 0, .int .i64 0, .slice none 0 0] 24 (0, 0)) ∧ w.heap.size ≤ b ∧ R ≠ b) := ⟨H0.out.2.2.1.trans ho2, blk_keep ho2 H0.out.1, blk_keep ho2 H0.out.2.1, by have := H0.out.2.2.2; omega, by omega⟩
  clear ho2 r0 r1 r2 lR
  have HS : Hid (∀ W, Only (fun q => q = b) w2 W → W.cell? ⟨R, 0, none⟩ = some (.int .i64 (a : Int)) ∧ W.cell? ⟨R, 1, none⟩ = some (.int .i64 (d : Int)) ∧ W.cell? ⟨R, 2, none⟩ = some (.slice aI m cI) ∧ R < W.heap.size) := fun W ho => blk_three ((ho.block R (Array.getElem?_eq_some_iff.1 H2.out.2.1).1 H2.out.2.2.2.2).trans H2.out.2.1)
  obtain ⟨r0, r1, r2, lR⟩ := HS.out w2 (Only.refl _ _)
  obtain ⟨-, -, -, lb2⟩ := blk_three H2.out.2.2.1
  go_wp2_with fail
  go_region_held3 (fun W' => W'.cell? ⟨R, 0, none⟩ = some (.int .i64 (a : Int)) ∧ W'.cell? ⟨R, 1, none⟩ = some (.int .i64 (d : Int)) ∧ W'.cell? ⟨R, 2, none⟩ = some (.slice aI m cI) ∧ R < W'.heap.size) ((first | exact HS.out _ (Only.refl _ _).drew | exact HS.out _ H5.out.2.2.1 | exact HS.out _ (((H5.out.2.2.1.setCell (p := ⟨b, 0, none⟩) rfl _).setCell (p := ⟨b, 1, none⟩) rfl _).setCell (p := ⟨b, 2, none⟩) rfl _))) ((first | (go_at_call 17; refine Calls.mono (HCL.out _ H2.out.1.drew) ?_; rintro e w5 ⟨a5, c5, rfl, hown5, ho5⟩; have H5 : Hid (w5.ownsRow w.heap.size 5 1 (.slice a5 d c5) d (u8s (Ed.gone L a d)) ∧ Only (fun _ => False) w w5 ∧ Only (fun q => q = b) w2 w5 ∧ w5.heap[b]? = some (.cells #[.int .i64 0, .int .i64 0, .slice none 0 0] 24 (0, 0))) := ⟨own_base2 hown5 H2.out.1.size, H2.out.1.trans ((Only.refl _ _).drew.trans ho5), ((Only.refl _ _).drew.trans ho5).mono (fun _ h => h.elim), blk_keep ho5 H2.out.2.2.1⟩; clear hown5 ho5; obtain ⟨b0, b1, b2, lb5⟩ := blk_three H5.out.2.2.2; have fb5 : ∀ x, w5.frozen? ⟨b, x, none⟩ = false := fun x => fz_blk H5.out.2.2.2 x)))
  have hb5 : (((w5.setCell ⟨b, 0, none⟩ (.int .i64 (a : Int))).setCell ⟨b, 1, none⟩ (.int .i64 (m : Int))).setCell ⟨b, 2, none⟩ (.slice a5 d c5)).heap[b]? = some (.cells #[.int .i64 (a : Int), .int .i64 (m : Int), .slice a5 d c5] 24 (0, 0)) := heap_setCell_at (k := 2) (heap_setCell_at (k := 1) (heap_setCell_at (k := 0) H5.out.2.2.2 _) _) _
  have HB5 : Hid _ := hb5
  clear hb5 fb5 b0 b1 b2
  go_wp2_with fail
  refine bodyPost_ret (results_rt rfl _ _ b 24 #[.int .i64 (a : Int), .int .i64 (m : Int), .slice a5 d c5] (0, 0) _ rfl HB5.out Try.underlying24 rfl (by kernel_rfl) _ rfl) rfl ⟨a5, c5, rfl, ?_, ?_⟩
  · refine own_stay H5.out.1 (((Only.refl (fun q => q = b) w5).setCell (p := ⟨b, 0, none⟩) rfl _).setCell (p := ⟨b, 1, none⟩) rfl _ |>.setCell (p := ⟨b, 2, none⟩) rfl _) (fun q hq e => ?_)
    subst e
    exact own_ne H5.out.1 H5.out.2.2.2 (by decide) hq
  · exact ((H5.out.2.1.setNew (p := ⟨b, 0, none⟩) H2.out.2.2.2.1 _).setNew (p := ⟨b, 1, none⟩) H2.out.2.2.2.1 _).setNew (p := ⟨b, 2, none⟩) H2.out.2.2.2.1 _
end Go.Proofs.Ytmhnghkodneodaa
