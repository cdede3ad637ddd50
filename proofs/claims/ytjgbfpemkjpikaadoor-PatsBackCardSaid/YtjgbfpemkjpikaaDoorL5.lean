/-
  pats.pattern and pats.told: a word's reading.
-/
import Derived.Test.YtjgbfpemkjpikaaDoorL4
namespace Go.Proofs.YtjgbfpemkjpikaaDoor
open Go.RowKit Go.Maps
set_option linter.unusedVariables false
set_option linter.unusedSimpArgs false
theorem results_row1 {P : Program} {fn : Func} {p u : Tmp} {ty : TypeId} (h : fn.results = #[.cell p ty, .tmp u]) (tmps : Array Value) (w : World) (g : Nat) (t : TypeId) (cs : Array Value) (fr : Nat × Nat) (d : TypeDesc)
    (hp : tmps.getD p undef = .pointer (some ⟨g, 0, none⟩)) (hg : w.heap[g]? = some (.cells cs t fr)) (hu : P.underlying ty = some d) (hd : (match d with | .struct _ | .array _ _ => true | _ => false) = true) (hi : (P.info? ty).map (·.size) = some cs.size)
    {y : Value} (hy : tmps.getD u undef = y) : (results fn tmps).run P w = .ok (.tuple #[.agg cs, y]) w := by
  have hp' : tmps[p]?.getD undef = .pointer (some ⟨g, 0, none⟩) := by simpa using hp
  have hy' : tmps[u]?.getD undef = y := by simpa using hy
  simp [results, h, hp', hy', asAddr, run_loadVar_row w g t ty cs fr d hg hu hd hi]
theorem sz37 : (Tryd.prog.info? 37).map (·.size) = some 2 := by kernel_rfl
/-- a slice of bytes. -/
def Bl (w : World) (a : Option Addr) (n : Nat) (L : List Nat) : Prop := L.length = n ∧ ∃ b off, (0 < n → a = some ⟨b, off, none⟩ ∧ b < w.heap.size) ∧ ∀ (j x : Nat), L[j]? = some x → w.cell? ⟨b, off + j, none⟩ = some (.int .u8 (x : Int))
theorem Bl.keep {w w' : World} {a : Option Addr} {n : Nat} {L : List Nat} (h : Bl w a n L) (ho : Only (fun _ => False) w w') : Bl w' a n L := by
  obtain ⟨hl, b, off, h1, h2⟩ := h
  refine ⟨hl, b, off, fun h => ⟨(h1 h).1, Nat.lt_of_lt_of_le (h1 h).2 ho.size⟩, fun j x hj => ?_⟩
  have hb := (h1 (by have := (List.getElem?_eq_some_iff.1 hj).1; omega)).2
  exact (World.cell?_of_block (a := ⟨b, off + j, none⟩) (ho.block b hb (fun h => h))).trans (h2 j x hj)
theorem blk_bl {w : World} {g n : Nat} {L : List Nat} (h : w.heap[g]? = some (.cells (u8s L).toArray 5 (0, 0))) (hl : L.length = n) : Bl w (some ⟨g, 0, none⟩) n L := by
  refine ⟨hl, g, 0, fun _ => ⟨rfl, (Array.getElem?_eq_some_iff.1 h).1⟩, fun j x hj => ?_⟩
  rw [Nat.zero_add, cell_blk h]
  simp [u8s, hj]
theorem raw_marks {mk : Nat → Bool} : ∀ (cs : List Nat) (m : Nat) (L M : List Nat), Pt.raw mk cs m = some (L, M) → (m = 0 ∨ mk m = true) → ∀ x ∈ M, x = 0 ∨ mk x = true
  | [], m, L, M, h, hm, x, hx => by
    simp only [Pt.raw, Option.some.injEq, Prod.mk.injEq] at h
    obtain ⟨rfl, rfl⟩ := h
    simp at hx
    subst hx
    exact hm
  | c :: cs, m, L, M, h, hm, x, hx => by
    simp only [Pt.raw] at h
    by_cases hc : mk c = true
    · rw [if_pos hc] at h
      split at h
      · cases h
      · exact raw_marks cs c L M h (Or.inr hc) x hx
    · rw [if_neg hc] at h
      cases hr : Pt.raw mk cs 0 with
      | none => rw [hr] at h; cases h
      | some r =>
        obtain ⟨L', M'⟩ := r
        rw [hr] at h
        simp only [Option.some.injEq, Prod.mk.injEq] at h
        obtain ⟨rfl, rfl⟩ := h
        rcases List.mem_cons.1 hx with rfl | hx
        · exact hm
        · exact raw_marks cs 0 L' M' hr (Or.inl rfl) x hx
theorem parted_marks {mk : Nat → Bool} {R L M : List Nat} (h : Pt.parted mk R = some (L, M)) : ∀ x ∈ M, x = 0 ∨ mk x = true := by
  unfold Pt.parted at h
  cases hr : Pt.raw mk R 0 with
  | none => rw [hr] at h; cases h
  | some r =>
    obtain ⟨L', M'⟩ := r
    rw [hr] at h
    simp only at h
    split at h
    · cases h
    · injection h with h
      injection h with h1 h2
      subst h1 h2
      exact raw_marks _ _ _ _ hr (Or.inl rfl)
/-- how a word's reading ends. -/
def rdP (w : World) (R : Option Pt.Pat) (e : Ending) (w' : World) : Prop :=
  match R with
  | none => e = .returned (.tuple #[.agg #[.slice none 0 0, .slice none 0 0], .bool false]) ∧ Only (fun _ => False) w w'
  | some p => ∃ gL cL gV cV, e = .returned (.tuple #[.agg #[.slice (some ⟨gL, 0, none⟩) p.letters.length cL, .slice (some ⟨gV, 0, none⟩) p.values.length cV], .bool true]) ∧ Nl w' (some ⟨gL, 0, none⟩) p.letters.length p.letters ∧ Bl w' (some ⟨gV, 0, none⟩) p.values.length p.values ∧ p.letters.length ≤ 24 ∧ p.values.length ≤ 25 ∧ Only (fun _ => False) w w' ∧ w.heap.size ≤ gL ∧ w.heap.size ≤ gV ∧ 0 < p.letters.length ∧ p.values.length = p.letters.length + 1
def z37 : Array Value := #[.slice none 0 0, .slice none 0 0]
theorem set2_blk {W : World} {b : Nat} {x y u v : Value} (h : W.heap[b]? = some (.cells #[x, y] 37 (0, 0))) : ((W.setCell ⟨b, 0, none⟩ u).setCell ⟨b, 1, none⟩ v).heap[b]? = some (.cells #[u, v] 37 (0, 0)) := heap_setCell_at (heap_setCell_at h _) _
theorem set2_only {w W : World} {b : Nat} (h : Only (fun _ => False) w W) (hb : w.heap.size ≤ b) (u v : Value) : Only (fun _ => False) w ((W.setCell ⟨b, 0, none⟩ u).setCell ⟨b, 1, none⟩ v) := (h.setNew (p := ⟨b, 0, none⟩) hb u).setNew (p := ⟨b, 1, none⟩) hb v
theorem cap_of {w : World} {base e size n c : Nat} {a : Option Addr} {xs : List Value} (h : w.ownsRow base e size (.slice a n c) n xs) : n ≤ c ∧ c ≤ 9223372036854775807 := by
  obtain ⟨_, ⟨e, h0⟩ | ⟨g', cap', cur, e, hb, hh, hc, hm, _⟩⟩ := h
  · injection e with _ e1 e2
    omega
  · injection e with _ _ e
    unfold maxLen at hm
    omega
theorem Only.two {w W : World} {o : Obj} {b : Nat} (h : Only (fun _ => False) (w.alloc o) W) : Only (fun _ => False) w W := ((Only.refl _ _).alloc o).trans h
/-- a pattern that was made. -/
theorem fin_pat {w w1 w3 : World} {gL nL cL : Nat} {L V : List Nat} (hOA : Only (fun _ => False) (w.alloc (.cells #[.slice none 0 0, .slice none 0 0] 37)) w1) (hO3 : Only (fun _ => False) w1 w3) (hNL : Nl w1 (some ⟨gL, 0, none⟩) nL L) (hL : nL = L.length) (hV : w3.heap[w1.heap.size]? = some (.cells (u8s V).toArray 5 (0, 0))) (hVl : V.length = nL + 1) (h24 : nL ≤ 24) (hg : w.heap.size + 1 ≤ gL) (h0 : 0 < nL) :
    rdP w (some ⟨L, V⟩) (.returned (.tuple #[.agg #[.slice (some ⟨gL, 0, none⟩) nL cL, .slice (some ⟨w1.heap.size, 0, none⟩) (nL + 1) (nL + 1)], .bool true])) ((w3.setCell ⟨w.heap.size, 0, none⟩ (.slice (some ⟨gL, 0, none⟩) nL cL)).setCell ⟨w.heap.size, 1, none⟩ (.slice (some ⟨w1.heap.size, 0, none⟩) (nL + 1) (nL + 1))) := by
  have hw1 : w.heap.size < w1.heap.size := by have := hOA.size; simp at this; omega
  obtain ⟨hl, b, off, h1, h2⟩ := hNL
  have hne : ∀ x, x ≠ w.heap.size → ((w3.setCell ⟨w.heap.size, 0, none⟩ (.slice (some ⟨gL, 0, none⟩) nL cL)).setCell ⟨w.heap.size, 1, none⟩ (.slice (some ⟨w1.heap.size, 0, none⟩) (nL + 1) (nL + 1))).heap[x]? = w3.heap[x]? := fun x hx => (Below.heap_setCell _ _ _ _ hx).trans (Below.heap_setCell _ _ _ _ hx)
  have hon : Only (fun _ => False) w w3 := (((Only.refl _ _).alloc _).trans hOA).trans hO3
  obtain ⟨e1, hb⟩ := h1 h0
  injection e1 with e1
  injection e1 with e1 e2 _
  subst e1
  subst e2
  have key : Nl ((w3.setCell ⟨w.heap.size, 0, none⟩ (.slice (some ⟨gL, 0, none⟩) nL cL)).setCell ⟨w.heap.size, 1, none⟩ (.slice (some ⟨w1.heap.size, 0, none⟩) (nL + 1) (nL + 1))) (some ⟨gL, 0, none⟩) nL L := by
    refine ⟨hl, gL, 0, fun _ => ⟨rfl, ?_⟩, fun j x hj => ?_⟩
    · have := hO3.size
      simp [World.setCell]
      omega
    · refine (World.cell?_of_block (a := ⟨gL, 0 + j, none⟩) ((hne gL (by omega)).trans (hO3.block gL hb (fun h => h)))).trans (h2 j x hj)
  have kv := blk_bl (L := V) (n := nL + 1) ((hne w1.heap.size (by omega)).trans hV) hVl
  refine ⟨gL, cL, w1.heap.size, nL + 1, ?_, ?_, ?_, ?_, ?_, set2_only hon (Nat.le_refl _) _ _, by omega, by omega, ?_, ?_⟩
  · simp only [hVl, ← hL]
  · simp only [← hL]; exact key
  · simp only [hVl]; exact kv
  · simp only; omega
  · simp only; omega
  · simp only; omega
  · simp only; omega
set_option maxRecDepth 100000 in
set_option maxHeartbeats 4000000 in
theorem pattern_any (S : List (Nat × Nat × Nat)) (a : Option Addr) (n c : Nat) (w : World) (hS : Sw w a n S) (hn : n ≤ 10000) :
    Calls Tryd.prog 24 #[.slice a n c] w (rdP w (Pt.patt (rs S))) := by
  obtain ⟨PR, hPR⟩ : ∃ PR, PR = Pt.patt (rs S) := ⟨_, rfl⟩
  rw [← hPR]
  have HZ : Hid (∀ W, Only (fun _ => False) (w.alloc (.cells #[.slice none 0 0, .slice none 0 0] 37)) W → W.heap[w.heap.size]? = some (.cells #[.slice none 0 0, .slice none 0 0] 37 (0, 0))) := fun W h => (h.block _ (by simp) (fun h => h)).trans (heap_alloc_new _ _)
  have HP := parted_dg S a n c (w.alloc (.cells #[.slice none 0 0, .slice none 0 0] 37)) (hS.keep ((Only.refl _ _).alloc _)) hn
  unfold Pt.patt at hPR
  cases hp : Pt.parted Pt.isDg (rs S) with
  | none =>
    rw [hp] at HP hPR
    simp only at hPR
    subst hPR
    have HC : Hid (Calls Tryd.prog 32 #[.slice a n c, .func (.func 33) #[] #[]] (w.alloc (.cells #[.slice none 0 0, .slice none 0 0] 37)) fun e w' => e = .returned (.tuple #[.slice none 0 0, .slice none 0 0, .bool false]) ∧ Only (fun _ => False) (w.alloc (.cells #[.slice none 0 0, .slice none 0 0] 37)) w') := HP
    clear HP hp hS
    go_enter Tryd.func24, Tryd.ntmps24
    go_wp2_with (go_at_call 32; refine Calls.mono HC.out ?_; rintro e w1 ⟨rfl, ho1⟩; have hb := HZ.out w1 ho1; have HB : Hid (w1.heap[w.heap.size]? = some (.cells #[.slice none 0 0, .slice none 0 0] 37 (0, 0))) := hb; have k0 : w1.cell? ⟨w.heap.size, 0, none⟩ = some (.slice none 0 0) := cell_blk hb; have k1 : w1.cell? ⟨w.heap.size, 1, none⟩ = some (.slice none 0 0) := cell_blk hb; have f0 := fz_blk hb 0; have f1 := fz_blk hb 1; have hl1 : w.heap.size < w1.heap.size := (Array.getElem?_eq_some_iff.1 hb).1; have HO1 : Hid (Only (fun _ => False) w w1) := ((Only.refl _ _).alloc _).trans ho1; clear ho1 hb)
    refine bodyPost_ret (v := .tuple #[.agg #[.slice none 0 0, .slice none 0 0], .bool false]) (results_row1 (p := 2) (u := 3) rfl _ _ w.heap.size 37 #[.slice none 0 0, .slice none 0 0] (0, 0) _ rfl (set2_blk HB.out) Tryd.underlying37 rfl sz37 rfl) rfl ?_
    exact ⟨rfl, set2_only HO1.out (Nat.le_refl _) _ _⟩
  | some r =>
    obtain ⟨L, M⟩ := r
    rw [hp] at HP hPR
    simp only at hPR
    have HMK : Hid (∀ x ∈ M, x = 0 ∨ Pt.isDg x = true) := parted_marks hp
    obtain ⟨nL, hnL⟩ : ∃ nL, nL = L.length := ⟨_, rfl⟩
    have HC : Hid (Calls Tryd.prog 32 #[.slice a n c, .func (.func 33) #[] #[]] (w.alloc (.cells #[.slice none 0 0, .slice none 0 0] 37)) fun e w' => ∃ gL cL gM cM, e = .returned (.tuple #[.slice (some ⟨gL, 0, none⟩) nL cL, .slice (some ⟨gM, 0, none⟩) (nL + 1) cM, .bool true]) ∧ Nl w' (some ⟨gL, 0, none⟩) nL L ∧ Nl w' (some ⟨gM, 0, none⟩) (nL + 1) M ∧ nL ≤ cL ∧ cL ≤ 9223372036854775807 ∧ w.heap.size + 1 ≤ gL ∧ Only (fun _ => False) (w.alloc (.cells #[.slice none 0 0, .slice none 0 0] 37)) w') := by
      refine Calls.mono HP ?_
      rintro e w' ⟨gL, cL, gM, cM, he, h1, h2, ho, h3, h4, h5⟩
      rw [h3, ← hnL] at he h2
      rw [← hnL] at h1
      exact ⟨gL, cL, gM, cM, he, own_nl h1 hnL.symm, own_nl h2 (by rw [h3, ← hnL]), (cap_of h1).1, (cap_of h1).2, by have := (h1.lt gL rfl).1; simpa using this, ho⟩
    obtain ⟨hL0, hL24, hML⟩ : 0 < nL ∧ nL ≤ 24 ∧ M.length = nL + 1 := by
      unfold Pt.parted at hp
      cases hr : Pt.raw Pt.isDg (rs S) 0 with
      | none => rw [hr] at hp; cases hp
      | some r =>
        obtain ⟨L', M'⟩ := r
        rw [hr] at hp
        simp only at hp
        split at hp
        · cases hp
        · rename_i hh
          injection hp with hp
          injection hp with e1 e2
          subst e1 e2
          have := (Pt.raw_len (by decide) _ _ _ _ hr).1
          simp only [not_or] at hh
          exact ⟨by omega, by omega, by omega⟩
    clear HP hp hS
    obtain ⟨B, hB⟩ : ∃ B, B = Pt.ends L M := ⟨_, rfl⟩
    have HBB : Hid (B = Pt.ends L M) := hB
    rw [← hB] at hPR
    have HLL : Hid (nL = L.length) := hnL
    have HMLL : Hid (M.length = nL + 1) := hML
    have nL0 : 0 < nL := hL0
    clear hB hnL hML
    cases B with
    | false =>
      rw [if_neg (by decide)] at hPR
      subst hPR
      go_enter Tryd.func24, Tryd.ntmps24
      go_wp2_with (first
        | (go_at_call 32; refine Calls.mono HC.out ?_; rintro e w1 ⟨gL, cL, gM, cM, rfl, hNL, hNM, hc1, hc2, hgL, ho1⟩; have hb := HZ.out w1 ho1; have HB : Hid (w1.heap[w.heap.size]? = some (.cells #[.slice none 0 0, .slice none 0 0] 37 (0, 0))) := hb; have k0 : w1.cell? ⟨w.heap.size, 0, none⟩ = some (.slice none 0 0) := cell_blk hb; have k1 : w1.cell? ⟨w.heap.size, 1, none⟩ = some (.slice none 0 0) := cell_blk hb; have f0 := fz_blk hb 0; have f1 := fz_blk hb 1; have hl1 : w.heap.size < w1.heap.size := (Array.getElem?_eq_some_iff.1 hb).1; have HO1 : Hid (Only (fun _ => False) w w1) := ((Only.refl _ _).alloc _).trans ho1; have HPE : Hid (Calls Tryd.prog 34 #[.slice (some ⟨gL, 0, none⟩) nL cL, .slice (some ⟨gM, 0, none⟩) (nL + 1) cM] w1 fun e w' => e = .returned (.bool false) ∧ w' = w1) := (by have := points_any L M _ _ nL cL cM w1 hNL hNM nL0 hL24 hc1 hc2; rw [← HBB.out] at this; exact this); clear ho1 hb hNL hNM hc1 hc2)
        | (go_at_call 34; refine Calls.mono HPE.out ?_; rintro e w2 ⟨rfl, hw2⟩; obtain rfl := hw2.symm))
      refine bodyPost_ret (v := .tuple #[.agg #[.slice none 0 0, .slice none 0 0], .bool false]) (results_row1 (p := 2) (u := 3) rfl _ _ w.heap.size 37 #[.slice none 0 0, .slice none 0 0] (0, 0) _ rfl (set2_blk HB.out) Tryd.underlying37 rfl sz37 rfl) rfl ?_
      exact ⟨rfl, set2_only HO1.out (Nat.le_refl _) _ _⟩
    | true =>
      rw [if_pos rfl] at hPR
      subst hPR
      go_enter Tryd.func24, Tryd.ntmps24
      go_wp2_with (first
        | (go_at_call 32; refine Calls.mono HC.out ?_; rintro e w1 ⟨gL, cL, gM, cM, rfl, hNL, hNM, hc1, hc2, hgL, ho1⟩; have HOA : Hid (Only (fun _ => False) (w.alloc (.cells #[.slice none 0 0, .slice none 0 0] 37)) w1) := ho1; have HNL : Hid (Nl w1 (some ⟨gL, 0, none⟩) nL L) := hNL; have HVC : Hid (Calls Tryd.prog 35 #[.slice (some ⟨gM, 0, none⟩) (nL + 1) cM, .func (.func 36) #[] #[]] w1 fun e w' => e = .returned (.slice (some ⟨w1.heap.size, 0, none⟩) (nL + 1) (nL + 1)) ∧ w'.heap[w1.heap.size]? = some (.cells (u8s (M.map Pt.dval)).toArray 5 (0, 0)) ∧ Only (fun _ => False) w1 w') := valued_dg M _ (nL + 1) cM w1 hNM (by omega) HMK.out; have HPE : Hid (Calls Tryd.prog 34 #[.slice (some ⟨gL, 0, none⟩) nL cL, .slice (some ⟨gM, 0, none⟩) (nL + 1) cM] w1 fun e w' => e = .returned (.bool true) ∧ w' = w1) := (by have := points_any L M _ _ nL cL cM w1 hNL hNM nL0 hL24 hc1 hc2; rw [← HBB.out] at this; exact this); clear ho1 hNL hNM hc1 hc2)
        | (go_at_call 34; refine Calls.mono HPE.out ?_; rintro e w2 ⟨rfl, hw2⟩; obtain rfl := hw2.symm)
        | (go_at_call 35; refine Calls.mono HVC.out ?_; rintro e w3 ⟨rfl, hv3, ho3⟩; have hb := HZ.out w3 (HOA.out.trans ho3); have HB : Hid (w3.heap[w.heap.size]? = some (.cells #[.slice none 0 0, .slice none 0 0] 37 (0, 0))) := hb; have k0 : w3.cell? ⟨w.heap.size, 0, none⟩ = some (.slice none 0 0) := cell_blk hb; have k1 : w3.cell? ⟨w.heap.size, 1, none⟩ = some (.slice none 0 0) := cell_blk hb; have f0 := fz_blk hb 0; have f1 := fz_blk hb 1; have hl1 : w.heap.size < w3.heap.size := (Array.getElem?_eq_some_iff.1 hb).1; have HO3 : Hid (Only (fun _ => False) w1 w3) := ho3; have HV3 : Hid (w3.heap[w1.heap.size]? = some (.cells (u8s (M.map Pt.dval)).toArray 5 (0, 0))) := hv3; clear hb ho3 hv3))
      refine bodyPost_ret (v := .tuple #[.agg #[.slice (some ⟨gL, 0, none⟩) nL cL, .slice (some ⟨w1.heap.size, 0, none⟩) (nL + 1) (nL + 1)], .bool true]) (results_row1 (p := 2) (u := 3) rfl _ _ w.heap.size 37 #[.slice (some ⟨gL, 0, none⟩) nL cL, .slice (some ⟨w1.heap.size, 0, none⟩) (nL + 1) (nL + 1)] (0, 0) _ rfl (set2_blk HB.out) Tryd.underlying37 rfl sz37 rfl) rfl ?_
      exact fin_pat (w := w) (w1 := w1) (w3 := w3) HOA.out HO3.out HNL.out HLL.out HV3.out (by rw [List.length_map]; exact HMLL.out) (by omega) hgL nL0
end Go.Proofs.YtjgbfpemkjpikaaDoor
