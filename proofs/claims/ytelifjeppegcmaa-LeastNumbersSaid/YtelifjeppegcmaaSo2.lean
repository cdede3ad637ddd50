/-
  sameOut: the states by what their Out is.
-/
import Derived.Test.YtelifjeppegcmaaSo
namespace Go.Proofs.Ytelifjeppegcmaa
open Go.RowKit Go.Maps Go.Shelf
set_option linter.unusedVariables false
set_option linter.unusedSimpArgs false
/-- the runs of one Out, so far. -/
structure Rns (n : Nat) (V : Nat → Nat) (i f : Nat) (ss : List (Nat × Nat)) : Prop where
  le : f ≤ i
  len : ss.length ≤ f
  low : ∀ p q, p < f → f ≤ q → q < n → V p < V q
  same : ∀ p, f ≤ p → p ≤ i → p < n → V p = V f
  seg : ∀ a ∈ ss, a.1 < a.2 ∧ a.2 ≤ f ∧ ∀ p q, a.1 ≤ p → p < a.2 → q < n → (V q = V p ↔ a.1 ≤ q ∧ q < a.2)
  all : ∀ p, p < f → ∃ a ∈ ss, a.1 ≤ p ∧ p < a.2
theorem Rns.start (n : Nat) (V : Nat → Nat) : Rns n V 0 0 [] :=
  ⟨Nat.le_refl _, Nat.le_refl _, fun p q h => by omega, fun p h1 h2 h3 => by obtain rfl : p = 0 := by omega
                                                                             rfl, by simp, fun p h => by omega⟩
theorem Rns.on {n i f : Nat} {V : Nat → Nat} {ss : List (Nat × Nat)} (h : Rns n V i f ss) (e : V i = V (i + 1)) (hi : i + 1 < n) : Rns n V (i + 1) f ss :=
  ⟨by have := h.le; omega, h.len, h.low, fun p h1 h2 h3 => by
    by_cases e2 : p = i + 1
    · subst e2; rw [← e]; exact h.same i h.le (Nat.le_refl _) (by omega)
    · exact h.same p h1 (by omega) h3, h.seg, h.all⟩
theorem Rns.shut {n i f : Nat} {V : Nat → Nat} {ss : List (Nat × Nat)} (h : Rns n V i f ss) (hi : i < n) (so : ∀ p q, p < q → q < n → V p ≤ V q) (e : i + 1 = n ∨ V i ≠ V (i + 1)) : Rns n V (i + 1) (i + 1) (ss ++ [(f, i + 1)]) := by
  have hle := h.le
  have up : ∀ p q, p < i + 1 → i + 1 ≤ q → q < n → V p < V q := fun p q h1 h2 h3 => by
    have e1 : V i < V (i + 1) := by
      rcases e with e | e
      · omega
      · have := so i (i + 1) (by omega) (by omega); omega
    have a1 : V p ≤ V i := by
      by_cases e2 : p = i
      · rw [e2]; exact Nat.le_refl _
      · exact so p i (by omega) (by omega)
    have a2 : V (i + 1) ≤ V q := by
      by_cases e2 : q = i + 1
      · rw [e2]; exact Nat.le_refl _
      · exact so (i + 1) q (by omega) h3
    omega
  refine ⟨Nat.le_refl _, by have := h.len; simp; omega, up, fun p h1 h2 h3 => by obtain rfl : p = i + 1 := by omega
                                                                                 rfl, fun a ha => ?_, fun p hp => ?_⟩
  · rw [List.mem_append] at ha
    rcases ha with ha | ha
    · obtain ⟨a1, a2, a3⟩ := h.seg a ha
      exact ⟨a1, by omega, a3⟩
    · obtain rfl : a = (f, i + 1) := by simpa using ha
      refine ⟨by show f < i + 1; omega, Nat.le_refl _, fun p q h1 h2 h3 => ?_⟩
      have h1' : f ≤ p := h1
      have h2' : p < i + 1 := h2
      have ep := h.same p h1' (by omega) (by omega)
      constructor
      · intro eq
        refine ⟨?_, ?_⟩
        · apply Nat.le_of_not_lt
          intro hq
          have := h.low q p hq h1' (by omega)
          omega
        · apply Nat.lt_of_not_le
          intro hq
          have := up p q h2' hq h3
          omega
      · rintro ⟨x1, x2⟩
        have x2' : q < i + 1 := x2
        rw [ep]
        exact h.same q x1 (by omega) h3
  · by_cases hf : p < f
    · obtain ⟨a, ha, h1⟩ := h.all p hf
      exact ⟨a, by simp [ha], h1⟩
    · exact ⟨(f, i + 1), by simp, by show f ≤ p; omega, hp⟩
/-- a run as a slice of the states. -/
def hdr (b n : Nat) (a : Nat × Nat) : Value := .slice (some ⟨b, a.1, none⟩) (a.2 - a.1) (n - a.1)
/-- the Out of the state that stands at a place. -/
def Vo (O : Nat → Nat) (L : List Nat) (p : Nat) : Nat := O (L.getD p 0)
theorem vo_so {n : Nat} {O : Nat → Nat} {L : List Nat} (hl : L.length = n) (so : ∀ i j x y : Nat, i < j → L[i]? = some x → L[j]? = some y → O x ≤ O y) : ∀ p q, p < q → q < n → Vo O L p ≤ Vo O L q := fun p q h1 h2 => by
  have e1 : L[p]? = some (L.getD p 0) := by rw [List.getD_eq_getElem?_getD, List.getElem?_eq_getElem (by omega)]; rfl
  have e2 : L[q]? = some (L.getD q 0) := by rw [List.getD_eq_getElem?_getD, List.getElem?_eq_getElem (by omega)]; rfl
  exact so p q _ _ h1 e1 e2
theorem own_base {w : World} {base base' e size n : Nat} {v : Value} {xs : List Value} (h : w.ownsRow base e size v n xs) (hb : base' ≤ base) : w.ownsRow base' e size v n xs := by
  obtain ⟨hl, h | ⟨g, cap, cur, hv, h1, h2⟩⟩ := h
  · exact ⟨hl, Or.inl h⟩
  · exact ⟨hl, Or.inr ⟨g, cap, cur, hv, by omega, h2⟩⟩
theorem gd {L : List Nat} {i x : Nat} (h : L[i]? = some x) (O : Nat → Nat) : Vo O L i = O x := by unfold Vo; rw [List.getD_eq_getElem?_getD, h]; rfl
theorem info23b : (Try.prog.info? 23).map (fun i => (i.zero, i.size, i.bytes)) = some (some (.slice none 0 0), 1, 24) := by kernel_rfl
set_option maxRecDepth 100000 in
set_option maxHeartbeats 4000000 in
theorem sameOut_any (aN : Option Addr) (nN cN n bo oo co : Nat) (O : Nat → Nat) (w : World) (h0 : 0 < n) (hn : n ≤ 100000) (h2 : ∀ s, s < n → w.cell? ⟨bo, oo + s, none⟩ = some (.int .u32 (O s : Int))) :
    Calls Try.prog 24 #[.agg #[.slice aN nN cN, .slice (some ⟨bo, oo, none⟩) n co]] w fun e w' => ∃ b v L ss, e = .returned v ∧ w.heap.size ≤ b ∧ L.Perm (List.range n) ∧ Nb w' b L ∧ Rns n (Vo O L) n n ss ∧ w'.ownsRow (b + 1) 23 1 v ss.length (ss.map (hdr b n)) ∧ Only (fun _ => False) w w' := by
  have hmk := fun (w : World) => run_make_row' (P := Try.prog) 23 3 (.int .i64 0) 8 Try.underlying23 info3b rfl .i64 .i64 n (by omega) (by omega) w
  have HO : Hid (∀ s, s < n → w.cell? ⟨bo, oo + s, none⟩ = some (.int .u32 (O s : Int))) := h2
  have lbo := World.block_lt_of_cell? w _ (h2 0 h0)
  clear h2
  go_enter Try.func24, Try.ntmps24
  go_wp2_with fail
  rw [made_i64]
  obtain ⟨W, hW⟩ : ∃ W, W = (w.alloc (.cells #[.slice aN nN cN, .slice (some ⟨bo, oo, none⟩) n co] 27)).alloc (.cells (nums (List.replicate n 0)) 3) := ⟨_, rfl⟩
  rw [← hW]
  have HW : Hid (W.heap[w.heap.size]? = some (.cells #[.slice aN nN cN, .slice (some ⟨bo, oo, none⟩) n co] 27 (0, 0)) ∧ Nb W (w.heap.size + 1) (List.replicate n 0) ∧ Only (fun _ => False) w W) := by
    rw [hW]
    refine ⟨bx_made w _ _, ?_, ((Only.refl _ _).alloc _).alloc _⟩
    have := heap_alloc_new (w.alloc (.cells #[.slice aN nN cN, .slice (some ⟨bo, oo, none⟩) n co] 27)) (.cells (nums (List.replicate n 0)) 3)
    rw [show (w.alloc (.cells #[.slice aN nN cN, .slice (some ⟨bo, oo, none⟩) n co] 27)).heap.size = w.heap.size + 1 by simp] at this
    exact this
  clear hW hmk
  go_loopg [14] n (fun gh v wr => ∃ (k : Nat) (Y : World), Y = wr ∧ gh = n - k ∧ k ≤ n ∧ v = .int .i64 (k : Int) ∧ Nb Y (w.heap.size + 1) (upto n k) ∧ Only (fun b => b = w.heap.size + 1) W Y)
  case atStart => exact ⟨0, _, rfl, rfl, Nat.zero_le _, rfl, by rw [upto_zero]; exact HW.out.2.1, Only.refl _ _⟩
  case round =>
    obtain ⟨k, Y, hY, rfl, hk, rfl, hr, ho⟩ := hrel
    subst hY
    have HY : Hid (Nb Y (w.heap.size + 1) (upto n k) ∧ Only (fun b => b = w.heap.size + 1) W Y) := ⟨hr, ho⟩
    by_cases hlt : k < n
    · have t1 : (k : Int) < (n : Int) := by omega
      obtain ⟨x1, hx1⟩ : ∃ x1, (upto n k)[k]? = some x1 := ⟨_, List.getElem?_eq_getElem (by rw [upto_len hk]; exact hlt)⟩
      have c1 := hr.cell hx1
      have f1 : ∀ x, Y.frozen? ⟨w.heap.size + 1, x, none⟩ = false := fun x => hr.fz x
      have lrb := hr.lt
      clear hr ho hx1
      go_wp2_with fail
      go_roundg (n - (k + 1))
      case measure => omega
      case rel =>
        refine ⟨k + 1, _, rfl, rfl, by omega, by go_num, ?_, ?_⟩
        · have := HY.out.1.set k k
          rw [upto_set hlt] at this
          exact this
        · exact HY.out.2.setCell (p := ⟨w.heap.size + 1, k, none⟩) rfl _
    · have t2 : decide ((k : Int) < (n : Int)) = false := decide_eq_false (by omega)
      have hkn : k = n := by omega
      subst hkn
      clear hr ho
      have hN : Nb Y (w.heap.size + 1) (List.range k) := by have := HY.out.1; rw [upto_full] at this; exact this
      have hA : Y.heap[w.heap.size]? = some (.cells #[.slice aN nN cN, .slice (some ⟨bo, oo, none⟩) k co] 27 (0, 0)) := (HY.out.2.block _ (Array.getElem?_eq_some_iff.1 HW.out.1).1 (by omega)).trans HW.out.1
      have hOY : ∀ s, s < k → Y.cell? ⟨bo, oo + s, none⟩ = some (.int .u32 (O s : Int)) := fun s hs => by
        have e1 := HW.out.2.2.block bo lbo (fun h => h)
        have e2 := HY.out.2.block bo (Nat.lt_of_lt_of_le lbo HW.out.2.2.size) (by omega)
        exact (World.cell?_of_block (a := ⟨bo, oo + s, none⟩) (e2.trans e1)).trans (HO.out s hs)
      have HC := sort_any k w.heap.size bo oo co (w.heap.size + 1) O Y h0 hn hN (cell_blk hA) hOY (by omega) (by omega)
      have HC : Hid (Calls Try.prog 32 #[.slice (some ⟨w.heap.size + 1, 0, none⟩) k k, .func (.func 33) #[] #[.pointer (some ⟨w.heap.size, 0, none⟩)]] Y fun e w' => e = .returned (.tuple #[]) ∧ ∃ L : List Nat, L.Perm (List.range k) ∧ (∀ i j x y : Nat, i < j → L[i]? = some x → L[j]? = some y → O x ≤ O y) ∧ Nb w' (w.heap.size + 1) L ∧ Only (fun b => b = w.heap.size + 1) Y w') := HC
      have HA : Hid (Y.heap[w.heap.size]? = some (.cells #[.slice aN nN cN, .slice (some ⟨bo, oo, none⟩) k co] 27 (0, 0))) := hA
      have HOY : Hid (∀ s, s < k → Y.cell? ⟨bo, oo + s, none⟩ = some (.int .u32 (O s : Int))) := hOY
      clear hN hA hOY
      go_wp2_with (first | (go_at_call 32; refine Calls.mono HC.out ?_; rintro e Z ⟨rfl, L, hp, hso, hL, hoZ⟩; have HZ : Hid (L.Perm (List.range k) ∧ (∀ i j x y : Nat, i < j → L[i]? = some x → L[j]? = some y → O x ≤ O y) ∧ Nb Z (w.heap.size + 1) L ∧ Only (fun b => b = w.heap.size + 1) Y Z) := ⟨hp, hso, hL, hoZ⟩; clear hp hso hL hoZ))
      clear HC
      have HD : Hid (L.length = k ∧ (∀ x ∈ L, x < k) ∧ Z.heap[w.heap.size]? = some (.cells #[.slice aN nN cN, .slice (some ⟨bo, oo, none⟩) k co] 27 (0, 0)) ∧ (∀ s, s < k → Z.cell? ⟨bo, oo + s, none⟩ = some (.int .u32 (O s : Int))) ∧ Only (fun _ => False) w Z ∧ w.heap.size + 2 ≤ Z.heap.size) := by
        obtain ⟨h1, h2, h3, h4⟩ := HZ.out
        have lY := (Array.getElem?_eq_some_iff.1 HA.out).1
        refine ⟨by rw [h1.length_eq, List.length_range], fun x hx => by simpa using h1.mem_iff.1 hx, (h4.block _ lY (by omega)).trans HA.out, fun s hs => ?_, ?_, by have := h3.lt; omega⟩
        · have lb := World.block_lt_of_cell? Y _ (HOY.out s hs)
          exact (World.cell?_of_block (a := ⟨bo, oo + s, none⟩) (h4.block bo lb (by omega))).trans (HOY.out s hs)
        · have := ((HW.out.2.2.mono (S' := fun b => b = w.heap.size + 1) (fun _ h => h.elim)).trans HY.out.2).trans h4
          exact this.old (fun g hg => Or.inl (by omega))
      clear HA HOY HY HW
      obtain ⟨i23, g23, g230, g231, g232⟩ := info_parts info23b
      go_loopg [5, 6, 27] k (fun gh v5 v6 v27 wr => ∃ (i f : Nat) (a5 : Option Addr) (m5 c5 : Nat) (ss : List (Nat × Nat)) (X : World), X = wr ∧ gh = k - i ∧ i ≤ k ∧ v5 = .slice a5 m5 c5 ∧ v6 = .int .i64 (f : Int) ∧ v27 = .int .i64 (i : Int) ∧ m5 = ss.length ∧ Rns k (Vo O L) i f ss ∧ (i = k → f = k) ∧ X.ownsRow Z.heap.size 23 1 (.slice a5 m5 c5) m5 (ss.map (hdr (w.heap.size + 1) k)) ∧ Only (fun _ => False) Z X)
      case atStart => exact ⟨0, 0, none, 0, 0, [], _, rfl, rfl, Nat.zero_le _, rfl, rfl, rfl, rfl, Rns.start _ _, fun h => by omega, ⟨rfl, Or.inl ⟨rfl, rfl⟩⟩, Only.refl _ _⟩
      case round =>
        obtain ⟨i, f, a5, m5, c5, ss, X, hX, rfl, hi, rfl, rfl, rfl, hm5, hR, hF, hown, hoX⟩ := hrel
        subst hX
        have HR : Hid (Rns k (Vo O L) i f ss ∧ (i = k → f = k) ∧ X.ownsRow Z.heap.size 23 1 (.slice a5 m5 c5) m5 (ss.map (hdr (w.heap.size + 1) k)) ∧ Only (fun _ => False) Z X ∧ m5 = ss.length) := ⟨hR, hF, hown, hoX, hm5⟩
        have hfi := hR.le
        have hml := hR.len
        rw [← hm5] at hml
        clear hR hF hown hoX hm5
        by_cases hlt : i < k
        · have t1 : (i : Int) < (k : Int) := by omega
          have hA : X.cell? ⟨w.heap.size, 1, none⟩ = some (.slice (some ⟨bo, oo, none⟩) k co) := cell_blk ((HR.out.2.2.2.1.block _ (Array.getElem?_eq_some_iff.1 HD.out.2.2.1).1 (fun h => h)).trans HD.out.2.2.1)
          have hLX : Nb X (w.heap.size + 1) L := HZ.out.2.2.1.only HR.out.2.2.2.1 (fun h => h)
          obtain ⟨x, hx⟩ : ∃ x, L[i]? = some x := ⟨_, List.getElem?_eq_getElem (by have := HD.out.1; omega)⟩
          have hxk : x < k := HD.out.2.1 x (List.mem_of_getElem? hx)
          have cx := hLX.cell hx
          have kO : ∀ s, s < k → X.cell? ⟨bo, oo + s, none⟩ = some (.int .u32 (O s : Int)) := fun s hs => (World.cell?_of_block (a := ⟨bo, oo + s, none⟩) (HR.out.2.2.2.1.block bo (World.block_lt_of_cell? Z _ (HD.out.2.2.2.1 s hs)) (fun h => h))).trans (HD.out.2.2.2.1 s hs)
          have cox := kO x hxk
          have lb1 := World.block_lt_of_cell? X _ hA
          have lb2 := World.block_lt_of_cell? X _ cx
          have lb3 := World.block_lt_of_cell? X _ cox
          have HX : Hid (L[i]? = some x) := hx
          have HKO : Hid (∀ s, s < k → X.cell? ⟨bo, oo + s, none⟩ = some (.int .u32 (O s : Int))) := kO
          have tx : (x : Int) < (k : Int) := by omega
          clear hx kO
          by_cases hl1 : i + 1 = k
          · have tl : (i : Int) + 1 = (k : Int) := by omega
            have hsh : i + 1 = k ∨ Vo O L i ≠ Vo O L (i + 1) := Or.inl hl1
            clear hLX
            go_wp2_with fail
            go_quiet (fail)
            have s1 : (f : Int) ≤ (i : Int) + 1 := by omega
            have s2 : (i : Int) + 1 ≤ (k : Int) := by omega
            have s3 : (i : Int) + 1 - (f : Int) = ((i + 1 - f : Nat) : Int) := by omega
            have s4 : f ≤ i + 1 := by omega
            have s5 : ¬ k = f := by omega
            have s6 : (k : Int) - (f : Int) = ((k - f : Nat) : Int) := by omega
            go_wp2_with (first | (at_builtin; refine wpList_append_own_at _ rfl _ _ 25 rfl Z.heap.size 23 i23 (.slice none 0 0) 1 24 Try.underlying25 g23 g230 g231 g232 rfl (by decide) (.slice a5 m5 c5) m5 (ss.map (hdr (w.heap.size + 1) k)) rfl (own_only HR.out.2.2.1 (((Only.refl (fun _ => False) X).drewN _).alloc _) (fun _ _ h => h)) ⟨X.heap.size, 0, none⟩ 1 1 [.slice (some ⟨w.heap.size + 1, f, none⟩) (k - f) (k - f)] rfl rfl (news1 _ _ _) (fun u hu => by simp at hu; subst hu; rfl) (by unfold maxLen; omega) (by omega) (by have := HR.out.2.2.2.1.size; simp; omega) ?_; intro v3 w3 ho3 hg3 _ hat3; obtain ⟨a3, c3, rfl⟩ := own_form ho3; have HO3 : Hid (w3.ownsRow Z.heap.size 23 1 (.slice a3 (m5 + 1) c3) (m5 + 1) (ss.map (hdr (w.heap.size + 1) k) ++ [.slice (some ⟨w.heap.size + 1, f, none⟩) (k - f) (k - f)])) := ho3; have HK3 : Hid (Only (fun _ => False) Z w3) := (by
                have hb : ∀ q, (Value.slice a5 m5 c5).ownBlock = some q → Z.heap.size ≤ q := fun q hk => (by
                  obtain ⟨_, ⟨hv, _⟩ | ⟨g', cap', cur', hv, h1, _⟩⟩ := HR.out.2.2.1
                  · rw [hv] at hk; cases hk
                  · rw [hv] at hk; injection hk with hk; subst hk; exact h1)
                exact ((((HR.out.2.2.2.1.mono (S' := fun b => Z.heap.size ≤ b) (fun _ h => h.elim)).drewN _).alloc _).grown hg3 hb).old (fun g hg => Or.inl hg)); clear ho3 hg3 hat3))
            go_roundg (k - (i + 1))
            case measure => omega
            case rel =>
              refine ⟨i + 1, i + 1, a3, m5 + 1, c3, ss ++ [(f, i + 1)], _, rfl, rfl, by omega, rfl, by go_num, by go_num, by rw [List.length_append, ← HR.out.2.2.2.2]; rfl, HR.out.1.shut hlt (vo_so HD.out.1 HZ.out.2.1) hsh, fun h => h, by rw [List.map_append]; exact (by have e : hdr (w.heap.size + 1) k (f, i + 1) = .slice (some ⟨w.heap.size + 1, f, none⟩) (k - f) (k - f) := (by unfold hdr; rw [hl1]); rw [List.map_cons, List.map_nil, e]; exact HO3.out), HK3.out⟩
          · have hl2 : i + 1 < k := by omega
            have tl : ((i : Int) + 1 == (k : Int)) = false := by rw [beq_eq_false_iff_ne]; omega
            have tl0 : ¬ ((i : Int) + 1 = (k : Int)) := by omega
            have tl2 : (i : Int) + 1 < (k : Int) := by omega
            obtain ⟨y, hy⟩ : ∃ y, L[i + 1]? = some y := ⟨_, List.getElem?_eq_getElem (by have := HD.out.1; omega)⟩
            have hyk : y < k := HD.out.2.1 y (List.mem_of_getElem? hy)
            have cy := hLX.cell hy
            have coy := HKO.out y hyk
            have ty : (y : Int) < (k : Int) := by omega
            have HYy : Hid (L[i + 1]? = some y) := hy
            clear hy hLX
            by_cases hne : O x = O y
            · have tn : ((O x : Int) == (O y : Int)) = true := by rw [beq_iff_eq]; omega
              go_wp2_with fail
              go_quiet (fail)
              go_wp2_with fail
              go_roundg (k - (i + 1))
              case measure => omega
              case rel =>
                refine ⟨i + 1, f, a5, m5, c5, ss, _, rfl, rfl, by omega, rfl, rfl, by go_num, HR.out.2.2.2.2, HR.out.1.on (by rw [gd HX.out, gd HYy.out]; exact hne) hl2, fun h => by omega, ?_, HR.out.2.2.2.1.drewN _⟩
                exact own_only HR.out.2.2.1 ((Only.refl (fun _ => False) X).drewN _) (fun _ _ h => h)
            · have tn : ((O x : Int) == (O y : Int)) = false := by rw [beq_eq_false_iff_ne]; omega
              have hsh : i + 1 = k ∨ Vo O L i ≠ Vo O L (i + 1) := Or.inr (by rw [gd HX.out, gd HYy.out]; exact hne)
              go_wp2_with fail
              go_quiet (fail)
              have s1 : (f : Int) ≤ (i : Int) + 1 := by omega
              have s2 : (i : Int) + 1 ≤ (k : Int) := by omega
              have s3 : (i : Int) + 1 - (f : Int) = ((i + 1 - f : Nat) : Int) := by omega
              have s4 : f ≤ i + 1 := by omega
              have s5 : ¬ k = f := by omega
              have s6 : (k : Int) - (f : Int) = ((k - f : Nat) : Int) := by omega
              go_wp2_with (first | (at_builtin; refine wpList_append_own_at _ rfl _ _ 25 rfl Z.heap.size 23 i23 (.slice none 0 0) 1 24 Try.underlying25 g23 g230 g231 g232 rfl (by decide) (.slice a5 m5 c5) m5 (ss.map (hdr (w.heap.size + 1) k)) rfl (own_only HR.out.2.2.1 (((Only.refl (fun _ => False) X).drewN _).alloc _) (fun _ _ h => h)) ⟨X.heap.size, 0, none⟩ 1 1 [.slice (some ⟨w.heap.size + 1, f, none⟩) (i + 1 - f) (k - f)] rfl rfl (news1 _ _ _) (fun u hu => by simp at hu; subst hu; rfl) (by unfold maxLen; omega) (by omega) (by have := HR.out.2.2.2.1.size; simp; omega) ?_; intro v3 w3 ho3 hg3 _ hat3; obtain ⟨a3, c3, rfl⟩ := own_form ho3; have HO3 : Hid (w3.ownsRow Z.heap.size 23 1 (.slice a3 (m5 + 1) c3) (m5 + 1) (ss.map (hdr (w.heap.size + 1) k) ++ [.slice (some ⟨w.heap.size + 1, f, none⟩) (i + 1 - f) (k - f)])) := ho3; have HK3 : Hid (Only (fun _ => False) Z w3) := (by
                  have hb : ∀ q, (Value.slice a5 m5 c5).ownBlock = some q → Z.heap.size ≤ q := fun q hk => (by
                    obtain ⟨_, ⟨hv, _⟩ | ⟨g', cap', cur', hv, h1, _⟩⟩ := HR.out.2.2.1
                    · rw [hv] at hk; cases hk
                    · rw [hv] at hk; injection hk with hk; subst hk; exact h1)
                  exact ((((HR.out.2.2.2.1.mono (S' := fun b => Z.heap.size ≤ b) (fun _ h => h.elim)).drewN _).alloc _).grown hg3 hb).old (fun g hg => Or.inl hg)); clear ho3 hg3 hat3))
              go_roundg (k - (i + 1))
              case measure => omega
              case rel =>
                refine ⟨i + 1, i + 1, a3, m5 + 1, c3, ss ++ [(f, i + 1)], _, rfl, rfl, by omega, rfl, by go_num, by go_num, by rw [List.length_append, ← HR.out.2.2.2.2]; rfl, HR.out.1.shut hlt (vo_so HD.out.1 HZ.out.2.1) hsh, fun h => h, by rw [List.map_append]; exact (HO3.out), HK3.out⟩
        · have t2 : decide ((i : Int) < (k : Int)) = false := decide_eq_false (by omega)
          obtain rfl : i = k := by omega
          go_wp2_with fail
          go_ret
          obtain ⟨h1, h2, h3, h4, h5⟩ := HR.out
          obtain rfl : f = i := h2 trivial
          subst h5
          exact ⟨w.heap.size + 1, _, rfl, by omega, L, HZ.out.1, HZ.out.2.2.1.only h4 (fun h => h), ss, h1, own_base h3 (by have := HD.out.2.2.2.2.2; omega), HD.out.2.2.2.2.1.trans h4⟩
end Go.Proofs.Ytelifjeppegcmaa
