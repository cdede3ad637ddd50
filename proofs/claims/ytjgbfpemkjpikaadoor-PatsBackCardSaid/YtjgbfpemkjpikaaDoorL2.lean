/-
  pats.parted: a word's letters and marks.
-/
import Derived.Test.YtjgbfpemkjpikaaDoorL1
namespace Go.Proofs.YtjgbfpemkjpikaaDoor
open Go.RowKit Go.Maps
set_option linter.unusedVariables false
set_option linter.unusedSimpArgs false
/-- numbers as cells. -/
def i32s (l : List Nat) : List Value := l.map (fun (x : Nat) => Value.int .i32 (x : Int))
theorem i32s_app (a : List Nat) (x : Nat) : i32s a ++ [.int .i32 (x : Int)] = i32s (a ++ [x]) := by unfold i32s; simp
/-- a slice of signs. -/
def Sw (w : World) (a : Option Addr) (n : Nat) (S : List (Nat × Nat × Nat)) : Prop := S.length = n ∧ ∃ b off, (0 < n → a = some ⟨b, off, none⟩ ∧ b < w.heap.size) ∧ ∀ (j : Nat) (x : Nat × Nat × Nat), S[j]? = some x → w.cell? ⟨b, off + j * 3, none⟩ = some (.int .i32 (x.1 : Int)) ∧ w.cell? ⟨b, off + j * 3 + 1, none⟩ = some (.int .i64 (x.2.1 : Int)) ∧ w.cell? ⟨b, off + j * 3 + 2, none⟩ = some (.int .i64 (x.2.2 : Int))
theorem Sw.keep {w w' : World} {a : Option Addr} {n : Nat} {S : List (Nat × Nat × Nat)} (h : Sw w a n S) (ho : Only (fun _ => False) w w') : Sw w' a n S := by
  obtain ⟨hl, b, off, h1, h2⟩ := h
  refine ⟨hl, b, off, fun h => ⟨(h1 h).1, Nat.lt_of_lt_of_le (h1 h).2 ho.size⟩, fun j x hj => ?_⟩
  have hb := (h1 (by have := (List.getElem?_eq_some_iff.1 hj).1; omega)).2
  have hk := fun o => World.cell?_of_block (a := ⟨b, o, none⟩) (ho.block b hb (fun h => h))
  obtain ⟨k0, k1, k2⟩ := h2 j x hj
  exact ⟨(hk _).trans k0, (hk _).trans k1, (hk _).trans k2⟩
theorem Sw.at {w : World} {a : Option Addr} {n : Nat} {S : List (Nat × Nat × Nat)} (h : Sw w a n S) {i : Nat} (hi : i < n) : ∃ b off r p q, a = some ⟨b, off, none⟩ ∧ b < w.heap.size ∧ S[i]? = some (r, p, q) ∧ w.cell? ⟨b, off + i * 3, none⟩ = some (.int .i32 (r : Int)) ∧ w.cell? ⟨b, off + i * 3 + 1, none⟩ = some (.int .i64 (p : Int)) ∧ w.cell? ⟨b, off + i * 3 + 2, none⟩ = some (.int .i64 (q : Int)) := by
  obtain ⟨hl, b, off, h1, h2⟩ := h
  obtain ⟨ha, hb⟩ := h1 (by omega)
  have hx : S[i]? = some S[i] := List.getElem?_eq_getElem (by omega)
  obtain ⟨k0, k1, k2⟩ := h2 i _ hx
  exact ⟨b, off, _, _, _, ha, hb, hx, k0, k1, k2⟩
def rs (S : List (Nat × Nat × Nat)) : List Nat := S.map (·.1)
theorem rs_step {S : List (Nat × Nat × Nat)} {i r p q : Nat} (h : S[i]? = some (r, p, q)) : (rs S).drop i = r :: (rs S).drop (i + 1) := drop_step (by unfold rs; rw [List.getElem?_map, h]; rfl)
/-- two rows that don't lie in one block. -/
def Ap (v v' : Value) : Prop := ∀ q, v.ownBlock = some q → v'.ownBlock ≠ some q
theorem own_grew {w w' : World} {base e size n : Nat} {v : Value} {row : Option Nat} {xs : List Value} (h : w.ownsRow base e size v n xs) (ha : ∀ q, v.ownBlock = some q → row ≠ some q) (hg : w.grownBy w' row) : w'.ownsRow base e size v n xs := by
  refine World.ownsRow.kept h hg ?_
  cases hv : v.ownBlock with
  | none => exact Or.inl rfl
  | some q => exact Or.inr (fun e => ha q hv e.symm)
/-- letters and marks so far. -/
structure Pd (w W : World) (aL : Option Addr) (cL : Nat) (aM : Option Addr) (cM l : Nat) (ls ms : List Nat) : Prop where
  on : Only (fun _ => False) w W
  oL : W.ownsRow w.heap.size 21 1 (.slice aL l cL) l (i32s ls)
  oM : W.ownsRow w.heap.size 21 1 (.slice aM l cM) l (i32s ms)
  ap : Ap (.slice aL l cL) (.slice aM l cM)
  ll : ls.length = l
  lm : ms.length = l
/-- the letters' row has grown: the marks' row still lies there. -/
theorem Pd.first {w W w3 : World} {aL : Option Addr} {cL : Nat} {aM : Option Addr} {cM l : Nat} {ls ms : List Nat} {o1 o2 : Obj} {v3 : Value} (h : Pd w W aL cL aM cM l ls ms) (hg : ((W.alloc o1).alloc o2).grownBy w3 (Value.slice aL l cL).ownBlock) (hat : v3.ownBlock = (Value.slice aL l cL).ownBlock ∨ v3.ownBlock = some ((W.alloc o1).alloc o2).heap.size) :
    Only (fun _ => False) w w3 ∧ w3.ownsRow w.heap.size 21 1 (.slice aM l cM) l (i32s ms) ∧ Ap v3 (.slice aM l cM) ∧ ((W.alloc o1).alloc o2).heap.size ≤ w3.heap.size := by
  have o3 : Only (fun q => (Value.slice aL l cL).ownBlock = some q) ((W.alloc o1).alloc o2) w3 := (Only.refl _ _).grown hg (fun k h => h)
  have o4 : Only (fun q => (Value.slice aL l cL).ownBlock = some q) w w3 := (((h.on.alloc o1).alloc o2).mono (fun _ h => h.elim)).trans o3
  refine ⟨⟨o4.os, o4.tape, o4.output, o4.size, fun b hb _ => o4.block b hb (fun e => by have := (h.oL.lt b e).1; omega)⟩, own_grew ((h.oM.alloc o1).alloc o2) (fun q hq e => h.ap q e hq) hg, fun q hq e => ?_, o3.size⟩
  rcases hat with hat | hat
  · rw [hat] at hq
    exact h.ap q hq e
  · rw [hat] at hq
    injection hq with hq
    have := (h.oM.lt q e).2
    simp at hq
    omega
/-- .. and the marks' row too. -/
theorem Pd.second {w w3 w4 : World} {v3 v4 : Value} {aM g3 g4 : Option Addr} {cM c3 c4 l m r : Nat} {ls ms : List Nat} {o : Obj} (on3 : Only (fun _ => False) w w3) (oL : w3.ownsRow w.heap.size 21 1 (.slice g3 (l + 1) c3) (l + 1) (i32s (ls ++ [r]))) (ow : w3.ownsRow w.heap.size 21 1 (.slice aM l cM) l (i32s ms)) (ap : Ap (.slice g3 (l + 1) c3) (.slice aM l cM)) (ll : ls.length = l) (lm : ms.length = l)
    (oM : w4.ownsRow w.heap.size 21 1 (.slice g4 (l + 1) c4) (l + 1) (i32s (ms ++ [m]))) (hg : (w3.alloc o).grownBy w4 (Value.slice aM l cM).ownBlock) (hat : (Value.slice g4 (l + 1) c4).ownBlock = (Value.slice aM l cM).ownBlock ∨ (Value.slice g4 (l + 1) c4).ownBlock = some (w3.alloc o).heap.size) :
    Pd w w4 g3 c3 g4 c4 (l + 1) (ls ++ [r]) (ms ++ [m]) := by
  have o3 : Only (fun q => (Value.slice aM l cM).ownBlock = some q) (w3.alloc o) w4 := (Only.refl _ _).grown hg (fun k h => h)
  have o4 : Only (fun q => (Value.slice aM l cM).ownBlock = some q) w w4 := ((on3.alloc o).mono (fun _ h => h.elim)).trans o3
  refine ⟨⟨o4.os, o4.tape, o4.output, o4.size, fun b hb _ => o4.block b hb (fun e => by have := (ow.lt b e).1; omega)⟩, own_grew (oL.alloc o) (fun q hq e => ap q hq e) hg, oM, fun q hq e => ?_, by simp [ll], by simp [lm]⟩
  rcases hat with hat | hat
  · rw [hat] at e
    exact ap q hq e
  · rw [hat] at e
    injection e with e
    have := (oL.lt q hq).2
    simp at e
    omega
theorem info21 : (Tryd.prog.info? 21).map (fun i => (i.zero, i.size, i.bytes)) = some (some (.int .i32 0), 1, 4) := by kernel_rfl
theorem raw_none {mk : Nat → Bool} {cs : List Nat} {c m : Nat} (hc : mk c = true) (hm : m ≠ 0) : Pt.raw mk (c :: cs) m = none := by simp [Pt.raw, hc, hm]
/-- what is read so far. -/
def Rw1 (mk : Nat → Bool) (R : List Nat) (i m : Nat) (ls ms : List Nat) : Prop := Pt.raw mk R 0 = match Pt.raw mk (R.drop i) m with | none => none | some (L, M) => some (ls ++ L, ms ++ M)
theorem Rw1.letter {mk : Nat → Bool} {R : List Nat} {i m r : Nat} {ls ms : List Nat} (h : Rw1 mk R i m ls ms) (hd : R.drop i = r :: R.drop (i + 1)) (hr : mk r = false) : Rw1 mk R (i + 1) 0 (ls ++ [r]) (ms ++ [m]) := by
  unfold Rw1 at h ⊢
  rw [h, hd, Pt.raw_cons hr]
  cases Pt.raw mk (R.drop (i + 1)) 0 with
  | none => rfl
  | some x => obtain ⟨L, M⟩ := x; simp
theorem Rw1.mark {mk : Nat → Bool} {R : List Nat} {i r : Nat} {ls ms : List Nat} (h : Rw1 mk R i 0 ls ms) (hd : R.drop i = r :: R.drop (i + 1)) (hr : mk r = true) : Rw1 mk R (i + 1) r ls ms := by
  unfold Rw1 at h ⊢
  rw [h, hd]
  simp [Pt.raw, hr]
theorem Rw1.two {mk : Nat → Bool} {R : List Nat} {i r m : Nat} {ls ms : List Nat} (h : Rw1 mk R i m ls ms) (hd : R.drop i = r :: R.drop (i + 1)) (hr : mk r = true) (hm : m ≠ 0) : Pt.parted mk R = none := by
  unfold Rw1 at h
  rw [hd, raw_none hr hm] at h
  unfold Pt.parted
  rw [h]
theorem Rw1.done {mk : Nat → Bool} {R : List Nat} {i m : Nat} {ls ms : List Nat} (h : Rw1 mk R i m ls ms) (hi : R.length ≤ i) : Pt.parted mk R = if ls.length = 0 ∨ 24 < ls.length ∨ 65533 ∈ ls then none else some (ls, ms ++ [m]) := by
  unfold Rw1 at h
  rw [List.drop_eq_nil_of_le hi] at h
  unfold Pt.parted
  rw [h]
  simp [Pt.raw]
/-- how parted ends. -/
def pdP (w : World) (R : Option (List Nat × List Nat)) (e : Ending) (w' : World) : Prop :=
  match R with
  | none => e = .returned (.tuple #[.slice none 0 0, .slice none 0 0, .bool false]) ∧ Only (fun _ => False) w w'
  | some (L, M) => ∃ gL cL gM cM, e = .returned (.tuple #[.slice (some ⟨gL, 0, none⟩) L.length cL, .slice (some ⟨gM, 0, none⟩) M.length cM, .bool true]) ∧ w'.ownsRow w.heap.size 21 1 (.slice (some ⟨gL, 0, none⟩) L.length cL) L.length (i32s L) ∧ w'.ownsRow w.heap.size 21 1 (.slice (some ⟨gM, 0, none⟩) M.length cM) M.length (i32s M) ∧ Only (fun _ => False) w w' ∧ M.length = L.length + 1 ∧ 0 < L.length ∧ L.length ≤ 24
theorem Rw1.start (mk : Nat → Bool) (R : List Nat) : Rw1 mk R 0 0 [] [] := by
  unfold Rw1
  rw [List.drop_zero]
  cases Pt.raw mk R 0 with
  | none => rfl
  | some x => obtain ⟨L, M⟩ := x; simp
theorem Pd.alloc {w W : World} {aL : Option Addr} {cL : Nat} {aM : Option Addr} {cM l : Nat} {ls ms : List Nat} (h : Pd w W aL cL aM cM l ls ms) (o : Obj) : Pd w (W.alloc o) aL cL aM cM l ls ms := ⟨h.on.alloc o, h.oL.alloc o, h.oM.alloc o, h.ap, h.ll, h.lm⟩
theorem Pd.last {w W w4 : World} {aL : Option Addr} {cL : Nat} {aM : Option Addr} {cM l : Nat} {ls ms : List Nat} {o : Obj} (h : Pd w W aL cL aM cM l ls ms) (hg : (W.alloc o).grownBy w4 (Value.slice aM l cM).ownBlock) : Only (fun _ => False) w w4 := by
  have o3 : Only (fun q => (Value.slice aM l cM).ownBlock = some q) (W.alloc o) w4 := (Only.refl _ _).grown hg (fun k h => h)
  have o4 : Only (fun q => (Value.slice aM l cM).ownBlock = some q) w w4 := ((h.on.alloc o).mono (fun _ h => h.elim)).trans o3
  exact ⟨o4.os, o4.tape, o4.output, o4.size, fun b hb _ => o4.block b hb (fun e => by have := (h.oM.lt b e).1; omega)⟩
theorem own_nl {w : World} {base n c : Nat} {a : Option Addr} {L : List Nat} (h : w.ownsRow base 21 1 (.slice a n c) n (i32s L)) (hl : L.length = n) : Nl w a n L := by
  by_cases h0 : n = 0
  · subst h0
    have : L = [] := List.eq_nil_of_length_eq_zero hl
    subst this
    exact ⟨rfl, 0, 0, fun h => by omega, fun j x h => by simp at h⟩
  · obtain ⟨g, cap, hv, hg, _, hc⟩ := own_cells h (by omega)
    injection hv with e1
    refine ⟨hl, g, 0, fun _ => ⟨e1, hg⟩, fun j x hj => ?_⟩
    rw [Nat.zero_add]
    exact hc j _ (by unfold i32s; rw [List.getElem?_map, hj]; rfl)
set_option maxRecDepth 100000 in
set_option maxHeartbeats 4000000 in
theorem parted_dg (S : List (Nat × Nat × Nat)) (a : Option Addr) (n c : Nat) (w : World) (hS : Sw w a n S) (hn : n ≤ 10000) :
    Calls Tryd.prog 32 #[.slice a n c, .func (.func 33) #[] #[]] w (pdP w (Pt.parted Pt.isDg (rs S))) := by
  have HS : Hid (Sw w a n S) := hS
  obtain ⟨i0, hi0, hz0, hz1, hz2⟩ := info_parts info21
  obtain ⟨PR, hPR⟩ : ∃ PR, PR = Pt.parted Pt.isDg (rs S) := ⟨_, rfl⟩
  have HPR : Hid (PR = Pt.parted Pt.isDg (rs S)) := hPR
  rw [← hPR]
  clear hS hPR
  go_enter Tryd.func32, Tryd.ntmps32
  go_wp2_with fail
  go_loopg [4, 5, 7, 12] n (fun gh v4 v5 v7 v12 wr => ∃ (i m l : Nat) (aL : Option Addr) (cL : Nat) (aM : Option Addr) (cM : Nat) (ls ms : List Nat) (W : World), W = wr ∧ gh = n - i ∧ i ≤ n ∧ l ≤ i ∧ v4 = .slice aL l cL ∧ v5 = .slice aM l cM ∧ v7 = .int .i32 (m : Int) ∧ v12 = .int .i64 (i : Int) ∧ Pd w W aL cL aM cM l ls ms ∧ Rw1 Pt.isDg (rs S) i m ls ms)
  case atStart => exact ⟨0, 0, 0, none, 0, none, 0, [], [], _, rfl, rfl, Nat.zero_le _, Nat.le_refl _, rfl, rfl, rfl, rfl, ⟨Only.refl _ _, World.ownsRow_nil _ _ _ _, World.ownsRow_nil _ _ _ _, fun q h => by simp [Value.ownBlock] at h, rfl, rfl⟩, Rw1.start _ _⟩
  case round =>
    obtain ⟨i, m, l, aL, cL, aM, cM, ls, ms, W, hW, rfl, hi, hl, rfl, rfl, rfl, rfl, hP, hR⟩ := hrel
    subst hW
    have HP : Hid (Pd w W aL cL aM cM l ls ms) := hP
    have HR : Hid (Rw1 Pt.isDg (rs S) i m ls ms) := hR
    have hws : w.heap.size ≤ W.heap.size := hP.on.size
    clear hP hR
    by_cases hlt : i < n
    · have t1 : (i : Int) < (n : Int) := by omega
      obtain ⟨b, off, r, p, q, rfl, hb, hx, c0, c1, c2⟩ := (HS.out.keep HP.out.on).at hlt
      have HD : Hid ((rs S).drop i = r :: (rs S).drop (i + 1)) := rs_step hx
      clear hx
      cases hmk : Pt.isDg r with
      | false =>
        have HMK : Hid (Pt.isDg r = false) := hmk
        clear hmk
        go_wp2_with (first
          | (go_at_call 33; refine Calls.mono (isDigit_any r _) ?_; rintro e w1 ⟨rfl, rfl⟩; rw [HMK.out])
          | (at_builtin; refine wpList_append_own_at _ rfl _ _ 34 rfl w.heap.size 21 i0 (.int .i32 0) 1 4 Tryd.underlying34 hi0 hz0 hz1 hz2 rfl (by decide) _ _ _ rfl (HM3.out.alloc (.cells #[.int .i32 (m : Int)] 21)) ⟨w3.heap.size, 0, none⟩ 1 1 [.int .i32 (m : Int)] rfl rfl (news1 _ _ _) (fun u hu => by simp at hu; subst hu; rfl) (by unfold maxLen; omega) (by omega) (by simp; omega) ?_; intro v4 w4 hown4 hg4 _ hat4; rw [i32s_app] at hown4; obtain ⟨g4, c4, rfl, _, _, _, _⟩ := row_form hown4 (by omega); have HPN : Hid (Pd w w4 (some ⟨g3, 0, none⟩) c3 (some ⟨g4, 0, none⟩) c4 (l + 1) (ls ++ [r]) (ms ++ [m])) := Pd.second (v3 := .slice none 0 0) (v4 := .slice none 0 0) HO3.out HL3.out HM3.out HA3.out HP.out.ll HP.out.lm hown4 hg4 hat4; clear hown4 hg4 hat4)
          | (at_builtin; refine wpList_append_own_at _ rfl _ _ 34 rfl w.heap.size 21 i0 (.int .i32 0) 1 4 Tryd.underlying34 hi0 hz0 hz1 hz2 rfl (by decide) _ _ _ rfl ((HP.out.oL.alloc (.cells #[.int .i32 (r : Int), .int .i64 (p : Int), .int .i64 (q : Int)] 52)).alloc (.cells #[.int .i32 (r : Int)] 21)) ⟨W.heap.size + 1, 0, none⟩ 1 1 [.int .i32 (r : Int)] rfl rfl (by have := news1 (W.alloc (.cells #[.int .i32 (r : Int), .int .i64 (p : Int), .int .i64 (q : Int)] 52)) (.int .i32 (r : Int)) 21; simpa using this) (fun u hu => by simp at hu; subst hu; rfl) (by unfold maxLen; omega) (by omega) (by simp; omega) ?_; intro v3 w3 hown3 hg3 _ hat3; rw [i32s_app] at hown3; obtain ⟨k1, k2, k3, k4⟩ := HP.out.first hg3 hat3; obtain ⟨g3, c3, rfl, _, _, _, _⟩ := row_form hown3 (by omega); have HO3 : Hid (Only (fun _ => False) w w3) := k1; have HM3 : Hid (w3.ownsRow w.heap.size 21 1 (.slice aM l cM) l (i32s ms)) := k2; have HA3 : Hid (Ap (.slice (some ⟨g3, 0, none⟩) (l + 1) c3) (.slice aM l cM)) := k3; have HL3 : Hid (w3.ownsRow w.heap.size 21 1 (.slice (some ⟨g3, 0, none⟩) (l + 1) c3) (l + 1) (i32s (ls ++ [r]))) := hown3; have hw3 : w.heap.size ≤ w3.heap.size := k1.size; clear hown3 hg3 hat3 k1 k2 k3 k4))
        go_roundg (n - (i + 1))
        case measure => omega
        case rel => exact ⟨i + 1, 0, l + 1, some ⟨g3, 0, none⟩, c3, some ⟨g4, 0, none⟩, c4, ls ++ [r], ms ++ [m], _, rfl, rfl, by omega, by omega, rfl, rfl, rfl, by go_num, HPN.out, HR.out.letter HD.out HMK.out⟩
      | true =>
        have HMK : Hid (Pt.isDg r = true) := hmk
        clear hmk
        by_cases hm : m = 0
        · subst hm
          go_wp2_with (go_at_call 33; refine Calls.mono (isDigit_any r _) ?_; rintro e w1 ⟨rfl, rfl⟩; rw [HMK.out])
          go_roundg (n - (i + 1))
          case measure => omega
          case rel => exact ⟨i + 1, r, l, aL, cL, aM, cM, ls, ms, _, rfl, rfl, by omega, by omega, rfl, rfl, rfl, by go_num, HP.out.alloc _, HR.out.mark HD.out HMK.out⟩
        · have HZ : Hid (PR = none) := HPR.out.trans (HR.out.two HD.out HMK.out hm)
          have q1 : ((m : Int) == 0) = false := by simp; omega
          have q2 : ¬ (m : Int) = 0 := by omega
          go_wp2_with (go_at_call 33; refine Calls.mono (isDigit_any r _) ?_; rintro e w1 ⟨rfl, rfl⟩; rw [HMK.out])
          go_ret3
          rw [HZ.out]
          exact ⟨rfl, HP.out.on.alloc _⟩
    · have t2 : decide ((i : Int) < (n : Int)) = false := decide_eq_false (by omega)
      have HZ : Hid (PR = if ls.length = 0 ∨ 24 < ls.length ∨ 65533 ∈ ls then none else some (ls, ms ++ [m])) := HPR.out.trans (HR.out.done (by unfold rs; rw [List.length_map]; have := HS.out.1; omega))
      have hll := HP.out.ll
      by_cases h0 : l = 0
      · subst h0
        go_wp2_with fail
        go_ret3
        rw [HZ.out, if_pos (Or.inl hll)]
        exact ⟨rfl, HP.out.on⟩
      have g0 : ((l : Int) == 0) = false := by simp; omega
      have g1 : ¬ (l : Int) = 0 := by omega
      by_cases h24 : 24 < l
      · have g2 : (24 : Int) < (l : Int) := by omega
        go_wp2_with fail
        go_ret3
        rw [HZ.out, if_pos (Or.inr (Or.inl (by omega)))]
        exact ⟨rfl, HP.out.on⟩
      have g2 : ¬ (24 : Int) < (l : Int) := by omega
      have HCN : Hid (Calls Tryd.prog 39 #[.slice aL l cL, .int .i32 ((65533 : Nat) : Int)] W fun e w' => e = .returned (.bool (decide (65533 ∈ ls))) ∧ w' = W) := contains_any ls aL l cL 65533 W (own_nl HP.out.oL hll) (by omega)
      by_cases hB : 65533 ∈ ls
      · have HD2 : Hid (decide (65533 ∈ ls) = true) := decide_eq_true hB
        go_wp2_with (go_at_call 39; refine Calls.mono HCN.out ?_; rintro e w1 ⟨rfl, hw1⟩; obtain rfl := hw1.symm; rw [HD2.out])
        go_ret3
        rw [HZ.out, if_pos (Or.inr (Or.inr hB))]
        exact ⟨rfl, HP.out.on⟩
      · have HD2 : Hid (decide (65533 ∈ ls) = false) := decide_eq_false hB
        have HZ2 : Hid (PR = some (ls, ms ++ [m])) := by
          show PR = _
          rw [HZ.out, if_neg]
          rintro (h | h | h)
          · omega
          · omega
          · exact hB h
        clear hB HZ
        go_wp2_with (first
          | (go_at_call 39; refine Calls.mono HCN.out ?_; rintro e w1 ⟨rfl, hw1⟩; obtain rfl := hw1.symm; rw [HD2.out])
          | (at_builtin; refine wpList_append_own_at _ rfl _ _ 34 rfl w.heap.size 21 i0 (.int .i32 0) 1 4 Tryd.underlying34 hi0 hz0 hz1 hz2 rfl (by decide) _ _ _ rfl (HP.out.oM.alloc (.cells #[.int .i32 (m : Int)] 21)) ⟨W.heap.size, 0, none⟩ 1 1 [.int .i32 (m : Int)] rfl rfl (news1 _ _ _) (fun u hu => by simp at hu; subst hu; rfl) (by unfold maxLen; omega) (by omega) (by simp; omega) ?_; intro v4 w4 hown4 hg4 _ hat4; rw [i32s_app] at hown4; obtain ⟨g4, c4, rfl, _, _, _, _⟩ := row_form hown4 (by omega); have HM4 : Hid (w4.ownsRow w.heap.size 21 1 (.slice (some ⟨g4, 0, none⟩) (l + 1) c4) (l + 1) (i32s (ms ++ [m]))) := hown4; have HL4 : Hid (w4.ownsRow w.heap.size 21 1 (.slice aL l cL) l (i32s ls)) := own_grew (HP.out.oL.alloc _) (fun q hq e => HP.out.ap q hq e) hg4; have HO4 : Hid (Only (fun _ => False) w w4) := Pd.last HP.out hg4; clear hown4 hg4 hat4))
        go_ret3
        rw [HZ2.out]
        obtain ⟨gL, cL', hv, _⟩ := own_addr HL4.out (fun e => by injection e with _ e _; omega)
        injection hv with e1 _ e3
        subst e1
        refine ⟨gL, cL, g4, c4, ?_, ?_, ?_, HO4.out, ?_, ?_, ?_⟩
        · rw [hll, List.length_append, HP.out.lm]; rfl
        · rw [hll]; exact HL4.out
        · rw [List.length_append, HP.out.lm]; exact HM4.out
        · rw [List.length_append, HP.out.lm, hll]; rfl
        · omega
        · omega
set_option maxRecDepth 100000 in
set_option maxHeartbeats 4000000 in
theorem parted_hy (S : List (Nat × Nat × Nat)) (a : Option Addr) (n c : Nat) (w : World) (hS : Sw w a n S) (hn : n ≤ 10000) :
    Calls Tryd.prog 32 #[.slice a n c, .func (.func 37) #[] #[]] w (pdP w (Pt.parted Pt.isHy (rs S))) := by
  have HS : Hid (Sw w a n S) := hS
  obtain ⟨i0, hi0, hz0, hz1, hz2⟩ := info_parts info21
  obtain ⟨PR, hPR⟩ : ∃ PR, PR = Pt.parted Pt.isHy (rs S) := ⟨_, rfl⟩
  have HPR : Hid (PR = Pt.parted Pt.isHy (rs S)) := hPR
  rw [← hPR]
  clear hS hPR
  go_enter Tryd.func32, Tryd.ntmps32
  go_wp2_with fail
  go_loopg [4, 5, 7, 12] n (fun gh v4 v5 v7 v12 wr => ∃ (i m l : Nat) (aL : Option Addr) (cL : Nat) (aM : Option Addr) (cM : Nat) (ls ms : List Nat) (W : World), W = wr ∧ gh = n - i ∧ i ≤ n ∧ l ≤ i ∧ v4 = .slice aL l cL ∧ v5 = .slice aM l cM ∧ v7 = .int .i32 (m : Int) ∧ v12 = .int .i64 (i : Int) ∧ Pd w W aL cL aM cM l ls ms ∧ Rw1 Pt.isHy (rs S) i m ls ms)
  case atStart => exact ⟨0, 0, 0, none, 0, none, 0, [], [], _, rfl, rfl, Nat.zero_le _, Nat.le_refl _, rfl, rfl, rfl, rfl, ⟨Only.refl _ _, World.ownsRow_nil _ _ _ _, World.ownsRow_nil _ _ _ _, fun q h => by simp [Value.ownBlock] at h, rfl, rfl⟩, Rw1.start _ _⟩
  case round =>
    obtain ⟨i, m, l, aL, cL, aM, cM, ls, ms, W, hW, rfl, hi, hl, rfl, rfl, rfl, rfl, hP, hR⟩ := hrel
    subst hW
    have HP : Hid (Pd w W aL cL aM cM l ls ms) := hP
    have HR : Hid (Rw1 Pt.isHy (rs S) i m ls ms) := hR
    have hws : w.heap.size ≤ W.heap.size := hP.on.size
    clear hP hR
    by_cases hlt : i < n
    · have t1 : (i : Int) < (n : Int) := by omega
      obtain ⟨b, off, r, p, q, rfl, hb, hx, c0, c1, c2⟩ := (HS.out.keep HP.out.on).at hlt
      have HD : Hid ((rs S).drop i = r :: (rs S).drop (i + 1)) := rs_step hx
      clear hx
      cases hmk : Pt.isHy r with
      | false =>
        have HMK : Hid (Pt.isHy r = false) := hmk
        clear hmk
        go_wp2_with (first
          | (go_at_call 37; refine Calls.mono (isHyphen_any r _) ?_; rintro e w1 ⟨rfl, rfl⟩; rw [HMK.out])
          | (at_builtin; refine wpList_append_own_at _ rfl _ _ 34 rfl w.heap.size 21 i0 (.int .i32 0) 1 4 Tryd.underlying34 hi0 hz0 hz1 hz2 rfl (by decide) _ _ _ rfl (HM3.out.alloc (.cells #[.int .i32 (m : Int)] 21)) ⟨w3.heap.size, 0, none⟩ 1 1 [.int .i32 (m : Int)] rfl rfl (news1 _ _ _) (fun u hu => by simp at hu; subst hu; rfl) (by unfold maxLen; omega) (by omega) (by simp; omega) ?_; intro v4 w4 hown4 hg4 _ hat4; rw [i32s_app] at hown4; obtain ⟨g4, c4, rfl, _, _, _, _⟩ := row_form hown4 (by omega); have HPN : Hid (Pd w w4 (some ⟨g3, 0, none⟩) c3 (some ⟨g4, 0, none⟩) c4 (l + 1) (ls ++ [r]) (ms ++ [m])) := Pd.second (v3 := .slice none 0 0) (v4 := .slice none 0 0) HO3.out HL3.out HM3.out HA3.out HP.out.ll HP.out.lm hown4 hg4 hat4; clear hown4 hg4 hat4)
          | (at_builtin; refine wpList_append_own_at _ rfl _ _ 34 rfl w.heap.size 21 i0 (.int .i32 0) 1 4 Tryd.underlying34 hi0 hz0 hz1 hz2 rfl (by decide) _ _ _ rfl ((HP.out.oL.alloc (.cells #[.int .i32 (r : Int), .int .i64 (p : Int), .int .i64 (q : Int)] 52)).alloc (.cells #[.int .i32 (r : Int)] 21)) ⟨W.heap.size + 1, 0, none⟩ 1 1 [.int .i32 (r : Int)] rfl rfl (by have := news1 (W.alloc (.cells #[.int .i32 (r : Int), .int .i64 (p : Int), .int .i64 (q : Int)] 52)) (.int .i32 (r : Int)) 21; simpa using this) (fun u hu => by simp at hu; subst hu; rfl) (by unfold maxLen; omega) (by omega) (by simp; omega) ?_; intro v3 w3 hown3 hg3 _ hat3; rw [i32s_app] at hown3; obtain ⟨k1, k2, k3, k4⟩ := HP.out.first hg3 hat3; obtain ⟨g3, c3, rfl, _, _, _, _⟩ := row_form hown3 (by omega); have HO3 : Hid (Only (fun _ => False) w w3) := k1; have HM3 : Hid (w3.ownsRow w.heap.size 21 1 (.slice aM l cM) l (i32s ms)) := k2; have HA3 : Hid (Ap (.slice (some ⟨g3, 0, none⟩) (l + 1) c3) (.slice aM l cM)) := k3; have HL3 : Hid (w3.ownsRow w.heap.size 21 1 (.slice (some ⟨g3, 0, none⟩) (l + 1) c3) (l + 1) (i32s (ls ++ [r]))) := hown3; have hw3 : w.heap.size ≤ w3.heap.size := k1.size; clear hown3 hg3 hat3 k1 k2 k3 k4))
        go_roundg (n - (i + 1))
        case measure => omega
        case rel => exact ⟨i + 1, 0, l + 1, some ⟨g3, 0, none⟩, c3, some ⟨g4, 0, none⟩, c4, ls ++ [r], ms ++ [m], _, rfl, rfl, by omega, by omega, rfl, rfl, rfl, by go_num, HPN.out, HR.out.letter HD.out HMK.out⟩
      | true =>
        have HMK : Hid (Pt.isHy r = true) := hmk
        clear hmk
        by_cases hm : m = 0
        · subst hm
          go_wp2_with (go_at_call 37; refine Calls.mono (isHyphen_any r _) ?_; rintro e w1 ⟨rfl, rfl⟩; rw [HMK.out])
          go_roundg (n - (i + 1))
          case measure => omega
          case rel => exact ⟨i + 1, r, l, aL, cL, aM, cM, ls, ms, _, rfl, rfl, by omega, by omega, rfl, rfl, rfl, by go_num, HP.out.alloc _, HR.out.mark HD.out HMK.out⟩
        · have HZ : Hid (PR = none) := HPR.out.trans (HR.out.two HD.out HMK.out hm)
          have q1 : ((m : Int) == 0) = false := by simp; omega
          have q2 : ¬ (m : Int) = 0 := by omega
          go_wp2_with (go_at_call 37; refine Calls.mono (isHyphen_any r _) ?_; rintro e w1 ⟨rfl, rfl⟩; rw [HMK.out])
          go_ret3
          rw [HZ.out]
          exact ⟨rfl, HP.out.on.alloc _⟩
    · have t2 : decide ((i : Int) < (n : Int)) = false := decide_eq_false (by omega)
      have HZ : Hid (PR = if ls.length = 0 ∨ 24 < ls.length ∨ 65533 ∈ ls then none else some (ls, ms ++ [m])) := HPR.out.trans (HR.out.done (by unfold rs; rw [List.length_map]; have := HS.out.1; omega))
      have hll := HP.out.ll
      by_cases h0 : l = 0
      · subst h0
        go_wp2_with fail
        go_ret3
        rw [HZ.out, if_pos (Or.inl hll)]
        exact ⟨rfl, HP.out.on⟩
      have g0 : ((l : Int) == 0) = false := by simp; omega
      have g1 : ¬ (l : Int) = 0 := by omega
      by_cases h24 : 24 < l
      · have g2 : (24 : Int) < (l : Int) := by omega
        go_wp2_with fail
        go_ret3
        rw [HZ.out, if_pos (Or.inr (Or.inl (by omega)))]
        exact ⟨rfl, HP.out.on⟩
      have g2 : ¬ (24 : Int) < (l : Int) := by omega
      have HCN : Hid (Calls Tryd.prog 39 #[.slice aL l cL, .int .i32 ((65533 : Nat) : Int)] W fun e w' => e = .returned (.bool (decide (65533 ∈ ls))) ∧ w' = W) := contains_any ls aL l cL 65533 W (own_nl HP.out.oL hll) (by omega)
      by_cases hB : 65533 ∈ ls
      · have HD2 : Hid (decide (65533 ∈ ls) = true) := decide_eq_true hB
        go_wp2_with (go_at_call 39; refine Calls.mono HCN.out ?_; rintro e w1 ⟨rfl, hw1⟩; obtain rfl := hw1.symm; rw [HD2.out])
        go_ret3
        rw [HZ.out, if_pos (Or.inr (Or.inr hB))]
        exact ⟨rfl, HP.out.on⟩
      · have HD2 : Hid (decide (65533 ∈ ls) = false) := decide_eq_false hB
        have HZ2 : Hid (PR = some (ls, ms ++ [m])) := by
          show PR = _
          rw [HZ.out, if_neg]
          rintro (h | h | h)
          · omega
          · omega
          · exact hB h
        clear hB HZ
        go_wp2_with (first
          | (go_at_call 39; refine Calls.mono HCN.out ?_; rintro e w1 ⟨rfl, hw1⟩; obtain rfl := hw1.symm; rw [HD2.out])
          | (at_builtin; refine wpList_append_own_at _ rfl _ _ 34 rfl w.heap.size 21 i0 (.int .i32 0) 1 4 Tryd.underlying34 hi0 hz0 hz1 hz2 rfl (by decide) _ _ _ rfl (HP.out.oM.alloc (.cells #[.int .i32 (m : Int)] 21)) ⟨W.heap.size, 0, none⟩ 1 1 [.int .i32 (m : Int)] rfl rfl (news1 _ _ _) (fun u hu => by simp at hu; subst hu; rfl) (by unfold maxLen; omega) (by omega) (by simp; omega) ?_; intro v4 w4 hown4 hg4 _ hat4; rw [i32s_app] at hown4; obtain ⟨g4, c4, rfl, _, _, _, _⟩ := row_form hown4 (by omega); have HM4 : Hid (w4.ownsRow w.heap.size 21 1 (.slice (some ⟨g4, 0, none⟩) (l + 1) c4) (l + 1) (i32s (ms ++ [m]))) := hown4; have HL4 : Hid (w4.ownsRow w.heap.size 21 1 (.slice aL l cL) l (i32s ls)) := own_grew (HP.out.oL.alloc _) (fun q hq e => HP.out.ap q hq e) hg4; have HO4 : Hid (Only (fun _ => False) w w4) := Pd.last HP.out hg4; clear hown4 hg4 hat4))
        go_ret3
        rw [HZ2.out]
        obtain ⟨gL, cL', hv, _⟩ := own_addr HL4.out (fun e => by injection e with _ e _; omega)
        injection hv with e1 _ e3
        subst e1
        refine ⟨gL, cL, g4, c4, ?_, ?_, ?_, HO4.out, ?_, ?_, ?_⟩
        · rw [hll, List.length_append, HP.out.lm]; rfl
        · rw [hll]; exact HL4.out
        · rw [List.length_append, HP.out.lm]; exact HM4.out
        · rw [List.length_append, HP.out.lm, hll]; rfl
        · omega
        · omega
end Go.Proofs.YtjgbfpemkjpikaaDoor
