/-
  pats.words: what stands between blanks.
-/
import Derived.Test.YtjgbfpemkjpikaaDoorL2
namespace Go.Proofs.YtjgbfpemkjpikaaDoor
open Go.RowKit Go.Maps
set_option linter.unusedVariables false
set_option linter.unusedSimpArgs false
/-- where words stand: from a sign to ahead of another. -/
def cuts : List Nat → Nat → Nat → List (Nat × Nat)
  | [], i, f => if f < i then [(f, i)] else []
  | c :: cs, i, f => if Pt.isBl c = true then (if f < i then (f, i) :: cuts cs (i + 1) (i + 1) else cuts cs (i + 1) (i + 1)) else cuts cs (i + 1) f
def wval (b off : Nat) (p : Nat × Nat) : Value := .slice (some ⟨b, off + p.1 * 3, none⟩) (p.2 - p.1) (p.2 - p.1)
def wvals (b off : Nat) (l : List (Nat × Nat)) : List Value := l.map (wval b off)
theorem wvals_app (b off f i : Nat) (l : List (Nat × Nat)) : wvals b off l ++ [.slice (some ⟨b, off + f * 3, none⟩) (i - f) (i - f)] = wvals b off (l ++ [(f, i)]) := by unfold wvals; simp [wval]
def Cs (R : List Nat) (i f : Nat) (ps : List (Nat × Nat)) : Prop := cuts R 0 0 = ps ++ cuts (R.drop i) i f
theorem Cs.start (R : List Nat) : Cs R 0 0 [] := by unfold Cs; simp
theorem Cs.letter {R : List Nat} {i f c : Nat} {ps : List (Nat × Nat)} (h : Cs R i f ps) (hd : R.drop i = c :: R.drop (i + 1)) (hc : Pt.isBl c = false) : Cs R (i + 1) f ps := by
  unfold Cs at h ⊢
  rw [h, hd, cuts, if_neg (by rw [hc]; simp)]
theorem Cs.skip {R : List Nat} {i f c : Nat} {ps : List (Nat × Nat)} (h : Cs R i f ps) (hd : R.drop i = c :: R.drop (i + 1)) (hc : Pt.isBl c = true) (hf : ¬ f < i) : Cs R (i + 1) (i + 1) ps := by
  unfold Cs at h ⊢
  rw [h, hd, cuts, if_pos hc, if_neg hf]
theorem Cs.word {R : List Nat} {i f c : Nat} {ps : List (Nat × Nat)} (h : Cs R i f ps) (hd : R.drop i = c :: R.drop (i + 1)) (hc : Pt.isBl c = true) (hf : f < i) : Cs R (i + 1) (i + 1) (ps ++ [(f, i)]) := by
  unfold Cs at h ⊢
  rw [h, hd, cuts, if_pos hc, if_pos hf]
  simp
theorem Cs.endNone {R : List Nat} {i f : Nat} {ps : List (Nat × Nat)} (h : Cs R i f ps) (hi : R.length ≤ i) (hf : ¬ f < i) : cuts R 0 0 = ps := by
  unfold Cs at h
  rw [h, List.drop_eq_nil_of_le hi, cuts, if_neg hf, List.append_nil]
theorem Cs.endSome {R : List Nat} {i f : Nat} {ps : List (Nat × Nat)} (h : Cs R i f ps) (hi : R.length ≤ i) (hf : f < i) : cuts R 0 0 = ps ++ [(f, i)] := by
  unfold Cs at h
  rw [h, List.drop_eq_nil_of_le hi, cuts, if_pos hf]
theorem info48 : (Tryd.prog.info? 48).map (fun i => (i.zero, i.size, i.bytes)) = some (some (.slice none 0 0), 1, 24) := by kernel_rfl
/-- words so far. -/
structure Wd (w W : World) (aC : Option Addr) (cC l b off : Nat) (ps : List (Nat × Nat)) : Prop where
  on : Only (fun _ => False) w W
  oC : W.ownsRow w.heap.size 48 1 (.slice aC l cC) l (wvals b off ps)
  ll : ps.length = l
theorem Wd.alloc {w W : World} {aC : Option Addr} {cC l b off : Nat} {ps : List (Nat × Nat)} (h : Wd w W aC cC l b off ps) (o : Obj) : Wd w (W.alloc o) aC cC l b off ps := ⟨h.on.alloc o, h.oC.alloc o, h.ll⟩
theorem Wd.grow {w W w3 : World} {aC a3 : Option Addr} {cC c3 l b off f i : Nat} {ps : List (Nat × Nat)} (h : Wd w W aC cC l b off ps) (hg : W.grownBy w3 (Value.slice aC l cC).ownBlock) (ho : w3.ownsRow w.heap.size 48 1 (.slice a3 (l + 1) c3) (l + 1) (wvals b off (ps ++ [(f, i)]))) : Wd w w3 a3 c3 (l + 1) b off (ps ++ [(f, i)]) := by
  have o3 : Only (fun q => (Value.slice aC l cC).ownBlock = some q) W w3 := (Only.refl _ _).grown hg (fun k h => h)
  have o4 : Only (fun q => (Value.slice aC l cC).ownBlock = some q) w w3 := (h.on.mono (fun _ h => h.elim)).trans o3
  exact ⟨⟨o4.os, o4.tape, o4.output, o4.size, fun g hg _ => o4.block g hg (fun e => by have := (h.oC.lt g e).1; omega)⟩, ho, by simp [h.ll]⟩
set_option maxRecDepth 100000 in
set_option maxHeartbeats 4000000 in
theorem words_any (S : List (Nat × Nat × Nat)) (a : Option Addr) (n c b off : Nat) (w : World) (hS : Sw w a n S) (ha : 0 < n → a = some ⟨b, off, none⟩) (hn : n ≤ 10000) (hnc : n ≤ c) :
    Calls Tryd.prog 14 #[.slice a n c] w fun e w' => ∃ aC cC, e = .returned (.slice aC (cuts (rs S) 0 0).length cC) ∧ Wd w w' aC cC (cuts (rs S) 0 0).length b off (cuts (rs S) 0 0) := by
  have HS : Hid (Sw w a n S) := hS
  have HA : Hid (0 < n → a = some ⟨b, off, none⟩) := ha
  obtain ⟨i0, hi0, hz0, hz1, hz2⟩ := info_parts info48
  obtain ⟨PR, hPR⟩ : ∃ PR, PR = cuts (rs S) 0 0 := ⟨_, rfl⟩
  have HPR : Hid (PR = cuts (rs S) 0 0) := hPR
  rw [← hPR]
  clear hS hPR ha
  go_enter Tryd.func14, Tryd.ntmps14
  go_wp2_with fail
  go_loopg [3, 4, 10] n (fun gh v3 v4 v10 wr => ∃ (i f l : Nat) (aC : Option Addr) (cC : Nat) (ps : List (Nat × Nat)) (W : World), W = wr ∧ gh = n - i ∧ i ≤ n ∧ f ≤ i ∧ l ≤ i ∧ v3 = .slice aC l cC ∧ v4 = .int .i64 (f : Int) ∧ v10 = .int .i64 (i : Int) ∧ Wd w W aC cC l b off ps ∧ Cs (rs S) i f ps)
  case atStart => exact ⟨0, 0, 0, none, 0, [], _, rfl, rfl, Nat.zero_le _, Nat.le_refl _, Nat.le_refl _, rfl, rfl, rfl, ⟨Only.refl _ _, World.ownsRow_nil _ _ _ _, rfl⟩, Cs.start _⟩
  case round =>
    obtain ⟨i, f, l, aC, cC, ps, W, hW, rfl, hi, hf, hl, rfl, rfl, rfl, hP, hR⟩ := hrel
    subst hW
    have HP : Hid (Wd w W aC cC l b off ps) := hP
    have HR : Hid (Cs (rs S) i f ps) := hR
    have hws : w.heap.size ≤ W.heap.size := hP.on.size
    clear hP hR
    by_cases hlt : i < n
    · have t1 : (i : Int) < (n : Int) := by omega
      obtain ⟨b', off', r, p, q, ea, hb, hx, c0, c1, c2⟩ := (HS.out.keep HP.out.on).at hlt
      have ea2 := HA.out (by omega)
      rw [ea] at ea2
      injection ea2 with ea2
      injection ea2 with e1 e2 _
      subst e1
      subst e2
      subst ea
      have HD : Hid ((rs S).drop i = r :: (rs S).drop (i + 1)) := rs_step hx
      clear hx
      cases hmk : Pt.isBl r with
      | false =>
        have HMK : Hid (Pt.isBl r = false) := hmk
        clear hmk
        go_wp2_with (go_at_call 21; refine Calls.mono (isBlank_any r _) ?_; rintro e w1 ⟨rfl, rfl⟩; rw [HMK.out])
        go_roundg (n - (i + 1))
        case measure => omega
        case rel => exact ⟨i + 1, f, l, aC, cC, ps, _, rfl, rfl, by omega, by omega, by omega, rfl, rfl, by go_num, HP.out.alloc _, HR.out.letter HD.out HMK.out⟩
      | true =>
        have HMK : Hid (Pt.isBl r = true) := hmk
        clear hmk
        by_cases hfi : f < i
        · have t2 : (f : Int) < (i : Int) := by omega
          have t3 : ¬ i = f := by omega
          go_wp2_with (first
            | (go_at_call 21; refine Calls.mono (isBlank_any r _) ?_; rintro e w1 ⟨rfl, rfl⟩; rw [HMK.out])
            | (at_builtin; refine wpList_append_own_at _ rfl _ _ 44 rfl w.heap.size 48 i0 (.slice none 0 0) 1 24 Tryd.underlying44 hi0 hz0 hz1 hz2 rfl (by decide) _ _ _ rfl ((HP.out.oC.alloc (.cells #[.int .i32 (r : Int), .int .i64 (p : Int), .int .i64 (q : Int)] 52)).alloc (.cells #[.slice (some ⟨b', off' + f * 3, none⟩) (i - f) (i - f)] 48)) ⟨W.heap.size + 1, 0, none⟩ 1 1 [.slice (some ⟨b', off' + f * 3, none⟩) (i - f) (i - f)] rfl rfl (by have := news1 (W.alloc (.cells #[.int .i32 (r : Int), .int .i64 (p : Int), .int .i64 (q : Int)] 52)) (.slice (some ⟨b', off' + f * 3, none⟩) (i - f) (i - f)) 48; simpa using this) (fun u hu => by simp at hu; subst hu; rfl) (by unfold maxLen; omega) (by omega) (by simp; omega) ?_; intro v3 w3 hown3 hg3 _ hat3; rw [wvals_app] at hown3; obtain ⟨g3, c3, rfl, _, _, _, _⟩ := row_form hown3 (by omega); have HP3 : Hid (Wd w w3 (some ⟨g3, 0, none⟩) c3 (l + 1) b' off' (ps ++ [(f, i)])) := Wd.grow ((HP.out.alloc _).alloc _) hg3 hown3; clear hown3 hg3 hat3))
          go_roundg (n - (i + 1))
          case measure => omega
          case rel => exact ⟨i + 1, i + 1, l + 1, some ⟨g3, 0, none⟩, c3, ps ++ [(f, i)], _, rfl, rfl, by omega, by omega, by omega, rfl, by go_num, by go_num, HP3.out, HR.out.word HD.out HMK.out hfi⟩
        · have t2 : ¬ (f : Int) < (i : Int) := by omega
          go_wp2_with (go_at_call 21; refine Calls.mono (isBlank_any r _) ?_; rintro e w1 ⟨rfl, rfl⟩; rw [HMK.out])
          go_roundg (n - (i + 1))
          case measure => omega
          case rel => exact ⟨i + 1, i + 1, l, aC, cC, ps, _, rfl, rfl, by omega, by omega, by omega, rfl, by go_num, by go_num, HP.out.alloc _, HR.out.skip HD.out HMK.out hfi⟩
    · have t2 : decide ((i : Int) < (n : Int)) = false := decide_eq_false (by omega)
      obtain rfl : n = i := by omega
      have hlen : (rs S).length ≤ n := by unfold rs; rw [List.length_map]; have := HS.out.1; omega
      by_cases hfi : f < n
      · have t3 : (f : Int) < (n : Int) := by omega
        have t4 : ¬ n = f := by omega
        have ea2 := HA.out (by omega)
        subst ea2
        have HZ : Hid (PR = ps ++ [(f, n)]) := HPR.out.trans (HR.out.endSome hlen hfi)
        go_wp2_with (at_builtin; refine wpList_append_own_at _ rfl _ _ 44 rfl w.heap.size 48 i0 (.slice none 0 0) 1 24 Tryd.underlying44 hi0 hz0 hz1 hz2 rfl (by decide) _ _ _ rfl (HP.out.oC.alloc (.cells #[.slice (some ⟨b, off + f * 3, none⟩) (n - f) (n - f)] 48)) ⟨W.heap.size, 0, none⟩ 1 1 [.slice (some ⟨b, off + f * 3, none⟩) (n - f) (n - f)] rfl rfl (news1 _ _ _) (fun u hu => by simp at hu; subst hu; rfl) (by unfold maxLen; omega) (by omega) (by simp; omega) ?_; intro v3 w3 hown3 hg3 _ hat3; rw [wvals_app] at hown3; obtain ⟨g3, c3, rfl, _, _, _, _⟩ := row_form hown3 (by omega); have HP3 : Hid (Wd w w3 (some ⟨g3, 0, none⟩) c3 (l + 1) b off (ps ++ [(f, n)])) := Wd.grow (HP.out.alloc _) hg3 hown3; clear hown3 hg3 hat3)
        go_ret
        have hll : PR.length = l + 1 := by rw [HZ.out]; simp [HP.out.ll]
        refine ⟨some ⟨g3, 0, none⟩, c3, ?_, ?_⟩
        · rw [hll]; rfl
        · rw [hll, HZ.out]; exact HP3.out
      · have t3 : ¬ (f : Int) < (n : Int) := by omega
        have HZ : Hid (PR = ps) := HPR.out.trans (HR.out.endNone hlen hfi)
        go_wp2_with fail
        go_ret
        have hll : PR.length = l := by rw [HZ.out]; exact HP.out.ll
        refine ⟨aC, cC, ?_, ?_⟩
        · rw [hll]; rfl
        · rw [hll, HZ.out]; exact HP.out
end Go.Proofs.YtjgbfpemkjpikaaDoor
