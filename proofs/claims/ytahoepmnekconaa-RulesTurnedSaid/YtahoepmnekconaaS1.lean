/-
  SameInts, SameExpr: of two lists, two expressions that are the same they say so.
-/
import Derived.Test.YtahoepmnekconaaOk
import Derived.Test.YtahoepmnekconaaR16
namespace Go.Proofs.Ytahoepmnekconaa
open Go.RowKit Go.Maps
set_option linter.unusedVariables false
set_option linter.unusedSimpArgs false
theorem ints_at {w : World} {base n : Nat} {v : Value} {l : List Int} (h : w.ownsRow base 3 1 v n (ints l)) (hn : n = l.length) {k : Nat} {x : Int} (hk : l[k]? = some x) : ∃ g cap, v = .slice (some ⟨g, 0, none⟩) n cap ∧ w.cell? ⟨g, k, none⟩ = some (.int .i64 x) := by
  have hlt : k < l.length := (List.getElem?_eq_some_iff.1 hk).1
  obtain ⟨g, cap, hv, _, _, _, hc⟩ := row_form h (by omega)
  refine ⟨g, cap, hv, ?_⟩
  rw [hc k (by omega)]
  unfold ints
  rw [List.getElem?_map, hk]; rfl
set_option maxRecDepth 100000 in
set_option maxHeartbeats 4000000 in
theorem sameInts_any (l : List Int) (B B' : Nat) (a a' : Option Addr) (c c' : Nat) (w : World) (h1 : w.ownsRow B 3 1 (.slice a l.length c) l.length (ints l)) (h2 : w.ownsRow B' 3 1 (.slice a' l.length c') l.length (ints l)) (hl : l.length ≤ 24) :
    Calls Try.prog 21 #[.slice a l.length c, .slice a' l.length c'] w fun e w' => e = .returned (.bool true) ∧ Only (fun _ => False) w w' := by
  have H1 : Hid (w.ownsRow B 3 1 (.slice a l.length c) l.length (ints l)) := h1
  have H2 : Hid (w.ownsRow B' 3 1 (.slice a' l.length c') l.length (ints l)) := h2
  clear h1 h2
  obtain ⟨n, hn⟩ : ∃ n, n = l.length := ⟨_, rfl⟩
  have Hn : Hid (n = l.length) := hn
  rw [← hn] at hl ⊢
  rw [← hn] at H1 H2
  clear hn
  go_enter Try.func21, Try.ntmps21
  go_wp2_with fail
  go_loopg [5] n (fun g v wr => ∃ (k m : Nat), g = n - k ∧ k ≤ n ∧ v = .int .i64 (k : Int) ∧ wr = w.drewN m)
  case atStart => exact ⟨0, 0, rfl, Nat.zero_le _, rfl, rfl⟩
  case round =>
    obtain ⟨k, m, rfl, hk, rfl, rfl⟩ := hrel
    by_cases hlt : k < n
    · have t1 : (k : Int) < (n : Int) := by omega
      obtain ⟨x, hx⟩ : ∃ x, l[k]? = some x := ⟨l[k]'(by rw [← Hn.out]; omega), List.getElem?_eq_getElem _⟩
      obtain ⟨g, cap, hv, hc⟩ := ints_at H1.out Hn.out hx
      obtain ⟨g', cap', hv', hc'⟩ := ints_at H2.out Hn.out hx
      have e0 : a = some ⟨g, 0, none⟩ := by injection hv
      have e0' : a' = some ⟨g', 0, none⟩ := by injection hv'
      subst e0 e0'
      clear hv hv' hx
      go_wp2_with fail
      go_quiet (fail)
      go_wp2_with fail
      go_roundg (n - (k + 1))
      case measure => omega
      case rel => exact ⟨k + 1, _, rfl, by omega, by go_num, rfl⟩
    · have t2 : decide ((k : Int) < (n : Int)) = false := decide_eq_false (by omega)
      go_wp2_with fail
      go_ret
      exact ⟨rfl, (Only.refl _ w).drewN _⟩
theorem Trs.get {w : World} {F : Nat → Prop} : ∀ (es : List Rl.Ex) (c : Nat → Option Value) (i : Nat) (e : Rl.Ex), Trs w F es c → es[i]? = some e → ∃ op st a n cap, c (3 * i) = some (.int .u8 op) ∧ c (3 * i + 1) = some (.int .u32 st) ∧ c (3 * i + 2) = some (.slice a n cap) ∧ Tr w F e (.agg #[.int .u8 op, .int .u32 st, .slice a n cap])
  | [], _, i, _, _, h => by simp at h
  | e0 :: es, c, 0, e, ht, h => by
    simp at h
    subst h
    unfold Trs at ht
    obtain ⟨⟨o, s, k, h0, h1, h2, h3⟩, _⟩ := ht
    obtain ⟨op, st, a, n, cap, hf⟩ := h3.form
    simp only [Value.agg.injEq, Array.mk.injEq, List.cons.injEq, and_true] at hf
    obtain ⟨rfl, rfl, rfl⟩ := hf
    exact ⟨op, st, a, n, cap, h0, h1, h2, h3⟩
  | e0 :: es, c, i + 1, e, ht, h => by
    unfold Trs at ht
    obtain ⟨op, st, a, n, cap, h0, h1, h2, h3⟩ := Trs.get es _ i e ht.2 (by simpa using h)
    exact ⟨op, st, a, n, cap, h0, h1, h2, h3⟩
/-- the cells of a kid. -/
theorem Tr.kid {w : World} {F : Nat → Prop} {op set : Int} {kids : List Rl.Ex} {v : Value} (h : Tr w F (.mk op set kids) v) {i : Nat} {e : Rl.Ex} (hi : kids[i]? = some e) : ∃ g cap o st a n c, v = .agg #[.int .u8 op, .int .u32 set, .slice (some ⟨g, 0, none⟩) kids.length cap] ∧ w.cell? ⟨g, 3 * i, none⟩ = some (.int .u8 o) ∧ w.cell? ⟨g, 3 * i + 1, none⟩ = some (.int .u32 st) ∧ w.cell? ⟨g, 3 * i + 2, none⟩ = some (.slice a n c) ∧ g < w.heap.size ∧ Tr w F e (.agg #[.int .u8 o, .int .u32 st, .slice a n c]) := by
  unfold Tr at h
  obtain ⟨a, cap, hv, hk⟩ := h
  obtain ⟨b, cs, z, rfl, hF, hb, ht⟩ := hk (fun e => by rw [e] at hi; simp at hi)
  obtain ⟨o, st, a', n, c, h0, h1, h2, h3⟩ := Trs.get kids _ i e ht hi
  exact ⟨b, cap, o, st, a', n, c, hv, (cell_of_row _ _ _ _ _ _ hb).trans h0, (cell_of_row _ _ _ _ _ _ hb).trans h1, (cell_of_row _ _ _ _ _ _ hb).trans h2, (Array.getElem?_eq_some_iff.1 hb).1, h3⟩
theorem Tr.only0 {w w' : World} {F : Nat → Prop} {e : Rl.Ex} {v : Value} (h : Tr w F e v) (ho : Only (fun _ => False) w w') : Tr w' F e v := h.keep fun b hb hl => ⟨hb, ho.block b hl (fun e => e)⟩
def SameOk (e : Rl.Ex) : Prop := ∀ (F F' : Nat → Prop) (v v' : Value) (w : World), Tr w F e v → Tr w F' e v' → Calls Try.prog 22 #[v, v'] w fun en w' => en = .returned (.bool true) ∧ Only (fun _ => False) w w'
set_option maxRecDepth 100000 in
set_option maxHeartbeats 8000000 in
theorem same_step (op set : Int) (kids : List Rl.Ex) (hl : kids.length ≤ 5000) (ih : ∀ k ∈ kids, SameOk k) : SameOk (.mk op set kids) := by
  intro F F' v v' w h1 h2
  have H1 : Hid (Tr w F (.mk op set kids) v) := h1
  have H2 : Hid (Tr w F' (.mk op set kids) v') := h2
  have HI : Hid (∀ k ∈ kids, SameOk k) := ih
  unfold Tr at h1 h2
  obtain ⟨a, cap, rfl, _⟩ := h1
  obtain ⟨a', cap', rfl, _⟩ := h2
  obtain ⟨n, hn⟩ : ∃ n, n = kids.length := ⟨_, rfl⟩
  have Hn : Hid (n = kids.length) := hn
  rw [← hn] at hl ⊢
  rw [← hn] at H1 H2
  clear hn ih
  have X0 : Hid (Xb ((w.alloc (.cells #[.int .u8 op, .int .u32 set, .slice a n cap] 50)).alloc (.cells #[.int .u8 op, .int .u32 set, .slice a' n cap'] 50)) w.heap.size (.int .u8 op) (.int .u32 set) (.slice a n cap)) := (Xb.new w _ _ _).alloc _
  have Y0 : Hid (Xb ((w.alloc (.cells #[.int .u8 op, .int .u32 set, .slice a n cap] 50)).alloc (.cells #[.int .u8 op, .int .u32 set, .slice a' n cap'] 50)) (w.heap.size + 1) (.int .u8 op) (.int .u32 set) (.slice a' n cap')) := heap_alloc2_new _ _ _
  have HO0 : Hid (Only (fun _ => False) w ((w.alloc (.cells #[.int .u8 op, .int .u32 set, .slice a n cap] 50)).alloc (.cells #[.int .u8 op, .int .u32 set, .slice a' n cap'] 50))) := ((Only.refl (fun _ => False) w).alloc _).alloc _
  go_enter Try.func22, Try.ntmps22
  go_wp2_with fail
  go_loopg [5] n (fun g v wr => ∃ (k : Nat) (W : World), W = wr ∧ g = n - k ∧ k ≤ n ∧ v = .int .i64 (k : Int) ∧ Only (fun _ => False) w W ∧ Xb W w.heap.size (.int .u8 op) (.int .u32 set) (.slice a n cap) ∧ Xb W (w.heap.size + 1) (.int .u8 op) (.int .u32 set) (.slice a' n cap'))
  case atStart => exact ⟨0, _, rfl, rfl, Nat.zero_le _, rfl, HO0.out, X0.out, Y0.out⟩
  case round =>
    obtain ⟨k, W, hW, rfl, hk, rfl, hOr, hXr, hYr⟩ := hrel
    subst hW
    have x2 := hXr.c2
    have y2 := hYr.c2
    have HOr : Hid (Only (fun _ => False) w W) := hOr
    have HX : Hid (Xb W w.heap.size (.int .u8 op) (.int .u32 set) (.slice a n cap)) := hXr
    have HY : Hid (Xb W (w.heap.size + 1) (.int .u8 op) (.int .u32 set) (.slice a' n cap')) := hYr
    clear hOr hXr hYr
    by_cases hlt : k < n
    · have t1 : (k : Int) < (n : Int) := by omega
      obtain ⟨e, he⟩ : ∃ e, kids[k]? = some e := ⟨kids[k]'(by rw [← Hn.out]; omega), List.getElem?_eq_getElem _⟩
      have hok := HI.out e (List.mem_of_getElem? he)
      have HK : Hid (SameOk e) := hok
      have hT1 := H1.out.only0 HOr.out
      have hT2 := H2.out.only0 HOr.out
      obtain ⟨g, cp, o, st, a1, n1, c1, hv, p0, p1, p2, hg, hT⟩ := hT1.kid he
      obtain ⟨g', cp', o', st', a1', n1', c1', hv', p0', p1', p2', hg', hT'⟩ := hT2.kid he
      simp only [Value.agg.injEq, Array.mk.injEq, List.cons.injEq, and_true, Value.slice.injEq, true_and] at hv hv'
      obtain ⟨rfl, hnn, rfl⟩ := hv
      obtain ⟨rfl, hnn', rfl⟩ := hv'
      clear hnn hnn'
      have HT : Hid (Tr W F e (.agg #[.int .u8 o, .int .u32 st, .slice a1 n1 c1])) := hT
      have HT' : Hid (Tr W F' e (.agg #[.int .u8 o', .int .u32 st', .slice a1' n1' c1'])) := hT'
      rw [Nat.mul_comm] at p0 p1 p2 p0' p1' p2'
      clear hT hT' hT1 hT2 he hok
      go_wp2_with fail
      go_region_with (go_at_call 22; refine (HK.out F F' _ _ _ (HT.out.only0 ((Only.refl (fun _ => False) W).drew)) (HT'.out.only0 ((Only.refl (fun _ => False) W).drew))).mono ?_; rintro en w1 ⟨rfl, ho1⟩)
      all_goals
        go_wp2_with fail
        go_roundg (n - (k + 1))
        case measure => omega
        case rel => exact ⟨k + 1, _, rfl, rfl, by omega, by go_num, (HOr.out.drew).trans ho1, (HX.out.only ((Only.refl (fun _ => False) W).drew) (fun h => h)).only ho1 (fun h => h), (HY.out.only ((Only.refl (fun _ => False) W).drew) (fun h => h)).only ho1 (fun h => h)⟩
    · have t2 : decide ((k : Int) < (n : Int)) = false := decide_eq_false (by omega)
      go_wp2_with fail
      go_ret
      exact ⟨rfl, HOr.out⟩
theorem same_any : ∀ (e : Rl.Ex), Rl.Small e → SameOk e
  | .mk op set kids, h => same_step op set kids h.kids.1 (fun k hk => same_any k (h.kids.2 k hk))
termination_by e => SizeOf.sizeOf e
decreasing_by
  have := List.sizeOf_lt_of_mem hk
  simp
  omega
end Go.Proofs.Ytahoepmnekconaa
