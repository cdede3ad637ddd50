/-
  find, named, list, fresh, class of the document's own parser.
-/
import Derived.Test.YtahoepmnekconaaR4
namespace Go.Proofs.Ytahoepmnekconaa
open Go.RowKit Go.Maps
set_option linter.unusedVariables false
set_option linter.unusedSimpArgs false
def u32s (l : List Int) : List Value := l.map (Value.int .u32)
/-- the names that are declared, in that parser's two lists. -/
structure Dec (w : World) (rb : Nat) (x : Rq) (E : Rl.Env) : Prop where
  nm : w.ownsRow (rb + 1) 9 1 x.vN E.length (strs (E.map Prod.fst))
  bt : w.ownsRow (rb + 1) 34 1 x.vB E.length (u32s (E.map Prod.snd))
  le : E.length ≤ 5000
theorem Dec.only {w w' : World} {rb : Nat} {x : Rq} {E : Rl.Env} (h : Dec w rb x E) (ho : Only (· = rb) w w') : Dec w' rb x E :=
  ⟨own_only h.nm ho (fun g hg => by omega), own_only h.bt ho (fun g hg => by omega), h.le⟩
theorem Dec.only0 {w w' : World} {rb : Nat} {x : Rq} {E : Rl.Env} (h : Dec w rb x E) (ho : Only (fun _ => False) w w') : Dec w' rb x E := h.only (ho.mono (fun _ h => h.elim))
theorem find_at {s : Rl.Str} {b : Int} : ∀ (E : Rl.Env) (k : Nat), E[k]? = some (s, b) → (∀ j, j < k → (E.map Prod.fst)[j]? ≠ some s) → Rl.find E s = some b
  | [], k, h, _ => by simp at h
  | q :: E, 0, h, _ => by
    simp at h
    subst h
    unfold Rl.find
    rw [if_pos rfl]
  | (s', b') :: E, k + 1, h, hb => by
    have hne : s' ≠ s := fun e => hb 0 (by omega) (by simp [e])
    unfold Rl.find
    rw [if_neg hne]
    exact find_at E k (by simpa using h) (fun j hj e => hb (j + 1) (by omega) (by simpa using e))
theorem find_none {s : Rl.Str} : ∀ (E : Rl.Env), s ∉ E.map Prod.fst → Rl.find E s = none
  | [], _ => rfl
  | (s', b') :: E, h => by
    simp only [List.map_cons, List.mem_cons, not_or] at h
    unfold Rl.find
    rw [if_neg (fun e => h.1 e.symm)]
    exact find_none E h.2
/-- what the place of a name says. -/
theorem idx_find (E : Rl.Env) (s : Rl.Str) : (∃ k b, idxI (E.map Prod.fst) s = ((k : Nat) : Int) ∧ E[k]? = some (s, b) ∧ k < E.length ∧ Rl.find E s = some b) ∨ (idxI (E.map Prod.fst) s = -1 ∧ Rl.find E s = none) := by
  by_cases h : s ∈ E.map Prod.fst
  · left
    obtain ⟨k, hk, hb⟩ : ∃ k, (E.map Prod.fst)[k]? = some s ∧ ∀ j, j < k → (E.map Prod.fst)[j]? ≠ some s := by
      have h1 := List.idxOf_lt_length_iff.2 h
      refine ⟨(E.map Prod.fst).idxOf s, by rw [List.getElem?_eq_getElem h1]; simp, fun j hj e => ?_⟩
      have := List.not_of_lt_findIdx (p := (· == s)) (xs := E.map Prod.fst) hj
      obtain ⟨hl, e2⟩ := List.getElem?_eq_some_iff.1 e
      simp [e2] at this
    have hi := place_at hk hb
    rw [List.getElem?_map] at hk
    cases hE : E[k]? with
    | none => rw [hE] at hk; cases hk
    | some q =>
      obtain ⟨s', b⟩ := q
      rw [hE] at hk
      simp at hk
      subst hk
      exact ⟨k, b, hi, hE, (List.getElem?_eq_some_iff.1 hE).1, find_at E k hE hb⟩
  · right
    exact ⟨place_none h, find_none E h⟩
set_option maxRecDepth 100000 in
set_option maxHeartbeats 4000000 in
theorem rfind_any (E : Rl.Env) (s : Rl.Str) (rb : Nat) (S : ByteArray) (i : Int) (x : Rq) (c t : Int) (w : World) (hR : Rpr w rb S i x c t) (hE : Dec w rb x E) :
    Calls Try.prog 53 #[.pointer (some ⟨rb, 0, none⟩), .string (bs s)] w fun e w' => e = .returned (.int .i64 (idxI (E.map Prod.fst) s)) ∧ w' = w := by
  have hv := hE.nm
  have hl := hE.le
  obtain ⟨a, cap, hvN⟩ := own_form hv
  rw [hvN] at hv
  have d7 := hR.c7
  rw [hvN] at d7
  obtain ⟨l, hll⟩ : ∃ l, l = E.map Prod.fst := ⟨_, rfl⟩
  have hlen : E.length = l.length := by rw [hll, List.length_map]
  rw [← hll] at hv ⊢
  rw [hlen] at hv hl d7
  have Hv : Hid (w.ownsRow (rb + 1) 9 1 (.slice a l.length cap) l.length (strs l)) := hv
  have ht := bs_toList s
  clear hv hvN hll hlen hE hR
  obtain ⟨n, hn⟩ : ∃ n, n = l.length := ⟨_, rfl⟩
  have Hn : Hid (n = l.length) := hn
  rw [← hn] at hl d7
  clear hn
  go_enter Try.func53, Try.ntmps53
  go_wp2_with fail
  go_loopg [5] n (fun g i wr => ∃ k : Nat, g = n - k ∧ k ≤ n ∧ i = .int .i64 (k : Int) ∧ w = wr ∧ Hid (∀ j, j < k → l[j]? ≠ some s))
  case atStart => exact ⟨0, rfl, Nat.zero_le _, rfl, rfl, (fun j hj => absurd hj (Nat.not_lt_zero _) : ∀ j, j < 0 → l[j]? ≠ some s)⟩
  case round =>
    obtain ⟨k, rfl, hk, rfl, rfl, hB⟩ := hrel
    by_cases hlt : k < n
    · have t1 : (k : Int) < (n : Int) := by omega
      obtain ⟨c, hc⟩ : ∃ c, l[k]? = some c := ⟨l[k]'(by rw [← Hn.out]; omega), List.getElem?_eq_getElem _⟩
      have Hc : Hid (l[k]? = some c) := hc
      obtain ⟨g, cap', hv', hgb, hgl, hcap, hcells⟩ := row_form Hv.out (by rw [← Hn.out]; omega)
      have e0 : a = some ⟨g, 0, none⟩ := by injection hv'
      have d0 : w.cell? ⟨g, k, none⟩ = some (.string (bs c)) := by
        rw [hcells k (by rw [← Hn.out]; omega)]
        unfold strs
        rw [List.getElem?_map, hc]; rfl
      have htc := bs_toList c
      subst e0
      clear hc hv' hcells
      by_cases he : c = s
      · have q : (c == s) = true := by simp [he]
        have He : Hid (c = s) := he
        clear he
        go_wp2
        go_ret
        refine ⟨?_, rfl⟩
        rw [place_at (by rw [Hc.out, He.out]) hB.out]; rfl
      · have q : (c == s) = false := by simpa using he
        have He : Hid (¬ c = s) := he
        clear he
        go_wp2
        go_roundg (n - (k + 1))
        case measure => omega
        case rel =>
          refine ⟨k + 1, rfl, by omega, by go_num, rfl, (?_ : ∀ j, j < k + 1 → l[j]? ≠ some s)⟩
          intro j hj e
          by_cases ej : j = k
          · subst ej
            rw [Hc.out] at e
            injection e with e
            exact He.out e
          · exact hB.out j (by omega) e
    · have t2 : decide ((k : Int) < (n : Int)) = false := decide_eq_false (by omega)
      have hkn : k = n := by omega
      go_wp2
      go_ret
      refine ⟨?_, rfl⟩
      have hnm : s ∉ l := fun hm => by
        obtain ⟨j, hj, e⟩ := List.mem_iff_getElem.1 hm
        exact hB.out j (by rw [hkn, Hn.out]; exact hj) (by rw [List.getElem?_eq_getElem hj, e])
      rw [place_none hnm]; rfl
/-- how named ends. -/
def rclsP (rb : Nat) (S : ByteArray) (x : Rq) (w : World) (F : Rl.R (Int × List Rl.Tk)) (e : Ending) (w' : World) : Prop :=
  match F with
  | .error f => (∃ b : Int, e = .returned (.int .u32 b)) ∧ Qb w' rb S f ∧ Only (· = rb) w w'
  | .ok (b, ts) => e = .returned (.int .u32 b) ∧ Qn w' rb S x ts ∧ Only (· = rb) w w'
set_option maxRecDepth 100000 in
set_option maxHeartbeats 4000000 in
theorem named_bad (rb : Nat) (S : ByteArray) (f : Rl.Ft) (w : World) (h : Qb w rb S f) :
    Calls Try.prog 54 #[.pointer (some ⟨rb, 0, none⟩)] w fun e w' => e = .returned (.int .u32 0) ∧ Qb w' rb S f ∧ Only (fun _ => False) w w' := by
  have HB : Hid (Qb w rb S f) := h
  clear h
  go_enter Try.func54, Try.ntmps54
  go_wp2_with (go_at_call 33; refine (word_bad rb S f _ HB.out).mono ?_; rintro e w1 ⟨a, rfl, hb1, ho1⟩; have HB1 : Hid (Qb w1 rb S f) := hb1; obtain ⟨i1, x1, hR1, hc1, _⟩ := hb1; have d11 := hR1.c11; have q : ((f.1 : Int) != 0) = true := (by simpa using hc1); clear hR1 hc1)
  go_ret
  exact ⟨rfl, HB1.out, ho1⟩
set_option maxRecDepth 100000 in
set_option maxHeartbeats 4000000 in
theorem named_any (E : Rl.Env) (rb : Nat) (S : ByteArray) (x : Rq) (ts : List Rl.Tk) (w : World) (h : Qn w rb S x ts) (hS : S.size ≤ 4096) (hv : Vc x) (hE : Dec w rb x E) :
    Calls Try.prog 54 #[.pointer (some ⟨rb, 0, none⟩)] w (rclsP rb S x w (clsF E ts)) := by
  have hn := word_any rb S x ts w h hS hv
  have HV : Hid (Vc x) := hv
  have HE : Hid (Dec w rb x E) := hE
  cases hnm : Rl.name ts with
  | error f =>
    have hF : clsF E ts = .error f := by unfold clsF; rw [hnm]
    rw [hF]
    rw [hnm] at hn
    have HN : Hid (Calls Try.prog 33 #[.pointer (some ⟨rb, 0, none⟩)] w (wordP rb S x w (.error f))) := hn
    clear hF hnm hn h hE hv
    go_enter Try.func54, Try.ntmps54
    go_wp2_with (go_at_call 33; refine HN.out.mono ?_; rintro e w1 ⟨⟨a, rfl⟩, hb1, ho1⟩; have HB1 : Hid (Qb w1 rb S f) := hb1; obtain ⟨i1, x1, hR1, hc1, _⟩ := hb1; have d11 := hR1.c11; have q : ((f.1 : Int) != 0) = true := (by simpa using hc1); clear hR1 hc1)
    go_ret
    exact ⟨⟨_, rfl⟩, HB1.out, ho1⟩
  | ok r =>
    obtain ⟨t, ts1⟩ := r
    rw [hnm] at hn
    have HN : Hid (Calls Try.prog 33 #[.pointer (some ⟨rb, 0, none⟩)] w (wordP rb S x w (.ok (t, ts1)))) := hn
    rcases idx_find E t.text with ⟨k, b, hi, hk, hkl, hf⟩ | ⟨hi, hf⟩
    · have hF : clsF E ts = .ok (b, ts1) := by unfold clsF; rw [hnm]; simp only [hf]
      rw [hF]
      have HX : Hid (idxI (E.map Prod.fst) t.text = (k : Int)) := hi
      have hbt := hE.bt
      obtain ⟨g, cap, hvB, hgb, hgl, hcap, hcells⟩ := row_form hbt (by omega)
      have d0 : w.cell? ⟨g, k, none⟩ = some (.int .u32 b) := by
        rw [hcells k (by omega)]
        unfold u32s
        rw [List.map_map, List.getElem?_map, hk]; rfl
      have HD0 : Hid (w.cell? ⟨g, k, none⟩ = some (.int .u32 b)) := d0
      have HvB : Hid (x.vB = .slice (some ⟨g, 0, none⟩) E.length cap) := hvB
      have hel := hE.le
      obtain ⟨n, hn2⟩ : ∃ n, n = E.length := ⟨_, rfl⟩
      rw [← hn2] at HvB hkl hcap hel
      clear hF hnm hn hi hk hf hbt hvB hcells d0 h hE hv hn2
      go_enter Try.func54, Try.ntmps54
      go_wp2_with (first | (go_at_call 33; refine HN.out.mono ?_; rintro e w1 ⟨rfl, hi1, ho1⟩; have HI1 : Hid (Qn w1 rb S x ts1) := hi1; obtain ⟨i1, hR1, _, _⟩ := hi1; have d11 := hR1.c11; have d8 := hR1.c8; rw [HvB.out] at d8; have d0 : w1.cell? ⟨g, k, none⟩ = some (.int .u32 b) := (World.cell?_of_block (a := ⟨g, k, none⟩) (ho1.block g hgl (by omega))).trans HD0.out; have HR1 : Hid (Rpr w1 rb S i1 x 0 0) := hR1; clear hR1; have HE1 : Hid (Dec w1 rb x E) := HE.out.only ho1) | (go_at_call 53; have hc := rfind_any E t.text rb S _ x _ _ _ HR1.out HE1.out; rw [HX.out] at hc; refine hc.mono ?_; clear hc; rintro e w2 ⟨rfl, rfl⟩))
      go_ret
      exact ⟨rfl, HI1.out, ho1⟩
    · have hF : clsF E ts = .error (22, t.at') := by unfold clsF; rw [hnm]; simp only [hf]
      rw [hF]
      have HX : Hid (idxI (E.map Prod.fst) t.text = -1) := hi
      clear hF hnm hn hi hf h hE hv
      go_enter Try.func54, Try.ntmps54
      go_wp2_with (first | (go_at_call 33; refine HN.out.mono ?_; rintro e w1 ⟨rfl, hi1, ho1⟩; obtain ⟨i1, hR1, _, _⟩ := hi1; have d11 := hR1.c11; have HR1 : Hid (Rpr w1 rb S i1 x 0 0) := hR1; clear hR1; have HE1 : Hid (Dec w1 rb x E) := HE.out.only ho1) | (go_at_call 53; have hc := rfind_any E t.text rb S _ x _ _ _ HR1.out HE1.out; rw [HX.out] at hc; refine hc.mono ?_; clear hc; rintro e w2 ⟨rfl, rfl⟩) | (go_at_call 32; refine (bad_first rb S _ x 22 t.at' _ HR1.out).mono ?_; rintro e w3 ⟨rfl, hR3, ho3⟩))
      go_ret
      exact ⟨⟨_, rfl⟩, (show Rpr w3 rb S (i1 : Int) x ((22 : Nat) : Int) (t.at' : Int) from hR3).qb (by decide) HV.out, ho1.trans ho3⟩
end Go.Proofs.Ytahoepmnekconaa
