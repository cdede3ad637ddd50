/-
  Expressions that were read have short lists of kids; no program in it.
-/
import Derived.Test.YtahoepmnekconaaLen2
namespace Go.Proofs.Ytahoepmnekconaa
open Go.RowKit Go.Maps
set_option linter.unusedVariables false
set_option linter.unusedSimpArgs false
namespace Rl
/-- every list of kids is short. -/
inductive Small : Ex → Prop
  | mk (op set : Int) (kids : List Ex) : kids.length ≤ 5000 → (∀ k ∈ kids, Small k) → Small (.mk op set kids)
theorem Small.kids {op set : Int} {kids : List Ex} (h : Small (.mk op set kids)) : kids.length ≤ 5000 ∧ ∀ k ∈ kids, Small k := by
  cases h with
  | mk _ _ _ h1 h2 => exact ⟨h1, h2⟩
theorem small_leaf (op set : Int) : Small (.mk op set []) := .mk op set [] (by simp) (by simp)
theorem small_one {e : Ex} (op : Int) (h : Small e) : Small (.mk op 0 [e]) := .mk op 0 [e] (by simp) (by simpa using h)
theorem small_alt {l : List Ex} (h : ∀ k ∈ l, Small k) (hl : l.length ≤ 5000) : Small (mkAlt l) := by
  unfold mkAlt
  split
  · simpa using h
  · exact .mk 3 0 _ hl h
theorem small_seq {l : List Ex} (h : ∀ k ∈ l, Small k) (hl : l.length ≤ 5000) : Small (mkSeq l) := by
  unfold mkSeq
  split
  · exact small_leaf 0 0
  · simpa using h
  · exact .mk 2 0 _ hl h
theorem small_often {e e' : Ex} {ts ts' : List Tk} (h : often e ts = .ok (e', ts')) (he : Small e) : Small e' := by
  cases ts with
  | nil => cases h
  | cons t ts =>
    simp only [often] at h
    split at h
    · cases h
    · split at h
      · cases h; exact small_one 4 he
      · split at h
        · cases h; exact small_one 5 he
        · split at h
          · cases h; exact small_one 6 he
          · cases h; exact he
theorem mem_snoc {l : List Ex} {e : Ex} (h : ∀ k ∈ l, Small k) (he : Small e) : ∀ k ∈ l ++ [e], Small k := by
  intro k hk
  rcases List.mem_append.1 hk with h1 | h1
  · exact h k h1
  · simp at h1; subst h1; exact he
theorem expr_small (E : Env) (nc : Nat) : ∀ n,
    (∀ d ts p e ts' p', either E nc n d ts p = .ok (e, ts', p') → p ≤ 200 → ts.length ≤ 4900 → Small e) ∧
    (∀ d ts p l e ts' p', alts E nc n d ts p l = .ok (e, ts', p') → p ≤ 200 → l.length + ts.length ≤ 4950 → ts.length ≤ 4900 → (∀ k ∈ l, Small k) → Small e) ∧
    (∀ d ts p l e ts' p', row E nc n d ts p l = .ok (e, ts', p') → p ≤ 200 → l.length + ts.length ≤ 4950 → ts.length ≤ 4900 → (∀ k ∈ l, Small k) → Small e) ∧
    (∀ d ts p e ts' p', thing E nc n d ts p = .ok (e, ts', p') → p ≤ 200 → ts.length ≤ 4900 → Small e)
  | 0 => by
    refine ⟨fun _ _ _ _ _ _ h => ?_, fun _ _ _ _ _ _ _ h => ?_, fun _ _ _ _ _ _ _ h => ?_, fun _ _ _ _ _ _ h => ?_⟩ <;> simp [either, alts, row, thing] at h
  | n + 1 => by
    obtain ⟨hE, hA, hR, hT⟩ := expr_small E nc n
    obtain ⟨lE, lA, lR, lT⟩ := expr_len E nc n
    refine ⟨fun d ts p e ts' p' h hp hl => ?_, fun d ts p l e ts' p' h hp hl hl2 hk => ?_, fun d ts p l e ts' p' h hp hl hl2 hk => ?_, fun d ts p e ts' p' h hp hl => ?_⟩
    · simp only [either] at h
      split at h
      · cases h
      · rename_i h1
        have a1 := lR _ _ _ _ _ _ _ h1 hp
        have b1 := hR _ _ _ _ _ _ _ h1 hp (by simp; omega) hl (by simp)
        exact hA _ _ _ _ _ _ _ h a1.2 (by simp; omega) (by omega) (by simpa using b1)
    · simp only [alts] at h
      split at h
      · cases h
      · cases h
        exact small_alt hk (by omega)
      · rename_i h1
        split at h
        · cases h
        · rename_i h2
          have a0 := took_len h1
          have a0' := a0.2 rfl
          have a1 := lR _ _ _ _ _ _ _ h2 hp
          have b1 := hR _ _ _ _ _ _ _ h2 hp (by simp; omega) (by omega) (by simp)
          exact hA _ _ _ _ _ _ _ h a1.2 (by simp; omega) (by omega) (mem_snoc hk b1)
    · cases ts with
      | nil => simp [row, thing] at h
      | cons t ts =>
        simp only [row] at h
        split at h
        · cases h
        · split at h
          · split at h
            · cases h
            · rename_i h1
              split at h
              · cases h
              · rename_i h2
                have a1 := lT _ _ _ _ _ _ h1 hp
                have a2 := often_len h2
                have b1 := hT _ _ _ _ _ _ h1 hp hl2
                simp only [List.length_cons] at hl hl2 a1
                exact hR _ _ _ _ _ _ _ h a1.2 (by simp; omega) (by omega) (mem_snoc hk (small_often h2 b1))
          · cases h
            exact small_seq hk (by simp only [List.length_cons] at hl; omega)
    · cases ts with
      | nil => simp [row, thing] at h
      | cons t ts =>
        simp only [thing] at h
        simp only [List.length_cons] at hl
        split at h
        · split at h
          · cases h
          · split at h
            · cases h
            · rename_i h1
              split at h
              · cases h
              · rename_i h2
                cases h
                exact hE _ _ _ _ _ _ h1 hp (by omega)
        · split at h
          · cases h
          · rename_i h1
            cases h
            exact small_leaf 1 _
def SmallS (s : St) : Prop := s.places ≤ 200 ∧ ∀ r ∈ s.list, Small r.left ∧ Small r.right
theorem rule_small {d : Int} {i : Nat} {ts ts' : List Tk} {s s' : St} (h : rule' d i ts s = .ok (ts', s')) (hs : SmallS s) (hl : ts.length ≤ 4900) : SmallS s' := by
  unfold rule' at h
  split at h
  · cases h
  · split at h
    · cases h
    · rename_i h1
      split at h
      · cases h
      · rename_i h2
        split at h
        · cases h
        · rename_i h3
          cases h
          have a1 := (expr_len s.env s.cls.length _).1 _ _ _ _ _ _ h1 hs.1
          have a2 := want_len h2
          have a3 := (expr_len s.env s.cls.length _).1 _ _ _ _ _ _ h3 a1.2
          have b1 := (expr_small s.env s.cls.length _).1 _ _ _ _ _ _ h1 hs.1 hl
          have b3 := (expr_small s.env s.cls.length _).1 _ _ _ _ _ _ h3 a1.2 (by omega)
          refine ⟨a3.2, fun r hr => ?_⟩
          rcases List.mem_append.1 hr with h4 | h4
          · exact hs.2 r h4
          · simp at h4; subst h4; exact ⟨b1, b3⟩
theorem classes_small : ∀ (ts : List Tk) (s : St) {ts' : List Tk} {s' : St}, classes ts s = .ok (ts', s') → SmallS s → SmallS s'
  | [], s, _, _, h, _ => by cases h
  | t :: ts, s, ts', s', h, hs => by
    rw [classes_cons] at h
    split at h
    · cases h
    · split at h
      · split at h
        · cases h
        · split at h
          · cases h
          · exact classes_small ts _ h hs
      · cases h; exact hs
theorem line_small {t : Tk} {ts ts' : List Tk} {s s' : St} (h : line t ts s = .ok (ts', s')) (hs : SmallS s) (hl : ts.length ≤ 4900) : SmallS s' := by
  unfold line at h
  split at h
  · exact classes_small ts s h hs
  · split at h
    · unfold set' at h
      split at h
      · cases h
      · split at h
        · cases h
        · split at h
          · cases h
          · cases h; exact hs
    · split at h
      · unfold join' at h
        split at h
        · cases h
        · split at h
          · cases h
          · split at h
            · cases h
            · cases h; exact hs
      · split at h
        · unfold treat' at h
          split at h
          · cases h
          · split at h
            · cases h
            · split at h
              · cases h
              · cases h; exact hs
        · split at h
          · exact rule_small h hs hl
          · split at h
            · exact rule_small h hs hl
            · split at h
              · exact rule_small h hs hl
              · cases h
theorem lines_small : ∀ (n : Nat) (ts : List Tk) (s : St) {s' : St}, lines n ts s = .ok s' → SmallS s → ts.length ≤ 4900 → SmallS s'
  | 0, _, _, _, h, _, _ => by cases h
  | _ + 1, [], _, _, h, _, _ => by cases h
  | n + 1, t :: ts, s, s', h, hs, hl => by
    simp only [lines] at h
    simp only [List.length_cons] at hl
    split at h
    · cases h
    · split at h
      · cases h; exact hs
      · split at h
        · cases h
        · rename_i h1
          split at h
          · cases h
          · rename_i h2
            have a1 := line_len h1 hs.1
            have a2 := want_len h2
            exact lines_small n _ _ h (line_small h1 hs (by omega)) (by omega)
theorem small_st0 : SmallS st0 := ⟨by decide, fun r hr => by cases hr⟩
end Rl
end Go.Proofs.Ytahoepmnekconaa
