/-
  Reading goes on: what is left of the pieces is never longer; things are at most 200; no program in it.
-/
import Derived.Test.YtfbcijnacbfjpaaMath
namespace Go.Proofs.Ytfbcijnacbfjpaa
set_option linter.unusedVariables false
set_option linter.unusedSimpArgs false
namespace Rl
theorem took_len {c : UInt8} {ts ts' : List Tk} {b : Bool} (h : took c ts = .ok (b, ts')) : ts'.length ≤ ts.length ∧ (b = true → ts'.length < ts.length) := by
  cases ts with
  | nil => cases h
  | cons t ts =>
    simp only [took] at h
    split at h
    · cases h
    · split at h
      · cases h; simp
      · cases h; simp
theorem want_len {c : UInt8} {ts ts' : List Tk} (h : want c ts = .ok ts') : ts'.length < ts.length := by
  cases ts with
  | nil => cases h
  | cons t ts =>
    simp only [want] at h
    split at h
    · cases h
    · split at h
      · cases h; simp
      · cases h
theorem names_len {E : Env} : ∀ {ts ts' : List Tk} {a b : Int}, names E ts a = .ok (b, ts') → ts'.length ≤ ts.length
  | [], _, _, _, h => by cases h
  | t :: ts, ts', a, b, h => by
    simp only [names] at h
    split at h
    · cases h
    · split at h
      · split at h
        · cases h
        · have := names_len h
          simp only [List.length_cons]
          omega
      · cases h; simp
theorem often_len {e e' : Ex} {ts ts' : List Tk} (h : often e ts = .ok (e', ts')) : ts'.length ≤ ts.length := by
  cases ts with
  | nil => cases h
  | cons t ts =>
    simp only [often] at h
    split at h
    · cases h
    · split at h
      · cases h; simp
      · split at h
        · cases h; simp
        · split at h
          · cases h; simp
          · cases h; simp
theorem some_len {E : Env} {nc p p' : Nat} {ts ts' : List Tk} {b : Int} (h : some' E nc ts p = .ok (b, ts', p')) (hp : p ≤ 200) : ts'.length < ts.length ∧ p' ≤ 200 := by
  cases ts with
  | nil => cases h
  | cons t ts =>
    simp only [some'] at h
    split at h
    · cases h
    · split at h
      · cases h; simp; omega
      · split at h
        · split at h
          · cases h
          · rename_i h1
            split at h
            · cases h
            · rename_i h2
              split at h
              · cases h
              · rename_i h3
                cases h
                have := took_len h1
                have := names_len h2
                have := want_len h3
                simp only [List.length_cons]
                omega
        · split at h
          · cases h
          · cases h; simp; omega
theorem expr_len (E : Env) (nc : Nat) : ∀ n,
    (∀ d ts p e ts' p', either E nc n d ts p = .ok (e, ts', p') → p ≤ 200 → ts'.length ≤ ts.length ∧ p' ≤ 200) ∧
    (∀ d ts p l e ts' p', alts E nc n d ts p l = .ok (e, ts', p') → p ≤ 200 → ts'.length ≤ ts.length ∧ p' ≤ 200) ∧
    (∀ d ts p l e ts' p', row E nc n d ts p l = .ok (e, ts', p') → p ≤ 200 → ts'.length ≤ ts.length ∧ p' ≤ 200) ∧
    (∀ d ts p e ts' p', thing E nc n d ts p = .ok (e, ts', p') → p ≤ 200 → ts'.length < ts.length ∧ p' ≤ 200)
  | 0 => by
    refine ⟨fun _ _ _ _ _ _ h => ?_, fun _ _ _ _ _ _ _ h => ?_, fun _ _ _ _ _ _ _ h => ?_, fun _ _ _ _ _ _ h => ?_⟩ <;> simp [either, alts, row, thing] at h
  | n + 1 => by
    obtain ⟨hE, hA, hR, hT⟩ := expr_len E nc n
    refine ⟨fun d ts p e ts' p' h hp => ?_, fun d ts p l e ts' p' h hp => ?_, fun d ts p l e ts' p' h hp => ?_, fun d ts p e ts' p' h hp => ?_⟩
    · simp only [either] at h
      split at h
      · cases h
      · rename_i h1
        have a1 := hR _ _ _ _ _ _ _ h1 hp
        have a2 := hA _ _ _ _ _ _ _ h a1.2
        omega
    · simp only [alts] at h
      split at h
      · cases h
      · rename_i h1
        cases h
        have := took_len h1
        omega
      · rename_i h1
        split at h
        · cases h
        · rename_i h2
          have a0 := took_len h1
          have a1 := hR _ _ _ _ _ _ _ h2 hp
          have a2 := hA _ _ _ _ _ _ _ h a1.2
          omega
    · cases ts with
      | nil => simp [row, thing] at h
      | cons t ts =>
        simp only [row] at h
        split at h
        · cases h
        · split at h
          · split at h
            · cases h
            · rename_i h1
              split at h
              · cases h
              · rename_i h2
                have a1 := hT _ _ _ _ _ _ h1 hp
                have a2 := often_len h2
                have a3 := hR _ _ _ _ _ _ _ h a1.2
                omega
          · cases h
            exact ⟨Nat.le_refl _, hp⟩
    · cases ts with
      | nil => simp [row, thing] at h
      | cons t ts =>
        simp only [thing] at h
        split at h
        · split at h
          · cases h
          · split at h
            · cases h
            · rename_i h1
              split at h
              · cases h
              · rename_i h2
                cases h
                have a1 := hE _ _ _ _ _ _ h1 hp
                have a2 := want_len h2
                simp only [List.length_cons]
                omega
        · split at h
          · cases h
          · rename_i h1
            cases h
            exact some_len h1 hp
end Rl
end Go.Proofs.Ytfbcijnacbfjpaa
