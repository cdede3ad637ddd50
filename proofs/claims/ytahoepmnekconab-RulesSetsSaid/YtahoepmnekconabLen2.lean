/-
  A line's reading: names are declared no faster than pieces are read; the seven words among the kinds.
-/
import Derived.Test.YtahoepmnekconabCatch
namespace Go.Proofs.Ytahoepmnekconab
open Go.RowKit Go.Maps
set_option linter.unusedVariables false
set_option linter.unusedSimpArgs false

theorem nm_len {ts ts' : List Rl.Tk} {t : Rl.Tk} (h : Rl.name ts = .ok (t, ts')) : ts'.length < ts.length := by
  cases ts with
  | nil => cases h
  | cons t0 ts0 =>
    rw [name_cons] at h
    split at h
    · cases h
    · split at h
      · cases h; simp
      · cases h
theorem fresh_len {E : Rl.Env} {ts ts' : List Rl.Tk} {t : Rl.Tk} (h : Rl.fresh E ts = .ok (t, ts')) : ts'.length < ts.length := nm_len (fresh_none h).1
theorem placeOf_len {C : List Rl.Str} {ts ts' : List Rl.Tk} {k : Nat} (h : Rl.placeOf C ts = .ok (k, ts')) : ts'.length < ts.length := by
  unfold Rl.placeOf at h
  split at h
  · cases h
  · rename_i hn
    split at h
    · cases h
    · cases h; exact nm_len hn
theorem classes_len : ∀ (ts : List Rl.Tk) (s : Rl.St) {ts' : List Rl.Tk} {s' : Rl.St}, Rl.classes ts s = .ok (ts', s') → ts'.length ≤ ts.length ∧ s'.env.length + ts'.length ≤ s.env.length + ts.length
  | [], s, _, _, h => by cases h
  | t :: ts, s, ts', s', h => by
    rw [classes_cons] at h
    split at h
    · cases h
    · split at h
      · split at h
        · cases h
        · split at h
          · cases h
          · have ih := classes_len ts _ h
            unfold Rl.addClass at ih
            simp only [List.length_append, List.length_cons, List.length_nil] at ih ⊢
            omega
      · cases h; simp
theorem line_len {t : Rl.Tk} {ts ts' : List Rl.Tk} {s s' : Rl.St} (h : Rl.line t ts s = .ok (ts', s')) (hp : s.places ≤ 200) : ts'.length ≤ ts.length ∧ s'.env.length + ts'.length ≤ s.env.length + ts.length := by
  have hrule : ∀ d, Rl.rule' d t.at' ts s = .ok (ts', s') → ts'.length ≤ ts.length ∧ s'.env.length + ts'.length ≤ s.env.length + ts.length := by
    intro d h
    unfold Rl.rule' at h
    split at h
    · cases h
    · split at h
      · cases h
      · rename_i h1
        split at h
        · cases h
        · rename_i h2
          split at h
          · cases h
          · rename_i h3
            cases h
            have a1 := (Rl.expr_len s.env s.cls.length _).1 _ _ _ _ _ _ h1 hp
            have a2 := Rl.want_len h2
            have a3 := (Rl.expr_len s.env s.cls.length _).1 _ _ _ _ _ _ h3 a1.2
            simp only
            omega
  unfold Rl.line at h
  split at h
  · exact classes_len ts s h
  · split at h
    · unfold Rl.set' at h
      split at h
      · cases h
      · rename_i h1
        split at h
        · cases h
        · rename_i h2
          split at h
          · cases h
          · rename_i h3
            cases h
            have a1 := fresh_len h1
            have a2 := Rl.want_len h2
            have a3 := Rl.names_len h3
            simp only [List.length_append, List.length_cons, List.length_nil]
            omega
    · split at h
      · unfold Rl.join' at h
        split at h
        · cases h
        · rename_i h1
          split at h
          · cases h
          · rename_i h2
            split at h
            · cases h
            · rename_i h3
              cases h
              have a1 := Rl.names_len h1
              have a2 := Rl.want_len h2
              have a3 := Rl.names_len h3
              simp only
              omega
      · split at h
        · unfold Rl.treat' at h
          split at h
          · cases h
          · rename_i h1
            split at h
            · cases h
            · rename_i h2
              split at h
              · cases h
              · rename_i h3
                cases h
                have a1 := placeOf_len h1
                have a2 := Rl.want_len h2
                have a3 := placeOf_len h3
                simp only
                omega
        · split at h
          · exact hrule 0 h
          · split at h
            · exact hrule 1 h
            · split at h
              · exact hrule 2 h
              · cases h
theorem has_none {s : Rl.Str} (h1 : s ≠ Rl.wClass) (h2 : s ≠ Rl.wSet) (h3 : s ≠ Rl.wJoin) (h4 : s ≠ Rl.wTreat) (h5 : s ≠ Rl.wKeep) (h6 : s ≠ Rl.wMay) (h7 : s ≠ Rl.wMust) : Maps.has kindsD (.string s) = false := by
  have ne : ∀ {a : Rl.Str}, s ≠ a → (Lit.string s) ≠ (Lit.string a) := fun h e => h (by injection e)
  unfold kindsD
  rw [has_put_other (ne h7), has_put_other (ne h6), has_put_other (ne h5), has_put_other (ne h4), has_put_other (ne h3), has_put_other (ne h2), has_put_other (ne h1)]
  rfl
end Go.Proofs.Ytahoepmnekconab
