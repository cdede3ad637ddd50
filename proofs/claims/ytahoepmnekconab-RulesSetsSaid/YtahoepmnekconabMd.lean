/-
  A plan's text, line by line: what is read of it; no program in it.
-/
import Derived.Test.YtahoepmnekconabMc
namespace Go.Proofs.Ytahoepmnekconab
set_option linter.unusedVariables false
set_option linter.unusedSimpArgs false
namespace Rl
open Hd (at' up ex)
/-- these pieces turn one state into another one. -/
def Rds (s : St) (X : List Str) (s' : St) : Prop := ∀ (K : List Tk) (f : Nat), X.length + K.length + 1 ≤ f → ∃ f', lines f (tz X ++ K) s = lines f' K s' ∧ K.length + 1 ≤ f'
theorem Rds.nil (s : St) : Rds s [] s := fun K f h => ⟨f, rfl, by simpa using h⟩
theorem Rds.app {s s1 s2 : St} {X Y : List Str} (h : Rds s X s1) (k : Rds s1 Y s2) : Rds s (X ++ Y) s2 := fun K f hf => by
  rw [List.length_append] at hf
  obtain ⟨f1, e1, h1⟩ := h (tz Y ++ K) f (by rw [List.length_append, tz_len]; omega)
  rw [List.length_append, tz_len] at h1
  obtain ⟨f2, e2, h2⟩ := k K f1 (by omega)
  exact ⟨f2, by rw [tz_app, List.append_assoc, e1, e2], h2⟩
/-- one line. -/
theorem Rds.line {s s' : St} {x : Str} {X : List Str} (hx : x ≠ []) (h : ∀ K : List Tk, Rl.line (z x) (tz X ++ z [59] :: K) s = .ok (z [59] :: K, s')) : Rds s ((x :: X) ++ [[59]]) s' := fun K f hf => by
  simp only [List.length_append, List.length_cons, List.length_nil] at hf
  obtain ⟨g, rfl⟩ : ∃ g, f = g + 1 := ⟨f - 1, by omega⟩
  refine ⟨g, ?_, by omega⟩
  have e : tz ((x :: X) ++ [[59]]) ++ K = z x :: (tz X ++ z [59] :: K) := by simp [tz, List.append_assoc]
  rw [e, lines, if_neg (by exact Bool.false_ne_true), z_text, if_neg hx, h K]
  simp only
  rw [want_yes]
/-- the classes' names. -/
def cl (n k : Nat) : List Str := (List.range k).map (fun i => [(65 + i).toUInt8])
def stc (k : Nat) : St := ⟨(List.range k).map (fun i => [(65 + i).toUInt8]), (List.range k).map (fun (i : Nat) => (i : Int)), 0, 0, (List.range k).map (fun (i : Nat) => ([(65 + i).toUInt8], ((2 ^ i : Nat) : Int))), 0, []⟩
theorem find_none {f : Nat → Str × Int} {x : Str} : ∀ {L : List Nat}, (∀ i ∈ L, (f i).1 ≠ x) → find (L.map f) x = none
  | [], _ => rfl
  | i :: L, h => by
    rw [List.map_cons, find, if_neg (h i List.mem_cons_self)]
    exact find_none (fun j hj => h j (List.mem_cons_of_mem _ hj))
theorem find_app {x : Str} : ∀ {A B : Env}, find A x = none → find (A ++ B) x = find B x
  | [], _, _ => rfl
  | (s, b) :: A, B, h => by
    rw [find] at h
    split at h
    · cases h
    · rename_i hs
      rw [List.cons_append, find, if_neg hs]
      exact find_app h
theorem find_app2 {x : Str} {v : Int} : ∀ {A B : Env}, find A x = some v → find (A ++ B) x = some v
  | [], _, h => by cases h
  | (s, b) :: A, B, h => by
    rw [find] at h
    rw [List.cons_append, find]
    split at h
    · rename_i hs; rw [if_pos hs]; exact h
    · rename_i hs
      rw [if_neg hs]
      exact find_app2 h
theorem byte_ne {i j : Nat} (hi : i < 6) (hj : j < 6) (h : i ≠ j) : (65 + i).toUInt8 ≠ (65 + j).toUInt8 := by
  intro e
  have h1 := (isN_name (n := 6) (by omega) (by omega) i).2
  have h2 := (isN_name (n := 6) (by omega) (by omega) j).2
  rw [Nat.mod_eq_of_lt hi] at h1
  rw [Nat.mod_eq_of_lt hj] at h2
  rw [e] at h1
  omega
theorem stc_succ (k : Nat) : stc (k + 1) = addClass (stc k) [(65 + k).toUInt8] := by
  unfold stc addClass
  simp [List.range_succ]
theorem stc_env {n : Nat} (hn6 : n ≤ 6) : ∀ k, k ≤ n → EnvOk (stc k).env k
  | 0, _ => fun j hj => absurd hj (Nat.not_lt_zero _)
  | k + 1, hk => by
    intro j hj
    rw [stc_succ]
    show find ((stc k).env ++ _) _ = _
    by_cases e : j = k
    · subst e
      have hnone : find (stc j).env [(65 + j).toUInt8] = none := find_none (fun i hi => by
        have := List.mem_range.1 hi
        intro e
        simp only [List.cons.injEq, and_true] at e
        exact byte_ne (by omega) (by omega) (by omega : i ≠ j) e)
      rw [find_app hnone]
      unfold find
      rw [if_pos rfl]
      unfold stc
      simp
    · exact find_app2 (stc_env hn6 k (by omega) j (by omega))
theorem stc_none {n : Nat} (hn6 : n ≤ 6) {k : Nat} (hk : k < n) : find (stc k).env [(65 + k).toUInt8] = none := find_none (fun i hi => by
  have := List.mem_range.1 hi
  intro e
  simp only [List.cons.injEq, and_true] at e
  exact byte_ne (by omega) (by omega) (by omega : i ≠ k) e)
theorem name_small {n k : Nat} (hk : k < n) : Hd.name n k = [(65 + k).toUInt8] := by
  unfold Hd.name
  rw [Nat.mod_eq_of_lt hk]
theorem bit255 : ∀ k, k < 6 → Hd.bit 255 k = true := by decide
theorem classes_x {n : Nat} (hn : 1 ≤ n) (hn6 : n ≤ 6) : ∀ k, k ≤ n → ∀ K : List Tk, classes (tz (nmx n 255 k) ++ K) st0 = classes K (stc k)
  | 0, _, K => rfl
  | k + 1, hk, K => by
    rw [nmx, if_pos (bit255 k (by omega)), tz_app, List.append_assoc, classes_x hn hn6 k (by omega)]
    show classes (z (Hd.name n k) :: K) (stc k) = _
    rw [classes, if_neg (by exact Bool.false_ne_true), if_pos (name_nm hn hn6 k), z_text, name_small (by omega), stc_none hn6 (by omega), stc_succ]
    rw [if_neg (by exact Bool.false_ne_true), if_neg]
    unfold stc
    simp only [List.length_map, List.length_range]
    omega
theorem first_x {n : Nat} (hn : 1 ≤ n) (hn6 : n ≤ 6) : Rds st0 (fx n) (stc n) := by
  refine Rds.line (x := wClass) (X := nmx n 255 n) (by decide) (fun K => ?_)
  unfold Rl.line
  rw [z_text, if_pos rfl, classes_x hn hn6 n (Nat.le_refl _)]
  rw [classes, if_neg (by exact Bool.false_ne_true), if_neg (by exact Bool.false_ne_true)]
/-- behind the joins. -/
def stj (n jo af : Nat) : St := if jo = 0 then stc n else { stc n with join := bor 0 ((jo % 2 ^ n : Nat) : Int), after := bor 0 ((af % 2 ^ n : Nat) : Int) }
theorem second_x {n : Nat} (hn : 1 ≤ n) (hn6 : n ≤ 6) (jo af : Nat) : Rds st0 (sx n jo af) (stj n jo af) := by
  unfold sx stj
  by_cases e : jo = 0
  · rw [if_pos e, if_pos e]; exact first_x hn hn6
  · rw [if_neg e, if_neg e]
    have hE := stc_env hn6 n (Nat.le_refl _)
    have h := (first_x hn hn6).app (Rds.line (s := stc n) (s' := { stc n with join := bor 0 ((jo % 2 ^ n : Nat) : Int), after := bor 0 ((af % 2 ^ n : Nat) : Int) }) (x := wJoin) (X := nmx n jo n ++ ([47] :: nmx n af n)) (by decide) (fun K => by
      unfold Rl.line
      rw [z_text, if_neg (by decide), if_neg (by decide), if_pos rfl]
      unfold join'
      have e1 : tz (nmx n jo n ++ ([47] :: nmx n af n)) ++ z [59] :: K = tz (nmx n jo n) ++ z [47] :: (tz (nmx n af n) ++ z [59] :: K) := by simp [tz, List.append_assoc]
      rw [e1, names_x hE hn hn6 jo n (Nat.le_refl _), names_end rfl rfl]
      simp only
      rw [want_yes]
      simp only
      rw [names_x hE hn hn6 af n (Nat.le_refl _), names_end rfl rfl]
      rfl))
    have e2 : fx n ++ ((wJoin :: (nmx n jo n ++ ([47] :: nmx n af n))) ++ [[59]]) = ((((fx n ++ [wJoin]) ++ nmx n jo n) ++ [[47]]) ++ nmx n af n) ++ [[59]] := by simp [List.append_assoc]
    rw [← e2]
    exact h
/-- behind so many treats. -/
def stt (n jo af : Nat) (T : List Nat) : Nat → St
  | 0 => stj n jo af
  | k + 1 => { stt n jo af T k with treat := (stt n jo af T k).treat.set k ((at' T k % n : Nat) : Int) }
theorem stt_cls (n jo af : Nat) (T : List Nat) : ∀ k, (stt n jo af T k).cls = (stc n).cls ∧ (stt n jo af T k).env = (stc n).env ∧ (stt n jo af T k).places = 0 ∧ (stt n jo af T k).list = [] ∧ (stt n jo af T k).join = (stj n jo af).join ∧ (stt n jo af T k).after = (stj n jo af).after
  | 0 => by
    refine ⟨?_, ?_, ?_, ?_, rfl, rfl⟩
    all_goals
      rw [stt]
      unfold stj
      split <;> rfl
  | k + 1 => stt_cls n jo af T k
theorem place_x {n : Nat} (hn : 1 ≤ n) (hn6 : n ≤ 6) (i : Nat) (K : List Tk) : placeOf (stc n).cls (z (Hd.name n i) :: K) = .ok (i % n, K) := by
  unfold placeOf
  rw [name, if_neg (by exact Bool.false_ne_true), if_pos (name_nm hn hn6 i)]
  simp only
  rw [z_text]
  have hm := Nat.mod_lt i hn
  have hg : (stc n).cls[i % n]? = some (Hd.name n i) := by
    unfold stc Hd.name
    simp only [List.getElem?_map, List.getElem?_range hm, Option.map_some]
  have hmem : Hd.name n i ∈ (stc n).cls := List.mem_of_getElem? hg
  have hidx : (stc n).cls.idxOf (Hd.name n i) = i % n := by
    have hl : (stc n).cls.length = n := by unfold stc; simp
    have h1 := List.idxOf_lt_length_of_mem hmem
    rw [hl] at h1
    have h2 : (stc n).cls[(stc n).cls.idxOf (Hd.name n i)]? = some (Hd.name n i) := by
      rw [List.getElem?_eq_getElem (by rw [hl]; exact h1), List.getElem_idxOf]
    generalize (stc n).cls.idxOf (Hd.name n i) = m at h1 h2
    unfold stc Hd.name at h2
    simp only [List.getElem?_map, List.getElem?_range h1, Option.map_some, Option.some.injEq, List.cons.injEq, and_true] at h2
    by_cases e : m = i % n
    · exact e
    · exact absurd h2 (byte_ne (by omega) (by omega) e)
  unfold place
  rw [if_pos hmem, hidx]
theorem treat_x {n : Nat} (hn : 1 ≤ n) (hn6 : n ≤ 6) (jo af : Nat) (T : List Nat) : ∀ k, k ≤ n → Rds st0 (trx n T (sx n jo af) k) (stt n jo af T k)
  | 0, _ => second_x hn hn6 jo af
  | k + 1, hk => by
    have ih := treat_x hn hn6 jo af T k (by omega)
    obtain ⟨hc, _⟩ := stt_cls n jo af T k
    have h := ih.app (Rds.line (s := stt n jo af T k) (s' := stt n jo af T (k + 1)) (x := wTreat) (X := [Hd.name n k, [61], Hd.name n (at' T k)]) (by decide) (fun K => by
      unfold Rl.line
      rw [z_text, if_neg (by decide), if_neg (by decide), if_neg (by decide), if_pos rfl]
      unfold treat'
      show (match placeOf (stt n jo af T k).cls (z (Hd.name n k) :: z [61] :: z (Hd.name n (at' T k)) :: z [59] :: K) with | Except.error f => Except.error f | Except.ok (k_1, ts1) => _) = _
      rw [hc, place_x hn hn6]
      simp only
      rw [want_yes]
      simp only
      rw [place_x hn hn6, Nat.mod_eq_of_lt (by omega : k < n), stt, hc]))
    rw [trx]
    have e2 : trx n T (sx n jo af) k ++ ((wTreat :: [Hd.name n k, [61], Hd.name n (at' T k)]) ++ [[59]]) = ((((trx n T (sx n jo af) k ++ [wTreat]) ++ [Hd.name n k]) ++ [[61]]) ++ [Hd.name n (at' T k)]) ++ [[59]] := by simp [List.append_assoc]
    rw [← e2]
    exact h
/-- a rule, as the plan says. -/
def RuOk (x : Pr) (r : Rule) : Prop := r.does = ((x.d % 3 : Nat) : Int) ∧ (opz r.left = 0 ↔ x.L.length = 0) ∧ (opz r.right = 0 ↔ x.R.length = 0)
theorem rules_x {n : Nat} (hn : 1 ≤ n) (hn6 : n ≤ 6) (rs : List Pr) {s0 : St} {X : List Str} (h0 : Rds st0 X s0) (hc : s0.cls = (stc n).cls) (he : s0.env = (stc n).env) (hp : s0.places = 0) (hl : s0.list = []) :
    ∀ k, k ≤ 10 → k ≤ rs.length → ∃ (l : List Rule) (p : Nat), Rds st0 (rux n rs X k) { s0 with places := p, list := l } ∧ l.length = k ∧ p ≤ 16 * k ∧ ∀ (i : Nat) (x : Pr) (r : Rule), rs[i]? = some x → l[i]? = some r → RuOk x r
  | 0, _, _ => by
    refine ⟨[], 0, ?_, rfl, Nat.le_refl _, fun i x r _ h => by simp at h⟩
    have : ({ s0 with places := 0, list := [] } : St) = s0 := by cases s0; simp only at hp hl; subst hp hl; rfl
    rw [this]
    exact h0
  | k + 1, h10, hk => by
    obtain ⟨l, p, ih, hlen, hpk, hok⟩ := rules_x hn hn6 rs h0 hc he hp hl k (by omega) (by omega)
    have hkl : k < rs.length := by omega
    obtain ⟨x, hx⟩ : ∃ x, rs[k]? = some x := ⟨_, List.getElem?_eq_getElem hkl⟩
    rw [rux, hx]
    have hE : EnvOk s0.env n := by rw [he]; exact stc_env hn6 n (Nat.le_refl _)
    have hcl : s0.cls.length = n := by rw [hc]; unfold stc; simp
    have n47 : ∀ K, Nr (z [47] :: K) := fun K => Nr.mk rfl (by show ([47] : Str) ≠ [42]; decide) (by show ([47] : Str) ≠ [43]; decide) (by show ([47] : Str) ≠ [63]; decide)
    have n59 : ∀ K, Nr (z [59] :: K) := fun K => Nr.mk rfl (by show ([59] : Str) ≠ [42]; decide) (by show ([59] : Str) ≠ [43]; decide) (by show ([59] : Str) ≠ [63]; decide)
    have key : ∃ (a b : Ex) (p' : Nat), p' ≤ p + 16 ∧ (opz a = 0 ↔ x.L.length = 0) ∧ (opz b = 0 ↔ x.R.length = 0) ∧ ∀ (K : List Tk) (dd : Int), rule' dd 0 (tz (xpr n x.L ++ ([47] :: xpr n x.R)) ++ z [59] :: K) { s0 with places := p, list := l } = .ok (z [59] :: K, { s0 with places := p', list := l ++ [⟨dd, a, b⟩] }) := by
      obtain ⟨a, q, hq, ha, h1⟩ := either_x hE hn hn6 x.L
      obtain ⟨b, q2, hq2, hb, h2⟩ := either_x hE hn hn6 x.R
      refine ⟨a, b, p + q + q2, by omega, ha, hb, fun K dd => ?_⟩
      have e1 : tz (xpr n x.L ++ ([47] :: xpr n x.R)) ++ z [59] :: K = tz (xpr n x.L) ++ z [47] :: (tz (xpr n x.R) ++ z [59] :: K) := by simp [tz, List.append_assoc]
      rw [e1]
      unfold rule'
      simp only
      rw [if_neg (by omega), hcl, h1 _ _ _ _ rfl rfl (by show ([47] : Str) ≠ [124]; decide) (n47 _) (by omega) (by unfold fuel; rw [List.length_append, tz_len]; omega)]
      simp only
      rw [want_yes]
      simp only
      rw [h2 _ _ _ _ rfl rfl (by show ([59] : Str) ≠ [124]; decide) (n59 _) (by omega) (by unfold fuel; rw [List.length_append, tz_len]; omega)]
    obtain ⟨a, b, p', hp', ha, hb, hr⟩ := key
    refine ⟨l ++ [⟨((x.d % 3 : Nat) : Int), a, b⟩], p', ?_, by simp [hlen], by omega, ?_⟩
    · have hd : wdx x.d ≠ [] := by
        unfold wdx
        repeat' split
        all_goals decide
      have h := ih.app (Rds.line (s := { s0 with places := p, list := l }) (s' := { s0 with places := p', list := l ++ [⟨((x.d % 3 : Nat) : Int), a, b⟩] }) (x := wdx x.d) (X := xpr n x.L ++ ([47] :: xpr n x.R)) hd (fun K => by
        unfold Rl.line wdx
        rw [z_text]
        by_cases d0 : x.d % 3 = 0
        · rw [if_pos d0, if_neg (by decide), if_neg (by decide), if_neg (by decide), if_neg (by decide), if_pos rfl, d0]
          exact hr K 0
        · rw [if_neg d0]
          by_cases d1 : x.d % 3 = 1
          · rw [if_pos d1, if_neg (by decide), if_neg (by decide), if_neg (by decide), if_neg (by decide), if_neg (by decide), if_pos rfl, d1]
            exact hr K 1
          · rw [if_neg d1, if_neg (by decide), if_neg (by decide), if_neg (by decide), if_neg (by decide), if_neg (by decide), if_neg (by decide), if_pos rfl, show x.d % 3 = 2 by omega]
            exact hr K 2))
      have e2 : rux n rs X k ++ ((wdx x.d :: (xpr n x.L ++ ([47] :: xpr n x.R))) ++ [[59]]) = ((((rux n rs X k ++ [wdx x.d]) ++ xpr n x.L) ++ [[47]]) ++ xpr n x.R) ++ [[59]] := by simp [List.append_assoc]
      show Rds st0 (((((rux n rs X k ++ [wdx x.d]) ++ xpr n x.L) ++ [[47]]) ++ xpr n x.R) ++ [[59]]) _
      rw [← e2]
      exact h
    · intro i y r hy hri
      by_cases hi : i < k
      · rw [List.getElem?_append_left (by omega)] at hri
        exact hok i y r hy hri
      · rw [List.getElem?_append_right (by omega)] at hri
        have hik : i - l.length = 0 := by
          have := (List.getElem?_eq_some_iff.1 hri).1
          simp at this
          omega
        rw [hik] at hri
        obtain rfl : i = k := by omega
        rw [hx] at hy
        injection hy with hy
        injection hri with hri
        subst hy hri
        exact ⟨rfl, ha, hb⟩
theorem ex_len2 {n : Nat} (hn6 : n ≤ 6) (L : List Nat) : ∀ d i, (ex n L d i).1.length + 3 ≤ 18 * 2 ^ d
  | 0, i => by unfold ex; simp [Hd.name]
  | d + 1, i => by
    have a := ex_len2 hn6 L d (up L i)
    have b := ex_len2 hn6 L d (ex n L d (up L i)).2
    have c := Hd.names_len n (at' L (up L i)) n
    have p : 1 ≤ 2 ^ d := Nat.two_pow_pos d
    have q : 2 ^ (d + 1) = 2 * 2 ^ d := by rw [Nat.pow_succ]; omega
    unfold ex
    repeat' split
    all_goals (simp only [Hd.cat_len, Hd.name, List.length_cons, List.length_nil]; omega)
theorem expr_len2 {n : Nat} (hn6 : n ≤ 6) (L : List Nat) : (Hd.expr n L).length ≤ 141 := by
  unfold Hd.expr
  split
  · simp
  · have := ex_len2 hn6 (L.take 30) 3 0
    omega
theorem ru_len2 {n : Nat} (hn6 : n ≤ 6) (rs : List Pr) (t : Str) : ∀ k, (Hd.ru n rs t k).length ≤ t.length + 292 * k
  | 0 => Nat.le_refl _
  | k + 1 => by
    have ih := ru_len2 hn6 rs t k
    rw [Hd.ru]
    split
    · omega
    · rename_i x hx
      have h1 := expr_len2 hn6 x.L
      have h2 := expr_len2 hn6 x.R
      have h3 := Hd.word_len x.d
      simp only [Hd.cat_len, List.length_cons, List.length_nil]
      omega
theorem text_len2 {n : Nat} (hn6 : n ≤ 6) (jo af : Nat) (T : List Nat) (rs : List Pr) : (Hd.text n jo af T rs).length ≤ 4096 := by
  have h1 := Hd.second_len n jo af hn6
  have h2 := Hd.treat_len n T (Hd.second n jo af) (min T.length n)
  have h3 := ru_len2 hn6 rs (Hd.treat n T (Hd.second n jo af) (min T.length n)) (min rs.length 10)
  unfold Hd.text
  omega
theorem stt_treat {n : Nat} (jo af : Nat) (T : List Nat) : ∀ k, k ≤ n → (stt n jo af T k).treat.length = n ∧ ∀ i, i < n → (stt n jo af T k).treat[i]? = some (if i < k then ((at' T i % n : Nat) : Int) else (i : Int))
  | 0, _ => by
    have e : (stt n jo af T 0).treat = (stc n).treat := by
      rw [stt]
      unfold stj
      split <;> rfl
    rw [e]
    unfold stc
    refine ⟨by simp, fun i hi => ?_⟩
    rw [if_neg (Nat.not_lt_zero _)]
    simp only [List.getElem?_map, List.getElem?_range hi, Option.map_some]
  | k + 1, hk => by
    obtain ⟨h1, h2⟩ := stt_treat (n := n) jo af T k (by omega)
    rw [stt]
    refine ⟨by simp [h1], fun i hi => ?_⟩
    show ((stt n jo af T k).treat.set k _)[i]? = _
    by_cases e : i = k
    · subst e
      rw [List.getElem?_set_self (by omega), if_pos (by omega)]
    · rw [List.getElem?_set_ne (fun h => e h.symm), h2 i hi]
      by_cases e2 : i < k
      · rw [if_pos e2, if_pos (by omega)]
      · rw [if_neg e2, if_neg (by omega)]
/-- what is read of a plan's text. -/
structure Made (n jo af : Nat) (T : List Nat) (rs : List Pr) (s : St) : Prop where
  cls : s.cls.length = n
  treat : s.treat.length = n
  list : s.list.length = min rs.length 10
  join : jo ≠ 0 → s.join = bor 0 ((jo % 2 ^ n : Nat) : Int) ∧ s.after = bor 0 ((af % 2 ^ n : Nat) : Int)
  each : ∀ i, i < n → s.treat[i]? = some (if i < T.length then ((at' T i % n : Nat) : Int) else (i : Int))
  rule : ∀ (i : Nat) (x : Pr) (r : Rule), rs[i]? = some x → s.list[i]? = some r → RuOk x r
theorem made_x {n : Nat} (hn : 1 ≤ n) (hn6 : n ≤ 6) (jo af : Nat) (T : List Nat) (rs : List Pr) {ts : List Tk} (h : Strm (Hd.text n jo af T rs) 0 ts) : ∃ s, lines (ts.length + 1) ts st0 = .ok s ∧ Made n jo af T rs s := by
  have h1 : Pk (Hd.text n jo af T rs) (ts.map key) := pk_strm h
  have h2 : ts.map key = (tx n jo af T rs).map (fun x => (x, false)) ++ [([], false)] := h1.one (pc_text hn hn6 jo af T rs)
  have h3 : ts.map er = tz (tx n jo af T rs) ++ [z []] := by
    have g : ts.map er = (ts.map key).map (fun k => ⟨k.1, 0, k.2⟩) := by rw [List.map_map]; rfl
    rw [g, h2, List.map_append, List.map_map]
    rfl
  have hlen : ts.length = (tx n jo af T rs).length + 1 := by
    have := congrArg List.length h2
    simpa using this
  have ht := treat_x hn hn6 jo af T (min T.length n) (by omega)
  obtain ⟨c1, c2, c3, c4, c5, c6⟩ := stt_cls n jo af T (min T.length n)
  obtain ⟨l, p, hr, hl, hp, hok⟩ := rules_x hn hn6 rs ht c1 c2 c3 c4 (min rs.length 10) (by omega) (by omega)
  obtain ⟨f', e1, hf'⟩ := hr [z []] (ts.length + 1) (by
    show (tx n jo af T rs).length + 1 + 1 ≤ _
    omega)
  obtain ⟨g, rfl⟩ : ∃ g, f' = g + 1 := ⟨f' - 1, by omega⟩
  have e2 := lines_er (ts.length + 1) ts st0
  rw [h3] at e2
  rw [show tz (tx n jo af T rs) ++ [z []] = tz (rux n rs (trx n T (sx n jo af) (min T.length n)) (min rs.length 10)) ++ [z []] from rfl, e1] at e2
  rw [lines, if_neg (by exact Bool.false_ne_true), z_text, if_pos rfl] at e2
  obtain ⟨t1, t2⟩ := stt_treat jo af T (min T.length n) (by omega : min T.length n ≤ n)
  refine ⟨{ stt n jo af T (min T.length n) with places := p, list := l }, ?_, ⟨?_, t1, hl, ?_, fun i hi => ?_, hok⟩⟩
  · cases h5 : lines (ts.length + 1) ts st0 with
    | error a => rw [h5] at e2; cases e2
    | ok s => rw [h5] at e2; injection e2 with e2; rw [e2]
  · show (stt n jo af T (min T.length n)).cls.length = n
    rw [c1]
    unfold stc
    simp
  · intro hj
    show (stt n jo af T (min T.length n)).join = _ ∧ (stt n jo af T (min T.length n)).after = _
    rw [c5, c6]
    unfold stj
    rw [if_neg hj]
    exact ⟨rfl, rfl⟩
  · rw [t2 i hi]
    by_cases e : i < T.length
    · rw [if_pos e, if_pos (by omega)]
    · rw [if_neg e, if_neg (by omega)]
end Rl
end Go.Proofs.Ytahoepmnekconab
