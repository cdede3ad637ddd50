/-
  Blanks between pieces: a text with blanks put behind its blanks, semicolons and brackets has the pieces that it had; what is read hangs on the pieces, not on their places; no program in it.
-/
import Derived.Test.YtahoepmnekconabMath
namespace Go.Proofs.Ytahoepmnekconab
set_option linter.unusedVariables false
set_option linter.unusedSimpArgs false
namespace Rl
/-- a piece without its place. -/
def er (t : Tk) : Tk := ⟨t.text, 0, t.bad⟩
/-- a reading without its fault's place. -/
def rz {α β : Type} (g : α → β) : R α → R β
  | .error f => .error (f.1, 0)
  | .ok x => .ok (g x)
theorem er_text (t : Tk) : (er t).text = t.text := rfl
theorem er_bad (t : Tk) : (er t).bad = t.bad := rfl
theorem er_at (t : Tk) : (er t).at' = 0 := rfl
theorem er_isNm (t : Tk) : isNm (er t) = isNm t := rfl
theorem er_beg (t : Tk) : beg (er t) = beg t := rfl
theorem ite_rz {α β : Type} {g : α → β} {c : Prop} [Decidable c] {a b : R β} {x y : R α} (h1 : c → a = rz g x) (h2 : ¬ c → b = rz g y) : (if c then a else b) = rz g (if c then x else y) := by
  by_cases h : c
  · rw [if_pos h, if_pos h]; exact h1 h
  · rw [if_neg h, if_neg h]; exact h2 h
theorem took_er (c : UInt8) : ∀ ts : List Tk, took c (ts.map er) = rz (fun x => (x.1, x.2.map er)) (took c ts)
  | [] => rfl
  | t :: ts => by
    simp only [List.map_cons, took, er_text, er_bad, er_at]
    refine ite_rz (fun _ => ?_) (fun _ => ?_)
    · rfl
    · refine ite_rz (fun _ => ?_) (fun _ => ?_) <;> rfl
theorem want_er (c : UInt8) : ∀ ts : List Tk, want c (ts.map er) = rz (fun x => x.map er) (want c ts)
  | [] => rfl
  | t :: ts => by
    simp only [List.map_cons, want, er_text, er_bad, er_at]
    refine ite_rz (fun _ => ?_) (fun _ => ?_)
    · rfl
    · refine ite_rz (fun _ => ?_) (fun _ => ?_) <;> rfl
theorem names_er (E : Env) : ∀ (ts : List Tk) (a : Int), names E (ts.map er) a = rz (fun x => (x.1, x.2.map er)) (names E ts a)
  | [], _ => rfl
  | t :: ts, a => by
    simp only [List.map_cons, names, er_text, er_bad, er_at, er_isNm]
    refine ite_rz (fun _ => ?_) (fun _ => ?_)
    · rfl
    · refine ite_rz (fun _ => ?_) (fun _ => ?_)
      · cases find E t.text with
        | none => rfl
        | some b => exact names_er E ts (bor a b)
      · rfl
theorem some_er (E : Env) (nc : Nat) : ∀ (ts : List Tk) (p : Nat), some' E nc (ts.map er) p = rz (fun x => (x.1, x.2.1.map er, x.2.2)) (some' E nc ts p)
  | [], _ => rfl
  | t :: ts, p => by
    simp only [List.map_cons, some', er_text, er_bad, er_at]
    refine ite_rz (fun _ => ?_) (fun _ => ?_)
    · rfl
    · refine ite_rz (fun _ => ?_) (fun _ => ?_)
      · rfl
      · refine ite_rz (fun _ => ?_) (fun _ => ?_)
        · rw [took_er]
          cases took 94 ts with
          | error f => rfl
          | ok x =>
            obtain ⟨no, ts1⟩ := x
            simp only [rz]
            rw [names_er]
            cases names E ts1 0 with
            | error f => rfl
            | ok y =>
              obtain ⟨b, ts2⟩ := y
              simp only [rz]
              rw [want_er]
              cases want 93 ts2 with
              | error f => rfl
              | ok z => rfl
        · cases find E t.text with
          | none => rfl
          | some b => rfl
theorem often_er (e : Ex) : ∀ ts : List Tk, often e (ts.map er) = rz (fun x => (x.1, x.2.map er)) (often e ts)
  | [] => rfl
  | t :: ts => by
    simp only [List.map_cons, often, er_text, er_bad, er_at]
    repeat' refine ite_rz (fun _ => ?_) (fun _ => ?_)
    all_goals rfl
theorem expr_er (E : Env) (nc : Nat) : ∀ n : Nat,
    (∀ d ts p, either E nc n d (ts.map er) p = rz (fun x => (x.1, x.2.1.map er, x.2.2)) (either E nc n d ts p)) ∧
    (∀ d ts p l, alts E nc n d (ts.map er) p l = rz (fun x => (x.1, x.2.1.map er, x.2.2)) (alts E nc n d ts p l)) ∧
    (∀ d ts p l, row E nc n d (ts.map er) p l = rz (fun x => (x.1, x.2.1.map er, x.2.2)) (row E nc n d ts p l)) ∧
    (∀ d ts p, thing E nc n d (ts.map er) p = rz (fun x => (x.1, x.2.1.map er, x.2.2)) (thing E nc n d ts p))
  | 0 => ⟨fun _ _ _ => by simp only [either]; rfl, fun _ _ _ _ => by simp only [alts]; rfl, fun _ _ _ _ => by simp only [row]; rfl, fun _ _ _ => by simp only [thing]; rfl⟩
  | n + 1 => by
    obtain ⟨h1, h2, h3, h4⟩ := expr_er E nc n
    refine ⟨fun d ts p => ?_, fun d ts p l => ?_, fun d ts p l => ?_, fun d ts p => ?_⟩
    · simp only [either]
      rw [h3]
      cases row E nc n d ts p [] with
      | error f => rfl
      | ok x => exact h2 _ _ _ _
    · simp only [alts]
      rw [took_er]
      cases took 124 ts with
      | error f => rfl
      | ok x =>
        obtain ⟨b, ts1⟩ := x
        cases b with
        | false => rfl
        | true =>
          simp only [rz]
          rw [h3]
          cases row E nc n d ts1 p [] with
          | error f => rfl
          | ok y => exact h2 _ _ _ _
    · cases ts with
      | nil => simp only [List.map_nil, row]; rfl
      | cons t ts =>
        simp only [List.map_cons, row, er_bad, er_at, er_beg]
        refine ite_rz (fun _ => ?_) (fun _ => ?_)
        · rfl
        · refine ite_rz (fun _ => ?_) (fun _ => ?_)
          · have h5 := h4 d (t :: ts) p
            rw [List.map_cons] at h5
            rw [h5]
            cases thing E nc n d (t :: ts) p with
            | error f => rfl
            | ok x =>
              simp only [rz]
              rw [often_er]
              cases often x.1 x.2.1 with
              | error f => rfl
              | ok y => exact h3 _ _ _ _
          · rfl
    · cases ts with
      | nil => simp only [List.map_nil, thing]; rfl
      | cons t ts =>
        simp only [List.map_cons, thing, er_text, er_at]
        refine ite_rz (fun _ => ?_) (fun _ => ?_)
        · refine ite_rz (fun _ => ?_) (fun _ => ?_)
          · rfl
          · rw [h1]
            cases either E nc n (d + 1) ts p with
            | error f => rfl
            | ok x =>
              simp only [rz]
              rw [want_er]
              cases want 41 x.2.1 with
              | error f => rfl
              | ok y => rfl
        · have h5 := some_er E nc (t :: ts) p
          rw [List.map_cons] at h5
          rw [h5]
          cases some' E nc (t :: ts) p with
          | error f => rfl
          | ok x => rfl
theorem classes_er : ∀ (ts : List Tk) (s : St), classes (ts.map er) s = rz (fun x => (x.1.map er, x.2)) (classes ts s)
  | [], _ => rfl
  | t :: ts, s => by
    simp only [List.map_cons, classes, er_text, er_bad, er_at, er_isNm]
    refine ite_rz (fun _ => ?_) (fun _ => ?_)
    · rfl
    · refine ite_rz (fun _ => ?_) (fun _ => ?_)
      · refine ite_rz (fun _ => ?_) (fun _ => ?_)
        · rfl
        · refine ite_rz (fun _ => ?_) (fun _ => ?_)
          · rfl
          · exact classes_er ts _
      · rfl
theorem name_er : ∀ ts : List Tk, name (ts.map er) = rz (fun x => (er x.1, x.2.map er)) (name ts)
  | [] => rfl
  | t :: ts => by
    simp only [List.map_cons, name, er_bad, er_at, er_isNm]
    repeat' refine ite_rz (fun _ => ?_) (fun _ => ?_)
    all_goals rfl
theorem fresh_er (E : Env) (ts : List Tk) : fresh E (ts.map er) = rz (fun x => (er x.1, x.2.map er)) (fresh E ts) := by
  unfold fresh
  rw [name_er]
  cases name ts with
  | error f => rfl
  | ok x =>
    simp only [rz, er_text, er_at]
    refine ite_rz (fun _ => ?_) (fun _ => ?_) <;> rfl
theorem set_er (ts : List Tk) (s : St) : set' (ts.map er) s = rz (fun x => (x.1.map er, x.2)) (set' ts s) := by
  unfold set'
  rw [fresh_er]
  cases fresh s.env ts with
  | error f => rfl
  | ok x =>
    simp only [rz]
    rw [want_er]
    cases want 61 x.2 with
    | error f => rfl
    | ok y =>
      simp only [rz]
      rw [names_er]
      cases names s.env y 0 with
      | error f => rfl
      | ok z => rfl
theorem join_er (ts : List Tk) (s : St) : join' (ts.map er) s = rz (fun x => (x.1.map er, x.2)) (join' ts s) := by
  unfold join'
  rw [names_er]
  cases names s.env ts 0 with
  | error f => rfl
  | ok x =>
    simp only [rz]
    rw [want_er]
    cases want 47 x.2 with
    | error f => rfl
    | ok y =>
      simp only [rz]
      rw [names_er]
      cases names s.env y 0 with
      | error f => rfl
      | ok z => rfl
theorem place_er (C : List Str) (ts : List Tk) : placeOf C (ts.map er) = rz (fun x => (x.1, x.2.map er)) (placeOf C ts) := by
  unfold placeOf
  rw [name_er]
  cases name ts with
  | error f => rfl
  | ok x =>
    simp only [rz, er_text, er_at]
    cases place C x.1.text with
    | none => rfl
    | some k => rfl
theorem treat_er (ts : List Tk) (s : St) : treat' (ts.map er) s = rz (fun x => (x.1.map er, x.2)) (treat' ts s) := by
  unfold treat'
  rw [place_er]
  cases placeOf s.cls ts with
  | error f => rfl
  | ok x =>
    simp only [rz]
    rw [want_er]
    cases want 61 x.2 with
    | error f => rfl
    | ok y =>
      simp only [rz]
      rw [place_er]
      cases placeOf s.cls y with
      | error f => rfl
      | ok z => rfl
theorem fuel_er (ts : List Tk) : fuel (ts.map er) = fuel ts := by unfold fuel; rw [List.length_map]
theorem rule_er (d : Int) (a b : Nat) (ts : List Tk) (s : St) : rule' d a (ts.map er) s = rz (fun x => (x.1.map er, x.2)) (rule' d b ts s) ∨ (a ≠ 0 ∧ True) := by
  by_cases ha : a = 0
  · left
    subst ha
    unfold rule'
    refine ite_rz (fun _ => ?_) (fun _ => ?_)
    · rfl
    · rw [fuel_er, (expr_er _ _ _).1]
      cases either s.env s.cls.length (fuel ts) 0 ts s.places with
      | error f => rfl
      | ok x =>
        simp only [rz]
        rw [want_er]
        cases want 47 x.2.1 with
        | error f => rfl
        | ok y =>
          simp only [rz]
          rw [fuel_er, (expr_er _ _ _).1]
          cases either s.env s.cls.length (fuel y) 0 y x.2.2 with
          | error f => rfl
          | ok z => rfl
  · exact Or.inr ⟨ha, trivial⟩
theorem rule_er0 (d : Int) (b : Nat) (ts : List Tk) (s : St) : rule' d 0 (ts.map er) s = rz (fun x => (x.1.map er, x.2)) (rule' d b ts s) := (rule_er d 0 b ts s).resolve_right (fun h => h.1 rfl)
theorem line_er (t : Tk) (ts : List Tk) (s : St) : line (er t) (ts.map er) s = rz (fun x => (x.1.map er, x.2)) (line t ts s) := by
  unfold line
  simp only [er_text, er_at]
  refine ite_rz (fun _ => ?_) (fun _ => ?_)
  · exact classes_er ts s
  · refine ite_rz (fun _ => ?_) (fun _ => ?_)
    · exact set_er ts s
    · refine ite_rz (fun _ => ?_) (fun _ => ?_)
      · exact join_er ts s
      · refine ite_rz (fun _ => ?_) (fun _ => ?_)
        · exact treat_er ts s
        · refine ite_rz (fun _ => ?_) (fun _ => ?_)
          · exact rule_er0 _ _ ts s
          · refine ite_rz (fun _ => ?_) (fun _ => ?_)
            · exact rule_er0 _ _ ts s
            · refine ite_rz (fun _ => ?_) (fun _ => ?_)
              · exact rule_er0 _ _ ts s
              · rfl
theorem lines_er : ∀ (n : Nat) (ts : List Tk) (s : St), lines n (ts.map er) s = rz (fun x => x) (lines n ts s)
  | 0, _, _ => rfl
  | _ + 1, [], _ => rfl
  | n + 1, t :: ts, s => by
    simp only [List.map_cons, lines, er_text, er_bad, er_at]
    refine ite_rz (fun _ => ?_) (fun _ => ?_)
    · rfl
    · refine ite_rz (fun _ => ?_) (fun _ => ?_)
      · rfl
      · rw [line_er]
        cases line t ts s with
        | error f => rfl
        | ok x =>
          simp only [rz]
          rw [want_er]
          cases want 59 x.1 with
          | error f => rfl
          | ok y => exact lines_er n y x.2
/-- a text behind its blanks. -/
def q (l : Str) : Str := l.drop (blk false l)
/-- a piece's text, and whether it is none. -/
def key (t : Tk) : Str × Bool := (t.text, t.bad)
inductive Pk : Str → List (Str × Bool) → Prop
  | fin (l : Str) : plen (q l) = 0 → Pk l [([], decide (q l ≠ []))]
  | step (l : Str) (K : List (Str × Bool)) : 0 < plen (q l) → Pk ((q l).drop (plen (q l))) K → Pk l (((q l).take (plen (q l)), false) :: K)
theorem Pk.one {l : Str} {K : List (Str × Bool)} (h : Pk l K) : ∀ {K' : List (Str × Bool)}, Pk l K' → K = K' := by
  induction h with
  | fin l h =>
    intro K' h'
    cases h' with
    | fin _ _ => rfl
    | step _ _ k _ => omega
  | step l K h _ ih =>
    intro K' h'
    cases h' with
    | fin _ k => omega
    | step _ _ _ k => rw [ih k]
theorem Pk.same {l l' : Str} {K : List (Str × Bool)} (h : Pk l K) (e : q l' = q l) : Pk l' K := by
  cases h with
  | fin _ h => rw [← e] at h ⊢; exact .fin l' h
  | step _ K h k => rw [← e] at h k ⊢; exact .step l' K h k
theorem q_drop (l : Str) (i : Nat) : q (l.drop i) = l.drop (nx l i) := by unfold q nx; rw [List.drop_drop]
theorem pk_strm {l : Str} : ∀ {ts : List Tk} {i : Nat}, Strm l i ts → Pk (l.drop i) (ts.map key)
  | [], _, h => h.elim
  | t :: ts, i, h => by
    have h1 := h.1
    have hl := tk_len l i
    by_cases e : t.text = []
    · have h2 := h.2
      rw [if_pos e] at h2
      subst h2
      rw [h1] at e
      rw [e] at hl
      have hp : plen (q (l.drop i)) = 0 := by rw [q_drop]; exact hl.symm
      have hk : key t = ([], decide (q (l.drop i) ≠ [])) := by
        rw [h1]
        unfold key
        rw [e, q_drop]
        unfold tk
        simp only [← hl, List.length_nil, and_true]
      rw [List.map_cons, List.map_nil, hk]
      exact .fin _ hp
    · have h2 := strm_tail h e
      rw [h1] at e
      have hp : 0 < plen (q (l.drop i)) := by rw [q_drop, ← hl]; exact List.length_pos_iff.2 e
      have ih := pk_strm h2
      have hk : key t = ((q (l.drop i)).take (plen (q (l.drop i))), false) := by
        rw [h1]
        unfold key
        rw [q_drop] at hp ⊢
        unfold tk
        simp only [Prod.mk.injEq, true_and, decide_eq_false_iff_not]
        omega
      rw [List.map_cons, hk]
      refine .step _ _ hp ?_
      rw [q_drop, List.drop_drop, ← hl, ← h1]
      have ha : t.at' = nx l i := by rw [h1]; rfl
      rw [ha] at ih
      exact ih
theorem er_key {ts us : List Tk} (h : ts.map key = us.map key) : ts.map er = us.map er := by
  have g : ∀ l : List Tk, l.map er = (l.map key).map (fun k => ⟨k.1, 0, k.2⟩) := by
    intro l
    rw [List.map_map]
    rfl
  rw [g, g, h]
/-- what is put behind a byte. -/
def fil (f : Str) (c : UInt8) : Str := if c.toNat = 32 ∨ c.toNat = 59 ∨ c.toNat = 40 then f else []
def sp (f : Str) : Str → Str
  | [] => []
  | c :: cs => c :: (fil f c ++ sp f cs)
def Blank (f : Str) : Prop := ∀ r, q (f ++ r) = q r
theorem fil_q {f : Str} (hf : Blank f) (c : UInt8) (r : Str) : q (fil f c ++ r) = q r := by
  unfold fil
  split
  · exact hf r
  · rfl
theorem q_cons_blank (c : UInt8) (r : Str) (h : c.toNat = 10 ∨ c.toNat = 32 ∨ c.toNat = 9 ∨ c.toNat = 13) : q (c :: r) = q r := by
  unfold q
  rw [blk_cons]
  by_cases e : c.toNat = 10
  · rw [if_pos e, Nat.add_comm, List.drop_succ_cons]
  · rw [if_neg e, if_pos (Or.inr (h.resolve_left e)), Nat.add_comm, List.drop_succ_cons]
theorem q_cons_other (c : UInt8) (r : Str) (h : ¬ (c.toNat = 10 ∨ c.toNat = 32 ∨ c.toNat = 9 ∨ c.toNat = 13)) (h2 : c.toNat ≠ 35) : q (c :: r) = c :: r := by
  unfold q
  rw [blk_cons, if_neg (fun e => h (Or.inl e)), if_neg (fun e => e.elim (fun e => by cases e) (fun e => h (Or.inr e))), if_neg h2]
  rfl
theorem q_sp {f : Str} (hf : Blank f) : ∀ l : Str, (∀ c ∈ l, c.toNat ≠ 35) → q (sp f l) = sp f (q l)
  | [], _ => rfl
  | c :: cs, h => by
    have ih := q_sp hf cs (fun x hx => h x (List.mem_cons_of_mem _ hx))
    have h0 := h c (List.mem_cons_self)
    by_cases e : c.toNat = 10 ∨ c.toNat = 32 ∨ c.toNat = 9 ∨ c.toNat = 13
    · rw [sp, q_cons_blank c _ e, q_cons_blank c _ e, fil_q hf, ih]
    · rw [sp, q_cons_other c _ e h0, q_cons_other c _ e h0, sp]
theorem isN_fil {f : Str} {c : UInt8} (h : isN c = true) : fil f c = [] := by
  unfold fil
  rw [if_neg]
  intro e
  unfold isN at h
  simp only [Bool.or_eq_true, Bool.and_eq_true, decide_eq_true_eq] at h
  omega
theorem nml_sp (f : Str) : ∀ r : Str, nml (sp f r) = nml r ∧ (sp f r).take (nml r) = r.take (nml r) ∧ (sp f r).drop (nml r) = sp f (r.drop (nml r))
  | [] => ⟨rfl, rfl, rfl⟩
  | c :: cs => by
    obtain ⟨h1, h2, h3⟩ := nml_sp f cs
    rw [sp]
    by_cases e : isN c = true
    · rw [isN_fil e, List.nil_append, nml_cons, nml_cons, if_pos e, if_pos e, h1, Nat.add_comm, List.take_succ_cons, List.take_succ_cons, List.drop_succ_cons, List.drop_succ_cons, h2, h3]
      exact ⟨rfl, rfl, rfl⟩
    · rw [nml_cons, nml_cons, if_neg e, if_neg e]
      refine ⟨rfl, rfl, ?_⟩
      rw [List.drop_zero, List.drop_zero, sp]
theorem pk_sp {f : Str} (hf : Blank f) {l : Str} {K : List (Str × Bool)} (h : Pk l K) : (∀ c ∈ l, c.toNat ≠ 35) → Pk (sp f l) K := by
  induction h with
  | fin l h =>
    intro h0
    have e := q_sp hf l h0
    have e0 : plen (q (sp f l)) = 0 := by
      rw [e]
      unfold plen at h ⊢
      rw [(nml_sp f (q l)).1]
      split
      · rename_i h1
        rw [if_pos h1] at h
        omega
      · rename_i h1
        rw [if_neg h1] at h
        cases hq : q l with
        | nil => rfl
        | cons c cs => rw [hq] at h; exact h
    have e1 : decide (q (sp f l) ≠ []) = decide (q l ≠ []) := by
      rw [e]
      cases q l with
      | nil => rfl
      | cons c cs => simp [sp]
    rw [← e1]
    exact .fin _ e0
  | step l K h _ ih =>
    intro h0
    have e := q_sp hf l h0
    have h1 : ∀ c ∈ (q l).drop (plen (q l)), c.toNat ≠ 35 := fun c hc => h0 c (List.mem_of_mem_drop (List.mem_of_mem_drop hc))
    have ih := ih h1
    obtain ⟨a1, a2, a3⟩ := nml_sp f (q l)
    by_cases hn : 0 < nml (q l)
    · have p1 : plen (q l) = nml (q l) := if_pos hn
      have p2 : plen (q (sp f l)) = nml (q l) := by rw [e]; unfold plen; rw [a1, if_pos hn]
      rw [p1] at ih ⊢
      rw [← a2, ← p2, ← e]
      refine .step _ _ (by omega) ?_
      rw [p2, e, a3]
      exact ih
    · cases hq : q l with
      | nil =>
        rw [hq] at h
        exact absurd h (by decide)
      | cons c cs =>
        rw [hq] at h hn a1 ih
        have p1 : plen (c :: cs) = 1 := by
          unfold plen at h ⊢
          rw [if_neg hn] at h ⊢
          simp only at h ⊢
          split at h
          · rename_i hs; rw [if_pos hs]
          · omega
        have p2 : plen (q (sp f l)) = 1 := by
          rw [e, hq]
          unfold plen at p1 ⊢
          rw [a1, if_neg hn]
          rw [if_neg hn] at p1
          rw [sp]
          exact p1
        rw [p1] at ih ⊢
        have e3 : (c :: cs).take 1 = (q (sp f l)).take (plen (q (sp f l))) := by rw [p2, e, hq, sp]; rfl
        rw [e3]
        refine .step _ _ (by omega) ?_
        rw [p2, e, hq, sp]
        show Pk (fil f c ++ sp f cs) K
        exact ih.same (fil_q hf c _)
/-- of a text with blanks put in the same is read, but for a fault's place. -/
theorem lines_sp {f l : Str} (hf : Blank f) (h0 : ∀ c ∈ l, c.toNat ≠ 35) {ts us : List Tk} (h : Strm l 0 ts) (k : Strm (sp f l) 0 us) : rz (fun x => x) (lines (ts.length + 1) ts st0) = rz (fun x => x) (lines (us.length + 1) us st0) := by
  have e : ts.map key = us.map key := (pk_sp hf (pk_strm h) h0).one (pk_strm k)
  have e2 := er_key e
  have e3 : ts.length = us.length := by have := congrArg List.length e; simpa using this
  rw [← lines_er, ← lines_er, e2, e3]
theorem sp_len (f : Str) : ∀ l : Str, l.length ≤ (sp f l).length
  | [] => Nat.le_refl _
  | c :: cs => by
    have := sp_len f cs
    rw [sp]
    simp only [List.length_cons, List.length_append]
    omega
end Rl
end Go.Proofs.Ytahoepmnekconab
