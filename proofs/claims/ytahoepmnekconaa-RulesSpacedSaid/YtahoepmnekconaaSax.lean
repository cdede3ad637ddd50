/-
  Blanks between pieces: a text with blanks put behind its blanks, semicolons and brackets has the pieces that it had; what is read hangs on the pieces, not on their places; no program in it.
-/
import Derived.Test.YtahoepmnekconaaMath
import Derived.Test.YtahoepmnekconaaV1x
namespace Go.Proofs.Ytahoepmnekconaa
set_option linter.unusedVariables false
set_option linter.unusedSimpArgs false
namespace Rl
/-- a piece without its place. -/
def er (t : Tk) : Tk := ⟨t.text, 0, t.bad⟩
/-- a reading without its fault's place. -/
def rz {α β : Type} (g : α → β) : R α → R β
  | .error f => .error (f.1, 0)
  | .ok x => .ok (g x)
theorem er_text (t : Tk) : (er t).text = t.text := rfl
theorem er_bad (t : Tk) : (er t).bad = t.bad := rfl
theorem er_at (t : Tk) : (er t).at' = 0 := rfl
theorem er_isNm (t : Tk) : isNm (er t) = isNm t := rfl
theorem er_beg (t : Tk) : beg (er t) = beg t := rfl
theorem ite_rz {α β : Type} {g : α → β} {c : Prop} [Decidable c] {a b : R β} {x y : R α} (h1 : c → a = rz g x) (h2 : ¬ c → b = rz g y) : (if c then a else b) = rz g (if c then x else y) := by
  by_cases h : c
  · rw [if_pos h, if_pos h]; exact h1 h
  · rw [if_neg h, if_neg h]; exact h2 h
theorem took_er (c : UInt8) : ∀ ts : List Tk, took c (ts.map er) = rz (fun x => (x.1, x.2.map er)) (took c ts)
  | [] => rfl
  | t :: ts => by
    simp only [List.map_cons, took, er_text, er_bad, er_at]
    refine ite_rz (fun _ => ?_) (fun _ => ?_)
    · rfl
    · refine ite_rz (fun _ => ?_) (fun _ => ?_) <;> rfl
theorem want_er (c : UInt8) : ∀ ts : List Tk, want c (ts.map er) = rz (fun x => x.map er) (want c ts)
  | [] => rfl
  | t :: ts => by
    simp only [List.map_cons, want, er_text, er_bad, er_at]
    refine ite_rz (fun _ => ?_) (fun _ => ?_)
    · rfl
    · refine ite_rz (fun _ => ?_) (fun _ => ?_) <;> rfl
theorem names_er (E : Env) : ∀ (ts : List Tk) (a : Int), names E (ts.map er) a = rz (fun x => (x.1, x.2.map er)) (names E ts a)
  | [], _ => rfl
  | t :: ts, a => by
    simp only [List.map_cons, names, er_text, er_bad, er_at, er_isNm]
    refine ite_rz (fun _ => ?_) (fun _ => ?_)
    · rfl
    · refine ite_rz (fun _ => ?_) (fun _ => ?_)
      · cases find E t.text with
        | none => rfl
        | some b => exact names_er E ts (bor a b)
      · rfl
theorem some_er (E : Env) (nc : Nat) : ∀ (ts : List Tk) (p : Nat), some' E nc (ts.map er) p = rz (fun x => (x.1, x.2.1.map er, x.2.2)) (some' E nc ts p)
  | [], _ => rfl
  | t :: ts, p => by
    simp only [List.map_cons, some', er_text, er_bad, er_at]
    refine ite_rz (fun _ => ?_) (fun _ => ?_)
    · rfl
    · refine ite_rz (fun _ => ?_) (fun _ => ?_)
      · rfl
      · refine ite_rz (fun _ => ?_) (fun _ => ?_)
        · rw [took_er]
          cases took 94 ts with
          | error f => rfl
          | ok x =>
            obtain ⟨no, ts1⟩ := x
            simp only [rz]
            rw [names_er]
            cases names E ts1 0 with
            | error f => rfl
            | ok y =>
              obtain ⟨b, ts2⟩ := y
              simp only [rz]
              rw [want_er]
              cases want 93 ts2 with
              | error f => rfl
              | ok z => rfl
        · cases find E t.text with
          | none => rfl
          | some b => rfl
theorem often_er (e : Ex) : ∀ ts : List Tk, often e (ts.map er) = rz (fun x => (x.1, x.2.map er)) (often e ts)
  | [] => rfl
  | t :: ts => by
    simp only [List.map_cons, often, er_text, er_bad, er_at]
    repeat' refine ite_rz (fun _ => ?_) (fun _ => ?_)
    all_goals rfl
theorem expr_er (E : Env) (nc : Nat) : ∀ n : Nat,
    (∀ d ts p, either E nc n d (ts.map er) p = rz (fun x => (x.1, x.2.1.map er, x.2.2)) (either E nc n d ts p)) ∧
    (∀ d ts p l, alts E nc n d (ts.map er) p l = rz (fun x => (x.1, x.2.1.map er, x.2.2)) (alts E nc n d ts p l)) ∧
    (∀ d ts p l, row E nc n d (ts.map er) p l = rz (fun x => (x.1, x.2.1.map er, x.2.2)) (row E nc n d ts p l)) ∧
    (∀ d ts p, thing E nc n d (ts.map er) p = rz (fun x => (x.1, x.2.1.map er, x.2.2)) (thing E nc n d ts p))
  | 0 => ⟨fun _ _ _ => by simp only [either]; rfl, fun _ _ _ _ => by simp only [alts]; rfl, fun _ _ _ _ => by simp only [row]; rfl, fun _ _ _ => by simp only [thing]; rfl⟩
  | n + 1 => by
    obtain ⟨h1, h2, h3, h4⟩ := expr_er E nc n
    refine ⟨fun d ts p => ?_, fun d ts p l => ?_, fun d ts p l => ?_, fun d ts p => ?_⟩
    · simp only [either]
      rw [h3]
      cases row E nc n d ts p [] with
      | error f => rfl
      | ok x => exact h2 _ _ _ _
    · simp only [alts]
      rw [took_er]
      cases took 124 ts with
      | error f => rfl
      | ok x =>
        obtain ⟨b, ts1⟩ := x
        cases b with
        | false => rfl
        | true =>
          simp only [rz]
          rw [h3]
          cases row E nc n d ts1 p [] with
          | error f => rfl
          | ok y => exact h2 _ _ _ _
    · cases ts with
      | nil => simp only [List.map_nil, row]; rfl
      | cons t ts =>
        simp only [List.map_cons, row, er_bad, er_at, er_beg]
        refine ite_rz (fun _ => ?_) (fun _ => ?_)
        · rfl
        · refine ite_rz (fun _ => ?_) (fun _ => ?_)
          · have h5 := h4 d (t :: ts) p
            rw [List.map_cons] at h5
            rw [h5]
            cases thing E nc n d (t :: ts) p with
            | error f => rfl
            | ok x =>
              simp only [rz]
              rw [often_er]
              cases often x.1 x.2.1 with
              | error f => rfl
              | ok y => exact h3 _ _ _ _
          · rfl
    · cases ts with
      | nil => simp only [List.map_nil, thing]; rfl
      | cons t ts =>
        simp only [List.map_cons, thing, er_text, er_at]
        refine ite_rz (fun _ => ?_) (fun _ => ?_)
        · refine ite_rz (fun _ => ?_) (fun _ => ?_)
          · rfl
          · rw [h1]
            cases either E nc n (d + 1) ts p with
            | error f => rfl
            | ok x =>
              simp only [rz]
              rw [want_er]
              cases want 41 x.2.1 with
              | error f => rfl
              | ok y => rfl
        · have h5 := some_er E nc (t :: ts) p
          rw [List.map_cons] at h5
          rw [h5]
          cases some' E nc (t :: ts) p with
          | error f => rfl
          | ok x => rfl
theorem classes_er : ∀ (ts : List Tk) (s : St), classes (ts.map er) s = rz (fun x => (x.1.map er, x.2)) (classes ts s)
  | [], _ => rfl
  | t :: ts, s => by
    simp only [List.map_cons, classes, er_text, er_bad, er_at, er_isNm]
    refine ite_rz (fun _ => ?_) (fun _ => ?_)
    · rfl
    · refine ite_rz (fun _ => ?_) (fun _ => ?_)
      · refine ite_rz (fun _ => ?_) (fun _ => ?_)
        · rfl
        · refine ite_rz (fun _ => ?_) (fun _ => ?_)
          · rfl
          · exact classes_er ts _
      · rfl
theorem name_er : ∀ ts : List Tk, name (ts.map er) = rz (fun x => (er x.1, x.2.map er)) (name ts)
  | [] => rfl
  | t :: ts => by
    simp only [List.map_cons, name, er_bad, er_at, er_isNm]
    repeat' refine ite_rz (fun _ => ?_) (fun _ => ?_)
    all_goals rfl
theorem fresh_er (E : Env) (ts : List Tk) : fresh E (ts.map er) = rz (fun x => (er x.1, x.2.map er)) (fresh E ts) := by
  unfold fresh
  rw [name_er]
  cases name ts with
  | error f => rfl
  | ok x =>
    simp only [rz, er_text, er_at]
    refine ite_rz (fun _ => ?_) (fun _ => ?_) <;> rfl
theorem set_er (ts : List Tk) (s : St) : set' (ts.map er) s = rz (fun x => (x.1.map er, x.2)) (set' ts s) := by
  unfold set'
  rw [fresh_er]
  cases fresh s.env ts with
  | error f => rfl
  | ok x =>
    simp only [rz]
    rw [want_er]
    cases want 61 x.2 with
    | error f => rfl
    | ok y =>
      simp only [rz]
      rw [names_er]
      cases names s.env y 0 with
      | error f => rfl
      | ok z => rfl
theorem join_er (ts : List Tk) (s : St) : join' (ts.map er) s = rz (fun x => (x.1.map er, x.2)) (join' ts s) := by
  unfold join'
  rw [names_er]
  cases names s.env ts 0 with
  | error f => rfl
  | ok x =>
    simp only [rz]
    rw [want_er]
    cases want 47 x.2 with
    | error f => rfl
    | ok y =>
      simp only [rz]
      rw [names_er]
      cases names s.env y 0 with
      | error f => rfl
      | ok z => rfl
theorem place_er (C : List Str) (ts : List Tk) : placeOf C (ts.map er) = rz (fun x => (x.1, x.2.map er)) (placeOf C ts) := by
  unfold placeOf
  rw [name_er]
  cases name ts with
  | error f => rfl
  | ok x =>
    simp only [rz, er_text, er_at]
    cases place C x.1.text with
    | none => rfl
    | some k => rfl
theorem treat_er (ts : List Tk) (s : St) : treat' (ts.map er) s = rz (fun x => (x.1.map er, x.2)) (treat' ts s) := by
  unfold treat'
  rw [place_er]
  cases placeOf s.cls ts with
  | error f => rfl
  | ok x =>
    simp only [rz]
    rw [want_er]
    cases want 61 x.2 with
    | error f => rfl
    | ok y =>
      simp only [rz]
      rw [place_er]
      cases placeOf s.cls y with
      | error f => rfl
      | ok z => rfl
theorem fuel_er (ts : List Tk) : fuel (ts.map er) = fuel ts := by unfold fuel; rw [List.length_map]
theorem rule_er (d : Int) (a b : Nat) (ts : List Tk) (s : St) : rule' d a (ts.map er) s = rz (fun x => (x.1.map er, x.2)) (rule' d b ts s) ∨ (a ≠ 0 ∧ True) := by
  by_cases ha : a = 0
  · left
    subst ha
    unfold rule'
    refine ite_rz (fun _ => ?_) (fun _ => ?_)
    · rfl
    · rw [fuel_er, (expr_er _ _ _).1]
      cases either s.env s.cls.length (fuel ts) 0 ts s.places with
      | error f => rfl
      | ok x =>
        simp only [rz]
        rw [want_er]
        cases want 47 x.2.1 with
        | error f => rfl
        | ok y =>
          simp only [rz]
          rw [fuel_er, (expr_er _ _ _).1]
          cases either s.env s.cls.length (fuel y) 0 y x.2.2 with
          | error f => rfl
          | ok z => rfl
  · exact Or.inr ⟨ha, trivial⟩
theorem rule_er0 (d : Int) (b : Nat) (ts : List Tk) (s : St) : rule' d 0 (ts.map er) s = rz (fun x => (x.1.map er, x.2)) (rule' d b ts s) := (rule_er d 0 b ts s).resolve_right (fun h => h.1 rfl)
theorem line_er (t : Tk) (ts : List Tk) (s : St) : line (er t) (ts.map er) s = rz (fun x => (x.1.map er, x.2)) (line t ts s) := by
  unfold line
  simp only [er_text, er_at]
  refine ite_rz (fun _ => ?_) (fun _ => ?_)
  · exact classes_er ts s
  · refine ite_rz (fun _ => ?_) (fun _ => ?_)
    · exact set_er ts s
    · refine ite_rz (fun _ => ?_) (fun _ => ?_)
      · exact join_er ts s
      · refine ite_rz (fun _ => ?_) (fun _ => ?_)
        · exact treat_er ts s
        · refine ite_rz (fun _ => ?_) (fun _ => ?_)
          · exact rule_er0 _ _ ts s
          · refine ite_rz (fun _ => ?_) (fun _ => ?_)
            · exact rule_er0 _ _ ts s
            · refine ite_rz (fun _ => ?_) (fun _ => ?_)
              · exact rule_er0 _ _ ts s
              · rfl
theorem lines_er : ∀ (n : Nat) (ts : List Tk) (s : St), lines n (ts.map er) s = rz (fun x => x) (lines n ts s)
  | 0, _, _ => rfl
  | _ + 1, [], _ => rfl
  | n + 1, t :: ts, s => by
    simp only [List.map_cons, lines, er_text, er_bad, er_at]
    refine ite_rz (fun _ => ?_) (fun _ => ?_)
    · rfl
    · refine ite_rz (fun _ => ?_) (fun _ => ?_)
      · rfl
      · rw [line_er]
        cases line t ts s with
        | error f => rfl
        | ok x =>
          simp only [rz]
          rw [want_er]
          cases want 59 x.1 with
          | error f => rfl
          | ok y => exact lines_er n y x.2
/-- a text behind its blanks. -/
def q (l : Str) : Str := l.drop (blk false l)
/-- a piece's text, and whether it is none. -/
def key (t : Tk) : Str × Bool := (t.text, t.bad)
inductive Pk : Str → List (Str × Bool) → Prop
  | fin (l : Str) : plen (q l) = 0 → Pk l [([], decide (q l ≠ []))]
  | step (l : Str) (K : List (Str × Bool)) : 0 < plen (q l) → Pk ((q l).drop (plen (q l))) K → Pk l (((q l).take (plen (q l)), false) :: K)
theorem Pk.one {l : Str} {K : List (Str × Bool)} (h : Pk l K) : ∀ {K' : List (Str × Bool)}, Pk l K' → K = K' := by
  induction h with
  | fin l h =>
    intro K' h'
    cases h' with
    | fin _ _ => rfl
    | step _ _ k _ => omega
  | step l K h _ ih =>
    intro K' h'
    cases h' with
    | fin _ k => omega
    | step _ _ _ k => rw [ih k]
theorem Pk.same {l l' : Str} {K : List (Str × Bool)} (h : Pk l K) (e : q l' = q l) : Pk l' K := by
  cases h with
  | fin _ h => rw [← e] at h ⊢; exact .fin l' h
  | step _ K h k => rw [← e] at h k ⊢; exact .step l' K h k
theorem q_drop (l : Str) (i : Nat) : q (l.drop i) = l.drop (nx l i) := by unfold q nx; rw [List.drop_drop]
theorem pk_strm {l : Str} : ∀ {ts : List Tk} {i : Nat}, Strm l i ts → Pk (l.drop i) (ts.map key)
  | [], _, h => h.elim
  | t :: ts, i, h => by
    have h1 := h.1
    have hl := tk_len l i
    by_cases e : t.text = []
    · have h2 := h.2
      rw [if_pos e] at h2
      subst h2
      rw [h1] at e
      rw [e] at hl
      have hp : plen (q (l.drop i)) = 0 := by rw [q_drop]; exact hl.symm
      have hk : key t = ([], decide (q (l.drop i) ≠ [])) := by
        rw [h1]
        unfold key
        rw [e, q_drop]
        unfold tk
        simp only [← hl, List.length_nil, and_true]
      rw [List.map_cons, List.map_nil, hk]
      exact .fin _ hp
    · have h2 := strm_tail h e
      rw [h1] at e
      have hp : 0 < plen (q (l.drop i)) := by rw [q_drop, ← hl]; exact List.length_pos_iff.2 e
      have ih := pk_strm h2
      have hk : key t = ((q (l.drop i)).take (plen (q (l.drop i))), false) := by
        rw [h1]
        unfold key
        rw [q_drop] at hp ⊢
        unfold tk
        simp only [Prod.mk.injEq, true_and, decide_eq_false_iff_not]
        omega
      rw [List.map_cons, hk]
      refine .step _ _ hp ?_
      rw [q_drop, List.drop_drop, ← hl, ← h1]
      have ha : t.at' = nx l i := by rw [h1]; rfl
      rw [ha] at ih
      exact ih
theorem er_key {ts us : List Tk} (h : ts.map key = us.map key) : ts.map er = us.map er := by
  have g : ∀ l : List Tk, l.map er = (l.map key).map (fun k => ⟨k.1, 0, k.2⟩) := by
    intro l
    rw [List.map_map]
    rfl
  rw [g, g, h]
/-- what is put behind a byte. -/
def fil (f : Str) (c : UInt8) : Str := if c.toNat = 32 ∨ c.toNat = 59 ∨ c.toNat = 40 then f else []
def sp (f : Str) : Str → Str
  | [] => []
  | c :: cs => c :: (fil f c ++ sp f cs)
def Blank (f : Str) : Prop := ∀ r, q (f ++ r) = q r
theorem fil_q {f : Str} (hf : Blank f) (c : UInt8) (r : Str) : q (fil f c ++ r) = q r := by
  unfold fil
  split
  · exact hf r
  · rfl
theorem q_cons_blank (c : UInt8) (r : Str) (h : c.toNat = 10 ∨ c.toNat = 32 ∨ c.toNat = 9 ∨ c.toNat = 13) : q (c :: r) = q r := by
  unfold q
  rw [blk_cons]
  by_cases e : c.toNat = 10
  · rw [if_pos e, Nat.add_comm, List.drop_succ_cons]
  · rw [if_neg e, if_pos (Or.inr (h.resolve_left e)), Nat.add_comm, List.drop_succ_cons]
theorem q_cons_other (c : UInt8) (r : Str) (h : ¬ (c.toNat = 10 ∨ c.toNat = 32 ∨ c.toNat = 9 ∨ c.toNat = 13)) (h2 : c.toNat ≠ 35) : q (c :: r) = c :: r := by
  unfold q
  rw [blk_cons, if_neg (fun e => h (Or.inl e)), if_neg (fun e => e.elim (fun e => by cases e) (fun e => h (Or.inr e))), if_neg h2]
  rfl
theorem q_sp {f : Str} (hf : Blank f) : ∀ l : Str, (∀ c ∈ l, c.toNat ≠ 35) → q (sp f l) = sp f (q l)
  | [], _ => rfl
  | c :: cs, h => by
    have ih := q_sp hf cs (fun x hx => h x (List.mem_cons_of_mem _ hx))
    have h0 := h c (List.mem_cons_self)
    by_cases e : c.toNat = 10 ∨ c.toNat = 32 ∨ c.toNat = 9 ∨ c.toNat = 13
    · rw [sp, q_cons_blank c _ e, q_cons_blank c _ e, fil_q hf, ih]
    · rw [sp, q_cons_other c _ e h0, q_cons_other c _ e h0, sp]
theorem isN_fil {f : Str} {c : UInt8} (h : isN c = true) : fil f c = [] := by
  unfold fil
  rw [if_neg]
  intro e
  unfold isN at h
  simp only [Bool.or_eq_true, Bool.and_eq_true, decide_eq_true_eq] at h
  omega
theorem nml_sp (f : Str) : ∀ r : Str, nml (sp f r) = nml r ∧ (sp f r).take (nml r) = r.take (nml r) ∧ (sp f r).drop (nml r) = sp f (r.drop (nml r))
  | [] => ⟨rfl, rfl, rfl⟩
  | c :: cs => by
    obtain ⟨h1, h2, h3⟩ := nml_sp f cs
    rw [sp]
    by_cases e : isN c = true
    · rw [isN_fil e, List.nil_append, nml_cons, nml_cons, if_pos e, if_pos e, h1, Nat.add_comm, List.take_succ_cons, List.take_succ_cons, List.drop_succ_cons, List.drop_succ_cons, h2, h3]
      exact ⟨rfl, rfl, rfl⟩
    · rw [nml_cons, nml_cons, if_neg e, if_neg e]
      refine ⟨rfl, rfl, ?_⟩
      rw [List.drop_zero, List.drop_zero, sp]
theorem pk_sp {f : Str} (hf : Blank f) {l : Str} {K : List (Str × Bool)} (h : Pk l K) : (∀ c ∈ l, c.toNat ≠ 35) → Pk (sp f l) K := by
  induction h with
  | fin l h =>
    intro h0
    have e := q_sp hf l h0
    have e0 : plen (q (sp f l)) = 0 := by
      rw [e]
      unfold plen at h ⊢
      rw [(nml_sp f (q l)).1]
      split
      · rename_i h1
        rw [if_pos h1] at h
        omega
      · rename_i h1
        rw [if_neg h1] at h
        cases hq : q l with
        | nil => rfl
        | cons c cs => rw [hq] at h; exact h
    have e1 : decide (q (sp f l) ≠ []) = decide (q l ≠ []) := by
      rw [e]
      cases q l with
      | nil => rfl
      | cons c cs => simp [sp]
    rw [← e1]
    exact .fin _ e0
  | step l K h _ ih =>
    intro h0
    have e := q_sp hf l h0
    have h1 : ∀ c ∈ (q l).drop (plen (q l)), c.toNat ≠ 35 := fun c hc => h0 c (List.mem_of_mem_drop (List.mem_of_mem_drop hc))
    have ih := ih h1
    obtain ⟨a1, a2, a3⟩ := nml_sp f (q l)
    by_cases hn : 0 < nml (q l)
    · have p1 : plen (q l) = nml (q l) := if_pos hn
      have p2 : plen (q (sp f l)) = nml (q l) := by rw [e]; unfold plen; rw [a1, if_pos hn]
      rw [p1] at ih ⊢
      rw [← a2, ← p2, ← e]
      refine .step _ _ (by omega) ?_
      rw [p2, e, a3]
      exact ih
    · cases hq : q l with
      | nil =>
        rw [hq] at h
        exact absurd h (by decide)
      | cons c cs =>
        rw [hq] at h hn a1 ih
        have p1 : plen (c :: cs) = 1 := by
          unfold plen at h ⊢
          rw [if_neg hn] at h ⊢
          simp only at h ⊢
          split at h
          · rename_i hs; rw [if_pos hs]
          · omega
        have p2 : plen (q (sp f l)) = 1 := by
          rw [e, hq]
          unfold plen at p1 ⊢
          rw [a1, if_neg hn]
          rw [if_neg hn] at p1
          rw [sp]
          exact p1
        rw [p1] at ih ⊢
        have e3 : (c :: cs).take 1 = (q (sp f l)).take (plen (q (sp f l))) := by rw [p2, e, hq, sp]; rfl
        rw [e3]
        refine .step _ _ (by omega) ?_
        rw [p2, e, hq, sp]
        show Pk (fil f c ++ sp f cs) K
        exact ih.same (fil_q hf c _)
/-- of a text with blanks put in the same is read, but for a fault's place. -/
theorem lines_sp {f l : Str} (hf : Blank f) (h0 : ∀ c ∈ l, c.toNat ≠ 35) {ts us : List Tk} (h : Strm l 0 ts) (k : Strm (sp f l) 0 us) : rz (fun x => x) (lines (ts.length + 1) ts st0) = rz (fun x => x) (lines (us.length + 1) us st0) := by
  have e : ts.map key = us.map key := (pk_sp hf (pk_strm h) h0).one (pk_strm k)
  have e2 := er_key e
  have e3 : ts.length = us.length := by have := congrArg List.length e; simpa using this
  rw [← lines_er, ← lines_er, e2, e3]
theorem sp_len (f : Str) : ∀ l : Str, l.length ≤ (sp f l).length
  | [] => Nat.le_refl _
  | c :: cs => by
    have := sp_len f cs
    rw [sp]
    simp only [List.length_cons, List.length_append]
    omega
end Rl
end Go.Proofs.Ytahoepmnekconaa
namespace Go.Proofs.Ytahoepmnekconaa
set_option linter.unusedVariables false
set_option linter.unusedSimpArgs false
namespace Hd
def N35 (l : Str) : Prop := ∀ c ∈ l, c.toNat ≠ 35
theorem N35.cat {x y : Str} (h : N35 x) (k : N35 y) : N35 (Hd.cat x y) := fun c hc => (List.mem_append.1 hc).elim (h c) (k c)
theorem N35.app {x y : Str} (h : N35 x) (k : N35 y) : N35 (x ++ y) := N35.cat h k
theorem n35_dec {x : Str} (h : x.all (fun c => decide (c.toNat ≠ 35)) = true) : N35 x := fun c hc => of_decide_eq_true (List.all_eq_true.1 h c hc)
theorem n35_name {n : Nat} (hn : 1 ≤ n) (hn6 : n ≤ 6) (i : Nat) : N35 (name n i) := by
  intro c hc
  simp only [name, List.mem_singleton] at hc
  subst hc
  have := Nat.mod_lt i (by omega : n > 0)
  show (65 + i % n) % 256 ≠ 35
  omega
theorem n35_names {n : Nat} (hn : 1 ≤ n) (hn6 : n ≤ 6) (b : Nat) : ∀ k, N35 (names n b k)
  | 0 => n35_dec rfl
  | k + 1 => by
    rw [names]
    refine (n35_names hn hn6 b k).app ?_
    split
    · exact N35.app (x := [32]) (n35_dec rfl) (n35_name hn hn6 k)
    · exact n35_dec rfl
theorem n35_ex {n : Nat} (hn : 1 ≤ n) (hn6 : n ≤ 6) (L : List Nat) : ∀ d i, N35 (ex n L d i).1
  | 0, i => n35_name hn hn6 _
  | d + 1, i => by
    have h1 := n35_ex hn hn6 L d (up L i)
    have h2 := n35_ex hn hn6 L d (ex n L d (up L i)).2
    have h3 := n35_names hn hn6 (at' L (up L i)) n
    rw [ex]
    repeat' split
    all_goals first
      | exact n35_dec rfl
      | exact n35_name hn hn6 _
      | exact ((n35_dec rfl).cat h3).cat (n35_dec rfl)
      | exact ((n35_dec rfl).cat h1).cat (n35_dec rfl)
      | exact ((((n35_dec rfl).cat h1).cat (n35_dec rfl)).cat h2).cat (n35_dec rfl)
      | exact (h1.cat (n35_dec rfl)).cat h2
theorem n35_expr {n : Nat} (hn : 1 ≤ n) (hn6 : n ≤ 6) (L : List Nat) : N35 (expr n L) := by
  unfold expr
  split
  · exact n35_dec rfl
  · exact n35_ex hn hn6 _ 3 0
theorem n35_first {n : Nat} (hn : 1 ≤ n) (hn6 : n ≤ 6) : N35 (first n) := ((n35_dec rfl).cat (n35_names hn hn6 255 n)).cat (n35_dec rfl)
theorem n35_second {n : Nat} (hn : 1 ≤ n) (hn6 : n ≤ 6) (jo af : Nat) : N35 (second n jo af) := by
  unfold second
  split
  · exact n35_first hn hn6
  · exact (((((n35_first hn hn6).cat (n35_dec rfl)).cat (n35_names hn hn6 jo n)).cat (n35_dec rfl)).cat (n35_names hn hn6 af n)).cat (n35_dec rfl)
theorem n35_treat {n : Nat} (hn : 1 ≤ n) (hn6 : n ≤ 6) (T : List Nat) {t : Str} (h : N35 t) : ∀ k, N35 (treat n T t k)
  | 0 => h
  | k + 1 => by
    rw [treat]
    exact (((((n35_treat hn hn6 T h k).cat (n35_dec rfl)).cat (n35_name hn hn6 k)).cat (n35_dec rfl)).cat (n35_name hn hn6 _)).cat (n35_dec rfl)
theorem n35_word (d : Nat) : N35 (word d) := by
  unfold word
  repeat' split
  all_goals exact n35_dec rfl
theorem n35_ru {n : Nat} (hn : 1 ≤ n) (hn6 : n ≤ 6) (rs : List Pr) {t : Str} (h : N35 t) : ∀ k, N35 (ru n rs t k)
  | 0 => h
  | k + 1 => by
    have ih := n35_ru hn hn6 rs h k
    rw [ru]
    cases rs[k]? with
    | none => exact ih
    | some x => exact ((((ih.cat (n35_word x.d)).cat (n35_expr hn hn6 x.L)).cat (n35_dec rfl)).cat (n35_expr hn hn6 x.R)).cat (n35_dec rfl)
theorem n35_text {n : Nat} (hn : 1 ≤ n) (hn6 : n ≤ 6) (jo af : Nat) (T : List Nat) (rs : List Pr) : N35 (text n jo af T rs) := n35_ru hn hn6 rs (n35_treat hn hn6 T (n35_second hn hn6 jo af) _) _
end Hd
theorem text_35 (c jo af : Nat) (aT : Option Addr) (nT cT : Nat) (T : List Nat) (aR : Option Addr) (nR cR : Nat) (rs : List Pr) (w : World) (hc : c ≤ 255) (hjo : jo ≤ 255) (haf : af ≤ 255) (hT : Bw w aT nT T) (hR : Rw w aR nR rs) :
    Calls Try.prog 11 #[planV c jo af aT nT cT aR nR cR] w fun e w' => ∃ l : List UInt8, e = .returned (.string (bs l)) ∧ l.length ≤ 9000 ∧ Hd.N35 l ∧ Only (fun _ => False) w w' := by
  refine (text_hand c jo af aT nT cT T aR nR cR rs w hc hjo haf hT hR).mono ?_
  rintro e w' ⟨rfl, ho⟩
  exact ⟨_, rfl, (Hd.text_len (1 + c % 6) jo af T rs (by omega)).1, Hd.n35_text (by omega) (by omega) jo af T rs, ho⟩
namespace Rl
theorem q_rem_nl (r : Str) (c : UInt8) : blk true (c :: r) = if c.toNat = 10 then 1 + blk false r else 1 + blk true r := by
  rw [blk_cons]
  split
  · rfl
  · rw [if_pos (Or.inl rfl)]
theorem blank0 : Blank [32, 32] := fun r => by
  show q (32 :: 32 :: r) = q r
  rw [q_cons_blank 32 _ (by decide), q_cons_blank 32 _ (by decide)]
theorem blank2 : Blank [9, 13, 10] := fun r => by
  show q (9 :: 13 :: 10 :: r) = q r
  rw [q_cons_blank 9 _ (by decide), q_cons_blank 13 _ (by decide), q_cons_blank 10 _ (by decide)]
/-- a remark that ends with its line. -/
theorem q_remark (r : Str) : ∀ m : Str, (∀ c ∈ m, c.toNat ≠ 10) → blk true (m ++ 10 :: r) = m.length + 1 + blk false r
  | [], _ => by show blk true (10 :: r) = _; rw [q_rem_nl, if_pos (by decide)]; simp
  | c :: m, h => by
    have ih := q_remark r m (fun x hx => h x (List.mem_cons_of_mem _ hx))
    rw [List.cons_append, q_rem_nl, if_neg (h c List.mem_cons_self), ih, List.length_cons]
    omega
theorem q_remark2 (r m : Str) (h : ∀ c ∈ m, c.toNat ≠ 10) : q (35 :: (m ++ 10 :: r)) = q r := by
  unfold q
  rw [blk_cons, if_neg (by decide), if_neg (by decide), if_pos (by decide), q_remark r m h]
  have e : 35 :: (m ++ 10 :: r) = (35 :: (m ++ [10])) ++ r := by simp
  have e2 : (35 :: (m ++ [10])).length = 1 + (m.length + 1) := by simp; omega
  rw [show 1 + (m.length + 1 + blk false r) = (35 :: (m ++ [10])).length + blk false r by rw [e2]; omega, e, ← List.drop_drop, List.drop_left]
theorem blank1 : Blank [10, 35, 32, 107, 101, 101, 112, 32, 65, 32, 47, 32, 65, 59, 32, 40, 10] := fun r => by
  have e : [10, 35, 32, 107, 101, 101, 112, 32, 65, 32, 47, 32, 65, 59, 32, 40, 10] ++ r = 10 :: 35 :: ([32, 107, 101, 101, 112, 32, 65, 32, 47, 32, 65, 59, 32, 40] ++ 10 :: r) := by simp only [List.cons_append, List.nil_append]
  rw [e, q_cons_blank 10 _ (by decide), q_remark2 r _ (by decide)]
theorem blank3 : Blank [32, 35, 10] := fun r => by
  have e : [32, 35, 10] ++ r = 32 :: 35 :: ([] ++ 10 :: r) := by simp only [List.cons_append, List.nil_append]
  rw [e, q_cons_blank 32 _ (by decide), q_remark2 r _ (by decide)]
theorem sp_app (f : Str) : ∀ a b : Str, sp f (a ++ b) = sp f a ++ sp f b
  | [], b => rfl
  | c :: a, b => by
    rw [List.cons_append, sp, sp, sp_app f a b, List.cons_append, List.append_assoc]
theorem sp_take {f l : Str} {k : Nat} {c : UInt8} (h : l[k]? = some c) : sp f (l.take (k + 1)) = sp f (l.take k) ++ (c :: fil f c) := by
  rw [List.take_add_one, h]
  show sp f (l.take k ++ [c]) = _
  rw [sp_app]
  show _ ++ (c :: (fil f c ++ [])) = _
  rw [List.append_nil]
theorem sp_le (f : Str) (hf : f.length ≤ 17) : ∀ l : Str, (sp f l).length ≤ 18 * l.length
  | [] => Nat.le_refl _
  | c :: l => by
    have := sp_le f hf l
    have h2 : (fil f c).length ≤ 17 := by
      unfold fil
      split
      · exact hf
      · exact Nat.zero_le _
    rw [sp]
    simp only [List.length_cons, List.length_append]
    omega
end Rl
end Go.Proofs.Ytahoepmnekconaa
namespace Go.Proofs.Ytahoepmnekconaa
set_option linter.unusedVariables false
set_option linter.unusedSimpArgs false
/-- both readings: two faults of one kind, or one state. -/
theorem rd_sp {f l : List UInt8} (hf : Rl.Blank f) (h35 : Hd.N35 l) (hl : (Rl.sp f l).length ≤ 4096) :
    (∃ c i j, rd (bs l) (.error (c, i)) ∧ rd (bs (Rl.sp f l)) (.error (c, j))) ∨ (∃ s, rd (bs l) (.ok s) ∧ rd (bs (Rl.sp f l)) (.ok s)) := by
  have h1 := Rl.sp_len f l
  obtain ⟨ts, ht⟩ := Rl.strm_some l (l.length + 1) 0 (by omega) (Nat.zero_le _)
  obtain ⟨us, hu⟩ := Rl.strm_some (Rl.sp f l) ((Rl.sp f l).length + 1) 0 (by omega) (Nat.zero_le _)
  have e := Rl.lines_sp hf h35 ht hu
  have r1 : rd (bs l) (Rl.lines (ts.length + 1) ts Rl.st0) := Or.inr ⟨by rw [bs_size]; omega, ts, ht, rfl⟩
  have r2 : rd (bs (Rl.sp f l)) (Rl.lines (us.length + 1) us Rl.st0) := Or.inr ⟨by rw [bs_size]; omega, us, hu, rfl⟩
  cases h3 : Rl.lines (ts.length + 1) ts Rl.st0 with
  | error a =>
    cases h4 : Rl.lines (us.length + 1) us Rl.st0 with
    | error b =>
      rw [h3] at e r1
      rw [h4] at e r2
      obtain ⟨a1, a2⟩ := a
      obtain ⟨b1, b2⟩ := b
      injection e with e
      injection e with e _
      simp only at e
      subst e
      exact Or.inl ⟨_, _, _, r1, r2⟩
    | ok t => rw [h3, h4] at e; cases e
  | ok s =>
    cases h4 : Rl.lines (us.length + 1) us Rl.st0 with
    | error b => rw [h3, h4] at e; cases e
    | ok t =>
      rw [h3] at e r1
      rw [h4] at e r2
      injection e with e
      subst e
      exact Or.inr ⟨_, r1, r2⟩
theorem bs_one {l : List UInt8} {k : Nat} (h : k < l.length) : (bs l).extract k (k + 1) = bs [l[k]] := by
  apply ByteArray.ext
  show ((bs l).extract k (k + 1)).data = [l[k]].toArray
  rw [ByteArray.data_extract]
  apply Array.ext'
  show (l.toArray.extract k (k + 1)).toList = [l[k]]
  simp only [Array.toList_extract, List.extract_eq_take_drop]
  rw [show k + 1 - k = 1 by omega, List.drop_eq_getElem_cons h]
  rfl
theorem bs_get {l : List UInt8} {k : Nat} (h : k < (bs l).size) (h' : k < l.length) : (bs l)[k] = l[k] := rfl
end Go.Proofs.Ytahoepmnekconaa
namespace Go.Proofs.Ytahoepmnekconaa
open Go.RowKit Go.Maps
set_option linter.unusedVariables false
set_option linter.unusedSimpArgs false
set_option maxRecDepth 100000 in
set_option maxHeartbeats 4000000 in
theorem spaced_walk0 (c jo af : Nat) (aT : Option Addr) (nT cT : Nat) (T : List Nat) (aR : Option Addr) (nR cR : Nat) (rs : List Pr) (gap : Int) (w : World) (hc : c ≤ 255) (hjo : jo ≤ 255) (haf : af ≤ 255) (hT : Bw w aT nT T) (hR : Rw w aR nR rs) (hg0 : 0 ≤ gap) (hg1 : gap ≤ 255) (hgap : gap % 4 = 0) :
    Calls Try.prog 6 #[planV c jo af aT nT cT aR nR cR, .int .u8 gap] w fun e w' => e = .returned (.bool true) ∧ Only (fun _ => False) w w' := by
  have HT : Hid (Bw w aT nT T) := hT
  have HR : Hid (Rw w aR nR rs) := hR
  clear hT hR
  unfold planV
  go_enter Try.func6, Try.ntmps6
  go_wp2_with (first | (go_at_call 9; refine (awake_any _).mono ?_; rintro e w1 ⟨rfl, ho1⟩; have P1 : Hid (Pbx w1 w.heap.size c jo af aT nT cT aR nR cR) := Pbx.keep (heap_alloc_new w _) ho1; have k0 := P1.out.c0; have k1 := P1.out.c1; have k2 := P1.out.c2; have k3 := P1.out.c3; have k4 := P1.out.c4; have HO1 : Hid (Only (fun _ => False) w w1) := ((Only.refl (fun _ => False) w).alloc _).trans ho1) | (go_at_call 11; have hcc := text_35 c jo af aT nT cT T aR nR cR rs w1 hc hjo haf (HT.out.keep HO1.out) (HR.out.keep HO1.out); unfold planV at hcc; refine hcc.mono ?_; clear hcc; rintro e w2 ⟨l, rfl, hl9, h35, ho2⟩; have hsz := bs_size l; have H35 : Hid (Hd.N35 l) := h35; clear h35; have HO2 : Hid (Only (fun _ => False) w w2) := HO1.out.trans ho2; clear k0 k1 k2 k3 k4 ho1 ho2 P1 HO1))
  go_loopg [7, 24] l.length (fun g t i wr => ∃ (k : Nat) (W : World), W = wr ∧ g = l.length - k ∧ k ≤ l.length ∧ t = .string (bs (Rl.sp [32, 32] (l.take k))) ∧ i = .int .i64 (k : Int) ∧ Only (fun _ => False) w W)
  case atStart => exact ⟨0, _, rfl, rfl, by omega, rfl, rfl, HO2.out.alloc _⟩
  case round =>
    obtain ⟨k, W, hW, rfl, hk, rfl, rfl, hOr⟩ := hrel
    subst hW
    by_cases hlt : k < l.length
    · have t1 : (k : Int) < (l.length : Int) := by omega
      obtain ⟨x, hx⟩ : ∃ x, l[k] = x := ⟨_, rfl⟩
      have hb : ((bs l)[k]'(by rw [hsz]; exact hlt)).toNat = x.toNat := by rw [← hx]; rfl
      have he : (bs l).extract k (k + 1) = bs [x] := by rw [bs_one hlt, hx]
      have hz1 : (bs [x]).size = 1 := bs_size _
      have hx2 : l[k]? = some x := by rw [List.getElem?_eq_getElem hlt, hx]
      have hN := Rl.sp_take (f := [32, 32]) hx2
      have hle := Rl.sp_le [32, 32] (by decide) (l.take k)
      rw [List.length_take] at hle
      clear hx hx2
      obtain ⟨A, hA⟩ : ∃ A, A = Rl.sp [32, 32] (l.take k) := ⟨_, rfl⟩
      rw [← hA] at hN hle ⊢
      clear hA
      obtain ⟨a, hsa, ha⟩ := sz A
      have ha2 : a ≤ 162000 := by omega
      clear ha hle
      have hS1 : bs A ++ bs [x] = bs (Hd.cat A [x]) := bs_cat A [x]
      have hs1 : (bs (Hd.cat A [x])).size = a + 1 := by rw [← hsa, bs_size, bs_size, Hd.cat_len]; rfl
      have HN : Hid (Rl.sp [32, 32] (l.take (k + 1)) = A ++ (x :: Rl.fil [32, 32] x)) := hN
      clear hN
      by_cases hsp : x.toNat = 32 ∨ x.toNat = 59 ∨ x.toNat = 40
      · have HQ : Hid (Hd.cat (Hd.cat A [x]) [32, 32] = Rl.sp [32, 32] (l.take (k + 1))) := by
          show _ = _
          rw [HN.out, show Rl.fil [32, 32] x = [32, 32] from if_pos hsp]
          unfold Hd.cat
          rw [List.append_assoc]
          rfl
        clear HN
        have hS2 : bs (Hd.cat A [x]) ++ (⟨#[32, 32]⟩ : ByteArray) = bs (Hd.cat (Hd.cat A [x]) [32, 32]) := bs_app' _ _
        rcases hsp with h | h | h
        all_goals
          rw [h] at hb
          clear h
          go_wp2_with fail
          go_roundg (l.length - (k + 1))
          case measure => omega
          case rel => exact ⟨k + 1, _, rfl, rfl, by omega, by rw [HQ.out], by go_num, hOr⟩
      · have HQ : Hid (Hd.cat A [x] = Rl.sp [32, 32] (l.take (k + 1))) := by
          show _ = _
          rw [HN.out, show Rl.fil [32, 32] x = [] from if_neg hsp]
          rfl
        clear HN
        obtain ⟨m, hm⟩ : ∃ m, x.toNat = m := ⟨_, rfl⟩
        rw [hm] at hb hsp
        have q1 : ¬ (m : Int) = 32 := by omega
        have q2 : ¬ (m : Int) = 59 := by omega
        have q3 : ¬ (m : Int) = 40 := by omega
        have q4 : ((m : Int) == 32) = false := by simp [q1]
        have q5 : ((m : Int) == 59) = false := by simp [q2]
        have q6 : ((m : Int) == 40) = false := by simp [q3]
        clear hsp hm
        go_wp2_with fail
        go_roundg (l.length - (k + 1))
        case measure => omega
        case rel => exact ⟨k + 1, _, rfl, rfl, by omega, by rw [HQ.out], by go_num, hOr⟩
    · have t2 : decide ((k : Int) < (l.length : Int)) = false := decide_eq_false (by omega)
      obtain rfl : k = l.length := by omega
      rw [List.take_length]
      obtain ⟨B, hB⟩ : ∃ B, B = Rl.sp [32, 32] l := ⟨_, rfl⟩
      rw [← hB]
      obtain ⟨m, hsm, hm⟩ := sz B
      by_cases h4 : 4096 < m
      · have h5 : (4096 : Int) < (m : Int) := by omega
        clear hm hB
        go_wp2_with fail
        go_ret
        exact ⟨rfl, hOr⟩
      · have h5 : ¬ (4096 : Int) < (m : Int) := by omega
        have h6 : decide ((4096 : Int) < (m : Int)) = false := decide_eq_false h5
        rcases rd_sp Rl.blank0 H35.out (by rw [← hB]; omega) with ⟨cc, ci, cj, r1, r2⟩ | ⟨s, r1, r2⟩
        · rw [← hB] at r2
          have R1 : Hid (rd (bs l) (.error (cc, ci))) := r1
          have R2 : Hid (rd (bs B) (.error (cc, cj))) := r2
          clear hm hB r1 r2 h4
          go_wp2_with (first | (go_at_call 12; have hgd := HX1.out; clear hgd; refine (parse_all (bs B) _ _ R2.out).mono ?_; rintro e w4 ⟨rfl, ho2⟩; unfold noRules; have HO2 : Hid (Only (fun _ => False) w w4) := ((HO1.out.alloc _).alloc _).trans ho2; have X2 : Hid (Xr w4 w3.heap.size (.slice none 0 0) (.int .u32 0) (.int .u32 0) (.slice none 0 0) (.slice none 0 0)) := HX1.out.only ho2 (fun h => h); have P2 : Hid (w4.heap[w3.heap.size + 1]? = some (.cells #[.int .i64 (cc : Int), .int .i64 (ci : Int)] 40 (0, 0))) := (ho2.block _ (by simp) (fun h => h)).trans HP1.out; have x0 := X2.out.c0; have x1 := X2.out.c1; have x2 := X2.out.c2; have x3 := X2.out.c3; have x4 := X2.out.c4; have p0 : w4.cell? ⟨w3.heap.size + 1, 0, none⟩ = some (.int .i64 (cc : Int)) := (cell_of_row _ _ _ _ _ _ P2.out).trans rfl; have p1 : w4.cell? ⟨w3.heap.size + 1, 1, none⟩ = some (.int .i64 (ci : Int)) := (cell_of_row _ _ _ _ _ _ P2.out).trans rfl; have hl2 : w3.heap.size + 1 < w4.heap.size := (Array.getElem?_eq_some_iff.1 P2.out).1; have hl2' : w3.heap.size < w4.heap.size := (by omega)) | (go_at_call 12; refine (parse_all (bs l) _ _ R1.out).mono ?_; rintro e w3 ⟨rfl, ho1⟩; unfold noRules; have HO1 : Hid (Only (fun _ => False) w w3) := hOr.trans ho1; clear ho1; have HX1 : Hid (Xr ((w3.alloc (.cells #[.slice none 0 0, .int .u32 0, .int .u32 0, .slice none 0 0, .slice none 0 0] 37)).alloc (.cells #[.int .i64 (cc : Int), .int .i64 (ci : Int)] 40)) w3.heap.size (.slice none 0 0) (.int .u32 0) (.int .u32 0) (.slice none 0 0) (.slice none 0 0)) := (Xr.new w3 _ _ _ _ _).alloc _; have HP1 : Hid (((w3.alloc (.cells #[.slice none 0 0, .int .u32 0, .int .u32 0, .slice none 0 0, .slice none 0 0] 37)).alloc (.cells #[.int .i64 (cc : Int), .int .i64 (ci : Int)] 40)).heap[w3.heap.size + 1]? = some (.cells #[.int .i64 (cc : Int), .int .i64 (ci : Int)] 40 (0, 0))) := heap_alloc2_new _ _ _) | (go_at_call 13; refine (sameRules_any Rl.st0 0 0 noRules noRules _ (noRules_rv _) (noRules_rv _) Rl.small_st0).mono ?_; rintro e w5 ⟨rfl, ho3⟩))
          go_ret
          exact ⟨rfl, ((HO2.out.alloc _).alloc _).trans ho3⟩
        · rw [← hB] at r2
          have R1 : Hid (rd (bs l) (.ok s)) := r1
          have R2 : Hid (rd (bs B) (.ok s)) := r2
          clear hm hB r1 r2 h4
          go_wp2_with (first | (go_at_call 12; have hgd := HX1.out; clear hgd; refine (parse_all (bs B) _ _ R2.out).mono ?_; rintro e w4 ⟨⟨v2, B2, rfl, hB2, hV2⟩, ho2⟩; have HV2 : Hid (Rv w4 B2 v2 s) := hV2; obtain ⟨bC, bT, bL, dC, dT, dL, rfl, hrest2⟩ := hV2; clear hrest2; have HO2 : Hid (Only (fun _ => False) w w4) := ((HO1.out.alloc _).alloc _).trans ho2; have HW : Hid (Rv w4 B1 (.agg #[.slice aC s.cls.length cC, .int .u32 s.join, .int .u32 s.after, .slice aT0 s.treat.length cT0, .slice aL s.list.length cL]) s) := ((HV1.out.only ((Only.refl (fun _ => False) w3).alloc _) (fun _ _ h => h)).only ((Only.refl (fun _ => False) _).alloc _) (fun _ _ h => h)).only ho2 (fun _ _ h => h); have X2 : Hid (Xr w4 w3.heap.size (.slice aC s.cls.length cC) (.int .u32 s.join) (.int .u32 s.after) (.slice aT0 s.treat.length cT0) (.slice aL s.list.length cL)) := HX1.out.only ho2 (fun h => h); have P2 : Hid (w4.heap[w3.heap.size + 1]? = some (.cells #[.int .i64 0, .int .i64 0] 40 (0, 0))) := (ho2.block _ (by simp) (fun h => h)).trans HP1.out; have x0 := X2.out.c0; have x1 := X2.out.c1; have x2 := X2.out.c2; have x3 := X2.out.c3; have x4 := X2.out.c4; have p0 : w4.cell? ⟨w3.heap.size + 1, 0, none⟩ = some (.int .i64 0) := (cell_of_row _ _ _ _ _ _ P2.out).trans rfl; have p1 : w4.cell? ⟨w3.heap.size + 1, 1, none⟩ = some (.int .i64 0) := (cell_of_row _ _ _ _ _ _ P2.out).trans rfl; have hl2 : w3.heap.size + 1 < w4.heap.size := (Array.getElem?_eq_some_iff.1 P2.out).1; have hl2' : w3.heap.size < w4.heap.size := (by omega)) | (go_at_call 12; refine (parse_all (bs l) _ _ R1.out).mono ?_; rintro e w3 ⟨⟨v1, B1, rfl, hB1, hV1⟩, ho1⟩; have HV1 : Hid (Rv w3 B1 v1 s) := hV1; obtain ⟨aC, aT0, aL, cC, cT0, cL, rfl, hrest1⟩ := hV1; clear hrest1; have HO1 : Hid (Only (fun _ => False) w w3) := hOr.trans ho1; clear ho1; have HX1 : Hid (Xr ((w3.alloc (.cells #[.slice aC s.cls.length cC, .int .u32 s.join, .int .u32 s.after, .slice aT0 s.treat.length cT0, .slice aL s.list.length cL] 37)).alloc (.cells #[.int .i64 0, .int .i64 0] 40)) w3.heap.size (.slice aC s.cls.length cC) (.int .u32 s.join) (.int .u32 s.after) (.slice aT0 s.treat.length cT0) (.slice aL s.list.length cL)) := (Xr.new w3 _ _ _ _ _).alloc _; have HP1 : Hid (((w3.alloc (.cells #[.slice aC s.cls.length cC, .int .u32 s.join, .int .u32 s.after, .slice aT0 s.treat.length cT0, .slice aL s.list.length cL] 37)).alloc (.cells #[.int .i64 0, .int .i64 0] 40)).heap[w3.heap.size + 1]? = some (.cells #[.int .i64 0, .int .i64 0] 40 (0, 0))) := heap_alloc2_new _ _ _) | (go_at_call 13; refine (sameRules_any s B1 B2 _ _ _ ((HW.out.only ((Only.refl (fun _ => False) w4).alloc _) (fun _ _ h => h)).only ((Only.refl (fun _ => False) _).alloc _) (fun _ _ h => h)) ((HV2.out.only ((Only.refl (fun _ => False) w4).alloc _) (fun _ _ h => h)).only ((Only.refl (fun _ => False) _).alloc _) (fun _ _ h => h)) (rd_small R1.out)).mono ?_; rintro e w5 ⟨rfl, ho3⟩))
          go_ret
          exact ⟨rfl, ((HO2.out.alloc _).alloc _).trans ho3⟩
set_option maxRecDepth 100000 in
set_option maxHeartbeats 4000000 in
theorem spaced_walk1 (c jo af : Nat) (aT : Option Addr) (nT cT : Nat) (T : List Nat) (aR : Option Addr) (nR cR : Nat) (rs : List Pr) (gap : Int) (w : World) (hc : c ≤ 255) (hjo : jo ≤ 255) (haf : af ≤ 255) (hT : Bw w aT nT T) (hR : Rw w aR nR rs) (hg0 : 0 ≤ gap) (hg1 : gap ≤ 255) (hgap : gap % 4 = 1) :
    Calls Try.prog 6 #[planV c jo af aT nT cT aR nR cR, .int .u8 gap] w fun e w' => e = .returned (.bool true) ∧ Only (fun _ => False) w w' := by
  have HT : Hid (Bw w aT nT T) := hT
  have HR : Hid (Rw w aR nR rs) := hR
  clear hT hR
  unfold planV
  go_enter Try.func6, Try.ntmps6
  go_wp2_with (first | (go_at_call 9; refine (awake_any _).mono ?_; rintro e w1 ⟨rfl, ho1⟩; have P1 : Hid (Pbx w1 w.heap.size c jo af aT nT cT aR nR cR) := Pbx.keep (heap_alloc_new w _) ho1; have k0 := P1.out.c0; have k1 := P1.out.c1; have k2 := P1.out.c2; have k3 := P1.out.c3; have k4 := P1.out.c4; have HO1 : Hid (Only (fun _ => False) w w1) := ((Only.refl (fun _ => False) w).alloc _).trans ho1) | (go_at_call 11; have hcc := text_35 c jo af aT nT cT T aR nR cR rs w1 hc hjo haf (HT.out.keep HO1.out) (HR.out.keep HO1.out); unfold planV at hcc; refine hcc.mono ?_; clear hcc; rintro e w2 ⟨l, rfl, hl9, h35, ho2⟩; have hsz := bs_size l; have H35 : Hid (Hd.N35 l) := h35; clear h35; have HO2 : Hid (Only (fun _ => False) w w2) := HO1.out.trans ho2; clear k0 k1 k2 k3 k4 ho1 ho2 P1 HO1))
  go_loopg [7, 24] l.length (fun g t i wr => ∃ (k : Nat) (W : World), W = wr ∧ g = l.length - k ∧ k ≤ l.length ∧ t = .string (bs (Rl.sp [10, 35, 32, 107, 101, 101, 112, 32, 65, 32, 47, 32, 65, 59, 32, 40, 10] (l.take k))) ∧ i = .int .i64 (k : Int) ∧ Only (fun _ => False) w W)
  case atStart => exact ⟨0, _, rfl, rfl, by omega, rfl, rfl, HO2.out.alloc _⟩
  case round =>
    obtain ⟨k, W, hW, rfl, hk, rfl, rfl, hOr⟩ := hrel
    subst hW
    by_cases hlt : k < l.length
    · have t1 : (k : Int) < (l.length : Int) := by omega
      obtain ⟨x, hx⟩ : ∃ x, l[k] = x := ⟨_, rfl⟩
      have hb : ((bs l)[k]'(by rw [hsz]; exact hlt)).toNat = x.toNat := by rw [← hx]; rfl
      have he : (bs l).extract k (k + 1) = bs [x] := by rw [bs_one hlt, hx]
      have hz1 : (bs [x]).size = 1 := bs_size _
      have hx2 : l[k]? = some x := by rw [List.getElem?_eq_getElem hlt, hx]
      have hN := Rl.sp_take (f := [10, 35, 32, 107, 101, 101, 112, 32, 65, 32, 47, 32, 65, 59, 32, 40, 10]) hx2
      have hle := Rl.sp_le [10, 35, 32, 107, 101, 101, 112, 32, 65, 32, 47, 32, 65, 59, 32, 40, 10] (by decide) (l.take k)
      rw [List.length_take] at hle
      clear hx hx2
      obtain ⟨A, hA⟩ : ∃ A, A = Rl.sp [10, 35, 32, 107, 101, 101, 112, 32, 65, 32, 47, 32, 65, 59, 32, 40, 10] (l.take k) := ⟨_, rfl⟩
      rw [← hA] at hN hle ⊢
      clear hA
      obtain ⟨a, hsa, ha⟩ := sz A
      have ha2 : a ≤ 162000 := by omega
      clear ha hle
      have hS1 : bs A ++ bs [x] = bs (Hd.cat A [x]) := bs_cat A [x]
      have hs1 : (bs (Hd.cat A [x])).size = a + 1 := by rw [← hsa, bs_size, bs_size, Hd.cat_len]; rfl
      have HN : Hid (Rl.sp [10, 35, 32, 107, 101, 101, 112, 32, 65, 32, 47, 32, 65, 59, 32, 40, 10] (l.take (k + 1)) = A ++ (x :: Rl.fil [10, 35, 32, 107, 101, 101, 112, 32, 65, 32, 47, 32, 65, 59, 32, 40, 10] x)) := hN
      clear hN
      by_cases hsp : x.toNat = 32 ∨ x.toNat = 59 ∨ x.toNat = 40
      · have HQ : Hid (Hd.cat (Hd.cat A [x]) [10, 35, 32, 107, 101, 101, 112, 32, 65, 32, 47, 32, 65, 59, 32, 40, 10] = Rl.sp [10, 35, 32, 107, 101, 101, 112, 32, 65, 32, 47, 32, 65, 59, 32, 40, 10] (l.take (k + 1))) := by
          show _ = _
          rw [HN.out, show Rl.fil [10, 35, 32, 107, 101, 101, 112, 32, 65, 32, 47, 32, 65, 59, 32, 40, 10] x = [10, 35, 32, 107, 101, 101, 112, 32, 65, 32, 47, 32, 65, 59, 32, 40, 10] from if_pos hsp]
          unfold Hd.cat
          rw [List.append_assoc]
          rfl
        clear HN
        have hS2 : bs (Hd.cat A [x]) ++ (⟨#[10, 35, 32, 107, 101, 101, 112, 32, 65, 32, 47, 32, 65, 59, 32, 40, 10]⟩ : ByteArray) = bs (Hd.cat (Hd.cat A [x]) [10, 35, 32, 107, 101, 101, 112, 32, 65, 32, 47, 32, 65, 59, 32, 40, 10]) := bs_app' _ _
        rcases hsp with h | h | h
        all_goals
          rw [h] at hb
          clear h
          go_wp2_with fail
          go_roundg (l.length - (k + 1))
          case measure => omega
          case rel => exact ⟨k + 1, _, rfl, rfl, by omega, by rw [HQ.out], by go_num, hOr⟩
      · have HQ : Hid (Hd.cat A [x] = Rl.sp [10, 35, 32, 107, 101, 101, 112, 32, 65, 32, 47, 32, 65, 59, 32, 40, 10] (l.take (k + 1))) := by
          show _ = _
          rw [HN.out, show Rl.fil [10, 35, 32, 107, 101, 101, 112, 32, 65, 32, 47, 32, 65, 59, 32, 40, 10] x = [] from if_neg hsp]
          rfl
        clear HN
        obtain ⟨m, hm⟩ : ∃ m, x.toNat = m := ⟨_, rfl⟩
        rw [hm] at hb hsp
        have q1 : ¬ (m : Int) = 32 := by omega
        have q2 : ¬ (m : Int) = 59 := by omega
        have q3 : ¬ (m : Int) = 40 := by omega
        have q4 : ((m : Int) == 32) = false := by simp [q1]
        have q5 : ((m : Int) == 59) = false := by simp [q2]
        have q6 : ((m : Int) == 40) = false := by simp [q3]
        clear hsp hm
        go_wp2_with fail
        go_roundg (l.length - (k + 1))
        case measure => omega
        case rel => exact ⟨k + 1, _, rfl, rfl, by omega, by rw [HQ.out], by go_num, hOr⟩
    · have t2 : decide ((k : Int) < (l.length : Int)) = false := decide_eq_false (by omega)
      obtain rfl : k = l.length := by omega
      rw [List.take_length]
      obtain ⟨B, hB⟩ : ∃ B, B = Rl.sp [10, 35, 32, 107, 101, 101, 112, 32, 65, 32, 47, 32, 65, 59, 32, 40, 10] l := ⟨_, rfl⟩
      rw [← hB]
      obtain ⟨m, hsm, hm⟩ := sz B
      by_cases h4 : 4096 < m
      · have h5 : (4096 : Int) < (m : Int) := by omega
        clear hm hB
        go_wp2_with fail
        go_ret
        exact ⟨rfl, hOr⟩
      · have h5 : ¬ (4096 : Int) < (m : Int) := by omega
        have h6 : decide ((4096 : Int) < (m : Int)) = false := decide_eq_false h5
        rcases rd_sp Rl.blank1 H35.out (by rw [← hB]; omega) with ⟨cc, ci, cj, r1, r2⟩ | ⟨s, r1, r2⟩
        · rw [← hB] at r2
          have R1 : Hid (rd (bs l) (.error (cc, ci))) := r1
          have R2 : Hid (rd (bs B) (.error (cc, cj))) := r2
          clear hm hB r1 r2 h4
          go_wp2_with (first | (go_at_call 12; have hgd := HX1.out; clear hgd; refine (parse_all (bs B) _ _ R2.out).mono ?_; rintro e w4 ⟨rfl, ho2⟩; unfold noRules; have HO2 : Hid (Only (fun _ => False) w w4) := ((HO1.out.alloc _).alloc _).trans ho2; have X2 : Hid (Xr w4 w3.heap.size (.slice none 0 0) (.int .u32 0) (.int .u32 0) (.slice none 0 0) (.slice none 0 0)) := HX1.out.only ho2 (fun h => h); have P2 : Hid (w4.heap[w3.heap.size + 1]? = some (.cells #[.int .i64 (cc : Int), .int .i64 (ci : Int)] 40 (0, 0))) := (ho2.block _ (by simp) (fun h => h)).trans HP1.out; have x0 := X2.out.c0; have x1 := X2.out.c1; have x2 := X2.out.c2; have x3 := X2.out.c3; have x4 := X2.out.c4; have p0 : w4.cell? ⟨w3.heap.size + 1, 0, none⟩ = some (.int .i64 (cc : Int)) := (cell_of_row _ _ _ _ _ _ P2.out).trans rfl; have p1 : w4.cell? ⟨w3.heap.size + 1, 1, none⟩ = some (.int .i64 (ci : Int)) := (cell_of_row _ _ _ _ _ _ P2.out).trans rfl; have hl2 : w3.heap.size + 1 < w4.heap.size := (Array.getElem?_eq_some_iff.1 P2.out).1; have hl2' : w3.heap.size < w4.heap.size := (by omega)) | (go_at_call 12; refine (parse_all (bs l) _ _ R1.out).mono ?_; rintro e w3 ⟨rfl, ho1⟩; unfold noRules; have HO1 : Hid (Only (fun _ => False) w w3) := hOr.trans ho1; clear ho1; have HX1 : Hid (Xr ((w3.alloc (.cells #[.slice none 0 0, .int .u32 0, .int .u32 0, .slice none 0 0, .slice none 0 0] 37)).alloc (.cells #[.int .i64 (cc : Int), .int .i64 (ci : Int)] 40)) w3.heap.size (.slice none 0 0) (.int .u32 0) (.int .u32 0) (.slice none 0 0) (.slice none 0 0)) := (Xr.new w3 _ _ _ _ _).alloc _; have HP1 : Hid (((w3.alloc (.cells #[.slice none 0 0, .int .u32 0, .int .u32 0, .slice none 0 0, .slice none 0 0] 37)).alloc (.cells #[.int .i64 (cc : Int), .int .i64 (ci : Int)] 40)).heap[w3.heap.size + 1]? = some (.cells #[.int .i64 (cc : Int), .int .i64 (ci : Int)] 40 (0, 0))) := heap_alloc2_new _ _ _) | (go_at_call 13; refine (sameRules_any Rl.st0 0 0 noRules noRules _ (noRules_rv _) (noRules_rv _) Rl.small_st0).mono ?_; rintro e w5 ⟨rfl, ho3⟩))
          go_ret
          exact ⟨rfl, ((HO2.out.alloc _).alloc _).trans ho3⟩
        · rw [← hB] at r2
          have R1 : Hid (rd (bs l) (.ok s)) := r1
          have R2 : Hid (rd (bs B) (.ok s)) := r2
          clear hm hB r1 r2 h4
          go_wp2_with (first | (go_at_call 12; have hgd := HX1.out; clear hgd; refine (parse_all (bs B) _ _ R2.out).mono ?_; rintro e w4 ⟨⟨v2, B2, rfl, hB2, hV2⟩, ho2⟩; have HV2 : Hid (Rv w4 B2 v2 s) := hV2; obtain ⟨bC, bT, bL, dC, dT, dL, rfl, hrest2⟩ := hV2; clear hrest2; have HO2 : Hid (Only (fun _ => False) w w4) := ((HO1.out.alloc _).alloc _).trans ho2; have HW : Hid (Rv w4 B1 (.agg #[.slice aC s.cls.length cC, .int .u32 s.join, .int .u32 s.after, .slice aT0 s.treat.length cT0, .slice aL s.list.length cL]) s) := ((HV1.out.only ((Only.refl (fun _ => False) w3).alloc _) (fun _ _ h => h)).only ((Only.refl (fun _ => False) _).alloc _) (fun _ _ h => h)).only ho2 (fun _ _ h => h); have X2 : Hid (Xr w4 w3.heap.size (.slice aC s.cls.length cC) (.int .u32 s.join) (.int .u32 s.after) (.slice aT0 s.treat.length cT0) (.slice aL s.list.length cL)) := HX1.out.only ho2 (fun h => h); have P2 : Hid (w4.heap[w3.heap.size + 1]? = some (.cells #[.int .i64 0, .int .i64 0] 40 (0, 0))) := (ho2.block _ (by simp) (fun h => h)).trans HP1.out; have x0 := X2.out.c0; have x1 := X2.out.c1; have x2 := X2.out.c2; have x3 := X2.out.c3; have x4 := X2.out.c4; have p0 : w4.cell? ⟨w3.heap.size + 1, 0, none⟩ = some (.int .i64 0) := (cell_of_row _ _ _ _ _ _ P2.out).trans rfl; have p1 : w4.cell? ⟨w3.heap.size + 1, 1, none⟩ = some (.int .i64 0) := (cell_of_row _ _ _ _ _ _ P2.out).trans rfl; have hl2 : w3.heap.size + 1 < w4.heap.size := (Array.getElem?_eq_some_iff.1 P2.out).1; have hl2' : w3.heap.size < w4.heap.size := (by omega)) | (go_at_call 12; refine (parse_all (bs l) _ _ R1.out).mono ?_; rintro e w3 ⟨⟨v1, B1, rfl, hB1, hV1⟩, ho1⟩; have HV1 : Hid (Rv w3 B1 v1 s) := hV1; obtain ⟨aC, aT0, aL, cC, cT0, cL, rfl, hrest1⟩ := hV1; clear hrest1; have HO1 : Hid (Only (fun _ => False) w w3) := hOr.trans ho1; clear ho1; have HX1 : Hid (Xr ((w3.alloc (.cells #[.slice aC s.cls.length cC, .int .u32 s.join, .int .u32 s.after, .slice aT0 s.treat.length cT0, .slice aL s.list.length cL] 37)).alloc (.cells #[.int .i64 0, .int .i64 0] 40)) w3.heap.size (.slice aC s.cls.length cC) (.int .u32 s.join) (.int .u32 s.after) (.slice aT0 s.treat.length cT0) (.slice aL s.list.length cL)) := (Xr.new w3 _ _ _ _ _).alloc _; have HP1 : Hid (((w3.alloc (.cells #[.slice aC s.cls.length cC, .int .u32 s.join, .int .u32 s.after, .slice aT0 s.treat.length cT0, .slice aL s.list.length cL] 37)).alloc (.cells #[.int .i64 0, .int .i64 0] 40)).heap[w3.heap.size + 1]? = some (.cells #[.int .i64 0, .int .i64 0] 40 (0, 0))) := heap_alloc2_new _ _ _) | (go_at_call 13; refine (sameRules_any s B1 B2 _ _ _ ((HW.out.only ((Only.refl (fun _ => False) w4).alloc _) (fun _ _ h => h)).only ((Only.refl (fun _ => False) _).alloc _) (fun _ _ h => h)) ((HV2.out.only ((Only.refl (fun _ => False) w4).alloc _) (fun _ _ h => h)).only ((Only.refl (fun _ => False) _).alloc _) (fun _ _ h => h)) (rd_small R1.out)).mono ?_; rintro e w5 ⟨rfl, ho3⟩))
          go_ret
          exact ⟨rfl, ((HO2.out.alloc _).alloc _).trans ho3⟩
set_option maxRecDepth 100000 in
set_option maxHeartbeats 4000000 in
theorem spaced_walk2 (c jo af : Nat) (aT : Option Addr) (nT cT : Nat) (T : List Nat) (aR : Option Addr) (nR cR : Nat) (rs : List Pr) (gap : Int) (w : World) (hc : c ≤ 255) (hjo : jo ≤ 255) (haf : af ≤ 255) (hT : Bw w aT nT T) (hR : Rw w aR nR rs) (hg0 : 0 ≤ gap) (hg1 : gap ≤ 255) (hgap : gap % 4 = 2) :
    Calls Try.prog 6 #[planV c jo af aT nT cT aR nR cR, .int .u8 gap] w fun e w' => e = .returned (.bool true) ∧ Only (fun _ => False) w w' := by
  have HT : Hid (Bw w aT nT T) := hT
  have HR : Hid (Rw w aR nR rs) := hR
  clear hT hR
  unfold planV
  go_enter Try.func6, Try.ntmps6
  go_wp2_with (first | (go_at_call 9; refine (awake_any _).mono ?_; rintro e w1 ⟨rfl, ho1⟩; have P1 : Hid (Pbx w1 w.heap.size c jo af aT nT cT aR nR cR) := Pbx.keep (heap_alloc_new w _) ho1; have k0 := P1.out.c0; have k1 := P1.out.c1; have k2 := P1.out.c2; have k3 := P1.out.c3; have k4 := P1.out.c4; have HO1 : Hid (Only (fun _ => False) w w1) := ((Only.refl (fun _ => False) w).alloc _).trans ho1) | (go_at_call 11; have hcc := text_35 c jo af aT nT cT T aR nR cR rs w1 hc hjo haf (HT.out.keep HO1.out) (HR.out.keep HO1.out); unfold planV at hcc; refine hcc.mono ?_; clear hcc; rintro e w2 ⟨l, rfl, hl9, h35, ho2⟩; have hsz := bs_size l; have H35 : Hid (Hd.N35 l) := h35; clear h35; have HO2 : Hid (Only (fun _ => False) w w2) := HO1.out.trans ho2; clear k0 k1 k2 k3 k4 ho1 ho2 P1 HO1))
  go_loopg [7, 24] l.length (fun g t i wr => ∃ (k : Nat) (W : World), W = wr ∧ g = l.length - k ∧ k ≤ l.length ∧ t = .string (bs (Rl.sp [9, 13, 10] (l.take k))) ∧ i = .int .i64 (k : Int) ∧ Only (fun _ => False) w W)
  case atStart => exact ⟨0, _, rfl, rfl, by omega, rfl, rfl, HO2.out.alloc _⟩
  case round =>
    obtain ⟨k, W, hW, rfl, hk, rfl, rfl, hOr⟩ := hrel
    subst hW
    by_cases hlt : k < l.length
    · have t1 : (k : Int) < (l.length : Int) := by omega
      obtain ⟨x, hx⟩ : ∃ x, l[k] = x := ⟨_, rfl⟩
      have hb : ((bs l)[k]'(by rw [hsz]; exact hlt)).toNat = x.toNat := by rw [← hx]; rfl
      have he : (bs l).extract k (k + 1) = bs [x] := by rw [bs_one hlt, hx]
      have hz1 : (bs [x]).size = 1 := bs_size _
      have hx2 : l[k]? = some x := by rw [List.getElem?_eq_getElem hlt, hx]
      have hN := Rl.sp_take (f := [9, 13, 10]) hx2
      have hle := Rl.sp_le [9, 13, 10] (by decide) (l.take k)
      rw [List.length_take] at hle
      clear hx hx2
      obtain ⟨A, hA⟩ : ∃ A, A = Rl.sp [9, 13, 10] (l.take k) := ⟨_, rfl⟩
      rw [← hA] at hN hle ⊢
      clear hA
      obtain ⟨a, hsa, ha⟩ := sz A
      have ha2 : a ≤ 162000 := by omega
      clear ha hle
      have hS1 : bs A ++ bs [x] = bs (Hd.cat A [x]) := bs_cat A [x]
      have hs1 : (bs (Hd.cat A [x])).size = a + 1 := by rw [← hsa, bs_size, bs_size, Hd.cat_len]; rfl
      have HN : Hid (Rl.sp [9, 13, 10] (l.take (k + 1)) = A ++ (x :: Rl.fil [9, 13, 10] x)) := hN
      clear hN
      by_cases hsp : x.toNat = 32 ∨ x.toNat = 59 ∨ x.toNat = 40
      · have HQ : Hid (Hd.cat (Hd.cat A [x]) [9, 13, 10] = Rl.sp [9, 13, 10] (l.take (k + 1))) := by
          show _ = _
          rw [HN.out, show Rl.fil [9, 13, 10] x = [9, 13, 10] from if_pos hsp]
          unfold Hd.cat
          rw [List.append_assoc]
          rfl
        clear HN
        have hS2 : bs (Hd.cat A [x]) ++ (⟨#[9, 13, 10]⟩ : ByteArray) = bs (Hd.cat (Hd.cat A [x]) [9, 13, 10]) := bs_app' _ _
        rcases hsp with h | h | h
        all_goals
          rw [h] at hb
          clear h
          go_wp2_with fail
          go_roundg (l.length - (k + 1))
          case measure => omega
          case rel => exact ⟨k + 1, _, rfl, rfl, by omega, by rw [HQ.out], by go_num, hOr⟩
      · have HQ : Hid (Hd.cat A [x] = Rl.sp [9, 13, 10] (l.take (k + 1))) := by
          show _ = _
          rw [HN.out, show Rl.fil [9, 13, 10] x = [] from if_neg hsp]
          rfl
        clear HN
        obtain ⟨m, hm⟩ : ∃ m, x.toNat = m := ⟨_, rfl⟩
        rw [hm] at hb hsp
        have q1 : ¬ (m : Int) = 32 := by omega
        have q2 : ¬ (m : Int) = 59 := by omega
        have q3 : ¬ (m : Int) = 40 := by omega
        have q4 : ((m : Int) == 32) = false := by simp [q1]
        have q5 : ((m : Int) == 59) = false := by simp [q2]
        have q6 : ((m : Int) == 40) = false := by simp [q3]
        clear hsp hm
        go_wp2_with fail
        go_roundg (l.length - (k + 1))
        case measure => omega
        case rel => exact ⟨k + 1, _, rfl, rfl, by omega, by rw [HQ.out], by go_num, hOr⟩
    · have t2 : decide ((k : Int) < (l.length : Int)) = false := decide_eq_false (by omega)
      obtain rfl : k = l.length := by omega
      rw [List.take_length]
      obtain ⟨B, hB⟩ : ∃ B, B = Rl.sp [9, 13, 10] l := ⟨_, rfl⟩
      rw [← hB]
      obtain ⟨m, hsm, hm⟩ := sz B
      by_cases h4 : 4096 < m
      · have h5 : (4096 : Int) < (m : Int) := by omega
        clear hm hB
        go_wp2_with fail
        go_ret
        exact ⟨rfl, hOr⟩
      · have h5 : ¬ (4096 : Int) < (m : Int) := by omega
        have h6 : decide ((4096 : Int) < (m : Int)) = false := decide_eq_false h5
        rcases rd_sp Rl.blank2 H35.out (by rw [← hB]; omega) with ⟨cc, ci, cj, r1, r2⟩ | ⟨s, r1, r2⟩
        · rw [← hB] at r2
          have R1 : Hid (rd (bs l) (.error (cc, ci))) := r1
          have R2 : Hid (rd (bs B) (.error (cc, cj))) := r2
          clear hm hB r1 r2 h4
          go_wp2_with (first | (go_at_call 12; have hgd := HX1.out; clear hgd; refine (parse_all (bs B) _ _ R2.out).mono ?_; rintro e w4 ⟨rfl, ho2⟩; unfold noRules; have HO2 : Hid (Only (fun _ => False) w w4) := ((HO1.out.alloc _).alloc _).trans ho2; have X2 : Hid (Xr w4 w3.heap.size (.slice none 0 0) (.int .u32 0) (.int .u32 0) (.slice none 0 0) (.slice none 0 0)) := HX1.out.only ho2 (fun h => h); have P2 : Hid (w4.heap[w3.heap.size + 1]? = some (.cells #[.int .i64 (cc : Int), .int .i64 (ci : Int)] 40 (0, 0))) := (ho2.block _ (by simp) (fun h => h)).trans HP1.out; have x0 := X2.out.c0; have x1 := X2.out.c1; have x2 := X2.out.c2; have x3 := X2.out.c3; have x4 := X2.out.c4; have p0 : w4.cell? ⟨w3.heap.size + 1, 0, none⟩ = some (.int .i64 (cc : Int)) := (cell_of_row _ _ _ _ _ _ P2.out).trans rfl; have p1 : w4.cell? ⟨w3.heap.size + 1, 1, none⟩ = some (.int .i64 (ci : Int)) := (cell_of_row _ _ _ _ _ _ P2.out).trans rfl; have hl2 : w3.heap.size + 1 < w4.heap.size := (Array.getElem?_eq_some_iff.1 P2.out).1; have hl2' : w3.heap.size < w4.heap.size := (by omega)) | (go_at_call 12; refine (parse_all (bs l) _ _ R1.out).mono ?_; rintro e w3 ⟨rfl, ho1⟩; unfold noRules; have HO1 : Hid (Only (fun _ => False) w w3) := hOr.trans ho1; clear ho1; have HX1 : Hid (Xr ((w3.alloc (.cells #[.slice none 0 0, .int .u32 0, .int .u32 0, .slice none 0 0, .slice none 0 0] 37)).alloc (.cells #[.int .i64 (cc : Int), .int .i64 (ci : Int)] 40)) w3.heap.size (.slice none 0 0) (.int .u32 0) (.int .u32 0) (.slice none 0 0) (.slice none 0 0)) := (Xr.new w3 _ _ _ _ _).alloc _; have HP1 : Hid (((w3.alloc (.cells #[.slice none 0 0, .int .u32 0, .int .u32 0, .slice none 0 0, .slice none 0 0] 37)).alloc (.cells #[.int .i64 (cc : Int), .int .i64 (ci : Int)] 40)).heap[w3.heap.size + 1]? = some (.cells #[.int .i64 (cc : Int), .int .i64 (ci : Int)] 40 (0, 0))) := heap_alloc2_new _ _ _) | (go_at_call 13; refine (sameRules_any Rl.st0 0 0 noRules noRules _ (noRules_rv _) (noRules_rv _) Rl.small_st0).mono ?_; rintro e w5 ⟨rfl, ho3⟩))
          go_ret
          exact ⟨rfl, ((HO2.out.alloc _).alloc _).trans ho3⟩
        · rw [← hB] at r2
          have R1 : Hid (rd (bs l) (.ok s)) := r1
          have R2 : Hid (rd (bs B) (.ok s)) := r2
          clear hm hB r1 r2 h4
          go_wp2_with (first | (go_at_call 12; have hgd := HX1.out; clear hgd; refine (parse_all (bs B) _ _ R2.out).mono ?_; rintro e w4 ⟨⟨v2, B2, rfl, hB2, hV2⟩, ho2⟩; have HV2 : Hid (Rv w4 B2 v2 s) := hV2; obtain ⟨bC, bT, bL, dC, dT, dL, rfl, hrest2⟩ := hV2; clear hrest2; have HO2 : Hid (Only (fun _ => False) w w4) := ((HO1.out.alloc _).alloc _).trans ho2; have HW : Hid (Rv w4 B1 (.agg #[.slice aC s.cls.length cC, .int .u32 s.join, .int .u32 s.after, .slice aT0 s.treat.length cT0, .slice aL s.list.length cL]) s) := ((HV1.out.only ((Only.refl (fun _ => False) w3).alloc _) (fun _ _ h => h)).only ((Only.refl (fun _ => False) _).alloc _) (fun _ _ h => h)).only ho2 (fun _ _ h => h); have X2 : Hid (Xr w4 w3.heap.size (.slice aC s.cls.length cC) (.int .u32 s.join) (.int .u32 s.after) (.slice aT0 s.treat.length cT0) (.slice aL s.list.length cL)) := HX1.out.only ho2 (fun h => h); have P2 : Hid (w4.heap[w3.heap.size + 1]? = some (.cells #[.int .i64 0, .int .i64 0] 40 (0, 0))) := (ho2.block _ (by simp) (fun h => h)).trans HP1.out; have x0 := X2.out.c0; have x1 := X2.out.c1; have x2 := X2.out.c2; have x3 := X2.out.c3; have x4 := X2.out.c4; have p0 : w4.cell? ⟨w3.heap.size + 1, 0, none⟩ = some (.int .i64 0) := (cell_of_row _ _ _ _ _ _ P2.out).trans rfl; have p1 : w4.cell? ⟨w3.heap.size + 1, 1, none⟩ = some (.int .i64 0) := (cell_of_row _ _ _ _ _ _ P2.out).trans rfl; have hl2 : w3.heap.size + 1 < w4.heap.size := (Array.getElem?_eq_some_iff.1 P2.out).1; have hl2' : w3.heap.size < w4.heap.size := (by omega)) | (go_at_call 12; refine (parse_all (bs l) _ _ R1.out).mono ?_; rintro e w3 ⟨⟨v1, B1, rfl, hB1, hV1⟩, ho1⟩; have HV1 : Hid (Rv w3 B1 v1 s) := hV1; obtain ⟨aC, aT0, aL, cC, cT0, cL, rfl, hrest1⟩ := hV1; clear hrest1; have HO1 : Hid (Only (fun _ => False) w w3) := hOr.trans ho1; clear ho1; have HX1 : Hid (Xr ((w3.alloc (.cells #[.slice aC s.cls.length cC, .int .u32 s.join, .int .u32 s.after, .slice aT0 s.treat.length cT0, .slice aL s.list.length cL] 37)).alloc (.cells #[.int .i64 0, .int .i64 0] 40)) w3.heap.size (.slice aC s.cls.length cC) (.int .u32 s.join) (.int .u32 s.after) (.slice aT0 s.treat.length cT0) (.slice aL s.list.length cL)) := (Xr.new w3 _ _ _ _ _).alloc _; have HP1 : Hid (((w3.alloc (.cells #[.slice aC s.cls.length cC, .int .u32 s.join, .int .u32 s.after, .slice aT0 s.treat.length cT0, .slice aL s.list.length cL] 37)).alloc (.cells #[.int .i64 0, .int .i64 0] 40)).heap[w3.heap.size + 1]? = some (.cells #[.int .i64 0, .int .i64 0] 40 (0, 0))) := heap_alloc2_new _ _ _) | (go_at_call 13; refine (sameRules_any s B1 B2 _ _ _ ((HW.out.only ((Only.refl (fun _ => False) w4).alloc _) (fun _ _ h => h)).only ((Only.refl (fun _ => False) _).alloc _) (fun _ _ h => h)) ((HV2.out.only ((Only.refl (fun _ => False) w4).alloc _) (fun _ _ h => h)).only ((Only.refl (fun _ => False) _).alloc _) (fun _ _ h => h)) (rd_small R1.out)).mono ?_; rintro e w5 ⟨rfl, ho3⟩))
          go_ret
          exact ⟨rfl, ((HO2.out.alloc _).alloc _).trans ho3⟩
set_option maxRecDepth 100000 in
set_option maxHeartbeats 4000000 in
theorem spaced_walk3 (c jo af : Nat) (aT : Option Addr) (nT cT : Nat) (T : List Nat) (aR : Option Addr) (nR cR : Nat) (rs : List Pr) (gap : Int) (w : World) (hc : c ≤ 255) (hjo : jo ≤ 255) (haf : af ≤ 255) (hT : Bw w aT nT T) (hR : Rw w aR nR rs) (hg0 : 0 ≤ gap) (hg1 : gap ≤ 255) (hgap : gap % 4 = 3) :
    Calls Try.prog 6 #[planV c jo af aT nT cT aR nR cR, .int .u8 gap] w fun e w' => e = .returned (.bool true) ∧ Only (fun _ => False) w w' := by
  have HT : Hid (Bw w aT nT T) := hT
  have HR : Hid (Rw w aR nR rs) := hR
  clear hT hR
  unfold planV
  go_enter Try.func6, Try.ntmps6
  go_wp2_with (first | (go_at_call 9; refine (awake_any _).mono ?_; rintro e w1 ⟨rfl, ho1⟩; have P1 : Hid (Pbx w1 w.heap.size c jo af aT nT cT aR nR cR) := Pbx.keep (heap_alloc_new w _) ho1; have k0 := P1.out.c0; have k1 := P1.out.c1; have k2 := P1.out.c2; have k3 := P1.out.c3; have k4 := P1.out.c4; have HO1 : Hid (Only (fun _ => False) w w1) := ((Only.refl (fun _ => False) w).alloc _).trans ho1) | (go_at_call 11; have hcc := text_35 c jo af aT nT cT T aR nR cR rs w1 hc hjo haf (HT.out.keep HO1.out) (HR.out.keep HO1.out); unfold planV at hcc; refine hcc.mono ?_; clear hcc; rintro e w2 ⟨l, rfl, hl9, h35, ho2⟩; have hsz := bs_size l; have H35 : Hid (Hd.N35 l) := h35; clear h35; have HO2 : Hid (Only (fun _ => False) w w2) := HO1.out.trans ho2; clear k0 k1 k2 k3 k4 ho1 ho2 P1 HO1))
  go_loopg [7, 24] l.length (fun g t i wr => ∃ (k : Nat) (W : World), W = wr ∧ g = l.length - k ∧ k ≤ l.length ∧ t = .string (bs (Rl.sp [32, 35, 10] (l.take k))) ∧ i = .int .i64 (k : Int) ∧ Only (fun _ => False) w W)
  case atStart => exact ⟨0, _, rfl, rfl, by omega, rfl, rfl, HO2.out.alloc _⟩
  case round =>
    obtain ⟨k, W, hW, rfl, hk, rfl, rfl, hOr⟩ := hrel
    subst hW
    by_cases hlt : k < l.length
    · have t1 : (k : Int) < (l.length : Int) := by omega
      obtain ⟨x, hx⟩ : ∃ x, l[k] = x := ⟨_, rfl⟩
      have hb : ((bs l)[k]'(by rw [hsz]; exact hlt)).toNat = x.toNat := by rw [← hx]; rfl
      have he : (bs l).extract k (k + 1) = bs [x] := by rw [bs_one hlt, hx]
      have hz1 : (bs [x]).size = 1 := bs_size _
      have hx2 : l[k]? = some x := by rw [List.getElem?_eq_getElem hlt, hx]
      have hN := Rl.sp_take (f := [32, 35, 10]) hx2
      have hle := Rl.sp_le [32, 35, 10] (by decide) (l.take k)
      rw [List.length_take] at hle
      clear hx hx2
      obtain ⟨A, hA⟩ : ∃ A, A = Rl.sp [32, 35, 10] (l.take k) := ⟨_, rfl⟩
      rw [← hA] at hN hle ⊢
      clear hA
      obtain ⟨a, hsa, ha⟩ := sz A
      have ha2 : a ≤ 162000 := by omega
      clear ha hle
      have hS1 : bs A ++ bs [x] = bs (Hd.cat A [x]) := bs_cat A [x]
      have hs1 : (bs (Hd.cat A [x])).size = a + 1 := by rw [← hsa, bs_size, bs_size, Hd.cat_len]; rfl
      have HN : Hid (Rl.sp [32, 35, 10] (l.take (k + 1)) = A ++ (x :: Rl.fil [32, 35, 10] x)) := hN
      clear hN
      by_cases hsp : x.toNat = 32 ∨ x.toNat = 59 ∨ x.toNat = 40
      · have HQ : Hid (Hd.cat (Hd.cat A [x]) [32, 35, 10] = Rl.sp [32, 35, 10] (l.take (k + 1))) := by
          show _ = _
          rw [HN.out, show Rl.fil [32, 35, 10] x = [32, 35, 10] from if_pos hsp]
          unfold Hd.cat
          rw [List.append_assoc]
          rfl
        clear HN
        have hS2 : bs (Hd.cat A [x]) ++ (⟨#[32, 35, 10]⟩ : ByteArray) = bs (Hd.cat (Hd.cat A [x]) [32, 35, 10]) := bs_app' _ _
        rcases hsp with h | h | h
        all_goals
          rw [h] at hb
          clear h
          go_wp2_with fail
          go_roundg (l.length - (k + 1))
          case measure => omega
          case rel => exact ⟨k + 1, _, rfl, rfl, by omega, by rw [HQ.out], by go_num, hOr⟩
      · have HQ : Hid (Hd.cat A [x] = Rl.sp [32, 35, 10] (l.take (k + 1))) := by
          show _ = _
          rw [HN.out, show Rl.fil [32, 35, 10] x = [] from if_neg hsp]
          rfl
        clear HN
        obtain ⟨m, hm⟩ : ∃ m, x.toNat = m := ⟨_, rfl⟩
        rw [hm] at hb hsp
        have q1 : ¬ (m : Int) = 32 := by omega
        have q2 : ¬ (m : Int) = 59 := by omega
        have q3 : ¬ (m : Int) = 40 := by omega
        have q4 : ((m : Int) == 32) = false := by simp [q1]
        have q5 : ((m : Int) == 59) = false := by simp [q2]
        have q6 : ((m : Int) == 40) = false := by simp [q3]
        clear hsp hm
        go_wp2_with fail
        go_roundg (l.length - (k + 1))
        case measure => omega
        case rel => exact ⟨k + 1, _, rfl, rfl, by omega, by rw [HQ.out], by go_num, hOr⟩
    · have t2 : decide ((k : Int) < (l.length : Int)) = false := decide_eq_false (by omega)
      obtain rfl : k = l.length := by omega
      rw [List.take_length]
      obtain ⟨B, hB⟩ : ∃ B, B = Rl.sp [32, 35, 10] l := ⟨_, rfl⟩
      rw [← hB]
      obtain ⟨m, hsm, hm⟩ := sz B
      by_cases h4 : 4096 < m
      · have h5 : (4096 : Int) < (m : Int) := by omega
        clear hm hB
        go_wp2_with fail
        go_ret
        exact ⟨rfl, hOr⟩
      · have h5 : ¬ (4096 : Int) < (m : Int) := by omega
        have h6 : decide ((4096 : Int) < (m : Int)) = false := decide_eq_false h5
        rcases rd_sp Rl.blank3 H35.out (by rw [← hB]; omega) with ⟨cc, ci, cj, r1, r2⟩ | ⟨s, r1, r2⟩
        · rw [← hB] at r2
          have R1 : Hid (rd (bs l) (.error (cc, ci))) := r1
          have R2 : Hid (rd (bs B) (.error (cc, cj))) := r2
          clear hm hB r1 r2 h4
          go_wp2_with (first | (go_at_call 12; have hgd := HX1.out; clear hgd; refine (parse_all (bs B) _ _ R2.out).mono ?_; rintro e w4 ⟨rfl, ho2⟩; unfold noRules; have HO2 : Hid (Only (fun _ => False) w w4) := ((HO1.out.alloc _).alloc _).trans ho2; have X2 : Hid (Xr w4 w3.heap.size (.slice none 0 0) (.int .u32 0) (.int .u32 0) (.slice none 0 0) (.slice none 0 0)) := HX1.out.only ho2 (fun h => h); have P2 : Hid (w4.heap[w3.heap.size + 1]? = some (.cells #[.int .i64 (cc : Int), .int .i64 (ci : Int)] 40 (0, 0))) := (ho2.block _ (by simp) (fun h => h)).trans HP1.out; have x0 := X2.out.c0; have x1 := X2.out.c1; have x2 := X2.out.c2; have x3 := X2.out.c3; have x4 := X2.out.c4; have p0 : w4.cell? ⟨w3.heap.size + 1, 0, none⟩ = some (.int .i64 (cc : Int)) := (cell_of_row _ _ _ _ _ _ P2.out).trans rfl; have p1 : w4.cell? ⟨w3.heap.size + 1, 1, none⟩ = some (.int .i64 (ci : Int)) := (cell_of_row _ _ _ _ _ _ P2.out).trans rfl; have hl2 : w3.heap.size + 1 < w4.heap.size := (Array.getElem?_eq_some_iff.1 P2.out).1; have hl2' : w3.heap.size < w4.heap.size := (by omega)) | (go_at_call 12; refine (parse_all (bs l) _ _ R1.out).mono ?_; rintro e w3 ⟨rfl, ho1⟩; unfold noRules; have HO1 : Hid (Only (fun _ => False) w w3) := hOr.trans ho1; clear ho1; have HX1 : Hid (Xr ((w3.alloc (.cells #[.slice none 0 0, .int .u32 0, .int .u32 0, .slice none 0 0, .slice none 0 0] 37)).alloc (.cells #[.int .i64 (cc : Int), .int .i64 (ci : Int)] 40)) w3.heap.size (.slice none 0 0) (.int .u32 0) (.int .u32 0) (.slice none 0 0) (.slice none 0 0)) := (Xr.new w3 _ _ _ _ _).alloc _; have HP1 : Hid (((w3.alloc (.cells #[.slice none 0 0, .int .u32 0, .int .u32 0, .slice none 0 0, .slice none 0 0] 37)).alloc (.cells #[.int .i64 (cc : Int), .int .i64 (ci : Int)] 40)).heap[w3.heap.size + 1]? = some (.cells #[.int .i64 (cc : Int), .int .i64 (ci : Int)] 40 (0, 0))) := heap_alloc2_new _ _ _) | (go_at_call 13; refine (sameRules_any Rl.st0 0 0 noRules noRules _ (noRules_rv _) (noRules_rv _) Rl.small_st0).mono ?_; rintro e w5 ⟨rfl, ho3⟩))
          go_ret
          exact ⟨rfl, ((HO2.out.alloc _).alloc _).trans ho3⟩
        · rw [← hB] at r2
          have R1 : Hid (rd (bs l) (.ok s)) := r1
          have R2 : Hid (rd (bs B) (.ok s)) := r2
          clear hm hB r1 r2 h4
          go_wp2_with (first | (go_at_call 12; have hgd := HX1.out; clear hgd; refine (parse_all (bs B) _ _ R2.out).mono ?_; rintro e w4 ⟨⟨v2, B2, rfl, hB2, hV2⟩, ho2⟩; have HV2 : Hid (Rv w4 B2 v2 s) := hV2; obtain ⟨bC, bT, bL, dC, dT, dL, rfl, hrest2⟩ := hV2; clear hrest2; have HO2 : Hid (Only (fun _ => False) w w4) := ((HO1.out.alloc _).alloc _).trans ho2; have HW : Hid (Rv w4 B1 (.agg #[.slice aC s.cls.length cC, .int .u32 s.join, .int .u32 s.after, .slice aT0 s.treat.length cT0, .slice aL s.list.length cL]) s) := ((HV1.out.only ((Only.refl (fun _ => False) w3).alloc _) (fun _ _ h => h)).only ((Only.refl (fun _ => False) _).alloc _) (fun _ _ h => h)).only ho2 (fun _ _ h => h); have X2 : Hid (Xr w4 w3.heap.size (.slice aC s.cls.length cC) (.int .u32 s.join) (.int .u32 s.after) (.slice aT0 s.treat.length cT0) (.slice aL s.list.length cL)) := HX1.out.only ho2 (fun h => h); have P2 : Hid (w4.heap[w3.heap.size + 1]? = some (.cells #[.int .i64 0, .int .i64 0] 40 (0, 0))) := (ho2.block _ (by simp) (fun h => h)).trans HP1.out; have x0 := X2.out.c0; have x1 := X2.out.c1; have x2 := X2.out.c2; have x3 := X2.out.c3; have x4 := X2.out.c4; have p0 : w4.cell? ⟨w3.heap.size + 1, 0, none⟩ = some (.int .i64 0) := (cell_of_row _ _ _ _ _ _ P2.out).trans rfl; have p1 : w4.cell? ⟨w3.heap.size + 1, 1, none⟩ = some (.int .i64 0) := (cell_of_row _ _ _ _ _ _ P2.out).trans rfl; have hl2 : w3.heap.size + 1 < w4.heap.size := (Array.getElem?_eq_some_iff.1 P2.out).1; have hl2' : w3.heap.size < w4.heap.size := (by omega)) | (go_at_call 12; refine (parse_all (bs l) _ _ R1.out).mono ?_; rintro e w3 ⟨⟨v1, B1, rfl, hB1, hV1⟩, ho1⟩; have HV1 : Hid (Rv w3 B1 v1 s) := hV1; obtain ⟨aC, aT0, aL, cC, cT0, cL, rfl, hrest1⟩ := hV1; clear hrest1; have HO1 : Hid (Only (fun _ => False) w w3) := hOr.trans ho1; clear ho1; have HX1 : Hid (Xr ((w3.alloc (.cells #[.slice aC s.cls.length cC, .int .u32 s.join, .int .u32 s.after, .slice aT0 s.treat.length cT0, .slice aL s.list.length cL] 37)).alloc (.cells #[.int .i64 0, .int .i64 0] 40)) w3.heap.size (.slice aC s.cls.length cC) (.int .u32 s.join) (.int .u32 s.after) (.slice aT0 s.treat.length cT0) (.slice aL s.list.length cL)) := (Xr.new w3 _ _ _ _ _).alloc _; have HP1 : Hid (((w3.alloc (.cells #[.slice aC s.cls.length cC, .int .u32 s.join, .int .u32 s.after, .slice aT0 s.treat.length cT0, .slice aL s.list.length cL] 37)).alloc (.cells #[.int .i64 0, .int .i64 0] 40)).heap[w3.heap.size + 1]? = some (.cells #[.int .i64 0, .int .i64 0] 40 (0, 0))) := heap_alloc2_new _ _ _) | (go_at_call 13; refine (sameRules_any s B1 B2 _ _ _ ((HW.out.only ((Only.refl (fun _ => False) w4).alloc _) (fun _ _ h => h)).only ((Only.refl (fun _ => False) _).alloc _) (fun _ _ h => h)) ((HV2.out.only ((Only.refl (fun _ => False) w4).alloc _) (fun _ _ h => h)).only ((Only.refl (fun _ => False) _).alloc _) (fun _ _ h => h)) (rd_small R1.out)).mono ?_; rintro e w5 ⟨rfl, ho3⟩))
          go_ret
          exact ⟨rfl, ((HO2.out.alloc _).alloc _).trans ho3⟩
end Go.Proofs.Ytahoepmnekconaa
