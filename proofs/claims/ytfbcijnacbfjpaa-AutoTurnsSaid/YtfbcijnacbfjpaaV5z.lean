/-
  The maker of rules: the text of any plan.
-/
import Derived.Test.YtfbcijnacbfjpaaV4z
import Derived.Test.YtfbcijnacbfjpaaMathz
namespace Go.Proofs.Ytfbcijnacbfjpaa
open Go.RowKit Go.Maps
set_option linter.unusedVariables false
set_option linter.unusedSimpArgs false
theorem laidOut : laidOutB Try.prog = true := by kernel_rfl
theorem Pbx.c0 {w : World} {g c jo af : Nat} {aT : Option Addr} {nT cT : Nat} {aR : Option Addr} {nR cR : Nat} (h : Pbx w g c jo af aT nT cT aR nR cR) : w.cell? ⟨g, 0, none⟩ = some (.int .u8 (c : Int)) := (cell_of_row _ _ _ _ _ _ h).trans rfl
theorem text_hand (c jo af : Nat) (aT : Option Addr) (nT cT : Nat) (T : List Nat) (aR : Option Addr) (nR cR : Nat) (rs : List Pr) (w : World) (hc : c ≤ 255) (hjo : jo ≤ 255) (haf : af ≤ 255) (hT : Bw w aT nT T) (hR : Rw w aR nR rs) :
    Calls Try.prog 24 #[planV c jo af aT nT cT aR nR cR] w fun e w' => e = .returned (.string (bs (Hd.text (1 + c % 6) jo af T rs))) ∧ Only (fun _ => False) w w' := by
  by_cases h : jo = 0
  · subst h
    exact text_hand0 c af aT nT cT T aR nR cR rs w hc haf hT hR
  · exact text_hand1 c jo af aT nT cT T aR nR cR rs w hc hjo h haf hT hR
/-- a text of a plan, of which no more is told than its size. -/
theorem text_some (c jo af : Nat) (aT : Option Addr) (nT cT : Nat) (T : List Nat) (aR : Option Addr) (nR cR : Nat) (rs : List Pr) (w : World) (hc : c ≤ 255) (hjo : jo ≤ 255) (haf : af ≤ 255) (hT : Bw w aT nT T) (hR : Rw w aR nR rs) :
    Calls Try.prog 24 #[planV c jo af aT nT cT aR nR cR] w fun e w' => ∃ S : ByteArray, e = .returned (.string S) ∧ 7 ≤ S.size ∧ S.size ≤ 9000 ∧ Only (fun _ => False) w w' := by
  refine (text_hand c jo af aT nT cT T aR nR cR rs w hc hjo haf hT hR).mono ?_
  rintro e w' ⟨rfl, ho⟩
  have := Hd.text_len (1 + c % 6) jo af T rs (by omega)
  exact ⟨_, rfl, by rw [bs_size]; exact this.2, by rw [bs_size]; exact this.1, ho⟩
end Go.Proofs.Ytfbcijnacbfjpaa
namespace Go.Proofs.Ytfbcijnacbfjpaa
set_option linter.unusedVariables false
set_option linter.unusedSimpArgs false
namespace Rl
/-- a piece without its place. -/
def er (t : Tk) : Tk := ⟨t.text, 0, t.bad⟩
/-- a reading without its fault's place. -/
def rz {α β : Type} (g : α → β) : R α → R β
  | .error f => .error (f.1, 0)
  | .ok x => .ok (g x)
theorem er_text (t : Tk) : (er t).text = t.text := rfl
theorem er_bad (t : Tk) : (er t).bad = t.bad := rfl
theorem er_at (t : Tk) : (er t).at' = 0 := rfl
theorem er_isNm (t : Tk) : isNm (er t) = isNm t := rfl
theorem er_beg (t : Tk) : beg (er t) = beg t := rfl
theorem ite_rz {α β : Type} {g : α → β} {c : Prop} [Decidable c] {a b : R β} {x y : R α} (h1 : c → a = rz g x) (h2 : ¬ c → b = rz g y) : (if c then a else b) = rz g (if c then x else y) := by
  by_cases h : c
  · rw [if_pos h, if_pos h]; exact h1 h
  · rw [if_neg h, if_neg h]; exact h2 h
theorem took_er (c : UInt8) : ∀ ts : List Tk, took c (ts.map er) = rz (fun x => (x.1, x.2.map er)) (took c ts)
  | [] => rfl
  | t :: ts => by
    simp only [List.map_cons, took, er_text, er_bad, er_at]
    refine ite_rz (fun _ => ?_) (fun _ => ?_)
    · rfl
    · refine ite_rz (fun _ => ?_) (fun _ => ?_) <;> rfl
theorem want_er (c : UInt8) : ∀ ts : List Tk, want c (ts.map er) = rz (fun x => x.map er) (want c ts)
  | [] => rfl
  | t :: ts => by
    simp only [List.map_cons, want, er_text, er_bad, er_at]
    refine ite_rz (fun _ => ?_) (fun _ => ?_)
    · rfl
    · refine ite_rz (fun _ => ?_) (fun _ => ?_) <;> rfl
theorem names_er (E : Env) : ∀ (ts : List Tk) (a : Int), names E (ts.map er) a = rz (fun x => (x.1, x.2.map er)) (names E ts a)
  | [], _ => rfl
  | t :: ts, a => by
    simp only [List.map_cons, names, er_text, er_bad, er_at, er_isNm]
    refine ite_rz (fun _ => ?_) (fun _ => ?_)
    · rfl
    · refine ite_rz (fun _ => ?_) (fun _ => ?_)
      · cases find E t.text with
        | none => rfl
        | some b => exact names_er E ts (bor a b)
      · rfl
theorem some_er (E : Env) (nc : Nat) : ∀ (ts : List Tk) (p : Nat), some' E nc (ts.map er) p = rz (fun x => (x.1, x.2.1.map er, x.2.2)) (some' E nc ts p)
  | [], _ => rfl
  | t :: ts, p => by
    simp only [List.map_cons, some', er_text, er_bad, er_at]
    refine ite_rz (fun _ => ?_) (fun _ => ?_)
    · rfl
    · refine ite_rz (fun _ => ?_) (fun _ => ?_)
      · rfl
      · refine ite_rz (fun _ => ?_) (fun _ => ?_)
        · rw [took_er]
          cases took 94 ts with
          | error f => rfl
          | ok x =>
            obtain ⟨no, ts1⟩ := x
            simp only [rz]
            rw [names_er]
            cases names E ts1 0 with
            | error f => rfl
            | ok y =>
              obtain ⟨b, ts2⟩ := y
              simp only [rz]
              rw [want_er]
              cases want 93 ts2 with
              | error f => rfl
              | ok z => rfl
        · cases find E t.text with
          | none => rfl
          | some b => rfl
theorem often_er (e : Ex) : ∀ ts : List Tk, often e (ts.map er) = rz (fun x => (x.1, x.2.map er)) (often e ts)
  | [] => rfl
  | t :: ts => by
    simp only [List.map_cons, often, er_text, er_bad, er_at]
    repeat' refine ite_rz (fun _ => ?_) (fun _ => ?_)
    all_goals rfl
theorem expr_er (E : Env) (nc : Nat) : ∀ n : Nat,
    (∀ d ts p, either E nc n d (ts.map er) p = rz (fun x => (x.1, x.2.1.map er, x.2.2)) (either E nc n d ts p)) ∧
    (∀ d ts p l, alts E nc n d (ts.map er) p l = rz (fun x => (x.1, x.2.1.map er, x.2.2)) (alts E nc n d ts p l)) ∧
    (∀ d ts p l, row E nc n d (ts.map er) p l = rz (fun x => (x.1, x.2.1.map er, x.2.2)) (row E nc n d ts p l)) ∧
    (∀ d ts p, thing E nc n d (ts.map er) p = rz (fun x => (x.1, x.2.1.map er, x.2.2)) (thing E nc n d ts p))
  | 0 => ⟨fun _ _ _ => by simp only [either]; rfl, fun _ _ _ _ => by simp only [alts]; rfl, fun _ _ _ _ => by simp only [row]; rfl, fun _ _ _ => by simp only [thing]; rfl⟩
  | n + 1 => by
    obtain ⟨h1, h2, h3, h4⟩ := expr_er E nc n
    refine ⟨fun d ts p => ?_, fun d ts p l => ?_, fun d ts p l => ?_, fun d ts p => ?_⟩
    · simp only [either]
      rw [h3]
      cases row E nc n d ts p [] with
      | error f => rfl
      | ok x => exact h2 _ _ _ _
    · simp only [alts]
      rw [took_er]
      cases took 124 ts with
      | error f => rfl
      | ok x =>
        obtain ⟨b, ts1⟩ := x
        cases b with
        | false => rfl
        | true =>
          simp only [rz]
          rw [h3]
          cases row E nc n d ts1 p [] with
          | error f => rfl
          | ok y => exact h2 _ _ _ _
    · cases ts with
      | nil => simp only [List.map_nil, row]; rfl
      | cons t ts =>
        simp only [List.map_cons, row, er_bad, er_at, er_beg]
        refine ite_rz (fun _ => ?_) (fun _ => ?_)
        · rfl
        · refine ite_rz (fun _ => ?_) (fun _ => ?_)
          · have h5 := h4 d (t :: ts) p
            rw [List.map_cons] at h5
            rw [h5]
            cases thing E nc n d (t :: ts) p with
            | error f => rfl
            | ok x =>
              simp only [rz]
              rw [often_er]
              cases often x.1 x.2.1 with
              | error f => rfl
              | ok y => exact h3 _ _ _ _
          · rfl
    · cases ts with
      | nil => simp only [List.map_nil, thing]; rfl
      | cons t ts =>
        simp only [List.map_cons, thing, er_text, er_at]
        refine ite_rz (fun _ => ?_) (fun _ => ?_)
        · refine ite_rz (fun _ => ?_) (fun _ => ?_)
          · rfl
          · rw [h1]
            cases either E nc n (d + 1) ts p with
            | error f => rfl
            | ok x =>
              simp only [rz]
              rw [want_er]
              cases want 41 x.2.1 with
              | error f => rfl
              | ok y => rfl
        · have h5 := some_er E nc (t :: ts) p
          rw [List.map_cons] at h5
          rw [h5]
          cases some' E nc (t :: ts) p with
          | error f => rfl
          | ok x => rfl
theorem classes_er : ∀ (ts : List Tk) (s : St), classes (ts.map er) s = rz (fun x => (x.1.map er, x.2)) (classes ts s)
  | [], _ => rfl
  | t :: ts, s => by
    simp only [List.map_cons, classes, er_text, er_bad, er_at, er_isNm]
    refine ite_rz (fun _ => ?_) (fun _ => ?_)
    · rfl
    · refine ite_rz (fun _ => ?_) (fun _ => ?_)
      · refine ite_rz (fun _ => ?_) (fun _ => ?_)
        · rfl
        · refine ite_rz (fun _ => ?_) (fun _ => ?_)
          · rfl
          · exact classes_er ts _
      · rfl
theorem name_er : ∀ ts : List Tk, name (ts.map er) = rz (fun x => (er x.1, x.2.map er)) (name ts)
  | [] => rfl
  | t :: ts => by
    simp only [List.map_cons, name, er_bad, er_at, er_isNm]
    repeat' refine ite_rz (fun _ => ?_) (fun _ => ?_)
    all_goals rfl
theorem fresh_er (E : Env) (ts : List Tk) : fresh E (ts.map er) = rz (fun x => (er x.1, x.2.map er)) (fresh E ts) := by
  unfold fresh
  rw [name_er]
  cases name ts with
  | error f => rfl
  | ok x =>
    simp only [rz, er_text, er_at]
    refine ite_rz (fun _ => ?_) (fun _ => ?_) <;> rfl
theorem set_er (ts : List Tk) (s : St) : set' (ts.map er) s = rz (fun x => (x.1.map er, x.2)) (set' ts s) := by
  unfold set'
  rw [fresh_er]
  cases fresh s.env ts with
  | error f => rfl
  | ok x =>
    simp only [rz]
    rw [want_er]
    cases want 61 x.2 with
    | error f => rfl
    | ok y =>
      simp only [rz]
      rw [names_er]
      cases names s.env y 0 with
      | error f => rfl
      | ok z => rfl
theorem join_er (ts : List Tk) (s : St) : join' (ts.map er) s = rz (fun x => (x.1.map er, x.2)) (join' ts s) := by
  unfold join'
  rw [names_er]
  cases names s.env ts 0 with
  | error f => rfl
  | ok x =>
    simp only [rz]
    rw [want_er]
    cases want 47 x.2 with
    | error f => rfl
    | ok y =>
      simp only [rz]
      rw [names_er]
      cases names s.env y 0 with
      | error f => rfl
      | ok z => rfl
theorem place_er (C : List Str) (ts : List Tk) : placeOf C (ts.map er) = rz (fun x => (x.1, x.2.map er)) (placeOf C ts) := by
  unfold placeOf
  rw [name_er]
  cases name ts with
  | error f => rfl
  | ok x =>
    simp only [rz, er_text, er_at]
    cases place C x.1.text with
    | none => rfl
    | some k => rfl
theorem treat_er (ts : List Tk) (s : St) : treat' (ts.map er) s = rz (fun x => (x.1.map er, x.2)) (treat' ts s) := by
  unfold treat'
  rw [place_er]
  cases placeOf s.cls ts with
  | error f => rfl
  | ok x =>
    simp only [rz]
    rw [want_er]
    cases want 61 x.2 with
    | error f => rfl
    | ok y =>
      simp only [rz]
      rw [place_er]
      cases placeOf s.cls y with
      | error f => rfl
      | ok z => rfl
theorem fuel_er (ts : List Tk) : fuel (ts.map er) = fuel ts := by unfold fuel; rw [List.length_map]
theorem rule_er (d : Int) (a b : Nat) (ts : List Tk) (s : St) : rule' d a (ts.map er) s = rz (fun x => (x.1.map er, x.2)) (rule' d b ts s) ∨ (a ≠ 0 ∧ True) := by
  by_cases ha : a = 0
  · left
    subst ha
    unfold rule'
    refine ite_rz (fun _ => ?_) (fun _ => ?_)
    · rfl
    · rw [fuel_er, (expr_er _ _ _).1]
      cases either s.env s.cls.length (fuel ts) 0 ts s.places with
      | error f => rfl
      | ok x =>
        simp only [rz]
        rw [want_er]
        cases want 47 x.2.1 with
        | error f => rfl
        | ok y =>
          simp only [rz]
          rw [fuel_er, (expr_er _ _ _).1]
          cases either s.env s.cls.length (fuel y) 0 y x.2.2 with
          | error f => rfl
          | ok z => rfl
  · exact Or.inr ⟨ha, trivial⟩
theorem rule_er0 (d : Int) (b : Nat) (ts : List Tk) (s : St) : rule' d 0 (ts.map er) s = rz (fun x => (x.1.map er, x.2)) (rule' d b ts s) := (rule_er d 0 b ts s).resolve_right (fun h => h.1 rfl)
theorem line_er (t : Tk) (ts : List Tk) (s : St) : line (er t) (ts.map er) s = rz (fun x => (x.1.map er, x.2)) (line t ts s) := by
  unfold line
  simp only [er_text, er_at]
  refine ite_rz (fun _ => ?_) (fun _ => ?_)
  · exact classes_er ts s
  · refine ite_rz (fun _ => ?_) (fun _ => ?_)
    · exact set_er ts s
    · refine ite_rz (fun _ => ?_) (fun _ => ?_)
      · exact join_er ts s
      · refine ite_rz (fun _ => ?_) (fun _ => ?_)
        · exact treat_er ts s
        · refine ite_rz (fun _ => ?_) (fun _ => ?_)
          · exact rule_er0 _ _ ts s
          · refine ite_rz (fun _ => ?_) (fun _ => ?_)
            · exact rule_er0 _ _ ts s
            · refine ite_rz (fun _ => ?_) (fun _ => ?_)
              · exact rule_er0 _ _ ts s
              · rfl
theorem lines_er : ∀ (n : Nat) (ts : List Tk) (s : St), lines n (ts.map er) s = rz (fun x => x) (lines n ts s)
  | 0, _, _ => rfl
  | _ + 1, [], _ => rfl
  | n + 1, t :: ts, s => by
    simp only [List.map_cons, lines, er_text, er_bad, er_at]
    refine ite_rz (fun _ => ?_) (fun _ => ?_)
    · rfl
    · refine ite_rz (fun _ => ?_) (fun _ => ?_)
      · rfl
      · rw [line_er]
        cases line t ts s with
        | error f => rfl
        | ok x =>
          simp only [rz]
          rw [want_er]
          cases want 59 x.1 with
          | error f => rfl
          | ok y => exact lines_er n y x.2
/-- a text behind its blanks. -/
def q (l : Str) : Str := l.drop (blk false l)
/-- a piece's text, and whether it is none. -/
def key (t : Tk) : Str × Bool := (t.text, t.bad)
inductive Pk : Str → List (Str × Bool) → Prop
  | fin (l : Str) : plen (q l) = 0 → Pk l [([], decide (q l ≠ []))]
  | step (l : Str) (K : List (Str × Bool)) : 0 < plen (q l) → Pk ((q l).drop (plen (q l))) K → Pk l (((q l).take (plen (q l)), false) :: K)
theorem Pk.one {l : Str} {K : List (Str × Bool)} (h : Pk l K) : ∀ {K' : List (Str × Bool)}, Pk l K' → K = K' := by
  induction h with
  | fin l h =>
    intro K' h'
    cases h' with
    | fin _ _ => rfl
    | step _ _ k _ => omega
  | step l K h _ ih =>
    intro K' h'
    cases h' with
    | fin _ k => omega
    | step _ _ _ k => rw [ih k]
theorem Pk.same {l l' : Str} {K : List (Str × Bool)} (h : Pk l K) (e : q l' = q l) : Pk l' K := by
  cases h with
  | fin _ h => rw [← e] at h ⊢; exact .fin l' h
  | step _ K h k => rw [← e] at h k ⊢; exact .step l' K h k
theorem q_drop (l : Str) (i : Nat) : q (l.drop i) = l.drop (nx l i) := by unfold q nx; rw [List.drop_drop]
theorem pk_strm {l : Str} : ∀ {ts : List Tk} {i : Nat}, Strm l i ts → Pk (l.drop i) (ts.map key)
  | [], _, h => h.elim
  | t :: ts, i, h => by
    have h1 := h.1
    have hl := tk_len l i
    by_cases e : t.text = []
    · have h2 := h.2
      rw [if_pos e] at h2
      subst h2
      rw [h1] at e
      rw [e] at hl
      have hp : plen (q (l.drop i)) = 0 := by rw [q_drop]; exact hl.symm
      have hk : key t = ([], decide (q (l.drop i) ≠ [])) := by
        rw [h1]
        unfold key
        rw [e, q_drop]
        unfold tk
        simp only [← hl, List.length_nil, and_true]
      rw [List.map_cons, List.map_nil, hk]
      exact .fin _ hp
    · have h2 := strm_tail h e
      rw [h1] at e
      have hp : 0 < plen (q (l.drop i)) := by rw [q_drop, ← hl]; exact List.length_pos_iff.2 e
      have ih := pk_strm h2
      have hk : key t = ((q (l.drop i)).take (plen (q (l.drop i))), false) := by
        rw [h1]
        unfold key
        rw [q_drop] at hp ⊢
        unfold tk
        simp only [Prod.mk.injEq, true_and, decide_eq_false_iff_not]
        omega
      rw [List.map_cons, hk]
      refine .step _ _ hp ?_
      rw [q_drop, List.drop_drop, ← hl, ← h1]
      have ha : t.at' = nx l i := by rw [h1]; rfl
      rw [ha] at ih
      exact ih
theorem er_key {ts us : List Tk} (h : ts.map key = us.map key) : ts.map er = us.map er := by
  have g : ∀ l : List Tk, l.map er = (l.map key).map (fun k => ⟨k.1, 0, k.2⟩) := by
    intro l
    rw [List.map_map]
    rfl
  rw [g, g, h]
/-- what is put behind a byte. -/
def fil (f : Str) (c : UInt8) : Str := if c.toNat = 32 ∨ c.toNat = 59 ∨ c.toNat = 40 then f else []
def sp (f : Str) : Str → Str
  | [] => []
  | c :: cs => c :: (fil f c ++ sp f cs)
def Blank (f : Str) : Prop := ∀ r, q (f ++ r) = q r
theorem fil_q {f : Str} (hf : Blank f) (c : UInt8) (r : Str) : q (fil f c ++ r) = q r := by
  unfold fil
  split
  · exact hf r
  · rfl
theorem q_cons_blank (c : UInt8) (r : Str) (h : c.toNat = 10 ∨ c.toNat = 32 ∨ c.toNat = 9 ∨ c.toNat = 13) : q (c :: r) = q r := by
  unfold q
  rw [blk_cons]
  by_cases e : c.toNat = 10
  · rw [if_pos e, Nat.add_comm, List.drop_succ_cons]
  · rw [if_neg e, if_pos (Or.inr (h.resolve_left e)), Nat.add_comm, List.drop_succ_cons]
theorem q_cons_other (c : UInt8) (r : Str) (h : ¬ (c.toNat = 10 ∨ c.toNat = 32 ∨ c.toNat = 9 ∨ c.toNat = 13)) (h2 : c.toNat ≠ 35) : q (c :: r) = c :: r := by
  unfold q
  rw [blk_cons, if_neg (fun e => h (Or.inl e)), if_neg (fun e => e.elim (fun e => by cases e) (fun e => h (Or.inr e))), if_neg h2]
  rfl
theorem q_sp {f : Str} (hf : Blank f) : ∀ l : Str, (∀ c ∈ l, c.toNat ≠ 35) → q (sp f l) = sp f (q l)
  | [], _ => rfl
  | c :: cs, h => by
    have ih := q_sp hf cs (fun x hx => h x (List.mem_cons_of_mem _ hx))
    have h0 := h c (List.mem_cons_self)
    by_cases e : c.toNat = 10 ∨ c.toNat = 32 ∨ c.toNat = 9 ∨ c.toNat = 13
    · rw [sp, q_cons_blank c _ e, q_cons_blank c _ e, fil_q hf, ih]
    · rw [sp, q_cons_other c _ e h0, q_cons_other c _ e h0, sp]
theorem isN_fil {f : Str} {c : UInt8} (h : isN c = true) : fil f c = [] := by
  unfold fil
  rw [if_neg]
  intro e
  unfold isN at h
  simp only [Bool.or_eq_true, Bool.and_eq_true, decide_eq_true_eq] at h
  omega
theorem nml_sp (f : Str) : ∀ r : Str, nml (sp f r) = nml r ∧ (sp f r).take (nml r) = r.take (nml r) ∧ (sp f r).drop (nml r) = sp f (r.drop (nml r))
  | [] => ⟨rfl, rfl, rfl⟩
  | c :: cs => by
    obtain ⟨h1, h2, h3⟩ := nml_sp f cs
    rw [sp]
    by_cases e : isN c = true
    · rw [isN_fil e, List.nil_append, nml_cons, nml_cons, if_pos e, if_pos e, h1, Nat.add_comm, List.take_succ_cons, List.take_succ_cons, List.drop_succ_cons, List.drop_succ_cons, h2, h3]
      exact ⟨rfl, rfl, rfl⟩
    · rw [nml_cons, nml_cons, if_neg e, if_neg e]
      refine ⟨rfl, rfl, ?_⟩
      rw [List.drop_zero, List.drop_zero, sp]
theorem pk_sp {f : Str} (hf : Blank f) {l : Str} {K : List (Str × Bool)} (h : Pk l K) : (∀ c ∈ l, c.toNat ≠ 35) → Pk (sp f l) K := by
  induction h with
  | fin l h =>
    intro h0
    have e := q_sp hf l h0
    have e0 : plen (q (sp f l)) = 0 := by
      rw [e]
      unfold plen at h ⊢
      rw [(nml_sp f (q l)).1]
      split
      · rename_i h1
        rw [if_pos h1] at h
        omega
      · rename_i h1
        rw [if_neg h1] at h
        cases hq : q l with
        | nil => rfl
        | cons c cs => rw [hq] at h; exact h
    have e1 : decide (q (sp f l) ≠ []) = decide (q l ≠ []) := by
      rw [e]
      cases q l with
      | nil => rfl
      | cons c cs => simp [sp]
    rw [← e1]
    exact .fin _ e0
  | step l K h _ ih =>
    intro h0
    have e := q_sp hf l h0
    have h1 : ∀ c ∈ (q l).drop (plen (q l)), c.toNat ≠ 35 := fun c hc => h0 c (List.mem_of_mem_drop (List.mem_of_mem_drop hc))
    have ih := ih h1
    obtain ⟨a1, a2, a3⟩ := nml_sp f (q l)
    by_cases hn : 0 < nml (q l)
    · have p1 : plen (q l) = nml (q l) := if_pos hn
      have p2 : plen (q (sp f l)) = nml (q l) := by rw [e]; unfold plen; rw [a1, if_pos hn]
      rw [p1] at ih ⊢
      rw [← a2, ← p2, ← e]
      refine .step _ _ (by omega) ?_
      rw [p2, e, a3]
      exact ih
    · cases hq : q l with
      | nil =>
        rw [hq] at h
        exact absurd h (by decide)
      | cons c cs =>
        rw [hq] at h hn a1 ih
        have p1 : plen (c :: cs) = 1 := by
          unfold plen at h ⊢
          rw [if_neg hn] at h ⊢
          simp only at h ⊢
          split at h
          · rename_i hs; rw [if_pos hs]
          · omega
        have p2 : plen (q (sp f l)) = 1 := by
          rw [e, hq]
          unfold plen at p1 ⊢
          rw [a1, if_neg hn]
          rw [if_neg hn] at p1
          rw [sp]
          exact p1
        rw [p1] at ih ⊢
        have e3 : (c :: cs).take 1 = (q (sp f l)).take (plen (q (sp f l))) := by rw [p2, e, hq, sp]; rfl
        rw [e3]
        refine .step _ _ (by omega) ?_
        rw [p2, e, hq, sp]
        show Pk (fil f c ++ sp f cs) K
        exact ih.same (fil_q hf c _)
/-- of a text with blanks put in the same is read, but for a fault's place. -/
theorem lines_sp {f l : Str} (hf : Blank f) (h0 : ∀ c ∈ l, c.toNat ≠ 35) {ts us : List Tk} (h : Strm l 0 ts) (k : Strm (sp f l) 0 us) : rz (fun x => x) (lines (ts.length + 1) ts st0) = rz (fun x => x) (lines (us.length + 1) us st0) := by
  have e : ts.map key = us.map key := (pk_sp hf (pk_strm h) h0).one (pk_strm k)
  have e2 := er_key e
  have e3 : ts.length = us.length := by have := congrArg List.length e; simpa using this
  rw [← lines_er, ← lines_er, e2, e3]
theorem sp_len (f : Str) : ∀ l : Str, l.length ≤ (sp f l).length
  | [] => Nat.le_refl _
  | c :: cs => by
    have := sp_len f cs
    rw [sp]
    simp only [List.length_cons, List.length_append]
    omega
end Rl
end Go.Proofs.Ytfbcijnacbfjpaa
namespace Go.Proofs.Ytfbcijnacbfjpaa
set_option linter.unusedVariables false
set_option linter.unusedSimpArgs false
namespace Rl
open Hd (at' up ex)
def nmx (n b : Nat) : Nat → List Str
  | 0 => []
  | k + 1 => nmx n b k ++ if Hd.bit b k = true then [Hd.name n k] else []
def xp (n : Nat) (L : List Nat) : Nat → Nat → List Str
  | 0, i => [Hd.name n (at' L i)]
  | d + 1, i =>
    if at' L i % 12 = 4 then [[46]]
    else if at' L i % 12 = 5 then ([[91]] ++ nmx n (at' L (up L i)) n) ++ [[93]]
    else if at' L i % 12 = 6 then ([[91], [94]] ++ nmx n (at' L (up L i)) n) ++ [[93]]
    else if at' L i % 12 = 7 then ([[40]] ++ xp n L d (up L i)) ++ [[41], [42]]
    else if at' L i % 12 = 8 then ([[40]] ++ xp n L d (up L i)) ++ [[41], [43]]
    else if at' L i % 12 = 9 then ([[40]] ++ xp n L d (up L i)) ++ [[41], [63]]
    else if at' L i % 12 = 10 then ((([[40]] ++ xp n L d (up L i)) ++ [[124]]) ++ xp n L d (ex n L d (up L i)).2) ++ [[41]]
    else if at' L i % 12 = 11 then (xp n L d (up L i) ++ []) ++ xp n L d (ex n L d (up L i)).2
    else [Hd.name n (at' L i)]
def xpr (n : Nat) (L : List Nat) : List Str := if L.length = 0 then [] else xp n (L.take 30) 3 0
def fx (n : Nat) : List Str := ([wClass] ++ nmx n 255 n) ++ [[59]]
def sx (n jo af : Nat) : List Str := if jo = 0 then fx n else ((((fx n ++ [wJoin]) ++ nmx n jo n) ++ [[47]]) ++ nmx n af n) ++ [[59]]
def trx (n : Nat) (T : List Nat) (t : List Str) : Nat → List Str
  | 0 => t
  | k + 1 => ((((trx n T t k ++ [wTreat]) ++ [Hd.name n k]) ++ [[61]]) ++ [Hd.name n (at' T k)]) ++ [[59]]
def wdx (d : Nat) : Str := if d % 3 = 0 then wKeep else if d % 3 = 1 then wMay else wMust
def rux (n : Nat) (rs : List Pr) (t : List Str) : Nat → List Str
  | 0 => t
  | k + 1 => match rs[k]? with
    | none => rux n rs t k
    | some x => ((((rux n rs t k ++ [wdx x.d]) ++ xpr n x.L) ++ [[47]]) ++ xpr n x.R) ++ [[59]]
def tx (n jo af : Nat) (T : List Nat) (rs : List Pr) : List Str := rux n rs (trx n T (sx n jo af) (min T.length n)) (min rs.length 10)
/-- a text has these pieces, and no byte that begins none. -/
def Pc (l : Str) (X : List Str) : Prop := Pk l (X.map (fun x => (x, false)) ++ [([], false)])
theorem Pc.none : Pc [] [] := Pk.fin [] rfl
def sgn (c : UInt8) : Bool := !isN c && !decide (c.toNat = 10 ∨ c.toNat = 32 ∨ c.toNat = 9 ∨ c.toNat = 13) && !decide (c.toNat = 35) && signs.contains c
theorem Pc.sign {c : UInt8} {l : Str} {X : List Str} (hc : sgn c = true) (h : Pc l X) : Pc (c :: l) ([c] :: X) := by
  unfold sgn at hc
  simp only [Bool.and_eq_true, Bool.not_eq_true', decide_eq_false_iff_not] at hc
  obtain ⟨⟨⟨h1, h2⟩, h3⟩, h4⟩ := hc
  have e : q (c :: l) = c :: l := q_cons_other c l h2 h3
  have p : plen (c :: l) = 1 := by
    have h5 : nml (c :: l) = 0 := by rw [nml_cons, if_neg (by rw [h1]; exact Bool.false_ne_true)]
    unfold plen
    rw [h5, if_neg (Nat.lt_irrefl 0)]
    exact if_pos h4
  have := Pk.step (c :: l) _ (by rw [e, p]; omega) (by rw [e, p]; exact h)
  rw [e, p] at this
  exact this
theorem isN_other {c : UInt8} (h : isN c = true) : ¬ (c.toNat = 10 ∨ c.toNat = 32 ∨ c.toNat = 9 ∨ c.toNat = 13) ∧ c.toNat ≠ 35 := by
  unfold isN at h
  simp only [Bool.or_eq_true, Bool.and_eq_true, decide_eq_true_eq] at h
  omega
theorem nml_app {l : Str} (hl : nml l = 0) : ∀ w : Str, (∀ c ∈ w, isN c = true) → nml (w ++ l) = w.length
  | [], _ => hl
  | c :: w, h => by
    rw [List.cons_append, nml_cons, if_pos (h c List.mem_cons_self), nml_app hl w (fun x hx => h x (List.mem_cons_of_mem _ hx)), List.length_cons]
    omega
theorem Pc.name {w l : Str} {X : List Str} (hw : w ≠ []) (ha : ∀ c ∈ w, isN c = true) (hl : nml l = 0) (h : Pc l X) : Pc (w ++ l) (w :: X) := by
  have h1 := nml_app hl w ha
  have h2 : 0 < w.length := List.length_pos_iff.2 hw
  have e : q (w ++ l) = w ++ l := by
    cases w with
    | nil => exact absurd rfl hw
    | cons c w =>
      obtain ⟨a, b⟩ := isN_other (ha c List.mem_cons_self)
      exact q_cons_other c _ a b
  have p : plen (w ++ l) = w.length := by
    unfold plen
    rw [h1, if_pos h2]
  have := Pk.step (w ++ l) _ (by rw [e, p]; omega) (by rw [e, p, List.drop_left]; exact h)
  rw [e, p, List.take_left] at this
  exact this
def Lx (l : Str) (X : List Str) : Prop := ∀ r Y, nml r = 0 → Pc r Y → Pc (l ++ r) (X ++ Y)
def Lz (l : Str) (X : List Str) : Prop := ∀ r Y, Pc r Y → Pc (l ++ r) (X ++ Y)
def Fr (l : Str) : Prop := ∀ r, nml r = 0 → nml (l ++ r) = 0
def Fz (l : Str) : Prop := ∀ r, nml (l ++ r) = 0
theorem Lz.lx {l : Str} {X : List Str} (h : Lz l X) : Lx l X := fun r Y _ hp => h r Y hp
theorem Fz.fr {l : Str} (h : Fz l) : Fr l := fun r _ => h r
theorem Lx.app {a b : Str} {X Y : List Str} (h : Lx a X) (hf : Fr b) (k : Lx b Y) : Lx (a ++ b) (X ++ Y) := fun r Z hr hp => by
  rw [List.append_assoc, List.append_assoc]
  exact h _ _ (hf r hr) (k r Z hr hp)
theorem Lx.appz {a b : Str} {X Y : List Str} (h : Lx a X) (hf : Fz b) (k : Lz b Y) : Lz (a ++ b) (X ++ Y) := fun r Z hp => by
  rw [List.append_assoc, List.append_assoc]
  exact h _ _ (hf r) (k r Z hp)
theorem Lz.app {a b : Str} {X Y : List Str} (h : Lz a X) (k : Lz b Y) : Lz (a ++ b) (X ++ Y) := fun r Z hp => by
  rw [List.append_assoc, List.append_assoc]
  exact h _ _ (k r Z hp)
theorem Lz.appx {a b : Str} {X Y : List Str} (h : Lz a X) (k : Lx b Y) : Lx (a ++ b) (X ++ Y) := fun r Z hr hp => by
  rw [List.append_assoc, List.append_assoc]
  exact h _ _ (k r Z hr hp)
theorem Lz.nil : Lz [] [] := fun r Y h => h
theorem Lz.sign (c : UInt8) (hc : sgn c = true) : Lz [c] [[c]] := fun r Y h => Pc.sign hc h
theorem Lz.blank (c : UInt8) (hc : c.toNat = 10 ∨ c.toNat = 32 ∨ c.toNat = 9 ∨ c.toNat = 13) : Lz [c] [] := fun r Y h => Pk.same h (q_cons_blank c r hc)
theorem Fz.one (c : UInt8) (l : Str) (hc : isN c = false) : Fz (c :: l) := fun r => by
  rw [List.cons_append, nml_cons, if_neg (by rw [hc]; exact Bool.false_ne_true)]
theorem Fr.nil : Fr [] := fun r h => h
theorem Fr.app {a b : Str} (h : Fr a) (k : Fr b) : Fr (a ++ b) := fun r hr => by rw [List.append_assoc]; exact h _ (k r hr)
theorem Lx.word (w : Str) (hw : w ≠ []) (ha : ∀ c ∈ w, isN c = true) : Lx w [w] := fun r Y hr h => Pc.name hw ha hr h
def nmOk : Bool := (List.range 6).all (fun m => isN (65 + m).toUInt8 && decide ((65 + m).toUInt8.toNat = 65 + m))
theorem nmOk_true : nmOk = true := by kernel_rfl
theorem isN_name {n : Nat} (hn : 1 ≤ n) (hn6 : n ≤ 6) (i : Nat) : isN (65 + i % n).toUInt8 = true ∧ (65 + i % n).toUInt8.toNat = 65 + i % n := by
  have h := nmOk_true
  unfold nmOk at h
  rw [List.all_eq_true] at h
  have := h (i % n) (List.mem_range.2 (by have := Nat.mod_lt i (by omega : n > 0); omega))
  rw [Bool.and_eq_true, decide_eq_true_eq] at this
  exact this
theorem lx_name {n : Nat} (hn : 1 ≤ n) (hn6 : n ≤ 6) (i : Nat) : Lx (Hd.name n i) [Hd.name n i] := Lx.word _ (by simp [Hd.name]) (fun c hc => by
  simp only [Hd.name, List.mem_singleton] at hc
  rw [hc]
  exact (isN_name hn hn6 i).1)
theorem lx_names {n : Nat} (hn : 1 ≤ n) (hn6 : n ≤ 6) (b : Nat) : ∀ k, Lx (Hd.names n b k) (nmx n b k) ∧ Fr (Hd.names n b k)
  | 0 => ⟨Lz.nil.lx, Fr.nil⟩
  | k + 1 => by
    obtain ⟨h1, h2⟩ := lx_names hn hn6 b k
    rw [Hd.names, nmx]
    by_cases hb : Hd.bit b k = true
    · rw [if_pos hb, if_pos hb]
      have hf : Fz (32 :: Hd.name n k) := Fz.one 32 _ rfl
      refine ⟨h1.app hf.fr ?_, h2.app hf.fr⟩
      exact (Lz.blank 32 (by decide)).appx (lx_name hn hn6 k)
    · rw [if_neg hb, if_neg hb, List.append_nil, List.append_nil]
      exact ⟨h1, h2⟩
theorem lx_ex {n : Nat} (hn : 1 ≤ n) (hn6 : n ≤ 6) (L : List Nat) : ∀ d i, Lx (ex n L d i).1 (xp n L d i)
  | 0, i => lx_name hn hn6 _
  | d + 1, i => by
    have h1 := lx_ex hn hn6 L d (up L i)
    have h2 := lx_ex hn hn6 L d (ex n L d (up L i)).2
    have h3 := (lx_names hn hn6 (at' L (up L i)) n)
    have z41 : ∀ l, Fz (41 :: l) := fun l => Fz.one 41 l rfl
    rw [ex, xp]
    by_cases c4 : at' L i % 12 = 4
    · rw [if_pos c4, if_pos c4]
      exact (Lz.sign 46 rfl).lx
    rw [if_neg c4, if_neg c4]
    by_cases c5 : at' L i % 12 = 5
    · rw [if_pos c5, if_pos c5]
      exact (((Lz.sign 91 rfl).appx h3.1).appz (Fz.one 93 [] rfl) (Lz.sign 93 rfl)).lx
    rw [if_neg c5, if_neg c5]
    by_cases c6 : at' L i % 12 = 6
    · rw [if_pos c6, if_pos c6]
      exact ((((Lz.sign 91 rfl).app (Lz.sign 94 rfl)).appx h3.1).appz (Fz.one 93 [] rfl) (Lz.sign 93 rfl)).lx
    rw [if_neg c6, if_neg c6]
    by_cases c7 : at' L i % 12 = 7
    · rw [if_pos c7, if_pos c7]
      exact (((Lz.sign 40 rfl).appx h1).appz (z41 [42]) ((Lz.sign 41 rfl).app (Lz.sign 42 rfl))).lx
    rw [if_neg c7, if_neg c7]
    by_cases c8 : at' L i % 12 = 8
    · rw [if_pos c8, if_pos c8]
      exact (((Lz.sign 40 rfl).appx h1).appz (z41 [43]) ((Lz.sign 41 rfl).app (Lz.sign 43 rfl))).lx
    rw [if_neg c8, if_neg c8]
    by_cases c9 : at' L i % 12 = 9
    · rw [if_pos c9, if_pos c9]
      exact (((Lz.sign 40 rfl).appx h1).appz (z41 [63]) ((Lz.sign 41 rfl).app (Lz.sign 63 rfl))).lx
    rw [if_neg c9, if_neg c9]
    by_cases c10 : at' L i % 12 = 10
    · rw [if_pos c10, if_pos c10]
      exact (((((Lz.sign 40 rfl).appx h1).appz (Fz.one 124 [] rfl) (Lz.sign 124 rfl)).appx h2).appz (Fz.one 41 [] rfl) (Lz.sign 41 rfl)).lx
    rw [if_neg c10, if_neg c10]
    by_cases c11 : at' L i % 12 = 11
    · rw [if_pos c11, if_pos c11]
      exact (h1.appz (Fz.one 32 [] rfl) (Lz.blank 32 (by decide))).appx h2
    rw [if_neg c11, if_neg c11]
    exact lx_name hn hn6 _
theorem lx_expr {n : Nat} (hn : 1 ≤ n) (hn6 : n ≤ 6) (L : List Nat) : Lx (Hd.expr n L) (xpr n L) := by
  unfold Hd.expr xpr
  by_cases h : L.length = 0
  · rw [if_pos h, if_pos h]; exact Lz.nil.lx
  · rw [if_neg h, if_neg h]; exact lx_ex hn hn6 _ 3 0
theorem lz_end : Lz [59, 10] [[59]] := (Lz.sign 59 rfl).app (Lz.blank 10 (by decide))
theorem fz_end : Fz [59, 10] := Fz.one 59 _ rfl
theorem lz_first {n : Nat} (hn : 1 ≤ n) (hn6 : n ≤ 6) : Lz (Hd.first n) (fx n) := by
  have h := lx_names hn hn6 255 n
  exact ((Lx.word wClass (by decide) (by decide)).app h.2 h.1).appz fz_end lz_end
theorem lz_second {n : Nat} (hn : 1 ≤ n) (hn6 : n ≤ 6) (jo af : Nat) : Lz (Hd.second n jo af) (sx n jo af) := by
  have h := lx_names hn hn6 jo n
  have k := lx_names hn hn6 af n
  unfold Hd.second sx
  by_cases e : jo = 0
  · rw [if_pos e, if_pos e]; exact lz_first hn hn6
  · rw [if_neg e, if_neg e]
    have s1 := (lz_first hn hn6).appx (Lx.word wJoin (by decide) (by decide))
    have s2 := s1.app h.2 h.1
    have s3 : Lz [32, 47] [[47]] := (Lz.blank 32 (by decide)).app (Lz.sign 47 rfl)
    have s4 := s2.appz (Fz.one 32 [47] rfl) s3
    exact (s4.appx k.1).appz fz_end lz_end
theorem lz_treat {n : Nat} (hn : 1 ≤ n) (hn6 : n ≤ 6) (T : List Nat) {t : Str} {X : List Str} (h : Lz t X) : ∀ k, Lz (Hd.treat n T t k) (trx n T X k)
  | 0 => h
  | k + 1 => by
    have ih := lz_treat hn hn6 T h k
    rw [Hd.treat, trx]
    have s0 : Lz [116, 114, 101, 97, 116, 32] [wTreat] := (Lx.word wTreat (by decide) (by decide)).appz (Fz.one 32 [] rfl) (Lz.blank 32 (by decide))
    have s1 : Lz [32, 61, 32] [[61]] := ((Lz.blank 32 (by decide)).app (Lz.sign 61 rfl)).app (Lz.blank 32 (by decide))
    have s2 := ((ih.app s0).appx (lx_name hn hn6 k)).appz (Fz.one 32 [61, 32] rfl) s1
    exact (s2.appx (lx_name hn hn6 (at' T k))).appz fz_end lz_end
theorem lz_word (d : Nat) : Lz (Hd.word d) [wdx d] := by
  unfold Hd.word wdx
  have b := Lz.blank 32 (by decide)
  have f : Fz [32] := Fz.one 32 [] rfl
  by_cases h0 : d % 3 = 0
  · rw [if_pos h0, if_pos h0]; exact (Lx.word wKeep (by decide) (by decide)).appz f b
  rw [if_neg h0, if_neg h0]
  by_cases h1 : d % 3 = 1
  · rw [if_pos h1, if_pos h1]; exact (Lx.word wMay (by decide) (by decide)).appz f b
  rw [if_neg h1, if_neg h1]
  exact (Lx.word wMust (by decide) (by decide)).appz f b
theorem lz_ru {n : Nat} (hn : 1 ≤ n) (hn6 : n ≤ 6) (rs : List Pr) {t : Str} {X : List Str} (h : Lz t X) : ∀ k, Lz (Hd.ru n rs t k) (rux n rs X k)
  | 0 => h
  | k + 1 => by
    have ih := lz_ru hn hn6 rs h k
    rw [Hd.ru, rux]
    cases rs[k]? with
    | none => exact ih
    | some x =>
      have s1 : Lz [32, 47, 32] [[47]] := ((Lz.blank 32 (by decide)).app (Lz.sign 47 rfl)).app (Lz.blank 32 (by decide))
      have s2 := ((ih.app (lz_word x.d)).appx (lx_expr hn hn6 x.L)).appz (Fz.one 32 [47, 32] rfl) s1
      exact (s2.appx (lx_expr hn hn6 x.R)).appz fz_end lz_end
theorem pc_text {n : Nat} (hn : 1 ≤ n) (hn6 : n ≤ 6) (jo af : Nat) (T : List Nat) (rs : List Pr) : Pc (Hd.text n jo af T rs) (tx n jo af T rs) := by
  have := lz_ru hn hn6 rs (lz_treat hn hn6 T (lz_second hn hn6 jo af) (min T.length n)) (min rs.length 10) [] [] Pc.none
  rw [List.append_nil, List.append_nil] at this
  exact this
end Rl
end Go.Proofs.Ytfbcijnacbfjpaa
namespace Go.Proofs.Ytfbcijnacbfjpaa
set_option linter.unusedVariables false
set_option linter.unusedSimpArgs false
namespace Rl
open Hd (at' up ex)
def z (x : Str) : Tk := ⟨x, 0, false⟩
def tz (X : List Str) : List Tk := X.map z
theorem z_text (x : Str) : (z x).text = x := rfl
theorem tz_app (X Y : List Str) : tz (X ++ Y) = tz X ++ tz Y := List.map_append
theorem tz_cons (x : Str) (X : List Str) : tz (x :: X) = z x :: tz X := rfl
theorem tz_nil : tz [] = [] := rfl
theorem tz_len (X : List Str) : (tz X).length = X.length := List.length_map _
/-- the classes' names say their bits. -/
def EnvOk (E : Env) (n : Nat) : Prop := ∀ k, k < n → find E [(65 + k).toUInt8] = some (2 ^ k)
theorem EnvOk.get {E : Env} {n : Nat} (h : EnvOk E n) (hn : 1 ≤ n) (i : Nat) : find E (Hd.name n i) = some (2 ^ (i % n)) := h (i % n) (Nat.mod_lt i hn)
theorem name_nm {n : Nat} (hn : 1 ≤ n) (hn6 : n ≤ 6) (i : Nat) : isNm (z (Hd.name n i)) = true := by
  have h := (isN_name hn hn6 i).1
  show decide (0 < nml [(65 + i % n).toUInt8]) = true
  rw [nml_cons, if_pos h]
  rfl
theorem name_ne {n : Nat} (hn : 1 ≤ n) (hn6 : n ≤ 6) (i : Nat) (c : UInt8) (hc : c.toNat < 65 ∨ 70 < c.toNat) : Hd.name n i ≠ [c] := by
  intro e
  have h := (isN_name hn hn6 i).2
  have := Nat.mod_lt i hn
  unfold Hd.name at e
  injection e with e _
  rw [e] at h
  omega
theorem nmx_mem {n b : Nat} {x : Str} : ∀ {k : Nat}, x ∈ nmx n b k → ∃ j, x = Hd.name n j
  | 0, h => by cases h
  | k + 1, h => by
    rw [nmx, List.mem_append] at h
    rcases h with h | h
    · exact nmx_mem h
    · split at h
      · exact ⟨k, by simpa using h⟩
      · cases h
def borOk : Bool := (List.range 6).all fun k => (List.range (2 ^ k)).all fun a => decide (bor (a : Int) (2 ^ k) = ((a + 2 ^ k : Nat) : Int))
theorem borOk_true : borOk = true := by kernel_rfl
theorem bor_pow {k a : Nat} (hk : k < 6) (ha : a < 2 ^ k) : bor (a : Int) (2 ^ k) = ((a + 2 ^ k : Nat) : Int) := by
  have h := borOk_true
  unfold borOk at h
  rw [List.all_eq_true] at h
  have h := h k (List.mem_range.2 hk)
  rw [List.all_eq_true] at h
  exact of_decide_eq_true (h a (List.mem_range.2 ha))
theorem bit_mod (b k : Nat) : b % 2 ^ (k + 1) = b % 2 ^ k + if Hd.bit b k = true then 2 ^ k else 0 := by
  have h := Nat.mod_mul (x := b) (a := 2 ^ k) (b := 2)
  rw [Nat.pow_succ, h]
  unfold Hd.bit
  rcases Nat.mod_two_eq_zero_or_one (b / 2 ^ k) with e | e
  · simp [e]
  · simp [e]
theorem names_x {E : Env} {n : Nat} (hE : EnvOk E n) (hn : 1 ≤ n) (hn6 : n ≤ 6) (b : Nat) : ∀ k, k ≤ n → ∀ K : List Tk, names E (tz (nmx n b k) ++ K) 0 = names E K ((b % 2 ^ k : Nat) : Int)
  | 0, _, K => by
    show names E K 0 = _
    rw [Nat.pow_zero, Nat.mod_one]
    rfl
  | k + 1, hk, K => by
    rw [nmx, tz_app, List.append_assoc, names_x hE hn hn6 b k (by omega), bit_mod]
    by_cases hb : Hd.bit b k = true
    · rw [if_pos hb, if_pos hb]
      show names E (z (Hd.name n k) :: K) _ = _
      have e1 : find E (z (Hd.name n k)).text = some (2 ^ k) := by
        have := hE.get hn k
        rw [Nat.mod_eq_of_lt (by omega : k < n)] at this
        exact this
      rw [names, if_neg (by exact Bool.false_ne_true), if_pos (name_nm hn hn6 k), e1]
      show names E K (bor _ _) = _
      rw [bor_pow (by omega) (Nat.mod_lt _ (Nat.two_pow_pos k))]
    · rw [if_neg hb, if_neg hb]
      rfl
theorem names_end {E : Env} {t : Tk} {K : List Tk} {a : Int} (h : isNm t = false) (hb : t.bad = false) : names E (t :: K) a = .ok (a, t :: K) := by
  rw [names, if_neg (by rw [hb]; exact Bool.false_ne_true), if_neg (by rw [h]; exact Bool.false_ne_true)]
theorem took_no {c : UInt8} {t : Tk} {K : List Tk} (hb : t.bad = false) (h : t.text ≠ [c]) : took c (t :: K) = .ok (false, t :: K) := by
  rw [took, if_neg (by rw [hb]; exact Bool.false_ne_true), if_neg h]
theorem took_yes {c : UInt8} {K : List Tk} : took c (z [c] :: K) = .ok (true, K) := by
  rw [took, if_neg (by exact Bool.false_ne_true), z_text, if_pos rfl]
theorem want_yes {c : UInt8} {K : List Tk} : want c (z [c] :: K) = .ok K := by
  rw [want, if_neg (by exact Bool.false_ne_true), z_text, if_pos rfl]
theorem took94 {n : Nat} (hn : 1 ≤ n) (hn6 : n ≤ 6) (b k : Nat) (K : List Tk) : took 94 (tz (nmx n b k) ++ z [93] :: K) = .ok (false, tz (nmx n b k) ++ z [93] :: K) := by
  cases h : nmx n b k with
  | nil => exact took_no rfl (by show ([93] : Str) ≠ [94]; decide)
  | cons x X =>
    obtain ⟨j, rfl⟩ := nmx_mem (k := k) (by rw [h]; exact List.mem_cons_self)
    exact took_no rfl (name_ne hn hn6 j 94 (by decide))
/-- the next piece says nothing of how often. -/
def Nr (K : List Tk) : Prop := ∃ t K', K = t :: K' ∧ t.bad = false ∧ t.text ≠ [42] ∧ t.text ≠ [43] ∧ t.text ≠ [63]
theorem Nr.mk {t : Tk} {K : List Tk} (h0 : t.bad = false) (h1 : t.text ≠ [42]) (h2 : t.text ≠ [43]) (h3 : t.text ≠ [63]) : Nr (t :: K) := ⟨t, K, rfl, h0, h1, h2, h3⟩
theorem often_no {e : Ex} {K : List Tk} (h : Nr K) : often e K = .ok (e, K) := by
  obtain ⟨t, K', rfl, h0, h1, h2, h3⟩ := h
  rw [often, if_neg (by rw [h0]; exact Bool.false_ne_true), if_neg h1, if_neg h2, if_neg h3]
def opz : Ex → Int
  | .mk o _ _ => o
theorem seq_opz {l : List Ex} (h0 : l ≠ []) (h : ∀ e ∈ l, opz e ≠ 0) : opz (mkSeq l) ≠ 0 := by
  cases l with
  | nil => exact absurd rfl h0
  | cons e l =>
    cases l with
    | nil => exact h e List.mem_cons_self
    | cons f l => exact (by decide : (2 : Int) ≠ 0)
theorem alt_opz2 {e f : Ex} {l : List Ex} : opz (mkAlt (e :: f :: l)) ≠ 0 := (by decide : (3 : Int) ≠ 0)
/-- a row's next thing. -/
theorem row_step {E : Env} {nc f d p p1 : Nat} {t : Tk} {ts K K2 : List Tk} {l : List Ex} {e e2 : Ex} (hb : t.bad = false) (hg : beg t = true) (h : thing E nc f d (t :: ts) p = .ok (e, K, p1)) (ho : often e K = .ok (e2, K2)) :
    row E nc (f + 1) d (t :: ts) p l = row E nc f d K2 p1 (l ++ [e2]) := by
  rw [row]
  rw [if_neg (by rw [hb]; exact Bool.false_ne_true), if_pos hg, h]
  simp only [ho]
theorem row_end {E : Env} {nc f d p : Nat} {t : Tk} {K : List Tk} {l : List Ex} (hb : t.bad = false) (hg : beg t = false) : row E nc (f + 1) d (t :: K) p l = .ok (mkSeq l, t :: K, p) := by
  rw [row]
  rw [if_neg (by rw [hb]; exact Bool.false_ne_true), if_neg (by rw [hg]; exact Bool.false_ne_true)]
/-- one sign alone. -/
theorem thing_name {E : Env} {n nc : Nat} (hE : EnvOk E n) (hn : 1 ≤ n) (hn6 : n ≤ 6) (i f d p : Nat) (K : List Tk) (hp : p < 200) : thing E nc (f + 1) d (z (Hd.name n i) :: K) p = .ok (.mk 1 (2 ^ (i % n)) [], K, p + 1) := by
  rw [thing]
  rw [z_text, if_neg (name_ne hn hn6 i 40 (by decide)), some', if_neg (by omega), z_text, if_neg (name_ne hn hn6 i 46 (by decide)), if_neg (name_ne hn hn6 i 91 (by decide))]
  rw [hE.get hn i]
theorem thing_dot {E : Env} {nc : Nat} (f d p : Nat) (K : List Tk) (hp : p < 200) : thing E nc (f + 1) d (z [46] :: K) p = .ok (.mk 1 (whole nc) [], K, p + 1) := by
  rw [thing]
  rw [if_neg (by show ([46] : Str) ≠ [40]; decide), some', if_neg (by omega), z_text, if_pos rfl]
theorem thing_set {E : Env} {n nc : Nat} (hE : EnvOk E n) (hn : 1 ≤ n) (hn6 : n ≤ 6) (b f d p : Nat) (K : List Tk) (hp : p < 200) : thing E nc (f + 1) d (z [91] :: (tz (nmx n b n) ++ z [93] :: K)) p = .ok (.mk 1 ((b % 2 ^ n : Nat) : Int) [], K, p + 1) := by
  rw [thing]
  rw [if_neg (by show ([91] : Str) ≠ [40]; decide), some', if_neg (by omega), if_neg (by show ([91] : Str) ≠ [46]; decide), z_text, if_pos rfl, took94 hn hn6]
  simp only
  rw [names_x hE hn hn6 b n (Nat.le_refl _), names_end rfl rfl]
  simp only
  rw [want_yes]
  rfl
theorem thing_not {E : Env} {n nc : Nat} (hE : EnvOk E n) (hn : 1 ≤ n) (hn6 : n ≤ 6) (b f d p : Nat) (K : List Tk) (hp : p < 200) : thing E nc (f + 1) d (z [91] :: z [94] :: (tz (nmx n b n) ++ z [93] :: K)) p = .ok (.mk 1 (without (whole nc) ((b % 2 ^ n : Nat) : Int)) [], K, p + 1) := by
  rw [thing]
  rw [if_neg (by show ([91] : Str) ≠ [40]; decide), some', if_neg (by omega), if_neg (by show ([91] : Str) ≠ [46]; decide), z_text, if_pos rfl, took_yes]
  simp only
  rw [names_x hE hn hn6 b n (Nat.le_refl _), names_end rfl rfl]
  simp only
  rw [want_yes]
  rfl
theorem thing_open {E : Env} {nc f d p p1 : Nat} {ts K : List Tk} {e : Ex} (hd : d ≠ 16) (h : either E nc f (d + 1) ts p = .ok (e, z [41] :: K, p1)) : thing E nc (f + 1) d (z [40] :: ts) p = .ok (e, K, p1) := by
  rw [thing]
  rw [z_text, if_pos rfl, if_neg hd, h]
  simp only
  rw [want_yes]
theorem xp_head {n : Nat} (hn : 1 ≤ n) (hn6 : n ≤ 6) (L : List Nat) : ∀ d i, ∃ x X, xp n L d i = x :: X ∧ beg (z x) = true ∧ x ≠ [42] ∧ x ≠ [43] ∧ x ≠ [63] := by
  have hname : ∀ i, ∃ x X, [Hd.name n i] = x :: X ∧ beg (z x) = true ∧ x ≠ [42] ∧ x ≠ [43] ∧ x ≠ [63] := fun i => ⟨Hd.name n i, [], rfl, by unfold beg; rw [name_nm hn hn6 i]; rfl, name_ne hn hn6 i 42 (by decide), name_ne hn hn6 i 43 (by decide), name_ne hn hn6 i 63 (by decide)⟩
  have hs : ∀ (c : UInt8) (X Y : List Str), Y = [c] :: X → beg (z [c]) = true → ([c] : Str) ≠ [42] → ([c] : Str) ≠ [43] → ([c] : Str) ≠ [63] → ∃ x X, Y = x :: X ∧ beg (z x) = true ∧ x ≠ [42] ∧ x ≠ [43] ∧ x ≠ [63] := fun c X Y e h1 h2 h3 h4 => ⟨[c], X, e, h1, h2, h3, h4⟩
  intro d
  induction d with
  | zero => exact fun i => hname _
  | succ d ih =>
    intro i
    rw [xp]
    repeat' split
    all_goals first
      | exact hname _
      | exact hs 46 _ _ rfl rfl (by decide) (by decide) (by decide)
      | exact hs 91 _ _ rfl rfl (by decide) (by decide) (by decide)
      | exact hs 40 _ _ rfl rfl (by decide) (by decide) (by decide)
      | (obtain ⟨x, X, e, h⟩ := ih (up L i); rw [e]; exact ⟨x, _, rfl, h⟩)
/-- these pieces are so many things of a row, and so many places, wherever they stand. -/
def Xs (E : Env) (n d : Nat) (X : List Str) (es : List Ex) (q : Nat) : Prop := es ≠ [] ∧ (∀ e ∈ es, opz e ≠ 0) ∧ q ≤ 2 ^ d ∧ ∀ (dd p f : Nat) (K : List Tk) (l : List Ex), Nr K → dd + d ≤ 16 → p + 2 ^ d ≤ 200 → 4 * X.length ≤ f → ∃ f', row E n f dd (tz X ++ K) p l = row E n f' dd K (p + q) (l ++ es) ∧ f ≤ f' + X.length
theorem Xs.one {E : Env} {n d : Nat} {x : Str} {X : List Str} {e : Ex} (hx : beg (z x) = true) (he : opz e ≠ 0) (h : ∀ (g dd p : Nat) (K : List Tk), p < 200 → thing E n (g + 1) dd (z x :: (tz X ++ K)) p = .ok (e, K, p + 1)) : Xs E n d (x :: X) [e] 1 := by
  refine ⟨by simp, by simpa using he, Nat.two_pow_pos d, fun dd p f K l hK hd hp hf => ?_⟩
  have := Nat.two_pow_pos d
  rw [List.length_cons] at hf ⊢
  obtain ⟨g, rfl⟩ : ∃ g, f = g + 1 + 1 := ⟨f - 2, by omega⟩
  exact ⟨g + 1, row_step rfl hx (h g dd p K (by omega)) (often_no hK), by omega⟩
theorem Nr.close (K : List Tk) : Nr (z [41] :: K) := Nr.mk rfl (by show ([41] : Str) ≠ [42]; decide) (by show ([41] : Str) ≠ [43]; decide) (by show ([41] : Str) ≠ [63]; decide)
/-- a bracket around one expression, and how often. -/
theorem Xs.often {E : Env} {n d : Nat} {X : List Str} {es : List Ex} {q : Nat} (h : Xs E n d X es q) (c : UInt8) (op : Int) (hop : op ≠ 0) (ho : ∀ (e : Ex) (K : List Tk), Rl.often e (z [c] :: K) = .ok (.mk op 0 [e], K)) :
    Xs E n (d + 1) (([[40]] ++ X) ++ [[41], [c]]) [.mk op 0 [mkSeq es]] q := by
  obtain ⟨h2, h3, h4, h5⟩ := h
  have hp2 : 2 ^ (d + 1) = 2 * 2 ^ d := by rw [Nat.pow_succ]; omega
  refine ⟨by simp, by simpa [opz] using hop, by omega, fun dd p f K l hK hd hp hf => ?_⟩
  simp only [List.length_append, List.length_cons, List.length_nil] at hf ⊢
  obtain ⟨g, rfl⟩ : ∃ g, f = g + 1 + 1 + 1 := ⟨f - 3, by omega⟩
  obtain ⟨f', h1, h6⟩ := h5 (dd + 1) p g (z [41] :: z [c] :: K) [] (Nr.close _) (by omega) (by omega) (by omega)
  obtain ⟨f'', rfl⟩ : ∃ f'', f' = f'' + 1 := ⟨f' - 1, by omega⟩
  have hr : row E n g (dd + 1) (tz X ++ z [41] :: z [c] :: K) p [] = .ok (mkSeq es, z [41] :: z [c] :: K, p + q) := by
    rw [h1, row_end rfl rfl, List.nil_append]
  obtain ⟨g', rfl⟩ : ∃ g', g = g' + 1 := ⟨g - 1, by omega⟩
  have he : either E n (g' + 1 + 1) (dd + 1) (tz X ++ z [41] :: z [c] :: K) p = .ok (mkSeq es, z [41] :: z [c] :: K, p + q) := by
    rw [either, hr]
    simp only
    rw [alts, took_no rfl (by show ([41] : Str) ≠ [124]; decide)]
    rfl
  have ht := thing_open (by omega : dd ≠ 16) he
  refine ⟨g' + 1 + 1 + 1, ?_, by omega⟩
  have e1 : tz (([[40]] ++ X) ++ [[41], [c]]) ++ K = z [40] :: (tz X ++ z [41] :: z [c] :: K) := by
    simp [tz, List.append_assoc]
  rw [e1]
  exact row_step rfl rfl ht (ho _ _)
/-- one of two expressions. -/
theorem Xs.either {E : Env} {n d : Nat} {X Y : List Str} {es es2 : List Ex} {q q2 : Nat} (h : Xs E n d X es q) (k : Xs E n d Y es2 q2) : Xs E n (d + 1) (((([[40]] ++ X) ++ [[124]]) ++ Y) ++ [[41]]) [mkAlt [mkSeq es, mkSeq es2]] (q + q2) := by
  obtain ⟨_, _, h4, h5⟩ := h
  obtain ⟨_, _, k4, k5⟩ := k
  have hp2 : 2 ^ (d + 1) = 2 * 2 ^ d := by rw [Nat.pow_succ]; omega
  refine ⟨by simp, by simpa using alt_opz2, by omega, fun dd p f K l hK hd hp hf => ?_⟩
  simp only [List.length_append, List.length_cons, List.length_nil] at hf ⊢
  obtain ⟨g, rfl⟩ : ∃ g, f = g + 1 + 1 + 1 := ⟨f - 3, by omega⟩
  have nb : Nr (z [124] :: (tz Y ++ z [41] :: K)) := Nr.mk rfl (by show ([124] : Str) ≠ [42]; decide) (by show ([124] : Str) ≠ [43]; decide) (by show ([124] : Str) ≠ [63]; decide)
  obtain ⟨f', h1, h6⟩ := h5 (dd + 1) p g (z [124] :: (tz Y ++ z [41] :: K)) [] nb (by omega) (by omega) (by omega)
  obtain ⟨f'', rfl⟩ : ∃ f'', f' = f'' + 1 := ⟨f' - 1, by omega⟩
  obtain ⟨g', rfl⟩ : ∃ g', g = g' + 1 := ⟨g - 1, by omega⟩
  obtain ⟨f2, k1, k6⟩ := k5 (dd + 1) (p + q) g' (z [41] :: K) [] (Nr.close _) (by omega) (by omega) (by omega)
  obtain ⟨f3, rfl⟩ : ∃ f3, f2 = f3 + 1 := ⟨f2 - 1, by omega⟩
  obtain ⟨g2, rfl⟩ : ∃ g2, g' = g2 + 1 := ⟨g' - 1, by omega⟩
  have he : Rl.either E n (g2 + 1 + 1 + 1) (dd + 1) (tz X ++ z [124] :: (tz Y ++ z [41] :: K)) p = .ok (mkAlt [mkSeq es, mkSeq es2], z [41] :: K, p + q + q2) := by
    rw [Rl.either, h1, row_end rfl rfl, List.nil_append]
    simp only
    rw [alts, took_yes]
    simp only
    rw [k1, row_end rfl rfl, List.nil_append]
    simp only
    rw [alts, took_no rfl (by show ([41] : Str) ≠ [124]; decide)]
    rfl
  have ht := thing_open (by omega : dd ≠ 16) he
  refine ⟨g2 + 1 + 1 + 1 + 1, ?_, by omega⟩
  have e1 : tz (((([[40]] ++ X) ++ [[124]]) ++ Y) ++ [[41]]) ++ K = z [40] :: (tz X ++ z [124] :: (tz Y ++ z [41] :: K)) := by
    simp [tz, List.append_assoc]
  rw [e1, ← Nat.add_assoc]
  exact row_step rfl rfl ht (often_no hK)
/-- one expression behind another one. -/
theorem Xs.then {E : Env} {n d : Nat} {X Y : List Str} {es es2 : List Ex} {q q2 : Nat} (h : Xs E n d X es q) (k : Xs E n d Y es2 q2) (hY : ∀ K, Nr (tz Y ++ K)) : Xs E n (d + 1) ((X ++ []) ++ Y) (es ++ es2) (q + q2) := by
  obtain ⟨h2, h3, h4, h5⟩ := h
  obtain ⟨k2, k3, k4, k5⟩ := k
  have hp2 : 2 ^ (d + 1) = 2 * 2 ^ d := by rw [Nat.pow_succ]; omega
  refine ⟨by simp [h2], ?_, by omega, fun dd p f K l hK hd hp hf => ?_⟩
  · intro e he
    rcases List.mem_append.1 he with he | he
    · exact h3 e he
    · exact k3 e he
  · simp only [List.length_append, List.length_nil] at hf ⊢
    obtain ⟨f', h1, h6⟩ := h5 dd p f (tz Y ++ K) l (hY K) (by omega) (by omega) (by omega)
    obtain ⟨f2, k1, k6⟩ := k5 dd (p + q) f' K (l ++ es) hK (by omega) (by omega) (by omega)
    refine ⟨f2, ?_, by omega⟩
    have e1 : tz ((X ++ []) ++ Y) ++ K = tz X ++ (tz Y ++ K) := by simp [tz, List.append_assoc]
    rw [e1, h1, k1, List.append_assoc, Nat.add_assoc]
theorem xs_x {E : Env} {n : Nat} (hE : EnvOk E n) (hn : 1 ≤ n) (hn6 : n ≤ 6) (L : List Nat) : ∀ d i, ∃ es q, Xs E n d (xp n L d i) es q := by
  have nam : ∀ (d i : Nat), Xs E n d [Hd.name n i] [.mk 1 (2 ^ (i % n)) []] 1 := fun d i =>
    Xs.one (by unfold beg; rw [name_nm hn hn6 i]; rfl) (by decide : (1 : Int) ≠ 0) (fun g dd p K hp => thing_name hE hn hn6 i g dd p K hp)
  intro d
  induction d with
  | zero => exact fun i => ⟨_, _, nam 0 _⟩
  | succ d ih =>
    intro i
    rw [xp]
    by_cases c4 : at' L i % 12 = 4
    · rw [if_pos c4]
      exact ⟨_, _, Xs.one (x := [46]) (X := []) (e := .mk 1 (whole n) []) rfl (by decide : (1 : Int) ≠ 0) (fun g dd p K hp => thing_dot g dd p K hp)⟩
    rw [if_neg c4]
    by_cases c5 : at' L i % 12 = 5
    · rw [if_pos c5, List.append_assoc]
      refine ⟨_, _, Xs.one (x := [91]) (X := nmx n (at' L (up L i)) n ++ [[93]]) (e := .mk 1 ((at' L (up L i) % 2 ^ n : Nat) : Int) []) rfl (by decide : (1 : Int) ≠ 0) (fun g dd p K hp => ?_)⟩
      have e1 : tz (nmx n (at' L (up L i)) n ++ [[93]]) ++ K = tz (nmx n (at' L (up L i)) n) ++ z [93] :: K := by simp [tz, List.append_assoc]
      rw [e1]
      exact thing_set hE hn hn6 _ g dd p K hp
    rw [if_neg c5]
    by_cases c6 : at' L i % 12 = 6
    · rw [if_pos c6, List.append_assoc]
      refine ⟨_, _, Xs.one (x := [91]) (X := [94] :: (nmx n (at' L (up L i)) n ++ [[93]])) (e := .mk 1 (without (whole n) ((at' L (up L i) % 2 ^ n : Nat) : Int)) []) rfl (by decide : (1 : Int) ≠ 0) (fun g dd p K hp => ?_)⟩
      have e1 : tz ([94] :: (nmx n (at' L (up L i)) n ++ [[93]])) ++ K = z [94] :: (tz (nmx n (at' L (up L i)) n) ++ z [93] :: K) := by simp [tz, List.append_assoc]
      rw [e1]
      exact thing_not hE hn hn6 _ g dd p K hp
    rw [if_neg c6]
    obtain ⟨es, q, h1⟩ := ih (up L i)
    obtain ⟨es2, q2, h2⟩ := ih (ex n L d (up L i)).2
    by_cases c7 : at' L i % 12 = 7
    · rw [if_pos c7]
      exact ⟨_, _, h1.often 42 4 (by decide) (fun e K => rfl)⟩
    rw [if_neg c7]
    by_cases c8 : at' L i % 12 = 8
    · rw [if_pos c8]
      exact ⟨_, _, h1.often 43 5 (by decide) (fun e K => rfl)⟩
    rw [if_neg c8]
    by_cases c9 : at' L i % 12 = 9
    · rw [if_pos c9]
      exact ⟨_, _, h1.often 63 6 (by decide) (fun e K => rfl)⟩
    rw [if_neg c9]
    by_cases c10 : at' L i % 12 = 10
    · rw [if_pos c10]
      exact ⟨_, _, h1.either h2⟩
    rw [if_neg c10]
    by_cases c11 : at' L i % 12 = 11
    · rw [if_pos c11]
      refine ⟨_, _, h1.then h2 (fun K => ?_)⟩
      obtain ⟨x, X, e, h1, h2, h3, h4⟩ := xp_head hn hn6 L d (ex n L d (up L i)).2
      rw [e]
      exact Nr.mk (t := z x) rfl h2 h3 h4
    rw [if_neg c11]
    exact ⟨_, _, nam _ _⟩
/-- a whole expression. -/
theorem either_x {E : Env} {n : Nat} (hE : EnvOk E n) (hn : 1 ≤ n) (hn6 : n ≤ 6) (L : List Nat) : ∃ (e : Ex) (q : Nat), q ≤ 8 ∧ (opz e = 0 ↔ L.length = 0) ∧ ∀ (p f : Nat) (t : Tk) (K : List Tk), t.bad = false → beg t = false → t.text ≠ [124] → Nr (t :: K) → p + 8 ≤ 200 → 4 * (xpr n L).length + 4 ≤ f →
    either E n f 0 (tz (xpr n L) ++ t :: K) p = .ok (e, t :: K, p + q) := by
  unfold xpr
  by_cases h0 : L.length = 0
  · rw [if_pos h0]
    refine ⟨.mk 0 0 [], 0, by omega, by simp [h0, opz], fun p f t K hb hg h124 hK hp hf => ?_⟩
    obtain ⟨g, rfl⟩ : ∃ g, f = g + 1 + 1 := ⟨f - 2, by omega⟩
    rw [either]
    rw [tz_nil, List.nil_append, row_end hb hg]
    simp only
    rw [alts, took_no hb h124]
    rfl
  · rw [if_neg h0]
    obtain ⟨es, q, h2, h3, h4, h5⟩ := xs_x hE hn hn6 (L.take 30) 3 0
    refine ⟨mkSeq es, q, h4, ?_, fun p f t K hb hg h124 hK hp hf => ?_⟩
    · have := seq_opz h2 h3
      constructor
      · intro e; exact absurd e this
      · intro e; exact absurd e h0
    · obtain ⟨g, rfl⟩ : ∃ g, f = g + 1 + 1 := ⟨f - 2, by omega⟩
      obtain ⟨f', h1, h6⟩ := h5 0 p (g + 1) (t :: K) [] hK (by omega) (by omega) (by omega)
      obtain ⟨f'', rfl⟩ : ∃ f'', f' = f'' + 1 := ⟨f' - 1, by omega⟩
      rw [either, h1, row_end hb hg, List.nil_append]
      simp only
      rw [alts, took_no hb h124]
      rfl
end Rl
end Go.Proofs.Ytfbcijnacbfjpaa
namespace Go.Proofs.Ytfbcijnacbfjpaa
set_option linter.unusedVariables false
set_option linter.unusedSimpArgs false
namespace Rl
open Hd (at' up ex)
/-- these pieces turn one state into another one. -/
def Rds (s : St) (X : List Str) (s' : St) : Prop := ∀ (K : List Tk) (f : Nat), X.length + K.length + 1 ≤ f → ∃ f', lines f (tz X ++ K) s = lines f' K s' ∧ K.length + 1 ≤ f'
theorem Rds.nil (s : St) : Rds s [] s := fun K f h => ⟨f, rfl, by simpa using h⟩
theorem Rds.app {s s1 s2 : St} {X Y : List Str} (h : Rds s X s1) (k : Rds s1 Y s2) : Rds s (X ++ Y) s2 := fun K f hf => by
  rw [List.length_append] at hf
  obtain ⟨f1, e1, h1⟩ := h (tz Y ++ K) f (by rw [List.length_append, tz_len]; omega)
  rw [List.length_append, tz_len] at h1
  obtain ⟨f2, e2, h2⟩ := k K f1 (by omega)
  exact ⟨f2, by rw [tz_app, List.append_assoc, e1, e2], h2⟩
/-- one line. -/
theorem Rds.line {s s' : St} {x : Str} {X : List Str} (hx : x ≠ []) (h : ∀ K : List Tk, Rl.line (z x) (tz X ++ z [59] :: K) s = .ok (z [59] :: K, s')) : Rds s ((x :: X) ++ [[59]]) s' := fun K f hf => by
  simp only [List.length_append, List.length_cons, List.length_nil] at hf
  obtain ⟨g, rfl⟩ : ∃ g, f = g + 1 := ⟨f - 1, by omega⟩
  refine ⟨g, ?_, by omega⟩
  have e : tz ((x :: X) ++ [[59]]) ++ K = z x :: (tz X ++ z [59] :: K) := by simp [tz, List.append_assoc]
  rw [e, lines, if_neg (by exact Bool.false_ne_true), z_text, if_neg hx, h K]
  simp only
  rw [want_yes]
/-- the classes' names. -/
def cl (n k : Nat) : List Str := (List.range k).map (fun i => [(65 + i).toUInt8])
def stc (k : Nat) : St := ⟨(List.range k).map (fun i => [(65 + i).toUInt8]), (List.range k).map (fun (i : Nat) => (i : Int)), 0, 0, (List.range k).map (fun (i : Nat) => ([(65 + i).toUInt8], ((2 ^ i : Nat) : Int))), 0, []⟩
theorem find_none {f : Nat → Str × Int} {x : Str} : ∀ {L : List Nat}, (∀ i ∈ L, (f i).1 ≠ x) → find (L.map f) x = none
  | [], _ => rfl
  | i :: L, h => by
    rw [List.map_cons, find, if_neg (h i List.mem_cons_self)]
    exact find_none (fun j hj => h j (List.mem_cons_of_mem _ hj))
theorem find_app {x : Str} : ∀ {A B : Env}, find A x = none → find (A ++ B) x = find B x
  | [], _, _ => rfl
  | (s, b) :: A, B, h => by
    rw [find] at h
    split at h
    · cases h
    · rename_i hs
      rw [List.cons_append, find, if_neg hs]
      exact find_app h
theorem find_app2 {x : Str} {v : Int} : ∀ {A B : Env}, find A x = some v → find (A ++ B) x = some v
  | [], _, h => by cases h
  | (s, b) :: A, B, h => by
    rw [find] at h
    rw [List.cons_append, find]
    split at h
    · rename_i hs; rw [if_pos hs]; exact h
    · rename_i hs
      rw [if_neg hs]
      exact find_app2 h
theorem byte_ne {i j : Nat} (hi : i < 6) (hj : j < 6) (h : i ≠ j) : (65 + i).toUInt8 ≠ (65 + j).toUInt8 := by
  intro e
  have h1 := (isN_name (n := 6) (by omega) (by omega) i).2
  have h2 := (isN_name (n := 6) (by omega) (by omega) j).2
  rw [Nat.mod_eq_of_lt hi] at h1
  rw [Nat.mod_eq_of_lt hj] at h2
  rw [e] at h1
  omega
theorem stc_succ (k : Nat) : stc (k + 1) = addClass (stc k) [(65 + k).toUInt8] := by
  unfold stc addClass
  simp [List.range_succ]
theorem stc_env {n : Nat} (hn6 : n ≤ 6) : ∀ k, k ≤ n → EnvOk (stc k).env k
  | 0, _ => fun j hj => absurd hj (Nat.not_lt_zero _)
  | k + 1, hk => by
    intro j hj
    rw [stc_succ]
    show find ((stc k).env ++ _) _ = _
    by_cases e : j = k
    · subst e
      have hnone : find (stc j).env [(65 + j).toUInt8] = none := find_none (fun i hi => by
        have := List.mem_range.1 hi
        intro e
        simp only [List.cons.injEq, and_true] at e
        exact byte_ne (by omega) (by omega) (by omega : i ≠ j) e)
      rw [find_app hnone]
      unfold find
      rw [if_pos rfl]
      unfold stc
      simp
    · exact find_app2 (stc_env hn6 k (by omega) j (by omega))
theorem stc_none {n : Nat} (hn6 : n ≤ 6) {k : Nat} (hk : k < n) : find (stc k).env [(65 + k).toUInt8] = none := find_none (fun i hi => by
  have := List.mem_range.1 hi
  intro e
  simp only [List.cons.injEq, and_true] at e
  exact byte_ne (by omega) (by omega) (by omega : i ≠ k) e)
theorem name_small {n k : Nat} (hk : k < n) : Hd.name n k = [(65 + k).toUInt8] := by
  unfold Hd.name
  rw [Nat.mod_eq_of_lt hk]
theorem bit255 : ∀ k, k < 6 → Hd.bit 255 k = true := by decide
theorem classes_x {n : Nat} (hn : 1 ≤ n) (hn6 : n ≤ 6) : ∀ k, k ≤ n → ∀ K : List Tk, classes (tz (nmx n 255 k) ++ K) st0 = classes K (stc k)
  | 0, _, K => rfl
  | k + 1, hk, K => by
    rw [nmx, if_pos (bit255 k (by omega)), tz_app, List.append_assoc, classes_x hn hn6 k (by omega)]
    show classes (z (Hd.name n k) :: K) (stc k) = _
    rw [classes, if_neg (by exact Bool.false_ne_true), if_pos (name_nm hn hn6 k), z_text, name_small (by omega), stc_none hn6 (by omega), stc_succ]
    rw [if_neg (by exact Bool.false_ne_true), if_neg]
    unfold stc
    simp only [List.length_map, List.length_range]
    omega
theorem first_x {n : Nat} (hn : 1 ≤ n) (hn6 : n ≤ 6) : Rds st0 (fx n) (stc n) := by
  refine Rds.line (x := wClass) (X := nmx n 255 n) (by decide) (fun K => ?_)
  unfold Rl.line
  rw [z_text, if_pos rfl, classes_x hn hn6 n (Nat.le_refl _)]
  rw [classes, if_neg (by exact Bool.false_ne_true), if_neg (by exact Bool.false_ne_true)]
/-- behind the joins. -/
def stj (n jo af : Nat) : St := if jo = 0 then stc n else { stc n with join := bor 0 ((jo % 2 ^ n : Nat) : Int), after := bor 0 ((af % 2 ^ n : Nat) : Int) }
theorem second_x {n : Nat} (hn : 1 ≤ n) (hn6 : n ≤ 6) (jo af : Nat) : Rds st0 (sx n jo af) (stj n jo af) := by
  unfold sx stj
  by_cases e : jo = 0
  · rw [if_pos e, if_pos e]; exact first_x hn hn6
  · rw [if_neg e, if_neg e]
    have hE := stc_env hn6 n (Nat.le_refl _)
    have h := (first_x hn hn6).app (Rds.line (s := stc n) (s' := { stc n with join := bor 0 ((jo % 2 ^ n : Nat) : Int), after := bor 0 ((af % 2 ^ n : Nat) : Int) }) (x := wJoin) (X := nmx n jo n ++ ([47] :: nmx n af n)) (by decide) (fun K => by
      unfold Rl.line
      rw [z_text, if_neg (by decide), if_neg (by decide), if_pos rfl]
      unfold join'
      have e1 : tz (nmx n jo n ++ ([47] :: nmx n af n)) ++ z [59] :: K = tz (nmx n jo n) ++ z [47] :: (tz (nmx n af n) ++ z [59] :: K) := by simp [tz, List.append_assoc]
      rw [e1, names_x hE hn hn6 jo n (Nat.le_refl _), names_end rfl rfl]
      simp only
      rw [want_yes]
      simp only
      rw [names_x hE hn hn6 af n (Nat.le_refl _), names_end rfl rfl]
      rfl))
    have e2 : fx n ++ ((wJoin :: (nmx n jo n ++ ([47] :: nmx n af n))) ++ [[59]]) = ((((fx n ++ [wJoin]) ++ nmx n jo n) ++ [[47]]) ++ nmx n af n) ++ [[59]] := by simp [List.append_assoc]
    rw [← e2]
    exact h
/-- behind so many treats. -/
def stt (n jo af : Nat) (T : List Nat) : Nat → St
  | 0 => stj n jo af
  | k + 1 => { stt n jo af T k with treat := (stt n jo af T k).treat.set k ((at' T k % n : Nat) : Int) }
theorem stt_cls (n jo af : Nat) (T : List Nat) : ∀ k, (stt n jo af T k).cls = (stc n).cls ∧ (stt n jo af T k).env = (stc n).env ∧ (stt n jo af T k).places = 0 ∧ (stt n jo af T k).list = [] ∧ (stt n jo af T k).join = (stj n jo af).join ∧ (stt n jo af T k).after = (stj n jo af).after
  | 0 => by
    refine ⟨?_, ?_, ?_, ?_, rfl, rfl⟩
    all_goals
      rw [stt]
      unfold stj
      split <;> rfl
  | k + 1 => stt_cls n jo af T k
theorem place_x {n : Nat} (hn : 1 ≤ n) (hn6 : n ≤ 6) (i : Nat) (K : List Tk) : placeOf (stc n).cls (z (Hd.name n i) :: K) = .ok (i % n, K) := by
  unfold placeOf
  rw [name, if_neg (by exact Bool.false_ne_true), if_pos (name_nm hn hn6 i)]
  simp only
  rw [z_text]
  have hm := Nat.mod_lt i hn
  have hg : (stc n).cls[i % n]? = some (Hd.name n i) := by
    unfold stc Hd.name
    simp only [List.getElem?_map, List.getElem?_range hm, Option.map_some]
  have hmem : Hd.name n i ∈ (stc n).cls := List.mem_of_getElem? hg
  have hidx : (stc n).cls.idxOf (Hd.name n i) = i % n := by
    have hl : (stc n).cls.length = n := by unfold stc; simp
    have h1 := List.idxOf_lt_length_of_mem hmem
    rw [hl] at h1
    have h2 : (stc n).cls[(stc n).cls.idxOf (Hd.name n i)]? = some (Hd.name n i) := by
      rw [List.getElem?_eq_getElem (by rw [hl]; exact h1), List.getElem_idxOf]
    generalize (stc n).cls.idxOf (Hd.name n i) = m at h1 h2
    unfold stc Hd.name at h2
    simp only [List.getElem?_map, List.getElem?_range h1, Option.map_some, Option.some.injEq, List.cons.injEq, and_true] at h2
    by_cases e : m = i % n
    · exact e
    · exact absurd h2 (byte_ne (by omega) (by omega) e)
  unfold place
  rw [if_pos hmem, hidx]
theorem treat_x {n : Nat} (hn : 1 ≤ n) (hn6 : n ≤ 6) (jo af : Nat) (T : List Nat) : ∀ k, k ≤ n → Rds st0 (trx n T (sx n jo af) k) (stt n jo af T k)
  | 0, _ => second_x hn hn6 jo af
  | k + 1, hk => by
    have ih := treat_x hn hn6 jo af T k (by omega)
    obtain ⟨hc, _⟩ := stt_cls n jo af T k
    have h := ih.app (Rds.line (s := stt n jo af T k) (s' := stt n jo af T (k + 1)) (x := wTreat) (X := [Hd.name n k, [61], Hd.name n (at' T k)]) (by decide) (fun K => by
      unfold Rl.line
      rw [z_text, if_neg (by decide), if_neg (by decide), if_neg (by decide), if_pos rfl]
      unfold treat'
      show (match placeOf (stt n jo af T k).cls (z (Hd.name n k) :: z [61] :: z (Hd.name n (at' T k)) :: z [59] :: K) with | Except.error f => Except.error f | Except.ok (k_1, ts1) => _) = _
      rw [hc, place_x hn hn6]
      simp only
      rw [want_yes]
      simp only
      rw [place_x hn hn6, Nat.mod_eq_of_lt (by omega : k < n), stt, hc]))
    rw [trx]
    have e2 : trx n T (sx n jo af) k ++ ((wTreat :: [Hd.name n k, [61], Hd.name n (at' T k)]) ++ [[59]]) = ((((trx n T (sx n jo af) k ++ [wTreat]) ++ [Hd.name n k]) ++ [[61]]) ++ [Hd.name n (at' T k)]) ++ [[59]] := by simp [List.append_assoc]
    rw [← e2]
    exact h
/-- a rule, as the plan says. -/
def RuOk (x : Pr) (r : Rule) : Prop := r.does = ((x.d % 3 : Nat) : Int) ∧ (opz r.left = 0 ↔ x.L.length = 0) ∧ (opz r.right = 0 ↔ x.R.length = 0)
theorem rules_x {n : Nat} (hn : 1 ≤ n) (hn6 : n ≤ 6) (rs : List Pr) {s0 : St} {X : List Str} (h0 : Rds st0 X s0) (hc : s0.cls = (stc n).cls) (he : s0.env = (stc n).env) (hp : s0.places = 0) (hl : s0.list = []) :
    ∀ k, k ≤ 10 → k ≤ rs.length → ∃ (l : List Rule) (p : Nat), Rds st0 (rux n rs X k) { s0 with places := p, list := l } ∧ l.length = k ∧ p ≤ 16 * k ∧ ∀ (i : Nat) (x : Pr) (r : Rule), rs[i]? = some x → l[i]? = some r → RuOk x r
  | 0, _, _ => by
    refine ⟨[], 0, ?_, rfl, Nat.le_refl _, fun i x r _ h => by simp at h⟩
    have : ({ s0 with places := 0, list := [] } : St) = s0 := by cases s0; simp only at hp hl; subst hp hl; rfl
    rw [this]
    exact h0
  | k + 1, h10, hk => by
    obtain ⟨l, p, ih, hlen, hpk, hok⟩ := rules_x hn hn6 rs h0 hc he hp hl k (by omega) (by omega)
    have hkl : k < rs.length := by omega
    obtain ⟨x, hx⟩ : ∃ x, rs[k]? = some x := ⟨_, List.getElem?_eq_getElem hkl⟩
    rw [rux, hx]
    have hE : EnvOk s0.env n := by rw [he]; exact stc_env hn6 n (Nat.le_refl _)
    have hcl : s0.cls.length = n := by rw [hc]; unfold stc; simp
    have n47 : ∀ K, Nr (z [47] :: K) := fun K => Nr.mk rfl (by show ([47] : Str) ≠ [42]; decide) (by show ([47] : Str) ≠ [43]; decide) (by show ([47] : Str) ≠ [63]; decide)
    have n59 : ∀ K, Nr (z [59] :: K) := fun K => Nr.mk rfl (by show ([59] : Str) ≠ [42]; decide) (by show ([59] : Str) ≠ [43]; decide) (by show ([59] : Str) ≠ [63]; decide)
    have key : ∃ (a b : Ex) (p' : Nat), p' ≤ p + 16 ∧ (opz a = 0 ↔ x.L.length = 0) ∧ (opz b = 0 ↔ x.R.length = 0) ∧ ∀ (K : List Tk) (dd : Int), rule' dd 0 (tz (xpr n x.L ++ ([47] :: xpr n x.R)) ++ z [59] :: K) { s0 with places := p, list := l } = .ok (z [59] :: K, { s0 with places := p', list := l ++ [⟨dd, a, b⟩] }) := by
      obtain ⟨a, q, hq, ha, h1⟩ := either_x hE hn hn6 x.L
      obtain ⟨b, q2, hq2, hb, h2⟩ := either_x hE hn hn6 x.R
      refine ⟨a, b, p + q + q2, by omega, ha, hb, fun K dd => ?_⟩
      have e1 : tz (xpr n x.L ++ ([47] :: xpr n x.R)) ++ z [59] :: K = tz (xpr n x.L) ++ z [47] :: (tz (xpr n x.R) ++ z [59] :: K) := by simp [tz, List.append_assoc]
      rw [e1]
      unfold rule'
      simp only
      rw [if_neg (by omega), hcl, h1 _ _ _ _ rfl rfl (by show ([47] : Str) ≠ [124]; decide) (n47 _) (by omega) (by unfold fuel; rw [List.length_append, tz_len]; omega)]
      simp only
      rw [want_yes]
      simp only
      rw [h2 _ _ _ _ rfl rfl (by show ([59] : Str) ≠ [124]; decide) (n59 _) (by omega) (by unfold fuel; rw [List.length_append, tz_len]; omega)]
    obtain ⟨a, b, p', hp', ha, hb, hr⟩ := key
    refine ⟨l ++ [⟨((x.d % 3 : Nat) : Int), a, b⟩], p', ?_, by simp [hlen], by omega, ?_⟩
    · have hd : wdx x.d ≠ [] := by
        unfold wdx
        repeat' split
        all_goals decide
      have h := ih.app (Rds.line (s := { s0 with places := p, list := l }) (s' := { s0 with places := p', list := l ++ [⟨((x.d % 3 : Nat) : Int), a, b⟩] }) (x := wdx x.d) (X := xpr n x.L ++ ([47] :: xpr n x.R)) hd (fun K => by
        unfold Rl.line wdx
        rw [z_text]
        by_cases d0 : x.d % 3 = 0
        · rw [if_pos d0, if_neg (by decide), if_neg (by decide), if_neg (by decide), if_neg (by decide), if_pos rfl, d0]
          exact hr K 0
        · rw [if_neg d0]
          by_cases d1 : x.d % 3 = 1
          · rw [if_pos d1, if_neg (by decide), if_neg (by decide), if_neg (by decide), if_neg (by decide), if_neg (by decide), if_pos rfl, d1]
            exact hr K 1
          · rw [if_neg d1, if_neg (by decide), if_neg (by decide), if_neg (by decide), if_neg (by decide), if_neg (by decide), if_neg (by decide), if_pos rfl, show x.d % 3 = 2 by omega]
            exact hr K 2))
      have e2 : rux n rs X k ++ ((wdx x.d :: (xpr n x.L ++ ([47] :: xpr n x.R))) ++ [[59]]) = ((((rux n rs X k ++ [wdx x.d]) ++ xpr n x.L) ++ [[47]]) ++ xpr n x.R) ++ [[59]] := by simp [List.append_assoc]
      show Rds st0 (((((rux n rs X k ++ [wdx x.d]) ++ xpr n x.L) ++ [[47]]) ++ xpr n x.R) ++ [[59]]) _
      rw [← e2]
      exact h
    · intro i y r hy hri
      by_cases hi : i < k
      · rw [List.getElem?_append_left (by omega)] at hri
        exact hok i y r hy hri
      · rw [List.getElem?_append_right (by omega)] at hri
        have hik : i - l.length = 0 := by
          have := (List.getElem?_eq_some_iff.1 hri).1
          simp at this
          omega
        rw [hik] at hri
        obtain rfl : i = k := by omega
        rw [hx] at hy
        injection hy with hy
        injection hri with hri
        subst hy hri
        exact ⟨rfl, ha, hb⟩
theorem ex_len2 {n : Nat} (hn6 : n ≤ 6) (L : List Nat) : ∀ d i, (ex n L d i).1.length + 3 ≤ 18 * 2 ^ d
  | 0, i => by unfold ex; simp [Hd.name]
  | d + 1, i => by
    have a := ex_len2 hn6 L d (up L i)
    have b := ex_len2 hn6 L d (ex n L d (up L i)).2
    have c := Hd.names_len n (at' L (up L i)) n
    have p : 1 ≤ 2 ^ d := Nat.two_pow_pos d
    have q : 2 ^ (d + 1) = 2 * 2 ^ d := by rw [Nat.pow_succ]; omega
    unfold ex
    repeat' split
    all_goals (simp only [Hd.cat_len, Hd.name, List.length_cons, List.length_nil]; omega)
theorem expr_len2 {n : Nat} (hn6 : n ≤ 6) (L : List Nat) : (Hd.expr n L).length ≤ 141 := by
  unfold Hd.expr
  split
  · simp
  · have := ex_len2 hn6 (L.take 30) 3 0
    omega
theorem ru_len2 {n : Nat} (hn6 : n ≤ 6) (rs : List Pr) (t : Str) : ∀ k, (Hd.ru n rs t k).length ≤ t.length + 292 * k
  | 0 => Nat.le_refl _
  | k + 1 => by
    have ih := ru_len2 hn6 rs t k
    rw [Hd.ru]
    split
    · omega
    · rename_i x hx
      have h1 := expr_len2 hn6 x.L
      have h2 := expr_len2 hn6 x.R
      have h3 := Hd.word_len x.d
      simp only [Hd.cat_len, List.length_cons, List.length_nil]
      omega
theorem text_len2 {n : Nat} (hn6 : n ≤ 6) (jo af : Nat) (T : List Nat) (rs : List Pr) : (Hd.text n jo af T rs).length ≤ 4096 := by
  have h1 := Hd.second_len n jo af hn6
  have h2 := Hd.treat_len n T (Hd.second n jo af) (min T.length n)
  have h3 := ru_len2 hn6 rs (Hd.treat n T (Hd.second n jo af) (min T.length n)) (min rs.length 10)
  unfold Hd.text
  omega
theorem stt_treat {n : Nat} (jo af : Nat) (T : List Nat) : ∀ k, k ≤ n → (stt n jo af T k).treat.length = n ∧ ∀ i, i < n → (stt n jo af T k).treat[i]? = some (if i < k then ((at' T i % n : Nat) : Int) else (i : Int))
  | 0, _ => by
    have e : (stt n jo af T 0).treat = (stc n).treat := by
      rw [stt]
      unfold stj
      split <;> rfl
    rw [e]
    unfold stc
    refine ⟨by simp, fun i hi => ?_⟩
    rw [if_neg (Nat.not_lt_zero _)]
    simp only [List.getElem?_map, List.getElem?_range hi, Option.map_some]
  | k + 1, hk => by
    obtain ⟨h1, h2⟩ := stt_treat (n := n) jo af T k (by omega)
    rw [stt]
    refine ⟨by simp [h1], fun i hi => ?_⟩
    show ((stt n jo af T k).treat.set k _)[i]? = _
    by_cases e : i = k
    · subst e
      rw [List.getElem?_set_self (by omega), if_pos (by omega)]
    · rw [List.getElem?_set_ne (fun h => e h.symm), h2 i hi]
      by_cases e2 : i < k
      · rw [if_pos e2, if_pos (by omega)]
      · rw [if_neg e2, if_neg (by omega)]
/-- what is read of a plan's text. -/
structure Made (n jo af : Nat) (T : List Nat) (rs : List Pr) (s : St) : Prop where
  cls : s.cls.length = n
  treat : s.treat.length = n
  list : s.list.length = min rs.length 10
  join : jo ≠ 0 → s.join = bor 0 ((jo % 2 ^ n : Nat) : Int) ∧ s.after = bor 0 ((af % 2 ^ n : Nat) : Int)
  each : ∀ i, i < n → s.treat[i]? = some (if i < T.length then ((at' T i % n : Nat) : Int) else (i : Int))
  rule : ∀ (i : Nat) (x : Pr) (r : Rule), rs[i]? = some x → s.list[i]? = some r → RuOk x r
theorem made_x {n : Nat} (hn : 1 ≤ n) (hn6 : n ≤ 6) (jo af : Nat) (T : List Nat) (rs : List Pr) {ts : List Tk} (h : Strm (Hd.text n jo af T rs) 0 ts) : ∃ s, lines (ts.length + 1) ts st0 = .ok s ∧ Made n jo af T rs s := by
  have h1 : Pk (Hd.text n jo af T rs) (ts.map key) := pk_strm h
  have h2 : ts.map key = (tx n jo af T rs).map (fun x => (x, false)) ++ [([], false)] := h1.one (pc_text hn hn6 jo af T rs)
  have h3 : ts.map er = tz (tx n jo af T rs) ++ [z []] := by
    have g : ts.map er = (ts.map key).map (fun k => ⟨k.1, 0, k.2⟩) := by rw [List.map_map]; rfl
    rw [g, h2, List.map_append, List.map_map]
    rfl
  have hlen : ts.length = (tx n jo af T rs).length + 1 := by
    have := congrArg List.length h2
    simpa using this
  have ht := treat_x hn hn6 jo af T (min T.length n) (by omega)
  obtain ⟨c1, c2, c3, c4, c5, c6⟩ := stt_cls n jo af T (min T.length n)
  obtain ⟨l, p, hr, hl, hp, hok⟩ := rules_x hn hn6 rs ht c1 c2 c3 c4 (min rs.length 10) (by omega) (by omega)
  obtain ⟨f', e1, hf'⟩ := hr [z []] (ts.length + 1) (by
    show (tx n jo af T rs).length + 1 + 1 ≤ _
    omega)
  obtain ⟨g, rfl⟩ : ∃ g, f' = g + 1 := ⟨f' - 1, by omega⟩
  have e2 := lines_er (ts.length + 1) ts st0
  rw [h3] at e2
  rw [show tz (tx n jo af T rs) ++ [z []] = tz (rux n rs (trx n T (sx n jo af) (min T.length n)) (min rs.length 10)) ++ [z []] from rfl, e1] at e2
  rw [lines, if_neg (by exact Bool.false_ne_true), z_text, if_pos rfl] at e2
  obtain ⟨t1, t2⟩ := stt_treat jo af T (min T.length n) (by omega : min T.length n ≤ n)
  refine ⟨{ stt n jo af T (min T.length n) with places := p, list := l }, ?_, ⟨?_, t1, hl, ?_, fun i hi => ?_, hok⟩⟩
  · cases h5 : lines (ts.length + 1) ts st0 with
    | error a => rw [h5] at e2; cases e2
    | ok s => rw [h5] at e2; injection e2 with e2; rw [e2]
  · show (stt n jo af T (min T.length n)).cls.length = n
    rw [c1]
    unfold stc
    simp
  · intro hj
    show (stt n jo af T (min T.length n)).join = _ ∧ (stt n jo af T (min T.length n)).after = _
    rw [c5, c6]
    unfold stj
    rw [if_neg hj]
    exact ⟨rfl, rfl⟩
  · rw [t2 i hi]
    by_cases e : i < T.length
    · rw [if_pos e, if_pos (by omega)]
    · rw [if_neg e, if_neg (by omega)]
end Rl
end Go.Proofs.Ytfbcijnacbfjpaa
