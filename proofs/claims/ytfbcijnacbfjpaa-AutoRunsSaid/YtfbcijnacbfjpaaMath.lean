/-
  Rules as they are written, in plain words: a text's pieces, expressions, lines; no program in it.
-/
import Derived.WalkKit
namespace Go.Proofs.Ytfbcijnacbfjpaa
set_option linter.unusedVariables false
set_option linter.unusedSimpArgs false
namespace Rl
abbrev Str := List UInt8
/-- a byte of a name? -/
def isN (c : UInt8) : Bool := (decide (97 ≤ c.toNat) && decide (c.toNat ≤ 122)) || (decide (65 ≤ c.toNat) && decide (c.toNat ≤ 90)) || (decide (48 ≤ c.toNat) && decide (c.toNat ≤ 57)) || decide (c.toNat = 95)
/-- how many bytes of blanks and remarks a text begins with. -/
def blk : Bool → Str → Nat
  | _, [] => 0
  | r, c :: cs => if c.toNat = 10 then 1 + blk false cs else if r = true ∨ c.toNat = 32 ∨ c.toNat = 9 ∨ c.toNat = 13 then 1 + blk r cs else if c.toNat = 35 then 1 + blk true cs else 0
/-- how many bytes of a name a text begins with. -/
def nml : Str → Nat
  | [] => 0
  | c :: cs => if isN c = true then 1 + nml cs else 0
def signs : Str := [40, 41, 91, 93, 94, 124, 42, 43, 63, 46, 59, 47, 61]
/-- where the next piece begins. -/
def nx (l : Str) (i : Nat) : Nat := i + blk false (l.drop i)
/-- how many bytes the piece has that a text begins with. -/
def plen (r : Str) : Nat := if 0 < nml r then nml r else match r with | [] => 0 | c :: _ => if signs.contains c = true then 1 else 0
/-- a piece: its text (none: the text's end, or a byte that begins nothing), its place. -/
structure Tk where
  text : Str
  at' : Nat
  bad : Bool
  deriving DecidableEq
def tk (l : Str) (i : Nat) : Tk := ⟨(l.drop (nx l i)).take (plen (l.drop (nx l i))), nx l i, decide (l.drop (nx l i) ≠ [] ∧ plen (l.drop (nx l i)) = 0)⟩
/-- a text's pieces from a place on. -/
def Strm (l : Str) : Nat → List Tk → Prop
  | _, [] => False
  | i, t :: ts => t = tk l i ∧ (if t.text = [] then ts = [] else Strm l (t.at' + t.text.length) ts)

theorem blk_le : ∀ (r : Bool) (l : Str), blk r l ≤ l.length
  | _, [] => Nat.le_refl _
  | r, c :: cs => by
    have h1 := blk_le false cs
    have h2 := blk_le r cs
    have h3 := blk_le true cs
    unfold blk
    simp only [List.length_cons]
    split
    · omega
    · split
      · omega
      · split <;> omega
theorem nml_le : ∀ l : Str, nml l ≤ l.length
  | [] => Nat.le_refl _
  | c :: cs => by
    have h1 := nml_le cs
    unfold nml
    simp only [List.length_cons]
    split <;> omega
theorem plen_le (l : Str) : plen l ≤ l.length := by
  unfold plen
  split
  · exact nml_le l
  · cases l with
    | nil => simp
    | cons c cs => simp only [List.length_cons]; split <;> omega
theorem nx_le (l : Str) (i : Nat) (h : i ≤ l.length) : nx l i ≤ l.length := by
  unfold nx
  have := blk_le false (l.drop i)
  rw [List.length_drop] at this
  omega
theorem nx_ge (l : Str) (i : Nat) : i ≤ nx l i := Nat.le_add_right _ _
theorem blk_cons (r : Bool) (c : UInt8) (cs : Str) : blk r (c :: cs) = if c.toNat = 10 then 1 + blk false cs else if r = true ∨ c.toNat = 32 ∨ c.toNat = 9 ∨ c.toNat = 13 then 1 + blk r cs else if c.toNat = 35 then 1 + blk true cs else 0 := rfl
theorem nml_cons (c : UInt8) (cs : Str) : nml (c :: cs) = if isN c = true then 1 + nml cs else 0 := rfl
theorem blk_drop : ∀ (r : Bool) (l : Str), blk false (l.drop (blk r l)) = 0
  | r, [] => by simp [blk]
  | r, c :: cs => by
    have h1 := blk_drop false cs
    have h2 := blk_drop r cs
    have h3 := blk_drop true cs
    rw [blk_cons r c cs]
    split
    · rw [Nat.add_comm, List.drop_succ_cons]; exact h1
    · split
      · rw [Nat.add_comm, List.drop_succ_cons]; exact h2
      · split
        · rw [Nat.add_comm, List.drop_succ_cons]; exact h3
        · rename_i a b d
          rw [List.drop_zero]
          rw [blk_cons, if_neg a, if_neg (fun h => b (h.elim (fun h => absurd h (by simp)) Or.inr)), if_neg d]
theorem nx_idem (l : Str) (i : Nat) : nx l (nx l i) = nx l i := by
  have := blk_drop false (l.drop i)
  rw [List.drop_drop] at this
  show nx l i + blk false (l.drop (nx l i)) = nx l i
  unfold nx
  rw [this]; rfl
theorem tk_nx (l : Str) (i : Nat) : tk l (nx l i) = tk l i := by unfold tk; rw [nx_idem]
theorem strm_nx {l : Str} {i : Nat} {ts : List Tk} (h : Strm l i ts) : Strm l (nx l i) ts := by
  cases ts with
  | nil => exact h
  | cons t ts => exact ⟨h.1.trans (tk_nx l i).symm, h.2⟩
theorem strm_one {l : Str} : ∀ {ts us : List Tk} {i : Nat}, Strm l i ts → Strm l i us → ts = us
  | [], _, _, h, _ => h.elim
  | _ :: _, [], _, _, h => h.elim
  | t :: ts, u :: us, i, h, k => by
    obtain rfl : t = u := h.1.trans k.1.symm
    have h2 := h.2
    have k2 := k.2
    by_cases e : t.text = []
    · rw [if_pos e] at h2 k2
      rw [h2, k2]
    · rw [if_neg e] at h2 k2
      rw [strm_one h2 k2]
theorem tk_len (l : Str) (i : Nat) : (tk l i).text.length = plen (l.drop (nx l i)) := by
  show ((l.drop (nx l i)).take _).length = _
  rw [List.length_take]
  have := plen_le (l.drop (nx l i))
  omega
theorem tk_end (l : Str) (i : Nat) (h : i ≤ l.length) : (tk l i).at' + (tk l i).text.length ≤ l.length := by
  rw [tk_len]
  have h1 := plen_le (l.drop (nx l i))
  rw [List.length_drop] at h1
  have h2 := nx_le l i h
  show nx l i + _ ≤ _
  omega
theorem strm_some (l : Str) : ∀ (n i : Nat), l.length - i < n → i ≤ l.length → ∃ ts, Strm l i ts
  | 0, _, h, _ => absurd h (Nat.not_lt_zero _)
  | n + 1, i, h, hi => by
    by_cases e : (tk l i).text = []
    · exact ⟨[tk l i], rfl, by rw [if_pos e]⟩
    · have h1 := tk_end l i hi
      have h2 : 0 < (tk l i).text.length := List.length_pos_iff.2 e
      have h3 : i ≤ (tk l i).at' := nx_ge l i
      obtain ⟨ts, h4⟩ := strm_some l n ((tk l i).at' + (tk l i).text.length) (by omega) h1
      exact ⟨tk l i :: ts, rfl, by rw [if_neg e]; exact h4⟩
theorem strm_bad {l : Str} {i : Nat} {t : Tk} {ts : List Tk} (h : Strm l i (t :: ts)) (hb : t.bad = true) : t.text = [] := by
  rw [h.1] at hb ⊢
  have := of_decide_eq_true hb
  apply List.length_eq_zero_iff.1
  rw [tk_len]
  exact this.2
/-- the pieces behind one that is none of the two ends. -/
theorem strm_tail {l : Str} {i : Nat} {t : Tk} {ts : List Tk} (h : Strm l i (t :: ts)) (he : t.text ≠ []) : Strm l (t.at' + t.text.length) ts := by
  have := h.2
  rw [if_neg he] at this
  exact this
theorem strm_at {l : Str} {i : Nat} {t : Tk} {ts : List Tk} (h : Strm l i (t :: ts)) : t.at' = nx l i := by rw [h.1]; rfl

/-- expressions. -/
inductive Ex where
  | mk (op set : Int) (kids : List Ex)
abbrev Ft := Nat × Nat
abbrev R (α : Type) := Except Ft α
/-- the names that are declared, and their classes as bits. -/
abbrev Env := List (Str × Int)
def find : Env → Str → Option Int
  | [], _ => none
  | (s, b) :: E, x => if s = x then some b else find E x
def isNm (t : Tk) : Bool := decide (0 < nml t.text)
def beg (t : Tk) : Bool := isNm t || decide (t.text = [46]) || decide (t.text = [91]) || decide (t.text = [40])
def bor (a b : Int) : Int := bits .or .u32 a b
def without (a b : Int) : Int := bits .andNot .u32 a b
def whole (n : Nat) : Int := 2 ^ n - 1
def took (c : UInt8) : List Tk → R (Bool × List Tk)
  | [] => .error (0, 0)
  | t :: ts => if t.bad = true then .error (20, t.at') else if t.text = [c] then .ok (true, ts) else .ok (false, t :: ts)
def want (c : UInt8) : List Tk → R (List Tk)
  | [] => .error (0, 0)
  | t :: ts => if t.bad = true then .error (20, t.at') else if t.text = [c] then .ok ts else .error (21, t.at')
def names (E : Env) : List Tk → Int → R (Int × List Tk)
  | [], _ => .error (0, 0)
  | t :: ts, acc => if t.bad = true then .error (20, t.at') else if isNm t = true then
      match find E t.text with
      | none => .error (22, t.at')
      | some b => names E ts (bor acc b)
    else .ok (acc, t :: ts)
def some' (E : Env) (nc : Nat) : List Tk → Nat → R (Int × List Tk × Nat)
  | [], _ => .error (0, 0)
  | t :: ts, p => if p = 200 then .error (26, t.at') else if t.text = [46] then .ok (whole nc, ts, p + 1) else if t.text = [91] then
      match took 94 ts with
      | .error f => .error f
      | .ok (no, ts1) => match names E ts1 0 with
        | .error f => .error f
        | .ok (b, ts2) => match want 93 ts2 with
          | .error f => .error f
          | .ok ts3 => .ok (if no = true then without (whole nc) b else b, ts3, p + 1)
    else match find E t.text with
      | none => .error (22, t.at')
      | some b => .ok (b, ts, p + 1)
def often (e : Ex) : List Tk → R (Ex × List Tk)
  | [] => .error (0, 0)
  | t :: ts => if t.bad = true then .error (20, t.at') else if t.text = [42] then .ok (.mk 4 0 [e], ts) else if t.text = [43] then .ok (.mk 5 0 [e], ts) else if t.text = [63] then .ok (.mk 6 0 [e], ts) else .ok (e, t :: ts)
def mkAlt : List Ex → Ex
  | [e] => e
  | l => .mk 3 0 l
def mkSeq : List Ex → Ex
  | [] => .mk 0 0 []
  | [e] => e
  | l => .mk 2 0 l
mutual
def either (E : Env) (nc : Nat) : Nat → Nat → List Tk → Nat → R (Ex × List Tk × Nat)
  | 0, _, _, _ => .error (0, 0)
  | n + 1, d, ts, p => match row E nc n d ts p [] with
    | .error f => .error f
    | .ok (e, ts1, p1) => alts E nc n d ts1 p1 [e]
def alts (E : Env) (nc : Nat) : Nat → Nat → List Tk → Nat → List Ex → R (Ex × List Tk × Nat)
  | 0, _, _, _, _ => .error (0, 0)
  | n + 1, d, ts, p, l => match took 124 ts with
    | .error f => .error f
    | .ok (false, ts1) => .ok (mkAlt l, ts1, p)
    | .ok (true, ts1) => match row E nc n d ts1 p [] with
      | .error f => .error f
      | .ok (e, ts2, p2) => alts E nc n d ts2 p2 (l ++ [e])
def row (E : Env) (nc : Nat) : Nat → Nat → List Tk → Nat → List Ex → R (Ex × List Tk × Nat)
  | 0, _, _, _, _ => .error (0, 0)
  | n + 1, d, ts, p, l => match ts with
    | [] => .error (0, 0)
    | t :: ts0 => if t.bad = true then .error (20, t.at') else if beg t = true then
        match thing E nc n d (t :: ts0) p with
        | .error f => .error f
        | .ok (e, ts1, p1) => match often e ts1 with
          | .error f => .error f
          | .ok (e2, ts2) => row E nc n d ts2 p1 (l ++ [e2])
      else .ok (mkSeq l, t :: ts0, p)
def thing (E : Env) (nc : Nat) : Nat → Nat → List Tk → Nat → R (Ex × List Tk × Nat)
  | 0, _, _, _ => .error (0, 0)
  | n + 1, d, ts, p => match ts with
    | [] => .error (0, 0)
    | t :: ts0 => if t.text = [40] then
        if d = 16 then .error (25, t.at') else match either E nc n (d + 1) ts0 p with
          | .error f => .error f
          | .ok (e, ts1, p1) => match want 41 ts1 with
            | .error f => .error f
            | .ok ts2 => .ok (e, ts2, p1)
      else match some' E nc (t :: ts0) p with
        | .error f => .error f
        | .ok (b, ts1, p1) => .ok (.mk 1 b [], ts1, p1)
end
structure Rule where
  does : Int
  left : Ex
  right : Ex
structure St where
  cls : List Str
  treat : List Int
  join : Int
  after : Int
  env : Env
  places : Nat
  list : List Rule
def st0 : St := ⟨[], [], 0, 0, [], 0, []⟩
def place (c : List Str) (s : Str) : Option Nat := if s ∈ c then some (c.idxOf s) else none
def addClass (s : St) (x : Str) : St := { s with cls := s.cls ++ [x], treat := s.treat ++ [(s.cls.length : Int)], env := s.env ++ [(x, 2 ^ s.cls.length)] }
def classes : List Tk → St → R (List Tk × St)
  | [], _ => .error (0, 0)
  | t :: ts, s => if t.bad = true then .error (20, t.at') else if isNm t = true then
      if (find s.env t.text).isSome = true then .error (23, t.at') else if s.cls.length = 24 then .error (24, t.at') else classes ts (addClass s t.text)
    else .ok (t :: ts, s)
/-- a name that must be next. -/
def name : List Tk → R (Tk × List Tk)
  | [] => .error (0, 0)
  | t :: ts => if t.bad = true then .error (20, t.at') else if isNm t = true then .ok (t, ts) else .error (21, t.at')
def fresh (E : Env) (ts : List Tk) : R (Tk × List Tk) :=
  match name ts with
  | .error f => .error f
  | .ok (t, ts1) => if (find E t.text).isSome = true then .error (23, t.at') else .ok (t, ts1)
def set' (ts : List Tk) (s : St) : R (List Tk × St) :=
  match fresh s.env ts with
  | .error f => .error f
  | .ok (t, ts1) => match want 61 ts1 with
    | .error f => .error f
    | .ok ts2 => match names s.env ts2 0 with
      | .error f => .error f
      | .ok (b, ts3) => .ok (ts3, { s with env := s.env ++ [(t.text, b)] })
def join' (ts : List Tk) (s : St) : R (List Tk × St) :=
  match names s.env ts 0 with
  | .error f => .error f
  | .ok (b, ts1) => match want 47 ts1 with
    | .error f => .error f
    | .ok ts2 => match names s.env ts2 0 with
      | .error f => .error f
      | .ok (c, ts3) => .ok (ts3, { s with join := bor s.join b, after := bor s.after c })
def placeOf (C : List Str) (ts : List Tk) : R (Nat × List Tk) :=
  match name ts with
  | .error f => .error f
  | .ok (t, ts1) => match place C t.text with
    | none => .error (22, t.at')
    | some k => .ok (k, ts1)
def treat' (ts : List Tk) (s : St) : R (List Tk × St) :=
  match placeOf s.cls ts with
  | .error f => .error f
  | .ok (k, ts1) => match want 61 ts1 with
    | .error f => .error f
    | .ok ts2 => match placeOf s.cls ts2 with
      | .error f => .error f
      | .ok (m, ts3) => .ok (ts3, { s with treat := s.treat.set k (m : Int) })
/-- how deep the reckoning may go. -/
def fuel (ts : List Tk) : Nat := 4 * ts.length + 8
def rule' (does : Int) (at' : Nat) (ts : List Tk) (s : St) : R (List Tk × St) :=
  if s.list.length = 24 then .error (24, at') else match either s.env s.cls.length (fuel ts) 0 ts s.places with
    | .error f => .error f
    | .ok (a, ts1, p1) => match want 47 ts1 with
      | .error f => .error f
      | .ok ts2 => match either s.env s.cls.length (fuel ts2) 0 ts2 p1 with
        | .error f => .error f
        | .ok (b, ts3, p3) => .ok (ts3, { s with places := p3, list := s.list ++ [⟨does, a, b⟩] })
def wClass : Str := [99, 108, 97, 115, 115]
def wSet : Str := [115, 101, 116]
def wJoin : Str := [106, 111, 105, 110]
def wTreat : Str := [116, 114, 101, 97, 116]
def wKeep : Str := [107, 101, 101, 112]
def wMay : Str := [109, 97, 121]
def wMust : Str := [109, 117, 115, 116]
def line (t : Tk) (ts : List Tk) (s : St) : R (List Tk × St) :=
  if t.text = wClass then classes ts s else if t.text = wSet then set' ts s else if t.text = wJoin then join' ts s else if t.text = wTreat then treat' ts s
  else if t.text = wKeep then rule' 0 t.at' ts s else if t.text = wMay then rule' 1 t.at' ts s else if t.text = wMust then rule' 2 t.at' ts s else .error (21, t.at')
def lines : Nat → List Tk → St → R St
  | 0, _, _ => .error (0, 0)
  | _ + 1, [], _ => .error (0, 0)
  | n + 1, t :: ts, s => if t.bad = true then .error (20, t.at') else if t.text = [] then .ok s else match line t ts s with
    | .error f => .error f
    | .ok (ts1, s1) => match want 59 ts1 with
      | .error f => .error f
      | .ok ts2 => lines n ts2 s1
end Rl
end Go.Proofs.Ytfbcijnacbfjpaa
