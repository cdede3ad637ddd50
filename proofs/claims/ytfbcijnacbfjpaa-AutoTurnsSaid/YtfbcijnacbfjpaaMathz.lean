/-
  Rules as they are written, in plain words: a text's pieces, expressions, lines; no program in it.
-/
import Derived.WalkKit
import Derived.Test.YtfbcijnacbfjpaaProg
import Derived.WalkSpells
import Derived.WalkLawsBesides
import Derived.Deep.QuietTactic
import Derived.BigQuiet
import Derived.Lib.Bytealg
import Derived.Deep.RegionHeld3
import Derived.Deep.RegionWith
import Derived.BigRegion
import Derived.Below
import Derived.Deep.CutRange
namespace Go.Proofs.Ytfbcijnacbfjpaa
set_option linter.unusedVariables false
set_option linter.unusedSimpArgs false
namespace Rl
abbrev Str := List UInt8
/-- a byte of a name? -/
def isN (c : UInt8) : Bool := (decide (97 ≤ c.toNat) && decide (c.toNat ≤ 122)) || (decide (65 ≤ c.toNat) && decide (c.toNat ≤ 90)) || (decide (48 ≤ c.toNat) && decide (c.toNat ≤ 57)) || decide (c.toNat = 95)
/-- how many bytes of blanks and remarks a text begins with. -/
def blk : Bool → Str → Nat
  | _, [] => 0
  | r, c :: cs => if c.toNat = 10 then 1 + blk false cs else if r = true ∨ c.toNat = 32 ∨ c.toNat = 9 ∨ c.toNat = 13 then 1 + blk r cs else if c.toNat = 35 then 1 + blk true cs else 0
/-- how many bytes of a name a text begins with. -/
def nml : Str → Nat
  | [] => 0
  | c :: cs => if isN c = true then 1 + nml cs else 0
def signs : Str := [40, 41, 91, 93, 94, 124, 42, 43, 63, 46, 59, 47, 61]
/-- where the next piece begins. -/
def nx (l : Str) (i : Nat) : Nat := i + blk false (l.drop i)
/-- how many bytes the piece has that a text begins with. -/
def plen (r : Str) : Nat := if 0 < nml r then nml r else match r with | [] => 0 | c :: _ => if signs.contains c = true then 1 else 0
/-- a piece: its text (none: the text's end, or a byte that begins nothing), its place. -/
structure Tk where
  text : Str
  at' : Nat
  bad : Bool
  deriving DecidableEq
def tk (l : Str) (i : Nat) : Tk := ⟨(l.drop (nx l i)).take (plen (l.drop (nx l i))), nx l i, decide (l.drop (nx l i) ≠ [] ∧ plen (l.drop (nx l i)) = 0)⟩
/-- a text's pieces from a place on. -/
def Strm (l : Str) : Nat → List Tk → Prop
  | _, [] => False
  | i, t :: ts => t = tk l i ∧ (if t.text = [] then ts = [] else Strm l (t.at' + t.text.length) ts)

theorem blk_le : ∀ (r : Bool) (l : Str), blk r l ≤ l.length
  | _, [] => Nat.le_refl _
  | r, c :: cs => by
    have h1 := blk_le false cs
    have h2 := blk_le r cs
    have h3 := blk_le true cs
    unfold blk
    simp only [List.length_cons]
    split
    · omega
    · split
      · omega
      · split <;> omega
theorem nml_le : ∀ l : Str, nml l ≤ l.length
  | [] => Nat.le_refl _
  | c :: cs => by
    have h1 := nml_le cs
    unfold nml
    simp only [List.length_cons]
    split <;> omega
theorem plen_le (l : Str) : plen l ≤ l.length := by
  unfold plen
  split
  · exact nml_le l
  · cases l with
    | nil => simp
    | cons c cs => simp only [List.length_cons]; split <;> omega
theorem nx_le (l : Str) (i : Nat) (h : i ≤ l.length) : nx l i ≤ l.length := by
  unfold nx
  have := blk_le false (l.drop i)
  rw [List.length_drop] at this
  omega
theorem nx_ge (l : Str) (i : Nat) : i ≤ nx l i := Nat.le_add_right _ _
theorem blk_cons (r : Bool) (c : UInt8) (cs : Str) : blk r (c :: cs) = if c.toNat = 10 then 1 + blk false cs else if r = true ∨ c.toNat = 32 ∨ c.toNat = 9 ∨ c.toNat = 13 then 1 + blk r cs else if c.toNat = 35 then 1 + blk true cs else 0 := rfl
theorem nml_cons (c : UInt8) (cs : Str) : nml (c :: cs) = if isN c = true then 1 + nml cs else 0 := rfl
theorem blk_drop : ∀ (r : Bool) (l : Str), blk false (l.drop (blk r l)) = 0
  | r, [] => by simp [blk]
  | r, c :: cs => by
    have h1 := blk_drop false cs
    have h2 := blk_drop r cs
    have h3 := blk_drop true cs
    rw [blk_cons r c cs]
    split
    · rw [Nat.add_comm, List.drop_succ_cons]; exact h1
    · split
      · rw [Nat.add_comm, List.drop_succ_cons]; exact h2
      · split
        · rw [Nat.add_comm, List.drop_succ_cons]; exact h3
        · rename_i a b d
          rw [List.drop_zero]
          rw [blk_cons, if_neg a, if_neg (fun h => b (h.elim (fun h => absurd h (by simp)) Or.inr)), if_neg d]
theorem nx_idem (l : Str) (i : Nat) : nx l (nx l i) = nx l i := by
  have := blk_drop false (l.drop i)
  rw [List.drop_drop] at this
  show nx l i + blk false (l.drop (nx l i)) = nx l i
  unfold nx
  rw [this]; rfl
theorem tk_nx (l : Str) (i : Nat) : tk l (nx l i) = tk l i := by unfold tk; rw [nx_idem]
theorem strm_nx {l : Str} {i : Nat} {ts : List Tk} (h : Strm l i ts) : Strm l (nx l i) ts := by
  cases ts with
  | nil => exact h
  | cons t ts => exact ⟨h.1.trans (tk_nx l i).symm, h.2⟩
theorem strm_one {l : Str} : ∀ {ts us : List Tk} {i : Nat}, Strm l i ts → Strm l i us → ts = us
  | [], _, _, h, _ => h.elim
  | _ :: _, [], _, _, h => h.elim
  | t :: ts, u :: us, i, h, k => by
    obtain rfl : t = u := h.1.trans k.1.symm
    have h2 := h.2
    have k2 := k.2
    by_cases e : t.text = []
    · rw [if_pos e] at h2 k2
      rw [h2, k2]
    · rw [if_neg e] at h2 k2
      rw [strm_one h2 k2]
theorem tk_len (l : Str) (i : Nat) : (tk l i).text.length = plen (l.drop (nx l i)) := by
  show ((l.drop (nx l i)).take _).length = _
  rw [List.length_take]
  have := plen_le (l.drop (nx l i))
  omega
theorem tk_end (l : Str) (i : Nat) (h : i ≤ l.length) : (tk l i).at' + (tk l i).text.length ≤ l.length := by
  rw [tk_len]
  have h1 := plen_le (l.drop (nx l i))
  rw [List.length_drop] at h1
  have h2 := nx_le l i h
  show nx l i + _ ≤ _
  omega
theorem strm_some (l : Str) : ∀ (n i : Nat), l.length - i < n → i ≤ l.length → ∃ ts, Strm l i ts
  | 0, _, h, _ => absurd h (Nat.not_lt_zero _)
  | n + 1, i, h, hi => by
    by_cases e : (tk l i).text = []
    · exact ⟨[tk l i], rfl, by rw [if_pos e]⟩
    · have h1 := tk_end l i hi
      have h2 : 0 < (tk l i).text.length := List.length_pos_iff.2 e
      have h3 : i ≤ (tk l i).at' := nx_ge l i
      obtain ⟨ts, h4⟩ := strm_some l n ((tk l i).at' + (tk l i).text.length) (by omega) h1
      exact ⟨tk l i :: ts, rfl, by rw [if_neg e]; exact h4⟩
theorem strm_bad {l : Str} {i : Nat} {t : Tk} {ts : List Tk} (h : Strm l i (t :: ts)) (hb : t.bad = true) : t.text = [] := by
  rw [h.1] at hb ⊢
  have := of_decide_eq_true hb
  apply List.length_eq_zero_iff.1
  rw [tk_len]
  exact this.2
/-- the pieces behind one that is none of the two ends. -/
theorem strm_tail {l : Str} {i : Nat} {t : Tk} {ts : List Tk} (h : Strm l i (t :: ts)) (he : t.text ≠ []) : Strm l (t.at' + t.text.length) ts := by
  have := h.2
  rw [if_neg he] at this
  exact this
theorem strm_at {l : Str} {i : Nat} {t : Tk} {ts : List Tk} (h : Strm l i (t :: ts)) : t.at' = nx l i := by rw [h.1]; rfl

/-- expressions. -/
inductive Ex where
  | mk (op set : Int) (kids : List Ex)
abbrev Ft := Nat × Nat
abbrev R (α : Type) := Except Ft α
/-- the names that are declared, and their classes as bits. -/
abbrev Env := List (Str × Int)
def find : Env → Str → Option Int
  | [], _ => none
  | (s, b) :: E, x => if s = x then some b else find E x
def isNm (t : Tk) : Bool := decide (0 < nml t.text)
def beg (t : Tk) : Bool := isNm t || decide (t.text = [46]) || decide (t.text = [91]) || decide (t.text = [40])
def bor (a b : Int) : Int := bits .or .u32 a b
def without (a b : Int) : Int := bits .andNot .u32 a b
def whole (n : Nat) : Int := 2 ^ n - 1
def took (c : UInt8) : List Tk → R (Bool × List Tk)
  | [] => .error (0, 0)
  | t :: ts => if t.bad = true then .error (20, t.at') else if t.text = [c] then .ok (true, ts) else .ok (false, t :: ts)
def want (c : UInt8) : List Tk → R (List Tk)
  | [] => .error (0, 0)
  | t :: ts => if t.bad = true then .error (20, t.at') else if t.text = [c] then .ok ts else .error (21, t.at')
def names (E : Env) : List Tk → Int → R (Int × List Tk)
  | [], _ => .error (0, 0)
  | t :: ts, acc => if t.bad = true then .error (20, t.at') else if isNm t = true then
      match find E t.text with
      | none => .error (22, t.at')
      | some b => names E ts (bor acc b)
    else .ok (acc, t :: ts)
def some' (E : Env) (nc : Nat) : List Tk → Nat → R (Int × List Tk × Nat)
  | [], _ => .error (0, 0)
  | t :: ts, p => if p = 200 then .error (26, t.at') else if t.text = [46] then .ok (whole nc, ts, p + 1) else if t.text = [91] then
      match took 94 ts with
      | .error f => .error f
      | .ok (no, ts1) => match names E ts1 0 with
        | .error f => .error f
        | .ok (b, ts2) => match want 93 ts2 with
          | .error f => .error f
          | .ok ts3 => .ok (if no = true then without (whole nc) b else b, ts3, p + 1)
    else match find E t.text with
      | none => .error (22, t.at')
      | some b => .ok (b, ts, p + 1)
def often (e : Ex) : List Tk → R (Ex × List Tk)
  | [] => .error (0, 0)
  | t :: ts => if t.bad = true then .error (20, t.at') else if t.text = [42] then .ok (.mk 4 0 [e], ts) else if t.text = [43] then .ok (.mk 5 0 [e], ts) else if t.text = [63] then .ok (.mk 6 0 [e], ts) else .ok (e, t :: ts)
def mkAlt : List Ex → Ex
  | [e] => e
  | l => .mk 3 0 l
def mkSeq : List Ex → Ex
  | [] => .mk 0 0 []
  | [e] => e
  | l => .mk 2 0 l
mutual
def either (E : Env) (nc : Nat) : Nat → Nat → List Tk → Nat → R (Ex × List Tk × Nat)
  | 0, _, _, _ => .error (0, 0)
  | n + 1, d, ts, p => match row E nc n d ts p [] with
    | .error f => .error f
    | .ok (e, ts1, p1) => alts E nc n d ts1 p1 [e]
def alts (E : Env) (nc : Nat) : Nat → Nat → List Tk → Nat → List Ex → R (Ex × List Tk × Nat)
  | 0, _, _, _, _ => .error (0, 0)
  | n + 1, d, ts, p, l => match took 124 ts with
    | .error f => .error f
    | .ok (false, ts1) => .ok (mkAlt l, ts1, p)
    | .ok (true, ts1) => match row E nc n d ts1 p [] with
      | .error f => .error f
      | .ok (e, ts2, p2) => alts E nc n d ts2 p2 (l ++ [e])
def row (E : Env) (nc : Nat) : Nat → Nat → List Tk → Nat → List Ex → R (Ex × List Tk × Nat)
  | 0, _, _, _, _ => .error (0, 0)
  | n + 1, d, ts, p, l => match ts with
    | [] => .error (0, 0)
    | t :: ts0 => if t.bad = true then .error (20, t.at') else if beg t = true then
        match thing E nc n d (t :: ts0) p with
        | .error f => .error f
        | .ok (e, ts1, p1) => match often e ts1 with
          | .error f => .error f
          | .ok (e2, ts2) => row E nc n d ts2 p1 (l ++ [e2])
      else .ok (mkSeq l, t :: ts0, p)
def thing (E : Env) (nc : Nat) : Nat → Nat → List Tk → Nat → R (Ex × List Tk × Nat)
  | 0, _, _, _ => .error (0, 0)
  | n + 1, d, ts, p => match ts with
    | [] => .error (0, 0)
    | t :: ts0 => if t.text = [40] then
        if d = 16 then .error (25, t.at') else match either E nc n (d + 1) ts0 p with
          | .error f => .error f
          | .ok (e, ts1, p1) => match want 41 ts1 with
            | .error f => .error f
            | .ok ts2 => .ok (e, ts2, p1)
      else match some' E nc (t :: ts0) p with
        | .error f => .error f
        | .ok (b, ts1, p1) => .ok (.mk 1 b [], ts1, p1)
end
structure Rule where
  does : Int
  left : Ex
  right : Ex
structure St where
  cls : List Str
  treat : List Int
  join : Int
  after : Int
  env : Env
  places : Nat
  list : List Rule
def st0 : St := ⟨[], [], 0, 0, [], 0, []⟩
def place (c : List Str) (s : Str) : Option Nat := if s ∈ c then some (c.idxOf s) else none
def addClass (s : St) (x : Str) : St := { s with cls := s.cls ++ [x], treat := s.treat ++ [(s.cls.length : Int)], env := s.env ++ [(x, 2 ^ s.cls.length)] }
def classes : List Tk → St → R (List Tk × St)
  | [], _ => .error (0, 0)
  | t :: ts, s => if t.bad = true then .error (20, t.at') else if isNm t = true then
      if (find s.env t.text).isSome = true then .error (23, t.at') else if s.cls.length = 24 then .error (24, t.at') else classes ts (addClass s t.text)
    else .ok (t :: ts, s)
/-- a name that must be next. -/
def name : List Tk → R (Tk × List Tk)
  | [] => .error (0, 0)
  | t :: ts => if t.bad = true then .error (20, t.at') else if isNm t = true then .ok (t, ts) else .error (21, t.at')
def fresh (E : Env) (ts : List Tk) : R (Tk × List Tk) :=
  match name ts with
  | .error f => .error f
  | .ok (t, ts1) => if (find E t.text).isSome = true then .error (23, t.at') else .ok (t, ts1)
def set' (ts : List Tk) (s : St) : R (List Tk × St) :=
  match fresh s.env ts with
  | .error f => .error f
  | .ok (t, ts1) => match want 61 ts1 with
    | .error f => .error f
    | .ok ts2 => match names s.env ts2 0 with
      | .error f => .error f
      | .ok (b, ts3) => .ok (ts3, { s with env := s.env ++ [(t.text, b)] })
def join' (ts : List Tk) (s : St) : R (List Tk × St) :=
  match names s.env ts 0 with
  | .error f => .error f
  | .ok (b, ts1) => match want 47 ts1 with
    | .error f => .error f
    | .ok ts2 => match names s.env ts2 0 with
      | .error f => .error f
      | .ok (c, ts3) => .ok (ts3, { s with join := bor s.join b, after := bor s.after c })
def placeOf (C : List Str) (ts : List Tk) : R (Nat × List Tk) :=
  match name ts with
  | .error f => .error f
  | .ok (t, ts1) => match place C t.text with
    | none => .error (22, t.at')
    | some k => .ok (k, ts1)
def treat' (ts : List Tk) (s : St) : R (List Tk × St) :=
  match placeOf s.cls ts with
  | .error f => .error f
  | .ok (k, ts1) => match want 61 ts1 with
    | .error f => .error f
    | .ok ts2 => match placeOf s.cls ts2 with
      | .error f => .error f
      | .ok (m, ts3) => .ok (ts3, { s with treat := s.treat.set k (m : Int) })
/-- how deep the reckoning may go. -/
def fuel (ts : List Tk) : Nat := 4 * ts.length + 8
def rule' (does : Int) (at' : Nat) (ts : List Tk) (s : St) : R (List Tk × St) :=
  if s.list.length = 24 then .error (24, at') else match either s.env s.cls.length (fuel ts) 0 ts s.places with
    | .error f => .error f
    | .ok (a, ts1, p1) => match want 47 ts1 with
      | .error f => .error f
      | .ok ts2 => match either s.env s.cls.length (fuel ts2) 0 ts2 p1 with
        | .error f => .error f
        | .ok (b, ts3, p3) => .ok (ts3, { s with places := p3, list := s.list ++ [⟨does, a, b⟩] })
def wClass : Str := [99, 108, 97, 115, 115]
def wSet : Str := [115, 101, 116]
def wJoin : Str := [106, 111, 105, 110]
def wTreat : Str := [116, 114, 101, 97, 116]
def wKeep : Str := [107, 101, 101, 112]
def wMay : Str := [109, 97, 121]
def wMust : Str := [109, 117, 115, 116]
def line (t : Tk) (ts : List Tk) (s : St) : R (List Tk × St) :=
  if t.text = wClass then classes ts s else if t.text = wSet then set' ts s else if t.text = wJoin then join' ts s else if t.text = wTreat then treat' ts s
  else if t.text = wKeep then rule' 0 t.at' ts s else if t.text = wMay then rule' 1 t.at' ts s else if t.text = wMust then rule' 2 t.at' ts s else .error (21, t.at')
def lines : Nat → List Tk → St → R St
  | 0, _, _ => .error (0, 0)
  | _ + 1, [], _ => .error (0, 0)
  | n + 1, t :: ts, s => if t.bad = true then .error (20, t.at') else if t.text = [] then .ok s else match line t ts s with
    | .error f => .error f
    | .ok (ts1, s1) => match want 59 ts1 with
      | .error f => .error f
      | .ok ts2 => lines n ts2 s1
end Rl
end Go.Proofs.Ytfbcijnacbfjpaa
namespace Go.Proofs.Ytfbcijnacbfjpaa
set_option linter.unusedVariables false
set_option linter.unusedSimpArgs false
namespace Au
open Rl (Ex)
/-- what is known of an expression's rows. -/
structure Nd where
  none : Bool
  first : Nat
  last : Nat
/-- the places so far: their sets, and which may be the next behind each. -/
structure Pl where
  sets : List Int
  next : Nat → Nat
def pl0 : Pl := ⟨[], fun _ => 0⟩
def chain (p : Pl) (behind nx : Nat) : Pl := { p with next := fun i => if behind.testBit i = true then p.next i ||| nx else p.next i }
def seq1 (o x : Nd) : Nd := ⟨o.none && x.none, if o.none = true then o.first ||| x.first else o.first, if x.none = true then o.last ||| x.last else x.last⟩
def alt1 (o x : Nd) : Nd := ⟨o.none || x.none, o.first ||| x.first, o.last ||| x.last⟩
mutual
/-- an expression; nothing, if it has too many places. -/
def node : Ex → Pl → Option (Nd × Pl)
  | .mk op set kids, p =>
    if op = 1 then (if p.sets.length = 200 then none else some (⟨false, 2 ^ p.sets.length, 2 ^ p.sets.length⟩, { p with sets := p.sets ++ [set] }))
    else if op = 2 then seqs kids ⟨true, 0, 0⟩ p
    else if op = 3 then alts kids ⟨false, 0, 0⟩ p
    else if op = 4 then (match one kids p with | none => none | some (x, p1) => some (⟨true, x.first, x.last⟩, chain p1 x.last x.first))
    else if op = 5 then (match one kids p with | none => none | some (x, p1) => some (x, chain p1 x.last x.first))
    else if op = 6 then (match one kids p with | none => none | some (x, p1) => some (⟨true, x.first, x.last⟩, p1))
    else some (⟨true, 0, 0⟩, p)
def seqs : List Ex → Nd → Pl → Option (Nd × Pl)
  | [], o, p => some (o, p)
  | e :: es, o, p => match node e p with
    | none => none
    | some (x, p1) => seqs es (seq1 o x) (chain p1 o.last x.first)
def alts : List Ex → Nd → Pl → Option (Nd × Pl)
  | [], o, p => some (o, p)
  | e :: es, o, p => match node e p with
    | none => none
    | some (x, p1) => alts es (alt1 o x) p1
/-- the first kid, if there is one. -/
def one : List Ex → Pl → Option (Nd × Pl)
  | [], p => some (⟨false, 0, 0⟩, p)
  | e :: _, p => node e p
end
mutual
/-- an expression's places. -/
def cnt : Ex → Nat
  | .mk op set kids => if op = 1 then 1 else if op = 2 ∨ op = 3 then cnts kids else if op = 4 ∨ op = 5 ∨ op = 6 then cnt1 kids else 0
def cnts : List Ex → Nat
  | [] => 0
  | e :: es => cnt e + cnts es
def cnt1 : List Ex → Nat
  | [] => 0
  | e :: _ => cnt e
end
/-- all expressions, one behind the other. -/
def all : List Ex → List Nd → Pl → Option (List Nd × Pl)
  | [], l, p => some (l, p)
  | e :: es, l, p => match node e p with
    | none => none
    | some (x, p1) => all es (l ++ [x]) p1
/-- which places are come to behind a state. -/
def may (p : Pl) (first s : Nat) : Nat := (List.range p.sets.length).foldl (fun m i => if s.testBit i = true then m ||| p.next i else m) first
/-- the places in whose sets a class is. -/
def by' (p : Pl) (c : Nat) : Nat := (List.range p.sets.length).foldl (fun m i => if (p.sets[i]?.getD 0) / 2 ^ c % 2 = 1 then m ||| 2 ^ i else m) 0
/-- the expressions of which a row ends at a state, as bits. -/
def out (l : List Nd) (s : Nat) : Nat := (List.range l.length).foldl (fun m r => match l[r]? with | some x => if x.none = true ∨ s &&& x.last ≠ 0 then m ||| 2 ^ r else m | none => m) 0
/-- a state's ways: what is found grows; nothing, if there are too many states. -/
def ways (p : Pl) (m : Nat) : List Nat → List Nat → List Nat → Option (List Nat × List Nat)
  | [], found, w => some (found, w)
  | c :: cs, found, w =>
    if m &&& by' p c ∈ found then ways p m cs found (w ++ [found.idxOf (m &&& by' p c)])
    else if found.length = 300 then none
    else ways p m cs (found ++ [m &&& by' p c]) (w ++ [found.length])
/-- the states from the n-th on. -/
def states (p : Pl) (l : List Nd) (first classes : Nat) : Nat → Nat → List Nat → List (List Nat) → List Nat → Option (List (List Nat) × List Nat)
  | 0, _, _, nx, o => some (nx, o)
  | f + 1, n, found, nx, o => match found[n]? with
    | none => some (nx, o)
    | some s => match ways p (may p first s) (List.range classes) found [] with
      | none => none
      | some (found1, w) => states p l first classes f (n + 1) found1 (nx ++ [w]) (o ++ [out l s])
/-- how it ends: a fault's number, or an automaton. -/
def make (l : List Ex) (classes : Int) : Except Nat (List (List Nat) × List Nat) :=
  if classes < 1 ∨ 24 < classes ∨ 24 < l.length then .error 1 else match all l [] pl0 with
    | none => .error 2
    | some (nd, p) => match states p nd (nd.foldl (fun m x => m ||| x.first) 0) classes.toNat 301 0 [0] [] [] with
      | none => .error 3
      | some r => .ok r
theorem chain_len (p : Pl) (a b : Nat) : (chain p a b).sets = p.sets := rfl
/-- so many places more, or too many. -/
theorem node_cnt : (∀ (e : Ex) (p : Pl), p.sets.length ≤ 200 → (match node e p with | none => 200 < p.sets.length + cnt e | some (_, p1) => p1.sets.length = p.sets.length + cnt e ∧ p1.sets.length ≤ 200)) := by
  intro e
  apply Ex.rec (motive_1 := fun e => ∀ (p : Pl), p.sets.length ≤ 200 → (match node e p with | none => 200 < p.sets.length + cnt e | some (_, p1) => p1.sets.length = p.sets.length + cnt e ∧ p1.sets.length ≤ 200))
    (motive_2 := fun es => (∀ (o : Nd) (p : Pl), p.sets.length ≤ 200 → (match seqs es o p with | none => 200 < p.sets.length + cnts es | some (_, p1) => p1.sets.length = p.sets.length + cnts es ∧ p1.sets.length ≤ 200)) ∧ (∀ (o : Nd) (p : Pl), p.sets.length ≤ 200 → (match alts es o p with | none => 200 < p.sets.length + cnts es | some (_, p1) => p1.sets.length = p.sets.length + cnts es ∧ p1.sets.length ≤ 200)) ∧ (∀ (p : Pl), p.sets.length ≤ 200 → (match one es p with | none => 200 < p.sets.length + cnt1 es | some (_, p1) => p1.sets.length = p.sets.length + cnt1 es ∧ p1.sets.length ≤ 200)))
  · intro op set kids ⟨h1, h2, h3⟩ p hp
    unfold node cnt
    by_cases o1 : op = 1
    · rw [if_pos o1, if_pos o1]
      by_cases hf : p.sets.length = 200
      · rw [if_pos hf]
        show 200 < p.sets.length + 1
        omega
      · rw [if_neg hf]
        show (p.sets ++ [set]).length = p.sets.length + 1 ∧ (p.sets ++ [set]).length ≤ 200
        have e : (p.sets ++ [set]).length = p.sets.length + 1 := by simp
        rw [e]
        exact ⟨rfl, by omega⟩
    rw [if_neg o1, if_neg o1]
    by_cases o2 : op = 2
    · rw [if_pos o2, if_pos (Or.inl o2)]; exact h1 _ p hp
    rw [if_neg o2]
    by_cases o3 : op = 3
    · rw [if_pos o3, if_pos (Or.inr o3)]; exact h2 _ p hp
    rw [if_neg o3, if_neg (show ¬ (op = 2 ∨ op = 3) by omega)]
    have h3 := h3 p hp
    by_cases o4 : op = 4
    · rw [if_pos o4, if_pos (show op = 4 ∨ op = 5 ∨ op = 6 from Or.inl o4)]
      cases h : one kids p with
      | none => rw [h] at h3; exact h3
      | some r => rw [h] at h3; exact h3
    rw [if_neg o4]
    by_cases o5 : op = 5
    · rw [if_pos o5, if_pos (show op = 4 ∨ op = 5 ∨ op = 6 from Or.inr (Or.inl o5))]
      cases h : one kids p with
      | none => rw [h] at h3; exact h3
      | some r => rw [h] at h3; exact h3
    rw [if_neg o5]
    by_cases o6 : op = 6
    · rw [if_pos o6, if_pos (show op = 4 ∨ op = 5 ∨ op = 6 from Or.inr (Or.inr o6))]
      cases h : one kids p with
      | none => rw [h] at h3; exact h3
      | some r => rw [h] at h3; exact h3
    rw [if_neg o6, if_neg (show ¬ (op = 4 ∨ op = 5 ∨ op = 6) by omega)]
    exact ⟨rfl, hp⟩
  · refine ⟨fun o p hp => ?_, fun o p hp => ?_, fun p hp => ?_⟩
    · simp only [seqs, cnts]; exact ⟨rfl, hp⟩
    · simp only [alts, cnts]; exact ⟨rfl, hp⟩
    · simp only [one, cnt1]; exact ⟨rfl, hp⟩
  · intro e es he ⟨h1, h2, h3⟩
    refine ⟨fun o p hp => ?_, fun o p hp => ?_, fun p hp => ?_⟩
    · have he := he p hp
      simp only [seqs, cnts]
      cases h : node e p with
      | none => rw [h] at he; simp only at he ⊢; omega
      | some r =>
        obtain ⟨x, p1⟩ := r
        rw [h] at he
        simp only at he ⊢
        have k := h1 (seq1 o x) (chain p1 o.last x.first) (by rw [chain_len]; exact he.2)
        rw [chain_len] at k
        cases h5 : seqs es (seq1 o x) (chain p1 o.last x.first) with
        | none => rw [h5] at k; simp only at k ⊢; omega
        | some r2 => rw [h5] at k; obtain ⟨_, p2⟩ := r2; simp only at k ⊢; omega
    · have he := he p hp
      simp only [alts, cnts]
      cases h : node e p with
      | none => rw [h] at he; simp only at he ⊢; omega
      | some r =>
        obtain ⟨x, p1⟩ := r
        rw [h] at he
        simp only at he ⊢
        have k := h2 (alt1 o x) p1 he.2
        cases h5 : alts es (alt1 o x) p1 with
        | none => rw [h5] at k; simp only at k ⊢; omega
        | some r2 => rw [h5] at k; obtain ⟨_, p2⟩ := r2; simp only at k ⊢; omega
    · simp only [one, cnt1]
      exact he p hp
/-- whatever is known speaks of places that there are. -/
def OkP (p : Pl) : Prop := ∀ i, p.next i < 2 ^ p.sets.length ∧ (p.sets.length ≤ i → p.next i = 0)
def OkN (p : Pl) (x : Nd) : Prop := x.first < 2 ^ p.sets.length ∧ x.last < 2 ^ p.sets.length
theorem OkP.chain {p : Pl} (h : OkP p) {a b : Nat} (ha : a < 2 ^ p.sets.length) (hb : b < 2 ^ p.sets.length) : OkP (chain p a b) := by
  intro i
  show (if a.testBit i = true then p.next i ||| b else p.next i) < 2 ^ p.sets.length ∧ (p.sets.length ≤ i → (if a.testBit i = true then p.next i ||| b else p.next i) = 0)
  obtain ⟨h1, h2⟩ := h i
  by_cases e : a.testBit i = true
  · rw [if_pos e]
    refine ⟨Nat.or_lt_two_pow h1 hb, fun hi => ?_⟩
    have : a.testBit i = false := Nat.testBit_lt_two_pow (Nat.lt_of_lt_of_le ha (Nat.pow_le_pow_right (by decide) hi))
    rw [this] at e
    cases e
  · rw [if_neg e]
    exact ⟨h1, h2⟩
theorem pow_le {a b : Nat} (h : a ≤ b) : 2 ^ a ≤ 2 ^ b := Nat.pow_le_pow_right (by decide) h
theorem node_ok : ∀ (e : Ex) (p : Pl), OkP p → ∀ x p1, node e p = some (x, p1) → OkP p1 ∧ OkN p1 x ∧ p.sets.length ≤ p1.sets.length := by
  intro e
  apply Ex.rec (motive_1 := fun e => ∀ (p : Pl), OkP p → ∀ x p1, node e p = some (x, p1) → OkP p1 ∧ OkN p1 x ∧ p.sets.length ≤ p1.sets.length)
    (motive_2 := fun es => (∀ (o : Nd) (p : Pl), OkP p → OkN p o → ∀ x p1, seqs es o p = some (x, p1) → OkP p1 ∧ OkN p1 x ∧ p.sets.length ≤ p1.sets.length) ∧ (∀ (o : Nd) (p : Pl), OkP p → OkN p o → ∀ x p1, alts es o p = some (x, p1) → OkP p1 ∧ OkN p1 x ∧ p.sets.length ≤ p1.sets.length) ∧ (∀ (p : Pl), OkP p → ∀ x p1, one es p = some (x, p1) → OkP p1 ∧ OkN p1 x ∧ p.sets.length ≤ p1.sets.length))
  · intro op set kids ⟨h1, h2, h3⟩ p hp x p1 h
    have z0 : OkN p ⟨true, 0, 0⟩ := ⟨Nat.two_pow_pos _, Nat.two_pow_pos _⟩
    have z1 : OkN p ⟨false, 0, 0⟩ := ⟨Nat.two_pow_pos _, Nat.two_pow_pos _⟩
    unfold node at h
    split at h
    · split at h
      · cases h
      · injection h with h
        injection h with hx hp1
        subst hx hp1
        have e : (p.sets ++ [set]).length = p.sets.length + 1 := by simp
        refine ⟨fun i => ?_, ?_, ?_⟩
        · obtain ⟨a, b⟩ := hp i
          show p.next i < 2 ^ (p.sets ++ [set]).length ∧ ((p.sets ++ [set]).length ≤ i → p.next i = 0)
          rw [e]
          exact ⟨Nat.lt_of_lt_of_le a (pow_le (by omega)), fun hi => b (by omega)⟩
        · show 2 ^ p.sets.length < 2 ^ (p.sets ++ [set]).length ∧ 2 ^ p.sets.length < 2 ^ (p.sets ++ [set]).length
          rw [e, Nat.pow_succ]
          have := Nat.two_pow_pos p.sets.length
          omega
        · show p.sets.length ≤ (p.sets ++ [set]).length
          omega
    · split at h
      · exact h1 _ p hp z0 x p1 h
      · split at h
        · exact h2 _ p hp z1 x p1 h
        · split at h
          · cases ho : one kids p with
            | none => rw [ho] at h; cases h
            | some r =>
              obtain ⟨y, p2⟩ := r
              rw [ho] at h
              obtain ⟨a, b, c⟩ := h3 p hp y p2 ho
              injection h with h
              injection h with hx hp1
              subst hx hp1
              exact ⟨a.chain b.2 b.1, b, c⟩
          · split at h
            · cases ho : one kids p with
              | none => rw [ho] at h; cases h
              | some r =>
                obtain ⟨y, p2⟩ := r
                rw [ho] at h
                obtain ⟨a, b, c⟩ := h3 p hp y p2 ho
                injection h with h
                injection h with hx hp1
                subst hx hp1
                exact ⟨a.chain b.2 b.1, b, c⟩
            · split at h
              · cases ho : one kids p with
                | none => rw [ho] at h; cases h
                | some r =>
                  obtain ⟨y, p2⟩ := r
                  rw [ho] at h
                  obtain ⟨a, b, c⟩ := h3 p hp y p2 ho
                  injection h with h
                  injection h with hx hp1
                  subst hx hp1
                  exact ⟨a, b, c⟩
              · injection h with h
                injection h with hx hp1
                subst hx hp1
                exact ⟨hp, z0, Nat.le_refl _⟩
  · refine ⟨fun o p hp ho x p1 h => ?_, fun o p hp ho x p1 h => ?_, fun p hp x p1 h => ?_⟩
    · simp only [seqs] at h
      injection h with h
      injection h with hx hp1
      subst hx hp1
      exact ⟨hp, ho, Nat.le_refl _⟩
    · simp only [alts] at h
      injection h with h
      injection h with hx hp1
      subst hx hp1
      exact ⟨hp, ho, Nat.le_refl _⟩
    · simp only [one] at h
      injection h with h
      injection h with hx hp1
      subst hx hp1
      exact ⟨hp, ⟨Nat.two_pow_pos _, Nat.two_pow_pos _⟩, Nat.le_refl _⟩
  · intro e es he ⟨h1, h2, h3⟩
    refine ⟨fun o p hp ho x p1 h => ?_, fun o p hp ho x p1 h => ?_, fun p hp x p1 h => ?_⟩
    · simp only [seqs] at h
      cases hn : node e p with
      | none => rw [hn] at h; cases h
      | some r =>
        obtain ⟨y, p2⟩ := r
        rw [hn] at h
        obtain ⟨a, b, c⟩ := he p hp y p2 hn
        have o2 : OkN p2 o := ⟨Nat.lt_of_lt_of_le ho.1 (pow_le c), Nat.lt_of_lt_of_le ho.2 (pow_le c)⟩
        have o3 : OkN (chain p2 o.last y.first) (seq1 o y) := by
          unfold seq1 OkN
          refine ⟨?_, ?_⟩
          · show (if o.none = true then o.first ||| y.first else o.first) < 2 ^ p2.sets.length
            split
            · exact Nat.or_lt_two_pow o2.1 b.1
            · exact o2.1
          · show (if y.none = true then o.last ||| y.last else y.last) < 2 ^ p2.sets.length
            split
            · exact Nat.or_lt_two_pow o2.2 b.2
            · exact b.2
        obtain ⟨k1, k2, k3⟩ := h1 (seq1 o y) (chain p2 o.last y.first) (a.chain o2.2 b.1) o3 x p1 h
        rw [chain_len] at k3
        exact ⟨k1, k2, Nat.le_trans c k3⟩
    · simp only [alts] at h
      cases hn : node e p with
      | none => rw [hn] at h; cases h
      | some r =>
        obtain ⟨y, p2⟩ := r
        rw [hn] at h
        obtain ⟨a, b, c⟩ := he p hp y p2 hn
        have o2 : OkN p2 o := ⟨Nat.lt_of_lt_of_le ho.1 (pow_le c), Nat.lt_of_lt_of_le ho.2 (pow_le c)⟩
        obtain ⟨k1, k2, k3⟩ := h2 (alt1 o y) p2 a ⟨Nat.or_lt_two_pow o2.1 b.1, Nat.or_lt_two_pow o2.2 b.2⟩ x p1 h
        exact ⟨k1, k2, Nat.le_trans c k3⟩
    · simp only [one] at h
      exact he p hp x p1 h
end Au
end Go.Proofs.Ytfbcijnacbfjpaa
namespace Go.Proofs.Ytfbcijnacbfjpaa
open Go.RowKit
set_option linter.unusedVariables false
set_option linter.unusedSimpArgs false

theorem u8_lt (c : UInt8) : c.toNat < 256 := c.toNat_lt

set_option maxRecDepth 100000 in
set_option maxHeartbeats 1000000 in
theorem isNameByte_any (c : UInt8) (w : World) : Calls Try.prog 81 #[.int .u8 (c.toNat : Int)] w fun e w' => e = .returned (.bool (Rl.isN c)) ∧ w' = w := by
  obtain ⟨n, hn⟩ : ∃ n : Int, n = (c.toNat : Int) := ⟨_, rfl⟩
  have HN : Hid (n = (c.toNat : Int)) := hn
  have h0 : 0 ≤ n := by omega
  have h1 : n < 256 := by have := u8_lt c; omega
  rw [← hn]
  clear hn
  go_enter Try.func81, Try.ntmps81
  go_wp2
  all_goals
    go_ret
    have hn := HN.out
    subst hn
    refine ⟨congrArg (fun b => Ending.returned (.bool b)) (?_ : _ = Rl.isN c), rfl⟩
    rw [Bool.eq_iff_iff]
    simp [Rl.isN]
    try omega
theorem drop_data {s : ByteArray} {k : Nat} (h : k < s.size) : s.data.toList.drop k = s[k] :: s.data.toList.drop (k + 1) := by
  have hl : k < s.data.toList.length := by rw [← Lib.size_eq]; exact h
  rw [List.drop_eq_getElem_cons hl]
  rfl
end Go.Proofs.Ytfbcijnacbfjpaa
namespace Go.Proofs.Ytfbcijnacbfjpaa
open Go.RowKit
set_option linter.unusedVariables false
set_option linter.unusedSimpArgs false

set_option maxRecDepth 100000 in
set_option maxHeartbeats 1000000 in
theorem nameLen_any (s : ByteArray) (w : World) (hs : s.size < 4294967296) : Calls Try.prog 68 #[.string s] w fun e w' => e = .returned (.int .i64 (Rl.nml s.data.toList : Nat)) ∧ w' = w := by
  go_enter Try.func68, Try.ntmps68
  go_wp2_with fail
  go_loopw [3] (fun i wr => ∃ (k : Nat), k ≤ s.size ∧ i = .int .i64 (k : Int) ∧ Hid (Rl.nml s.data.toList = k + Rl.nml (s.data.toList.drop k)) ∧ w = wr) (fun i _ => s.size - (intOf i).toNat)
  case atStart => exact ⟨0, Nat.zero_le _, rfl, (by simp : Rl.nml s.data.toList = 0 + Rl.nml (s.data.toList.drop 0)), rfl⟩
  case round =>
    obtain ⟨k, hk, rfl, hB, rfl⟩ := hrel
    by_cases hlt : k < s.size
    · have t1 : (k : Int) < (s.size : Int) := by omega
      have hd : Hid (s.data.toList.drop k = s[k] :: s.data.toList.drop (k + 1)) := drop_data hlt
      by_cases hc : Rl.isN s[k] = true
      · have hc' : Hid (Rl.isN s[k] = true) := hc
        go_wp2_with (go_at_call 81; refine (isNameByte_any s[k] _).mono ?_; rintro e w' ⟨rfl, rfl⟩)
        go_roundw
        case rel => exact ⟨k + 1, by omega, by go_num, (by have := hB.out; rw [hd.out, Rl.nml_cons, if_pos hc'.out] at this; omega : Rl.nml s.data.toList = (k + 1) + Rl.nml (s.data.toList.drop (k + 1))), (by first | rfl | trivial)⟩
        case measure => simp [intOf]; omega
      · have hc2 : Rl.isN s[k] = false := by simpa using hc
        have hc' : Hid (Rl.isN s[k] = false) := hc2
        clear hc
        go_wp2_with (go_at_call 81; refine (isNameByte_any s[k] _).mono ?_; rintro e w' ⟨rfl, rfl⟩)
        go_ret
        refine ⟨?_, rfl⟩
        have := hB.out
        rw [hd.out, Rl.nml_cons, if_neg (by rw [hc'.out]; simp)] at this
        rw [this]; rfl
    · have t1 : ¬ (k : Int) < (s.size : Int) := by omega
      have t2 : decide ((k : Int) < (s.size : Int)) = false := decide_eq_false t1
      go_wp2_with fail
      go_ret
      refine ⟨?_, rfl⟩
      have := hB.out
      rw [List.drop_of_length_le (by rw [← Lib.size_eq]; omega)] at this
      rw [this]; rfl

set_option maxRecDepth 100000 in
set_option maxHeartbeats 2000000 in
theorem blanks_any (s : ByteArray) (w : World) (hs : s.size < 4294967296) : Calls Try.prog 67 #[.string s] w fun e w' => e = .returned (.int .i64 (Rl.blk false s.data.toList : Nat)) ∧ w' = w := by
  go_enter Try.func67, Try.ntmps67
  go_wp2_with fail
  go_loopw [3, 4] (fun i r wr => ∃ (k : Nat) (b : Bool), k ≤ s.size ∧ i = .int .i64 (k : Int) ∧ r = .bool b ∧ Hid (Rl.blk false s.data.toList = k + Rl.blk b (s.data.toList.drop k)) ∧ w = wr) (fun i _ _ => s.size - (intOf i).toNat)
  case atStart => exact ⟨0, false, Nat.zero_le _, rfl, rfl, (by simp : Rl.blk false s.data.toList = 0 + Rl.blk false (s.data.toList.drop 0)), rfl⟩
  case round =>
    obtain ⟨k, b, hk, rfl, rfl, hB, rfl⟩ := hrel
    by_cases hlt : k < s.size
    · have t1 : (k : Int) < (s.size : Int) := by omega
      have hd := drop_data hlt
      have hE : Hid (Rl.blk false s.data.toList = k + (if s[k].toNat = 10 then 1 + Rl.blk false (s.data.toList.drop (k + 1)) else if b = true ∨ s[k].toNat = 32 ∨ s[k].toNat = 9 ∨ s[k].toNat = 13 then 1 + Rl.blk b (s.data.toList.drop (k + 1)) else if s[k].toNat = 35 then 1 + Rl.blk true (s.data.toList.drop (k + 1)) else 0)) := by
        have := hB.out
        rw [hd, Rl.blk_cons] at this
        exact this
      clear hd hB
      obtain ⟨c, hc⟩ : ∃ c : Nat, c = s[k].toNat := ⟨_, rfl⟩
      have HC : Hid (c = s[k].toNat) := hc
      rw [← hc] at hE
      by_cases c10 : c = 10
      · have q10 : ((s[k].toNat : Int) == 10) = true := by rw [← hc]; simp; omega
        clear hc
        go_wp2
        exact ⟨⟨k + 1, false, by omega, by go_num, rfl, (by have hh := hE.out; rw [if_pos c10] at hh; omega : Rl.blk false s.data.toList = (k + 1) + Rl.blk false (s.data.toList.drop (k + 1))), (by first | rfl | trivial)⟩, by simp [intOf]; omega⟩
      · have q10 : ((s[k].toNat : Int) == 10) = false := by rw [← hc]; simp; omega
        by_cases cb : b = true ∨ c = 32 ∨ c = 9 ∨ c = 13
        · have hh : Hid (Rl.blk false s.data.toList = (k + 1) + Rl.blk b (s.data.toList.drop (k + 1))) := (by have hh := hE.out; rw [if_neg c10, if_pos cb] at hh; omega : Rl.blk false s.data.toList = (k + 1) + Rl.blk b (s.data.toList.drop (k + 1)))
          rcases cb with rfl | e | e | e
          · clear hc
            go_wp2
            exact ⟨⟨k + 1, true, by omega, by go_num, rfl, hh, (by first | rfl | trivial)⟩, by simp [intOf]; omega⟩
          all_goals
            cases b
            · go_wp2
              all_goals first | exact ⟨⟨k + 1, false, by omega, by go_num, rfl, hh, (by first | rfl | trivial)⟩, by simp [intOf]; omega⟩ | (exfalso; have h' := HC.out; simp_all <;> omega)
            · go_wp2
              exact ⟨⟨k + 1, true, by omega, by go_num, rfl, hh, (by first | rfl | trivial)⟩, by simp [intOf]; omega⟩
        · have hh : Hid (Rl.blk false s.data.toList = k + (if c = 35 then 1 + Rl.blk true (s.data.toList.drop (k + 1)) else 0)) := (by have hh := hE.out; rw [if_neg c10, if_neg cb] at hh; exact hh : Rl.blk false s.data.toList = k + (if c = 35 then 1 + Rl.blk true (s.data.toList.drop (k + 1)) else 0))
          simp only [not_or, Bool.not_eq_true] at cb
          obtain ⟨rfl, e1, e2, e3⟩ := cb
          have q1 : ((s[k].toNat : Int) == 32) = false := by rw [← hc]; simp; omega
          have q2 : ((s[k].toNat : Int) == 9) = false := by rw [← hc]; simp; omega
          have q3 : ((s[k].toNat : Int) == 13) = false := by rw [← hc]; simp; omega
          by_cases c35 : c = 35
          · have q4 : ((s[k].toNat : Int) == 35) = true := by rw [← hc]; simp; omega
            clear hc
            go_wp2
            exact ⟨⟨k + 1, true, by omega, by go_num, rfl, (by have hh := hh.out; rw [if_pos c35] at hh; omega : Rl.blk false s.data.toList = (k + 1) + Rl.blk true (s.data.toList.drop (k + 1))), (by first | rfl | trivial)⟩, by simp [intOf]; omega⟩
          · have q4 : ((s[k].toNat : Int) == 35) = false := by rw [← hc]; simp; omega
            clear hc
            go_wp2
            go_ret
            refine ⟨?_, rfl⟩
            have hh := hh.out
            rw [if_neg c35] at hh
            rw [hh]; rfl
    · have t1 : ¬ (k : Int) < (s.size : Int) := by omega
      have t2 : decide ((k : Int) < (s.size : Int)) = false := decide_eq_false t1
      go_wp2_with fail
      go_ret
      refine ⟨?_, rfl⟩
      have := hB.out
      rw [List.drop_of_length_le (by rw [← Lib.size_eq]; omega)] at this
      rw [this]; rfl
end Go.Proofs.Ytfbcijnacbfjpaa
namespace Go.Proofs.Ytfbcijnacbfjpaa
open Go.RowKit
set_option linter.unusedVariables false
set_option linter.unusedSimpArgs false

/-- w' is w with new blocks, and with writes to the blocks of S alone. -/
structure Only (S : Nat → Prop) (w w' : World) : Prop where
  os : w'.os = w.os
  tape : w'.tape = w.tape
  output : w'.output = w.output
  size : w.heap.size ≤ w'.heap.size
  block : ∀ g, g < w.heap.size → ¬ S g → w'.heap[g]? = w.heap[g]?
theorem Only.refl (S : Nat → Prop) (w : World) : Only S w w := ⟨rfl, rfl, rfl, Nat.le_refl _, fun _ _ _ => rfl⟩
theorem Only.trans {S : Nat → Prop} {a b c : World} (h : Only S a b) (k : Only S b c) : Only S a c :=
  ⟨k.os.trans h.os, k.tape.trans h.tape, k.output.trans h.output, Nat.le_trans h.size k.size, fun g hg hS => (k.block g (Nat.lt_of_lt_of_le hg h.size) hS).trans (h.block g hg hS)⟩
theorem Only.alloc {S : Nat → Prop} {a w : World} (h : Only S a w) (o : Obj) : Only S a (w.alloc o) :=
  h.trans ⟨rfl, rfl, rfl, by simp, fun g hg _ => Below.heap_alloc _ _ _ hg⟩
theorem Only.setCell {S : Nat → Prop} {a w : World} (h : Only S a w) {p : Addr} (hp : S p.block) (u : Value) : Only S a (w.setCell p u) :=
  h.trans ⟨rfl, rfl, rfl, by simp [World.setCell], fun g hg hS => Below.heap_setCell _ _ _ _ (fun e => hS (e ▸ hp))⟩
theorem Only.setNew {S : Nat → Prop} {a w : World} (h : Only S a w) {p : Addr} (hp : a.heap.size ≤ p.block) (u : Value) : Only S a (w.setCell p u) :=
  ⟨h.os, h.tape, h.output, by simp [World.setCell]; exact h.size, fun g hg hS => (Below.heap_setCell _ _ _ _ (fun e => by omega)).trans (h.block g hg hS)⟩
theorem Only.grown {S : Nat → Prop} {a w w' : World} {row : Option Nat} (h : Only S a w) (hg : w.grownBy w' row) (hr : ∀ k, row = some k → S k) : Only S a w' :=
  h.trans ⟨hg.os, hg.tape, hg.output, hg.size, fun g hgl hS => hg.block g hgl (fun e => hS (hr g e.symm))⟩
theorem Only.drew {S : Nat → Prop} {a w : World} (h : Only S a w) : Only S a w.drew := ⟨h.os, h.tape, h.output, h.size, h.block⟩
theorem Only.drewN {S : Nat → Prop} {a w : World} (h : Only S a w) (n : Nat) : Only S a (w.drewN n) := ⟨h.os, h.tape, h.output, h.size, h.block⟩
theorem Only.below {S : Nat → Prop} {a w : World} {B : Nat} (h : Only S a w) (hB : B ≤ a.heap.size) (hS : ∀ g, S g → B ≤ g) : Below B a w :=
  ⟨h.os, h.tape, h.output, h.size, fun g hg => h.block g (by omega) (fun hs => by have := hS g hs; omega)⟩
theorem Only.mono {S S' : Nat → Prop} {a w : World} (h : Only S a w) (hS : ∀ g, S g → S' g) : Only S' a w := ⟨h.os, h.tape, h.output, h.size, fun g hg hn => h.block g hg (fun hs => hn (hS g hs))⟩

def bs (l : Rl.Str) : ByteArray := ⟨l.toArray⟩
theorem bs_data (l : Rl.Str) : (bs l).data.toList = l := rfl
theorem bs_of (s : ByteArray) : bs s.data.toList = s := Lib.mk_data s
/-- what a reader holds besides its text and its place. -/
structure Rd where
  vC : Value
  j : Int
  a : Int
  vT : Value
  vL : Value
  mb : Nat
  pl : Int
  op : Int
def rdC (S : ByteArray) (i : Int) (x : Rd) : Array Value := #[.string S, .int .i64 i, x.vC, .int .u32 x.j, .int .u32 x.a, x.vT, x.vL, .map (some x.mb), .int .i64 x.pl, .int .i64 x.op]
def Rdr (w : World) (rb : Nat) (S : ByteArray) (i : Int) (x : Rd) : Prop := w.heap[rb]? = some (.cells (rdC S i x) 101 (0, 0))
def thr (c i : Nat) : List PanicEntry := [{ v := .iface 63 (.agg #[.int .i64 (c : Int), .int .i64 (i : Int)]), recovered := false }]

/-- how next ends at a piece. -/
def nextE (t : Rl.Tk) : Ending := if t.bad = true then .panicked (thr 20 t.at') else .returned (.agg #[.string (bs t.text), .int .i64 (t.at' : Int)])
theorem throw_any (c i : Nat) (w : World) : Calls Try.prog 52 #[.int .i64 (c : Int), .int .i64 (i : Int)] w fun e w' => e = .panicked (thr c i) ∧ w' = w := by
  go_enter Try.func52, Try.ntmps52
  go_wp2
  exact ⟨rfl, rfl, rfl⟩

theorem cell_of_row (w : World) (b i : Nat) (cs : Array Value) (t : TypeId) (z : Nat × Nat) (h : w.heap[b]? = some (.cells cs t z)) : w.cell? ⟨b, i, none⟩ = cs[i]? := by
  simp [World.cell?, h]
theorem Rdr.cell {w : World} {rb : Nat} {S : ByteArray} {i : Int} {x : Rd} (h : Rdr w rb S i x) (k : Nat) {v : Value} (hv : (rdC S i x)[k]? = some v) : w.cell? ⟨rb, k, none⟩ = some v := (cell_of_row _ _ _ _ _ _ h).trans hv
theorem Rdr.lt {w : World} {rb : Nat} {S : ByteArray} {i : Int} {x : Rd} (h : Rdr w rb S i x) : rb < w.heap.size := (Array.getElem?_eq_some_iff.1 h).1

theorem Rdr.c0 {w : World} {rb : Nat} {S : ByteArray} {i : Int} {x : Rd} (h : Rdr w rb S i x) : w.cell? ⟨rb, 0, none⟩ = some (.string S) := h.cell 0 rfl
theorem Rdr.c1 {w : World} {rb : Nat} {S : ByteArray} {i : Int} {x : Rd} (h : Rdr w rb S i x) : w.cell? ⟨rb, 1, none⟩ = some (.int .i64 i) := h.cell 1 rfl
theorem Rdr.c2 {w : World} {rb : Nat} {S : ByteArray} {i : Int} {x : Rd} (h : Rdr w rb S i x) : w.cell? ⟨rb, 2, none⟩ = some (x.vC) := h.cell 2 rfl
theorem Rdr.c3 {w : World} {rb : Nat} {S : ByteArray} {i : Int} {x : Rd} (h : Rdr w rb S i x) : w.cell? ⟨rb, 3, none⟩ = some (.int .u32 x.j) := h.cell 3 rfl
theorem Rdr.c4 {w : World} {rb : Nat} {S : ByteArray} {i : Int} {x : Rd} (h : Rdr w rb S i x) : w.cell? ⟨rb, 4, none⟩ = some (.int .u32 x.a) := h.cell 4 rfl
theorem Rdr.c5 {w : World} {rb : Nat} {S : ByteArray} {i : Int} {x : Rd} (h : Rdr w rb S i x) : w.cell? ⟨rb, 5, none⟩ = some (x.vT) := h.cell 5 rfl
theorem Rdr.c6 {w : World} {rb : Nat} {S : ByteArray} {i : Int} {x : Rd} (h : Rdr w rb S i x) : w.cell? ⟨rb, 6, none⟩ = some (x.vL) := h.cell 6 rfl
theorem Rdr.c7 {w : World} {rb : Nat} {S : ByteArray} {i : Int} {x : Rd} (h : Rdr w rb S i x) : w.cell? ⟨rb, 7, none⟩ = some (.map (some x.mb)) := h.cell 7 rfl
theorem Rdr.c8 {w : World} {rb : Nat} {S : ByteArray} {i : Int} {x : Rd} (h : Rdr w rb S i x) : w.cell? ⟨rb, 8, none⟩ = some (.int .i64 x.pl) := h.cell 8 rfl
theorem Rdr.c9 {w : World} {rb : Nat} {S : ByteArray} {i : Int} {x : Rd} (h : Rdr w rb S i x) : w.cell? ⟨rb, 9, none⟩ = some (.int .i64 x.op) := h.cell 9 rfl
theorem Rdr.fz {w : World} {rb : Nat} {S : ByteArray} {i : Int} {x : Rd} (h : Rdr w rb S i x) (k : Nat) : w.frozen? ⟨rb, k, none⟩ = false := by simp [World.frozen?, show w.heap[rb]? = _ from h]
theorem Rdr.only {w w' : World} {rb : Nat} {S : ByteArray} {i : Int} {x : Rd} {P : Nat → Prop} (h : Rdr w rb S i x) (ho : Only P w w') (hn : ¬ P rb) : Rdr w' rb S i x := (ho.block rb h.lt hn).trans h
theorem heap_setCell_at {w : World} {b k : Nat} {cs : Array Value} {t : TypeId} {z : Nat × Nat} (h : w.heap[b]? = some (.cells cs t z)) (v : Value) : (w.setCell ⟨b, k, none⟩ v).heap[b]? = some (.cells (cs.setIfInBounds k v) t z) := by
  obtain ⟨hb, e⟩ := Array.getElem?_eq_some_iff.1 h
  simp [World.setCell, hb, Array.getElem_modify, e]
theorem Rdr.set1 {w : World} {rb : Nat} {S : ByteArray} {i : Int} {x : Rd} (h : Rdr w rb S i x) (i' : Int) : Rdr (w.setCell ⟨rb, 1, none⟩ (.int .i64 i')) rb S i' x := heap_setCell_at h _
theorem Rdr.alloc {w : World} {rb : Nat} {S : ByteArray} {i : Int} {x : Rd} (h : Rdr w rb S i x) (o : Obj) : Rdr (w.alloc o) rb S i x := (Below.heap_alloc _ _ _ h.lt).trans h

theorem callFunc70 (s : ByteArray) (c : Int) (w : World) : (callFunc 89 #[.string s, .int .u8 c]).run Try.prog w = .ok (.value (.int .i64 (Lib.indexByte s.data.toList c.toNat.toUInt8))) w := by
  rw [run_callFunc_extern Try.func89 (by kernel_rfl) (by kernel_rfl) (by kernel_rfl) (e := Extern.BytealgIndexByte.indexByte) (by kernel_rfl), Lib.run_indexByteString]
  rfl
theorem indexByte_any (s : ByteArray) (c : UInt8) (w : World) : Calls Try.prog 69 #[.string s, .int .u8 (c.toNat : Int)] w fun e w' => e = .returned (.int .i64 (Lib.indexByte s.data.toList c)) ∧ w' = w := by
  have h70 := callFunc70 s (c.toNat : Int)
  have hc : (c.toNat : Int).toNat.toUInt8 = c := by simp
  rw [hc] at h70
  go_enter Try.func69, Try.ntmps69
  go_wp2
  go_ret
  exact ⟨rfl, rfl⟩
theorem indexByte_has : ∀ (l : List UInt8) (c : UInt8), (0 ≤ Lib.indexByte l c) ↔ l.contains c = true
  | [], c => by simp [Lib.indexByte]
  | b :: l, c => by
    have ih := indexByte_has l c
    have hge := Lib.indexByte_ge l c
    unfold Lib.indexByte
    rw [List.contains_cons]
    by_cases e : b = c
    · subst e; simp
    · have e1 : (b == c) = false := by simpa using e
      have e2 : (c == b) = false := by simpa using fun h : c = b => e h.symm
      rw [e1, e2, Bool.false_or, if_neg (by simp), ← ih]
      by_cases e3 : Lib.indexByte l c = -1
      · rw [e3]; simp
      · rw [if_neg (by simpa using e3)]; omega
theorem extract_take (r : ByteArray) (n : Nat) : r.extract 0 n = bs (r.data.toList.take n) := by
  rw [Lib.extract_eq]; simp [bs]
theorem Rdr.setOther {w : World} {rb : Nat} {S : ByteArray} {i : Int} {x : Rd} (h : Rdr w rb S i x) {p : Addr} (hp : p.block ≠ rb) (v : Value) : Rdr (w.setCell p v) rb S i x := (Below.heap_setCell _ _ _ _ (fun e => hp e.symm)).trans h
theorem Rdr.drewN {w : World} {rb : Nat} {S : ByteArray} {i : Int} {x : Rd} (h : Rdr w rb S i x) (n : Nat) : Rdr (w.drewN n) rb S i x := h
theorem Rdr.drew {w : World} {rb : Nat} {S : ByteArray} {i : Int} {x : Rd} (h : Rdr w rb S i x) : Rdr w.drew rb S i x := h
end Go.Proofs.Ytfbcijnacbfjpaa
