/-
  A plan as a text, in plain words (the maker of rules of small numbers); no program in it.
-/

import Derived.Test.YtahoepmnekconabSa
namespace Go.Proofs.Ytahoepmnekconab
set_option linter.unusedVariables false
set_option linter.unusedSimpArgs false
structure Pr where
  d : Nat
  la : Option Addr
  ln : Nat
  lc : Nat
  L : List Nat
  ra : Option Addr
  rn : Nat
  rc : Nat
  R : List Nat
namespace Hd
abbrev Str := List UInt8
def name (n i : Nat) : Str := [(65 + i % n).toUInt8]
def bit (b k : Nat) : Bool := decide (b / 2 ^ k % 2 = 1)
def names (n b : Nat) : Nat → Str
  | 0 => []
  | k + 1 => names n b k ++ if bit b k = true then 32 :: name n k else []
def nm1 (n b k : Nat) : Str := names n b k ++ [32]
theorem names_len (n b : Nat) : ∀ k, (names n b k).length ≤ 2 * k
  | 0 => by simp [names]
  | k + 1 => by
    have := names_len n b k
    rw [names, List.length_append]
    split
    · simp [name]; omega
    · simp; omega
end Hd
namespace Hd
def cat (x y : Str) : Str := x ++ y
theorem cat_len (x y : Str) : (cat x y).length = x.length + y.length := List.length_append
/-- the next small number. -/
def at' (L : List Nat) (i : Nat) : Nat := L[i]?.getD 0
def up (L : List Nat) (i : Nat) : Nat := if i < L.length then i + 1 else i
theorem up_le {L : List Nat} {i : Nat} (h : i ≤ L.length) : up L i ≤ L.length := by unfold up; split <;> omega
/-- an expression as a text. -/
def ex (n : Nat) (L : List Nat) : Nat → Nat → Str × Nat
  | 0, i => (name n (at' L i), up L i)
  | d + 1, i =>
    if at' L i % 12 = 4 then ([46], up L i)
    else if at' L i % 12 = 5 then (cat (cat [91] (names n (at' L (up L i)) n)) [93], up L (up L i))
    else if at' L i % 12 = 6 then (cat (cat [91, 94] (names n (at' L (up L i)) n)) [93], up L (up L i))
    else if at' L i % 12 = 7 then (cat (cat [40] (ex n L d (up L i)).1) [41, 42], (ex n L d (up L i)).2)
    else if at' L i % 12 = 8 then (cat (cat [40] (ex n L d (up L i)).1) [41, 43], (ex n L d (up L i)).2)
    else if at' L i % 12 = 9 then (cat (cat [40] (ex n L d (up L i)).1) [41, 63], (ex n L d (up L i)).2)
    else if at' L i % 12 = 10 then (cat (cat (cat (cat [40] (ex n L d (up L i)).1) [124]) (ex n L d (ex n L d (up L i)).2).1) [41], (ex n L d (ex n L d (up L i)).2).2)
    else if at' L i % 12 = 11 then (cat (cat (ex n L d (up L i)).1 [32]) (ex n L d (ex n L d (up L i)).2).1, (ex n L d (ex n L d (up L i)).2).2)
    else (name n (at' L i), up L i)
theorem ex_ok (n : Nat) (L : List Nat) (hn : n ≤ 6) : ∀ d i, i ≤ L.length → (ex n L d i).2 ≤ L.length ∧ (ex n L d i).1.length ≤ 16 * 3 ^ d
  | 0, i, hi => ⟨up_le hi, by unfold ex; simp [name]⟩
  | d + 1, i, hi => by
    have h1 := up_le hi
    have a := ex_ok n L hn d (up L i) h1
    have b := ex_ok n L hn d (ex n L d (up L i)).2 a.1
    have c := names_len n (at' L (up L i)) n
    have p : 1 ≤ 3 ^ d := Nat.one_le_pow _ _ (by omega)
    have q : 3 ^ (d + 1) = 3 * 3 ^ d := by rw [Nat.pow_succ]; omega
    unfold ex
    repeat' split
    all_goals (first | exact ⟨h1, by simp [name]; omega⟩ | exact ⟨up_le h1, by simp only [cat_len, List.length_cons, List.length_nil]; omega⟩ | exact ⟨a.1, by simp only [cat_len, List.length_cons, List.length_nil]; omega⟩ | exact ⟨b.1, by simp only [cat_len, List.length_cons, List.length_nil]; omega⟩)
end Hd
namespace Hd
/-- an expression of small numbers; nothing of none. -/
def expr (n : Nat) (L : List Nat) : Str := if L.length = 0 then [] else (ex n (L.take 30) 3 0).1
end Hd
namespace Hd
def wTreat : Str := [116, 114, 101, 97, 116, 32]
def wEq : Str := [32, 61, 32]
def wEnd : Str := [59, 10]
def wBar : Str := [32, 47, 32]
def wJoin : Str := [106, 111, 105, 110]
def wSl : Str := [32, 47]
def first (n : Nat) : Str := cat (cat [99, 108, 97, 115, 115] (names n 255 n)) [59, 10]
def second (n jo af : Nat) : Str := if jo = 0 then first n else cat (cat (cat (cat (cat (first n) [106, 111, 105, 110]) (names n jo n)) [32, 47]) (names n af n)) [59, 10]
def treat (n : Nat) (T : List Nat) (t : Str) : Nat → Str
  | 0 => t
  | k + 1 => cat (cat (cat (cat (cat (treat n T t k) [116, 114, 101, 97, 116, 32]) (name n k)) [32, 61, 32]) (name n (at' T k))) [59, 10]
def word (d : Nat) : Str := if d % 3 = 0 then [107, 101, 101, 112, 32] else if d % 3 = 1 then [109, 97, 121, 32] else [109, 117, 115, 116, 32]
def ru (n : Nat) (rs : List Pr) (t : Str) : Nat → Str
  | 0 => t
  | k + 1 => match rs[k]? with
    | none => ru n rs t k
    | some x => cat (cat (cat (cat (cat (ru n rs t k) (word x.d)) (expr n x.L)) [32, 47, 32]) (expr n x.R)) [59, 10]
def text (n jo af : Nat) (T : List Nat) (rs : List Pr) : Str := ru n rs (treat n T (second n jo af) (min T.length n)) (min rs.length 10)
theorem first_len (n : Nat) (h : n ≤ 6) : (first n).length ≤ 19 ∧ 7 ≤ (first n).length := by
  have := names_len n 255 n
  unfold first
  simp only [cat_len, List.length_cons, List.length_nil]
  omega
theorem second_len (n jo af : Nat) (h : n ≤ 6) : (second n jo af).length ≤ 51 ∧ 7 ≤ (second n jo af).length := by
  have := first_len n h
  have h1 := names_len n jo n
  have h2 := names_len n af n
  unfold second
  split
  · omega
  · simp only [cat_len, List.length_cons, List.length_nil]
    omega
theorem treat_len (n : Nat) (T : List Nat) (t : Str) : ∀ k, (treat n T t k).length = t.length + 13 * k
  | 0 => rfl
  | k + 1 => by
    rw [treat]
    simp only [cat_len, List.length_cons, List.length_nil, treat_len n T t k, name]
    omega
theorem expr_len (n : Nat) (L : List Nat) (h : n ≤ 6) : (expr n L).length ≤ 432 := by
  unfold expr
  split
  · simp
  · have := (ex_ok n (L.take 30) h 3 0 (by omega)).2
    omega
theorem word_len (d : Nat) : (word d).length ≤ 5 ∧ 4 ≤ (word d).length := by
  unfold word
  repeat' split
  all_goals simp
theorem ru_len (n : Nat) (rs : List Pr) (t : Str) (h : n ≤ 6) : ∀ k, (ru n rs t k).length ≤ t.length + 874 * k ∧ t.length ≤ (ru n rs t k).length
  | 0 => ⟨Nat.le_refl _, Nat.le_refl _⟩
  | k + 1 => by
    have ih := ru_len n rs t h k
    rw [ru]
    split
    · omega
    · rename_i x hx
      have h1 := expr_len n x.L h
      have h2 := expr_len n x.R h
      have h3 := word_len x.d
      simp only [cat_len, List.length_cons, List.length_nil]
      omega
theorem text_len (n jo af : Nat) (T : List Nat) (rs : List Pr) (h : n ≤ 6) : (text n jo af T rs).length ≤ 9000 ∧ 7 ≤ (text n jo af T rs).length := by
  have h1 := second_len n jo af h
  have h2 := treat_len n T (second n jo af) (min T.length n)
  have h3 := ru_len n rs (treat n T (second n jo af) (min T.length n)) h (min rs.length 10)
  unfold text
  omega
end Hd
end Go.Proofs.Ytahoepmnekconab
