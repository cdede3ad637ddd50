/-
  Texts that are changed, in plain words; no walk in it. (For layers 19, 21, 23.)
-/
import Derived.Below
namespace Go.Proofs.Ytegoadhnilmchaa
set_option linter.unusedVariables false
set_option linter.unusedSimpArgs false
namespace Ed
theorem dropL {l m : List Nat} {n : Nat} (h : l.length = n) : (l ++ m).drop n = m := by
  subst h
  simp
theorem takeL {l m : List Nat} {n : Nat} (h : l.length = n) : (l ++ m).take n = l := by
  subst h
  simp
/-- a text without d bytes from a on, with others there. -/
def spl (b : List Nat) (a d : Nat) (ins : List Nat) : List Nat := b.take a ++ (ins ++ b.drop (a + d))
/-- what went. -/
def gone (b : List Nat) (a d : Nat) : List Nat := (b.drop a).take d
theorem gone_len {b : List Nat} {a d : Nat} (h : a + d ≤ b.length) : (gone b a d).length = d := by
  unfold gone
  rw [List.length_take, List.length_drop]
  omega
theorem spl_len {b : List Nat} {a d : Nat} (ins : List Nat) (h : a + d ≤ b.length) : (spl b a d ins).length = b.length - d + ins.length := by
  unfold spl
  rw [List.length_append, List.length_append, List.length_take, List.length_drop]
  omega
theorem take_spl {b : List Nat} {a d : Nat} (ins : List Nat) (h : a + d ≤ b.length) : (spl b a d ins).take a = b.take a := takeL (by rw [List.length_take]; omega)
theorem drop_spl {b : List Nat} {a d : Nat} (ins : List Nat) (h : a + d ≤ b.length) : (spl b a d ins).drop (a + ins.length) = b.drop (a + d) := by
  unfold spl
  rw [← List.drop_drop, dropL (by rw [List.length_take]; omega), dropL rfl]
theorem mid_spl {b : List Nat} {a d : Nat} (ins : List Nat) (h : a + d ≤ b.length) : gone (spl b a d ins) a ins.length = ins := by
  unfold gone spl
  rw [dropL (by rw [List.length_take]; omega), takeL rfl]
theorem whole (b : List Nat) (a d : Nat) : b.take a ++ (gone b a d ++ b.drop (a + d)) = b := by
  unfold gone
  rw [← List.drop_drop, List.take_append_drop, List.take_append_drop]
/-- a change, taken back. -/
theorem spl_undo {b : List Nat} {a d : Nat} (ins : List Nat) (h : a + d ≤ b.length) : spl (spl b a d ins) a ins.length (gone b a d) = b := by
  have e1 := take_spl ins h
  have e2 := drop_spl ins h
  show (spl b a d ins).take a ++ (gone b a d ++ (spl b a d ins).drop (a + ins.length)) = b
  rw [e1, e2]
  exact whole b a d
/-- to take away, then to put in. -/
theorem spl_parts {b : List Nat} {a d : Nat} (ins : List Nat) (h : a + d ≤ b.length) : spl (spl b a d []) a 0 ins = spl b a d ins := by
  have e1 := take_spl [] h
  have e2 := drop_spl [] h
  show (spl b a d []).take a ++ (ins ++ (spl b a d []).drop (a + 0)) = _
  rw [e1]
  have e3 : (spl b a d []).drop (a + 0) = b.drop (a + d) := e2
  rw [e3]
  rfl
/-- two changes that don't touch, in either order. -/
theorem spl_apart {b : List Nat} {a d c e : Nat} (xs ys : List Nat) (h1 : a + d ≤ c) (h2 : c + e ≤ b.length) : spl (spl b c e ys) a d xs = spl (spl b a d xs) (c + xs.length - d) e ys := by
  have hm : b.take c = b.take a ++ (gone b a d ++ (b.drop (a + d)).take (c - (a + d))) := by
    have := whole (b.take c) a d
    rw [← this]
    congr 1
    · rw [List.take_take, Nat.min_eq_left (by omega)]
    · congr 1
      · unfold gone
        rw [List.drop_take, List.take_take, Nat.min_eq_left (by omega)]
      · rw [List.drop_take]
  have l1 : (b.take a).length = a := by rw [List.length_take]; omega
  have l3 : ((b.drop (a + d)).take (c - (a + d))).length = c - (a + d) := by rw [List.length_take, List.length_drop]; omega
  have l2 : (gone b a d).length = d := gone_len (by omega)
  -- the one: the later change first
  have L1 : spl (spl b c e ys) a d xs = b.take a ++ (xs ++ ((b.drop (a + d)).take (c - (a + d)) ++ (ys ++ b.drop (c + e)))) := by
    unfold spl
    rw [hm]
    have e1 : (b.take a ++ (gone b a d ++ (b.drop (a + d)).take (c - (a + d))) ++ (ys ++ b.drop (c + e))).take a = b.take a := by
      rw [List.append_assoc, takeL l1]
    have e2 : (b.take a ++ (gone b a d ++ (b.drop (a + d)).take (c - (a + d))) ++ (ys ++ b.drop (c + e))).drop (a + d) = (b.drop (a + d)).take (c - (a + d)) ++ (ys ++ b.drop (c + e)) := by
      rw [← List.drop_drop, List.append_assoc, dropL l1, List.append_assoc, dropL l2]
    rw [e1, e2]
  have L2 : spl (spl b a d xs) (c + xs.length - d) e ys = b.take a ++ (xs ++ ((b.drop (a + d)).take (c - (a + d)) ++ (ys ++ b.drop (c + e)))) := by
    have hs : spl b a d xs = (b.take a ++ (xs ++ (b.drop (a + d)).take (c - (a + d)))) ++ b.drop c := by
      unfold spl
      have : b.drop (a + d) = (b.drop (a + d)).take (c - (a + d)) ++ b.drop c := by
        have h := (List.take_append_drop (c - (a + d)) (b.drop (a + d))).symm
        rw [List.drop_drop, show a + d + (c - (a + d)) = c by omega] at h
        exact h
      rw [List.append_assoc, List.append_assoc, ← this]
    have ll : (b.take a ++ (xs ++ (b.drop (a + d)).take (c - (a + d)))).length = c + xs.length - d := by
      rw [List.length_append, List.length_append, l1, l3]
      omega
    unfold spl at hs ⊢
    rw [hs]
    have e1 : ((b.take a ++ (xs ++ (b.drop (a + d)).take (c - (a + d)))) ++ b.drop c).take (c + xs.length - d) = b.take a ++ (xs ++ (b.drop (a + d)).take (c - (a + d))) := by
      exact takeL ll
    have e2 : ((b.take a ++ (xs ++ (b.drop (a + d)).take (c - (a + d)))) ++ b.drop c).drop (c + xs.length - d + e) = b.drop (c + e) := by
      rw [← List.drop_drop, dropL ll, List.drop_drop]
    rw [e1, e2, List.append_assoc, List.append_assoc]
  rw [L1, L2]
/-- at the ends. -/
theorem spl_none (b : List Nat) : spl b b.length 0 [] = b := by unfold spl; simp
theorem spl_end (b ins : List Nat) : spl b b.length 0 ins = b ++ ins := by unfold spl; simp
theorem spl_all (b ins : List Nat) : spl b 0 b.length ins = ins := by unfold spl; simp
end Ed
end Go.Proofs.Ytegoadhnilmchaa
