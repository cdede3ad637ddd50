/-
  Clusters of signs, in plain words: where they begin, what each is; no program in it.
-/
import Derived.Below
namespace Go.Proofs.Ytlcpfheocenjfaa
/-- a sign: its number, its place, its bytes. -/
structure Sn where
  r : Int
  pl : Nat
  len : Nat
/-- a cluster: its place, its bytes, its cells, its kind. -/
structure Ct where
  pl : Nat
  len : Nat
  cells : Int
  kind : Nat
namespace Ce
/-- does a cluster begin at the sign of this place? -/
def cut (M : List Nat) (i : Nat) : Bool := i == 0 || M.getD i 0 != 0
/-- where clusters begin, among the first k signs. -/
def st (M : List Nat) (k : Nat) : List Nat := (List.range k).filter (cut M)
/-- where clusters begin, and the signs' number. -/
def starts (M : List Nat) (n : Nat) : List Nat := st M n ++ [n]
theorem st_zero (M : List Nat) : st M 0 = [] := rfl
theorem st_yes {M : List Nat} {k : Nat} (h : cut M k = true) : st M (k + 1) = st M k ++ [k] := by
  unfold st
  rw [List.range_succ, List.filter_append]
  simp [h]
theorem st_no {M : List Nat} {k : Nat} (h : cut M k = false) : st M (k + 1) = st M k := by
  unfold st
  rw [List.range_succ, List.filter_append]
  simp [h]
theorem st_len (M : List Nat) (k : Nat) : (st M k).length ≤ k := by
  unfold st
  have := List.length_filter_le (cut M) (List.range k)
  simpa using this
theorem st_mem {M : List Nat} {k x : Nat} : x ∈ st M k ↔ x < k ∧ cut M x = true := by
  unfold st
  simp
theorem st_sorted (M : List Nat) (k : Nat) : (st M k).Pairwise (· < ·) := by
  unfold st
  exact List.Pairwise.filter _ List.pairwise_lt_range
theorem starts_len (M : List Nat) (n : Nat) : (starts M n).length = (st M n).length + 1 := by simp [starts]
theorem starts_sorted (M : List Nat) (n : Nat) : (starts M n).Pairwise (· < ·) := by
  unfold starts
  rw [List.pairwise_append]
  refine ⟨st_sorted M n, by simp, fun a ha b hb => ?_⟩
  simp at hb
  subst hb
  exact (st_mem.1 ha).1
theorem starts_lt {M : List Nat} {n i j x y : Nat} (hi : (starts M n)[i]? = some x) (hj : (starts M n)[j]? = some y) (h : i < j) : x < y := by
  obtain ⟨h1, e1⟩ := List.getElem?_eq_some_iff.1 hi
  obtain ⟨h2, e2⟩ := List.getElem?_eq_some_iff.1 hj
  have := List.pairwise_iff_getElem.1 (starts_sorted M n) i j h1 h2 h
  rw [e1, e2] at this
  exact this
theorem starts_le {M : List Nat} {n i x : Nat} (hi : (starts M n)[i]? = some x) : x ≤ n := by
  have := List.mem_of_getElem? hi
  unfold starts at this
  rw [List.mem_append] at this
  rcases this with h | h
  · exact Nat.le_of_lt (st_mem.1 h).1
  · simp at h; omega
theorem starts_at {M : List Nat} {n i : Nat} (h : i ≤ (st M n).length) : ∃ x, (starts M n)[i]? = some x := ⟨_, List.getElem?_eq_getElem (by rw [starts_len]; omega)⟩
theorem starts_last (M : List Nat) (n : Nat) : (starts M n)[(st M n).length]? = some n := by
  unfold starts
  rw [List.getElem?_append_right (Nat.le_refl _)]
  simp
theorem st_first {M : List Nat} {n : Nat} (h : 0 < n) : (st M n)[0]? = some 0 := by
  induction n with
  | zero => omega
  | succ n ih =>
    by_cases hn : 0 < n
    · have := ih hn
      cases hc : cut M n with
      | true =>
        rw [st_yes hc, List.getElem?_append_left (List.getElem?_eq_some_iff.1 this).1]
        exact this
      | false => rw [st_no hc]; exact this
    · obtain rfl : n = 0 := by omega
      rw [st_yes (by rfl)]
      rfl
theorem starts_first {M : List Nat} {n : Nat} : (starts M n)[0]? = some 0 := by
  by_cases h : 0 < n
  · have := st_first (M := M) h
    unfold starts
    rw [List.getElem?_append_left (List.getElem?_eq_some_iff.1 this).1]
    exact this
  · obtain rfl : n = 0 := by omega
    rfl
/-- between two beginnings nothing begins. -/
theorem starts_gap {M : List Nat} {n i x y z : Nat} (hi : (starts M n)[i]? = some x) (hj : (starts M n)[i + 1]? = some y) (h1 : x < z) (h2 : z < y) : cut M z = false := by
  cases hc : cut M z with
  | false => rfl
  | true =>
    have hy := starts_le hj
    have hm : z ∈ starts M n := by
      unfold starts
      rw [List.mem_append]
      exact Or.inl (st_mem.2 ⟨by omega, hc⟩)
    obtain ⟨k, hk⟩ := List.getElem?_of_mem hm
    rcases Nat.lt_or_ge k (i + 1) with h | h
    · rcases Nat.lt_or_ge k i with h' | h'
      · have := starts_lt hk hi h'; omega
      · have e : k = i := by omega
        subst e
        rw [hk] at hi
        injection hi with hi
        omega
    · rcases Nat.lt_or_ge (i + 1) k with h' | h'
      · have := starts_lt hj hk h'; omega
      · have e : k = i + 1 := by omega
        subst e
        rw [hk] at hj
        injection hj with hj
        omega
/-- signs from a place up to another one. -/
def seg (S : List Sn) (a b : Nat) : List Sn := (S.drop a).take (b - a)
theorem seg_len {S : List Sn} {a b : Nat} (h : b ≤ S.length) : (seg S a b).length = b - a := by
  unfold seg
  rw [List.length_take, List.length_drop]
  omega
theorem seg_at {S : List Sn} {a b j : Nat} (h : j < b - a) : (seg S a b)[j]? = S[a + j]? := by
  unfold seg
  rw [List.getElem?_take, if_pos h, List.getElem?_drop]
theorem seg_snoc {S : List Sn} {a b : Nat} {s : Sn} (h : a ≤ b) (hs : S[b]? = some s) : seg S a (b + 1) = seg S a b ++ [s] := by
  unfold seg
  have e : b + 1 - a = b - a + 1 := by omega
  rw [e, List.take_add_one, List.getElem?_drop, show a + (b - a) = b by omega, hs]
  rfl
theorem seg_self (S : List Sn) (a : Nat) : seg S a a = [] := by unfold seg; simp
theorem seg_join {S : List Sn} {a b c : Nat} (h1 : a ≤ b) (h2 : b ≤ c) : seg S a c = seg S a b ++ seg S b c := by
  unfold seg
  have e : c - a = (b - a) + (c - b) := by omega
  rw [e, List.take_add, List.drop_drop, show a + (b - a) = b by omega]
theorem seg_all (S : List Sn) : seg S 0 S.length = S := by unfold seg; simp
/-- so many bytes. -/
def lens : List Sn → Nat
  | [] => 0
  | s :: l => s.len + lens l
theorem lens_append : ∀ (a b : List Sn), lens (a ++ b) = lens a + lens b
  | [], b => by simp [lens]
  | s :: a, b => by simp [lens, lens_append a b]; omega
theorem lens_snoc (a : List Sn) (s : Sn) : lens (a ++ [s]) = lens a + s.len := by rw [lens_append]; rfl
/-- the greatest of so many cells, two at most. -/
def wide (of : Int → Int) : List Sn → Int
  | [] => 0
  | s :: l => max (min (of s.r) 2) (wide of l)
theorem wide_nn (of : Int → Int) : ∀ l, 0 ≤ wide of l
  | [] => Int.le_refl _
  | s :: l => by have := wide_nn of l; unfold wide; omega
theorem wide_le (of : Int → Int) : ∀ l, wide of l ≤ 2
  | [] => by unfold wide; omega
  | s :: l => by have := wide_le of l; unfold wide; omega
theorem wide_append (of : Int → Int) : ∀ (a b : List Sn), wide of (a ++ b) = max (wide of a) (wide of b)
  | [], b => by have := wide_nn of b; simp only [List.nil_append, wide]; omega
  | s :: a, b => by simp only [List.cons_append, wide, wide_append of a b]; omega
theorem wide_snoc (of : Int → Int) (a : List Sn) (s : Sn) : wide of (a ++ [s]) = max (wide of a) (min (of s.r) 2) := by
  rw [wide_append]
  have := wide_nn of a
  simp only [wide]
  omega
def kind : List Sn → Nat
  | [s] => if s.r = 32 then 1 else if s.r = 9 then 2 else 0
  | _ => 0
theorem kind_lt : ∀ l, kind l < 256
  | [] => by decide
  | [s] => by unfold kind; (repeat' split) <;> omega
  | _ :: _ :: _ => Nat.zero_lt_succ 255
/-- signs as a cluster. -/
def tog (of : Int → Int) (l : List Sn) : Ct := ⟨(l[0]?.map Sn.pl).getD 0, lens l, wide of l, kind l⟩
/-- the cluster of a place. -/
def cl (of : Int → Int) (S : List Sn) (M : List Nat) (j : Nat) : Ct := tog of (seg S ((starts M S.length).getD j 0) ((starts M S.length).getD (j + 1) 0))
/-- all clusters. -/
def cls (of : Int → Int) (S : List Sn) (M : List Nat) : List Ct := (List.range (st M S.length).length).map (cl of S M)
theorem cls_len (of : Int → Int) (S : List Sn) (M : List Nat) : (cls of S M).length = (st M S.length).length := by simp [cls]
theorem cls_at {of : Int → Int} {S : List Sn} {M : List Nat} {j x y : Nat} (h : j < (st M S.length).length) (hx : (starts M S.length)[j]? = some x) (hy : (starts M S.length)[j + 1]? = some y) : (cls of S M)[j]? = some (tog of (seg S x y)) := by
  unfold cls
  rw [List.getElem?_map, List.getElem?_range h]
  show some (tog of (seg S ((starts M S.length).getD j 0) ((starts M S.length).getD (j + 1) 0))) = _
  rw [List.getD_eq_getElem?_getD, List.getD_eq_getElem?_getD, hx, hy]
  rfl
theorem getD_of {L : List Nat} {i x : Nat} (h : L[i]? = some x) : L.getD i 0 = x := by rw [List.getD_eq_getElem?_getD, h]; rfl
end Ce
end Go.Proofs.Ytlcpfheocenjfaa
