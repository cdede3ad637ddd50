/-
  Plain functions on ranges: are they a table's, what a number is by them, what 256 numbers in a row are; no program in it.
-/
import Derived.Below
namespace Go.Proofs.Ytlcpfheocenjfaa

/-- a range: its first number, its last one, what they are. -/
structure Rg where
  lo : Int
  hi : Int
  to : Int

namespace Pr
/-- a range that fits behind 'a'. -/
abbrev fits (most a : Int) (x : Rg) : Prop := a < x.lo ∧ x.lo ≤ x.hi ∧ x.hi ≤ 1114111 ∧ 0 ≤ x.to ∧ x.to < most ∧ x.to ≤ 255
def okFrom (most : Int) : Int → List Rg → Bool
  | _, [] => true
  | a, x :: L => decide (fits most a x) && okFrom most x.hi L
/-- are these ranges a table's? -/
def ok (most : Int) (L : List Rg) : Bool := decide (L.length ≤ 256) && okFrom most (-1) L
/-- what a number is. -/
def of : List Rg → Int → Int
  | [], _ => 0
  | x :: L, r => if x.lo ≤ r ∧ r ≤ x.hi then x.to else of L r

theorem ok_cons {most a : Int} {x : Rg} {L : List Rg} : okFrom most a (x :: L) = true ↔ fits most a x ∧ okFrom most x.hi L = true := by simp [okFrom]
theorem ok_low {most : Int} : ∀ {L : List Rg} {a a' : Int}, okFrom most a L = true → a' ≤ a → okFrom most a' L = true
  | [], _, _, _, _ => rfl
  | x :: L, a, a', h, ha => by
    obtain ⟨⟨h1, h2⟩, h3⟩ := ok_cons.1 h
    exact ok_cons.2 ⟨⟨by omega, h2⟩, h3⟩
theorem of_ahead {most : Int} : ∀ {L : List Rg} {a r : Int}, okFrom most a L = true → r ≤ a → of L r = 0
  | [], _, _, _, _ => rfl
  | x :: L, a, r, h, hr => by
    obtain ⟨⟨h1, h2, _⟩, h3⟩ := ok_cons.1 h
    unfold of
    rw [if_neg (by omega)]
    exact of_ahead h3 (by omega)
theorem of_range {most : Int} : ∀ {L : List Rg} {a r : Int}, okFrom most a L = true → 0 ≤ of L r ∧ of L r ≤ 255
  | [], _, _, _ => ⟨Int.le_refl _, by unfold of; omega⟩
  | x :: L, a, r, h => by
    obtain ⟨⟨h1, h2, _, h4, _, h6⟩, h3⟩ := ok_cons.1 h
    unfold of
    split
    · exact ⟨h4, h6⟩
    · exact of_range h3
theorem of_above {most : Int} : ∀ {L : List Rg} {a r : Int}, okFrom most a L = true → 1114111 < r → of L r = 0
  | [], _, _, _, _ => rfl
  | x :: L, a, r, h, hr => by
    obtain ⟨⟨h1, h2, h4, _⟩, h3⟩ := ok_cons.1 h
    unfold of
    rw [if_neg (by omega)]
    exact of_above h3 hr
theorem of_below : ∀ {L : List Rg} {r : Int}, (∀ x ∈ L, x.hi < r) → of L r = 0
  | [], _, _ => rfl
  | x :: L, r, h => by
    unfold of
    have := h x (by simp)
    rw [if_neg (by omega)]
    exact of_below (fun y hy => h y (by simp [hy]))
/-- the first range is left out where the number stands behind it. -/
theorem of_tail {x : Rg} {L : List Rg} {r : Int} (h : x.hi < r) : of (x :: L) r = of L r := by
  show (if x.lo ≤ r ∧ r ≤ x.hi then x.to else of L r) = of L r
  rw [if_neg (by omega)]
theorem of_append : ∀ (L M : List Rg) (r : Int), (∀ x ∈ L, ¬ (x.lo ≤ r ∧ r ≤ x.hi)) → of (L ++ M) r = of M r
  | [], _, _, _ => rfl
  | x :: L, M, r, h => by
    show (if x.lo ≤ r ∧ r ≤ x.hi then x.to else of (L ++ M) r) = of M r
    rw [if_neg (h x (by simp))]
    exact of_append L M r (fun y hy => h y (by simp [hy]))
/-- one range more, apart from those ahead of it. -/
theorem of_snoc : ∀ {most : Int} {L : List Rg} {a r : Int} {x : Rg} {M : List Rg}, okFrom most a (L ++ x :: M) = true → of (L ++ [x]) r = if x.lo ≤ r ∧ r ≤ x.hi then x.to else of L r
  | _, [], _, _, _, _, _ => rfl
  | most, y :: L, a, r, x, M, h => by
    obtain ⟨hy, h3⟩ := ok_cons.1 h
    have ih := of_snoc (r := r) h3
    show (if y.lo ≤ r ∧ r ≤ y.hi then y.to else of (L ++ [x]) r) = if x.lo ≤ r ∧ r ≤ x.hi then x.to else (if y.lo ≤ r ∧ r ≤ y.hi then y.to else of L r)
    by_cases hr : y.lo ≤ r ∧ r ≤ y.hi
    · rw [if_pos hr, if_pos hr, if_neg]
      intro hx
      have := of_ahead (r := r) (L := L ++ x :: M) h3 hr.2
      have : ∀ {L : List Rg} {a : Int}, okFrom most a (L ++ x :: M) = true → a < x.lo := by
        intro L
        induction L with
        | nil => intro a h; exact (ok_cons.1 h).1.1
        | cons z L ih => intro a h; obtain ⟨hz, h'⟩ := ok_cons.1 h; have := ih h'; have := hz.1; have := hz.2.1; omega
      have := this h3
      omega
    · rw [if_neg hr, if_neg hr, ih]
/-- from a range on that begins behind the number nothing counts. -/
theorem of_stop : ∀ {most : Int} {L : List Rg} {a r : Int} {x : Rg} {M : List Rg}, okFrom most a (L ++ x :: M) = true → r < x.lo → of (L ++ x :: M) r = of L r
  | most, [], a, r, x, M, h, hr => by
    obtain ⟨h1, h3⟩ := ok_cons.1 h
    show (if x.lo ≤ r ∧ r ≤ x.hi then x.to else of M r) = 0
    rw [if_neg (by omega)]
    exact of_ahead h3 (by have := h1.2.1; omega)
  | most, y :: L, a, r, x, M, h, hr => by
    obtain ⟨hy, h3⟩ := ok_cons.1 h
    show (if y.lo ≤ r ∧ r ≤ y.hi then y.to else of (L ++ x :: M) r) = (if y.lo ≤ r ∧ r ≤ y.hi then y.to else of L r)
    rw [of_stop h3 hr]
theorem ok_mem {most : Int} : ∀ {L : List Rg} {a : Int}, okFrom most a L = true → ∀ x ∈ L, fits most a x
  | [], _, _, _, hx => by cases hx
  | y :: L, a, h, x, hx => by
    obtain ⟨h1, h3⟩ := ok_cons.1 h
    rcases List.mem_cons.1 hx with rfl | hx
    · exact h1
    · obtain ⟨g1, g2⟩ := ok_mem h3 x hx
      exact ⟨by have := h1.1; have := h1.2.1; omega, g2⟩
theorem ok_drop {most : Int} : ∀ (k : Nat) {L : List Rg} {a : Int}, okFrom most a L = true → ∃ a', a ≤ a' ∧ okFrom most a' (L.drop k) = true
  | 0, L, a, h => ⟨a, Int.le_refl _, h⟩
  | k + 1, [], a, h => ⟨a, Int.le_refl _, rfl⟩
  | k + 1, x :: L, a, h => by
    obtain ⟨h1, h3⟩ := ok_cons.1 h
    obtain ⟨a', h4, h5⟩ := ok_drop k h3
    exact ⟨a', by have := h1.1; have := h1.2.1; omega, h5⟩

/-- what the 256 numbers from 256 times i on are. -/
def blk (L : List Rg) (i : Nat) : List Int := (List.range 256).map fun j : Nat => of L (256 * i + j)
def zeros : List Int := (List.range 256).map fun _ : Nat => 0
theorem blk_len (L : List Rg) (i : Nat) : (blk L i).length = 256 := by simp [blk]
theorem blk_at (L : List Rg) (i j : Nat) (h : j < 256) : (blk L i)[j]? = some (of L (256 * i + j)) := by
  unfold blk
  rw [List.getElem?_map, List.getElem?_range h]
  rfl
/-- a list of the unlike blocks that aren't zeros. -/
def Bs (L : List Rg) (B : List (List Int)) : Prop := B.Nodup ∧ ∀ x, x ∈ B ↔ x ≠ zeros ∧ ∃ i, i < 4352 ∧ x = blk L i
theorem nodup_length {α : Type} [DecidableEq α] : ∀ {A B : List α}, A.Nodup → (∀ x, x ∈ A → x ∈ B) → A.length ≤ B.length
  | [], _, _, _ => Nat.zero_le _
  | a :: A, B, hA, h => by
    obtain ⟨h1, h2⟩ := List.nodup_cons.1 hA
    have ha : a ∈ B := h a (by simp)
    have := nodup_length (A := A) (B := B.erase a) h2 (fun x hx => (List.mem_erase_of_ne (fun e : x = a => h1 (e ▸ hx))).2 (h x (by simp [hx])))
    rw [List.length_erase_of_mem ha] at this
    have := List.length_pos_of_mem ha
    simp only [List.length_cons]
    omega
theorem bs_length {L M : List Rg} {B C : List (List Int)} (hB : Bs L B) (hC : Bs M C) (h : ∀ i, i < 4352 → blk L i = blk M i) : B.length = C.length := by
  apply Nat.le_antisymm
  · exact nodup_length hB.1 (fun x hx => by obtain ⟨h1, i, hi, e⟩ := (hB.2 x).1 hx; exact (hC.2 x).2 ⟨h1, i, hi, by rw [e, h i hi]⟩)
  · exact nodup_length hC.1 (fun x hx => by obtain ⟨h1, i, hi, e⟩ := (hC.2 x).1 hx; exact (hB.2 x).2 ⟨h1, i, hi, by rw [e, h i hi]⟩)
end Pr
end Go.Proofs.Ytlcpfheocenjfaa
