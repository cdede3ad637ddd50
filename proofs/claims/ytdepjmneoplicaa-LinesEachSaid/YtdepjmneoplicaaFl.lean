/-
  Doubles as whole numbers: how they stand to one another, how products and differences are rounded, whole numbers made of them and of them made whole; no program in it.
-/
import Ieee.Arith
import Derived.Below
namespace Go.Proofs.Ytdepjmneoplicaa
namespace Fl
open Ieee
/-- the bits of a double's magnitude; has it a sign? -/
def rung (w : Nat) : Nat := w % 9223372036854775808
def neg (w : Nat) : Bool := decide (9223372036854775808 ≤ w)
/-- infinity's. -/
def inf : Nat := 9218868437227405312
/-- a magnitude in units of the least one. -/
def mag (r : Nat) : Nat := if r < 4503599627370496 then r else (4503599627370496 + r % 4503599627370496) * 2 ^ (r / 4503599627370496 - 1)
/-- numbers as whole numbers that stand as they do, both zeros alike. -/
def key (w : Nat) : Int := if neg w then -(rung w : Int) else rung w
/-- a whole number with a sign. -/
def sg (s : Bool) (m : Nat) : Int := if s then -(m : Int) else m

theorem mag_succ (r : Nat) : mag r < mag (r + 1) := by
  unfold mag
  by_cases h : r + 1 < 4503599627370496
  · rw [if_pos (by omega), if_pos h]; omega
  · by_cases h1 : r < 4503599627370496
    · have e : r = 4503599627370495 := by omega
      subst e; decide
    · rw [if_neg h1, if_neg h]
      by_cases h2 : r % 4503599627370496 + 1 < 4503599627370496
      · have e1 : (r + 1) / 4503599627370496 = r / 4503599627370496 := by omega
        have e2 : (r + 1) % 4503599627370496 = r % 4503599627370496 + 1 := by omega
        rw [e1, e2]
        exact Nat.mul_lt_mul_of_pos_right (by omega) (Nat.two_pow_pos _)
      · have e1 : (r + 1) / 4503599627370496 - 1 = (r / 4503599627370496 - 1) + 1 := by omega
        have e2 : (r + 1) % 4503599627370496 = 0 := by omega
        have e3 : r % 4503599627370496 = 4503599627370495 := by omega
        rw [e1, e2, e3, Nat.pow_succ]
        have : 0 < 2 ^ (r / 4503599627370496 - 1) := Nat.two_pow_pos _
        generalize 2 ^ (r / 4503599627370496 - 1) = q at *
        omega
theorem mag_lt {r s : Nat} (h : r < s) : mag r < mag s := by
  induction s with
  | zero => omega
  | succ k ih =>
    rcases Nat.lt_or_ge r k with g | g
    · exact Nat.lt_trans (ih g) (mag_succ k)
    · have : r = k := by omega
      subst this; exact mag_succ r
theorem mag_lt_iff {r s : Nat} : mag r < mag s ↔ r < s := by
  constructor
  · intro h
    rcases Nat.lt_or_ge r s with g | g
    · exact g
    · rcases Nat.lt_or_ge s r with g2 | g2
      · have := mag_lt g2; omega
      · have : r = s := by omega
        subst this; omega
  · exact mag_lt
theorem mag_le_iff {r s : Nat} : mag r ≤ mag s ↔ r ≤ s := by
  have := @mag_lt_iff s r; omega
theorem mag_inj {r s : Nat} (h : mag r = mag s) : r = s := by
  have a := @mag_le_iff r s
  have b := @mag_le_iff s r
  omega
theorem mag_zero : mag 0 = 0 := by decide

/-- how a finite number is read. -/
theorem read_fin {w : Nat} (hw : w < 18446744073709551616) (h : rung w < inf) :
    ∃ m k : Nat, double.read w = .number (neg w) m (-1074 + k) ∧ m * 2 ^ k = mag (rung w) ∧ m < 9007199254740992 ∧ (k = 0 ∨ 4503599627370496 ≤ m) := by
  have hn : (w / double.signWeight % 2 == 1) = neg w := by
    have : double.signWeight = 9223372036854775808 := by decide
    rw [this]
    unfold neg
    by_cases g : 9223372036854775808 ≤ w
    · have : w / 9223372036854775808 % 2 = 1 := by omega
      rw [this]; simp [g]
    · have : w / 9223372036854775808 % 2 = 0 := by omega
      rw [this]; simp [g]
  have e1 : double.signWeight = 9223372036854775808 := by decide
  have e2 : double.binade = 4503599627370496 := by decide
  have e3 : double.infRung = inf := by decide
  have e4 : double.leastPlace = -1074 := by decide
  unfold Format.read
  simp only [hn]
  rw [e1, e2, e3, e4]
  have er : w % 9223372036854775808 = rung w := rfl
  rw [er]
  unfold mag
  by_cases g : rung w < 4503599627370496
  · rw [if_pos g, if_pos g]
    exact ⟨rung w, 0, by simp, by simp, by omega, Or.inl rfl⟩
  · rw [if_neg g, if_neg g, if_pos h]
    exact ⟨_, _, rfl, rfl, by omega, Or.inr (by omega)⟩
theorem read_inf {w : Nat} (hw : w < 18446744073709551616) (h : rung w = inf) : double.read w = .infinity (neg w) := by
  have hn : (w / double.signWeight % 2 == 1) = neg w := by
    have : double.signWeight = 9223372036854775808 := by decide
    rw [this]
    unfold neg
    by_cases g : 9223372036854775808 ≤ w
    · have : w / 9223372036854775808 % 2 = 1 := by omega
      rw [this]; simp [g]
    · have : w / 9223372036854775808 % 2 = 0 := by omega
      rw [this]; simp [g]
  have e1 : double.signWeight = 9223372036854775808 := by decide
  have e2 : double.binade = 4503599627370496 := by decide
  have e3 : double.infRung = inf := by decide
  unfold Format.read
  simp only [hn]
  rw [e1, e2, e3]
  have er : w % 9223372036854775808 = inf := h
  rw [er, if_neg (by decide), if_neg (by decide), if_pos rfl]
theorem read_nan {w : Nat} (hw : w < 18446744073709551616) (h : inf < rung w) : double.read w = .nan (neg w) (rung w - inf) := by
  have hn : (w / double.signWeight % 2 == 1) = neg w := by
    have : double.signWeight = 9223372036854775808 := by decide
    rw [this]
    unfold neg
    by_cases g : 9223372036854775808 ≤ w
    · have : w / 9223372036854775808 % 2 = 1 := by omega
      rw [this]; simp [g]
    · have : w / 9223372036854775808 % 2 = 0 := by omega
      rw [this]; simp [g]
  have e1 : double.signWeight = 9223372036854775808 := by decide
  have e2 : double.binade = 4503599627370496 := by decide
  have e3 : double.infRung = inf := by decide
  unfold Format.read
  simp only [hn]
  rw [e1, e2, e3]
  have er : w % 9223372036854775808 = rung w := rfl
  have hi : inf = 9218868437227405312 := rfl
  rw [er, if_neg (by omega), if_neg (by omega), if_neg (by omega)]

theorem signed_eq (s : Bool) (m k : Nat) : signed s m k = sg s (m * 2 ^ k) := by
  unfold signed sg
  rw [Nat.shiftLeft_eq]
theorem sg_mul (s : Bool) (m c : Nat) : sg s (m * c) = sg s m * (c : Int) := by
  unfold sg
  cases s
  · simp [Int.natCast_mul]
  · simp [Int.natCast_mul, Int.neg_mul]
theorem cmp_mul (a b : Int) {c : Int} (h : 0 < c) : compare (a * c) (b * c) = compare a b := by
  rcases Int.lt_trichotomy a b with g | g | g
  · have g2 : a * c < b * c := Int.mul_lt_mul_of_pos_right g h
    rw [compare, instOrdInt]
    simp only [compareOfLessAndEq, g, g2, if_true]
  · subst g
    rw [compare, instOrdInt]
    simp [compareOfLessAndEq]
  · have g2 : b * c < a * c := Int.mul_lt_mul_of_pos_right g h
    rw [compare, instOrdInt]
    have n1 : ¬ a < b := by omega
    have n2 : ¬ a * c < b * c := by omega
    have n3 : a ≠ b := by omega
    have n4 : a * c ≠ b * c := by omega
    simp only [compareOfLessAndEq, n1, n2, n3, n4, if_false]
theorem order_num (s t : Bool) (m n i j : Nat) : Datum.order (.number s m (-1074 + i)) (.number t n (-1074 + j)) = some (compare (sg s (m * 2 ^ i)) (sg t (n * 2 ^ j))) := by
  unfold Datum.order
  simp only [signed_eq]
  congr 1
  rcases Nat.le_total i j with h | h
  · have e : min (-1074 + (i : Int)) (-1074 + j) = -1074 + i := by omega
    rw [e]
    have e1 : (-1074 + (i : Int) - (-1074 + i)).toNat = 0 := by omega
    have e2 : (-1074 + (j : Int) - (-1074 + i)).toNat = j - i := by omega
    rw [e1, e2]
    have e3 : n * 2 ^ j = n * 2 ^ (j - i) * 2 ^ i := by
      rw [Nat.mul_assoc, ← Nat.pow_add]; congr 2; omega
    have e4 : m * 2 ^ i = m * 2 ^ 0 * 2 ^ i := by simp
    rw [e3, e4, sg_mul s _ (2 ^ i), sg_mul t _ (2 ^ i)]
    exact (cmp_mul _ _ (by exact_mod_cast Nat.two_pow_pos i)).symm
  · have e : min (-1074 + (i : Int)) (-1074 + j) = -1074 + j := by omega
    rw [e]
    have e1 : (-1074 + (j : Int) - (-1074 + j)).toNat = 0 := by omega
    have e2 : (-1074 + (i : Int) - (-1074 + j)).toNat = i - j := by omega
    rw [e1, e2]
    have e3 : m * 2 ^ i = m * 2 ^ (i - j) * 2 ^ j := by
      rw [Nat.mul_assoc, ← Nat.pow_add]; congr 2; omega
    have e4 : n * 2 ^ j = n * 2 ^ 0 * 2 ^ j := by simp
    rw [e3, e4, sg_mul s _ (2 ^ j), sg_mul t _ (2 ^ j)]
    exact (cmp_mul _ _ (by exact_mod_cast Nat.two_pow_pos j)).symm
theorem cmp_sg (s t : Bool) (a b : Nat) : compare (sg s (mag a)) (sg t (mag b)) = compare (sg s a) (sg t b) := by
  have z : mag 0 = 0 := mag_zero
  have h1 := @mag_lt_iff a b
  have h2 := @mag_lt_iff b a
  have h3 := @mag_lt_iff 0 a
  have h4 := @mag_lt_iff 0 b
  rw [z] at h3 h4
  have c1 : (sg s (mag a) < sg t (mag b)) = (sg s a < sg t b) := by
    unfold sg
    cases s <;> cases t <;> simp <;> omega
  have c2 : (sg s (mag a) = sg t (mag b)) = (sg s a = sg t b) := by
    unfold sg
    cases s <;> cases t <;> simp <;> omega
  rw [compare, instOrdInt]
  simp only [compareOfLessAndEq, c1, c2]
theorem key_sg (w : Nat) : key w = sg (neg w) (rung w) := rfl
/-- how two that are numbers stand to one another. -/
theorem order_key {v w : Nat} (hv : v < 18446744073709551616) (hw : w < 18446744073709551616) (nv : rung v ≤ inf) (nw : rung w ≤ inf) : double.order v w = some (compare (key v) (key w)) := by
  have hi : inf = 9218868437227405312 := rfl
  unfold Format.order
  rw [key_sg, key_sg]
  rcases Nat.lt_or_ge (rung v) inf with a | a
  · obtain ⟨m, i, e1, e2, -, -⟩ := read_fin hv a
    rcases Nat.lt_or_ge (rung w) inf with b | b
    · obtain ⟨n, j, f1, f2, -, -⟩ := read_fin hw b
      rw [e1, f1, order_num, e2, f2, cmp_sg]
    · have b' : rung w = inf := by omega
      rw [e1, read_inf hw b']
      unfold Datum.order
      congr 1
      rw [b']
      rw [compare, instOrdInt]
      cases h : neg w
      · have : sg (neg v) (rung v) < sg false inf := by unfold sg; cases neg v <;> simp <;> omega
        simp [compareOfLessAndEq, this]
      · have n1 : ¬ sg (neg v) (rung v) < sg true inf := by unfold sg; cases neg v <;> simp <;> omega
        have n2 : ¬ sg (neg v) (rung v) = sg true inf := by unfold sg; cases neg v <;> simp <;> omega
        simp [compareOfLessAndEq, n1, n2]
  · have a' : rung v = inf := by omega
    rcases Nat.lt_or_ge (rung w) inf with b | b
    · obtain ⟨n, j, f1, f2, -, -⟩ := read_fin hw b
      rw [f1, read_inf hv a']
      unfold Datum.order
      congr 1
      rw [a']
      rw [compare, instOrdInt]
      cases h : neg v
      · have n1 : ¬ sg false inf < sg (neg w) (rung w) := by unfold sg; cases neg w <;> simp <;> omega
        have n2 : ¬ sg false inf = sg (neg w) (rung w) := by unfold sg; cases neg w <;> simp <;> omega
        simp [compareOfLessAndEq, n1, n2]
      · have : sg true inf < sg (neg w) (rung w) := by unfold sg; cases neg w <;> simp <;> omega
        simp [compareOfLessAndEq, this]
    · have b' : rung w = inf := by omega
      rw [read_inf hv a', read_inf hw b', a', b']
      cases neg v <;> cases neg w <;> decide
theorem order_nan1 {v w : Nat} (hv : v < 18446744073709551616) (nv : inf < rung v) : double.order v w = none := by
  unfold Format.order
  rw [read_nan hv nv]
  rfl
theorem order_nan2 {v w : Nat} (hw : w < 18446744073709551616) (nw : inf < rung w) : double.order v w = none := by
  unfold Format.order
  rw [read_nan hw nw]
  cases double.read v <;> rfl
theorem cmp_lt (a b : Int) : ((some (compare a b) : Option Ordering) == some .lt) = decide (a < b) := by
  rw [compare, instOrdInt]
  by_cases h : a < b
  · simp [compareOfLessAndEq, h]
  · by_cases g : a = b <;> simp [compareOfLessAndEq, h, g]
theorem cmp_eq (a b : Int) : ((some (compare a b) : Option Ordering) == some .eq) = decide (a = b) := by
  rw [compare, instOrdInt]
  by_cases h : a < b
  · have : a ≠ b := by omega
    simp [compareOfLessAndEq, h, this]
  · by_cases g : a = b <;> simp [compareOfLessAndEq, h, g]
theorem cmp_gt (a b : Int) : ((some (compare a b) : Option Ordering) == some .gt) = decide (b < a) := by
  rw [compare, instOrdInt]
  by_cases h : a < b
  · have : ¬ b < a := by omega
    simp [compareOfLessAndEq, h, this]
  · by_cases g : a = b
    · simp [compareOfLessAndEq, g]
    · have : b < a := by omega
      simp [compareOfLessAndEq, h, g, this]



/-- n over 2 ^ d, the nearest whole number, of two the even one. -/
def rhe (n d : Nat) : Nat := n / 2 ^ d + (decide (2 ^ d < 2 * (n % 2 ^ d)) || (decide (2 ^ d = 2 * (n % 2 ^ d)) && n / 2 ^ d % 2 == 1)).toNat
theorem log2_pos {n l : Nat} (h0 : n ≠ 0) (h1 : 2 ^ l ≤ n) (h2 : n < 2 ^ (l + 1)) : n.log2 = l := by
  have a := (Nat.le_log2 h0).2 h1
  have b := (Nat.log2_lt h0).2 h2
  omega
theorem log2_mul_pow {n : Nat} (h0 : n ≠ 0) (k : Nat) : (n * 2 ^ k).log2 = n.log2 + k := by
  have p : 0 < 2 ^ k := Nat.two_pow_pos _
  have h1 : 2 ^ n.log2 ≤ n := Nat.log2_self_le h0
  have h2 : n < 2 ^ (n.log2 + 1) := Nat.lt_log2_self
  refine log2_pos (Nat.mul_ne_zero h0 (by omega)) ?_ ?_
  · rw [Nat.pow_add]; exact Nat.mul_le_mul_right _ h1
  · have : n.log2 + k + 1 = n.log2 + 1 + k := by omega
    rw [this, Nat.pow_add _ (n.log2 + 1)]
    exact Nat.mul_lt_mul_of_pos_right h2 p
theorem cut_even (s : Bool) (n d : Nat) : Toward.even.cut s n d = rhe n d := by
  unfold Toward.cut
  dsimp only
  rw [Nat.shiftLeft_eq, Nat.one_mul]
  rcases Nat.le_total d (n.log2 + 2) with h | h
  · rw [Nat.min_eq_left h]
    unfold rhe
    congr 2
  · rw [Nat.min_eq_right h]
    have a : n < 2 ^ (n.log2 + 1) := Nat.lt_log2_self
    have b : 2 ^ (n.log2 + 2) = 2 * 2 ^ (n.log2 + 1) := by rw [Nat.pow_succ]; omega
    have c : 2 ^ (n.log2 + 2) ≤ 2 ^ d := Nat.pow_le_pow_right (by omega) h
    have e1 : n / 2 ^ (n.log2 + 2) = 0 := Nat.div_eq_of_lt (by omega)
    have e2 : n % 2 ^ (n.log2 + 2) = n := Nat.mod_eq_of_lt (by omega)
    have f1 : n / 2 ^ d = 0 := Nat.div_eq_of_lt (by omega)
    have f2 : n % 2 ^ d = n := Nat.mod_eq_of_lt (by omega)
    unfold rhe
    rw [e1, e2, f1, f2]
    have g1 : ¬ (2 ^ (n.log2 + 2) < 2 * n) := by omega
    have g2 : ¬ (2 ^ d < 2 * n) := by omega
    simp [g1, g2]
theorem rhe_zero (n : Nat) : rhe n 0 = n := by
  unfold rhe
  simp [Nat.mod_one]
theorem rhe_up (n d j : Nat) : rhe (n * 2 ^ j) (d + j) = rhe n d := by
  have p : 0 < 2 ^ j := Nat.two_pow_pos _
  unfold rhe
  rw [Nat.pow_add, Nat.mul_div_mul_right _ _ p, Nat.mul_mod_mul_right]
  have e1 : (2 ^ d * 2 ^ j < 2 * (n % 2 ^ d * 2 ^ j)) = (2 ^ d < 2 * (n % 2 ^ d)) := by
    rw [← Nat.mul_assoc]
    exact propext ⟨fun h => Nat.lt_of_mul_lt_mul_right h, fun h => Nat.mul_lt_mul_of_pos_right h p⟩
  have e2 : (2 ^ d * 2 ^ j = 2 * (n % 2 ^ d * 2 ^ j)) = (2 ^ d = 2 * (n % 2 ^ d)) := by
    rw [← Nat.mul_assoc]
    exact propext ⟨fun h => Nat.eq_of_mul_eq_mul_right p h, fun h => congrArg (· * 2 ^ j) h⟩
  simp only [e1, e2]
theorem rhe_exact (n d : Nat) : rhe (n * 2 ^ d) d = n := by
  have := rhe_up n 0 d
  rw [Nat.zero_add] at this
  rw [this, rhe_zero]
theorem rhe_mono {n m : Nat} (h : n ≤ m) (d : Nat) : rhe n d ≤ rhe m d := by
  have p : 0 < 2 ^ d := Nat.two_pow_pos _
  have hd : n / 2 ^ d ≤ m / 2 ^ d := Nat.div_le_div_right h
  have t (b : Bool) : b.toNat ≤ 1 := by cases b <;> decide
  unfold rhe
  rcases Nat.lt_or_ge (n / 2 ^ d) (m / 2 ^ d) with g | g
  · have := t (decide (2 ^ d < 2 * (n % 2 ^ d)) || (decide (2 ^ d = 2 * (n % 2 ^ d)) && n / 2 ^ d % 2 == 1))
    omega
  · have e : n / 2 ^ d = m / 2 ^ d := by omega
    have hm : n % 2 ^ d ≤ m % 2 ^ d := by
      have a := Nat.div_add_mod n (2 ^ d)
      have b := Nat.div_add_mod m (2 ^ d)
      rw [e] at a
      omega
    rw [e]
    apply Nat.add_le_add_left
    by_cases c1 : 2 ^ d < 2 * (n % 2 ^ d)
    · have c2 : 2 ^ d < 2 * (m % 2 ^ d) := by omega
      simp [c1, c2]
    · by_cases c3 : 2 ^ d = 2 * (n % 2 ^ d)
      · by_cases c4 : 2 ^ d < 2 * (m % 2 ^ d)
        · have := t (decide (2 ^ d < 2 * (n % 2 ^ d)) || (decide (2 ^ d = 2 * (n % 2 ^ d)) && m / 2 ^ d % 2 == 1))
          simpa [c4] using this
        · have c5 : 2 ^ d = 2 * (m % 2 ^ d) := by omega
          rw [show n % 2 ^ d = m % 2 ^ d by omega]
          exact Nat.le_refl _
      · simp [c1, c3]
/-- the rung of what is nearest to M times 2 ^ p. -/
def last (M : Nat) (p : Int) : Int := max (p + M.log2 - 52) (-1074)
def kept (M : Nat) (p : Int) : Nat := rhe (M * 2 ^ (p - last M p).toNat) (last M p - p).toNat
def rd (M : Nat) (p : Int) : Nat := if M = 0 then 0 else min ((last M p + 1074).toNat * 4503599627370496 + kept M p) inf
theorem nearest_rd (s : Bool) (M : Nat) (p : Int) : double.nearest s M p = double.word s (rd M p) := by
  have e2 : double.binade = 4503599627370496 := by decide
  have e3 : double.infRung = inf := by decide
  have e4 : double.leastPlace = -1074 := by decide
  have e5 : double.fractionBits = 52 := rfl
  unfold Format.nearest rd
  by_cases h : M = 0
  · rw [if_pos h, if_pos h]
  · rw [if_neg h, if_neg h]
    dsimp only
    rw [e2, e3, e4, e5, cut_even, Nat.shiftLeft_eq]
    have : last M p - -1074 = last M p + 1074 := by omega
    unfold kept
    rw [← this]
    rfl
theorem rd_scale {M : Nat} (p : Int) (k : Nat) : rd (M * 2 ^ k) p = rd M (p + k) := by
  by_cases h : M = 0
  · subst h; simp [rd]
  · have h2 : M * 2 ^ k ≠ 0 := Nat.mul_ne_zero h (by have := Nat.two_pow_pos k; omega)
    have el : last (M * 2 ^ k) p = last M (p + k) := by
      unfold last
      rw [log2_mul_pow h]
      omega
    unfold rd
    rw [if_neg h, if_neg h2, el]
    congr 2
    unfold kept
    rw [el]
    generalize last M (p + k) = L
    by_cases g : p + k ≤ L
    · have a1 : (p - L).toNat = 0 := by omega
      have a2 : (p + k - L).toNat = 0 := by omega
      have a3 : (L - p).toNat = (L - (p + k)).toNat + k := by omega
      rw [a1, a2, a3]
      simp only [Nat.pow_zero, Nat.mul_one]
      exact rhe_up _ _ _
    · have b2 : (L - (p + k)).toNat = 0 := by omega
      by_cases g2 : L ≤ p
      · have a1 : (L - p).toNat = 0 := by omega
        have a3 : (p + k - L).toNat = k + (p - L).toNat := by omega
        rw [a1, b2, a3, rhe_zero, rhe_zero, Nat.mul_assoc, ← Nat.pow_add]
      · have a1 : (p - L).toNat = 0 := by omega
        have a3 : k = (p + k - L).toNat + (L - p).toNat := by omega
        rw [a1, b2, rhe_zero]
        have a4 : M * 2 ^ k = M * 2 ^ (p + k - L).toNat * 2 ^ (L - p).toNat := by
          rw [Nat.mul_assoc, ← Nat.pow_add]
          congr 2
        simp only [Nat.pow_zero, Nat.mul_one]
        rw [a4]
        exact rhe_exact _ _
theorem kept_le (M : Nat) (p : Int) : kept M p ≤ 9007199254740992 := by
  have h2 : M < 2 ^ (M.log2 + 1) := Nat.lt_log2_self
  have hl : p + M.log2 - 52 ≤ last M p := by unfold last; omega
  unfold kept
  generalize last M p = L at *
  by_cases g : L ≤ p
  · have a1 : (L - p).toNat = 0 := by omega
    rw [a1, rhe_zero]
    have a2 : M * 2 ^ (p - L).toNat < 2 ^ (M.log2 + 1) * 2 ^ (p - L).toNat := Nat.mul_lt_mul_of_pos_right h2 (Nat.two_pow_pos _)
    rw [← Nat.pow_add] at a2
    have a3 : 2 ^ (M.log2 + 1 + (p - L).toNat) ≤ 2 ^ 53 := Nat.pow_le_pow_right (by omega) (by omega)
    omega
  · have a1 : (p - L).toNat = 0 := by omega
    rw [a1, Nat.pow_zero, Nat.mul_one]
    have a3 : M ≤ 2 ^ 53 * 2 ^ (L - p).toNat := by
      rw [← Nat.pow_add]
      have : 2 ^ (M.log2 + 1) ≤ 2 ^ (53 + (L - p).toNat) := Nat.pow_le_pow_right (by omega) (by omega)
      omega
    have a4 := rhe_mono a3 (L - p).toNat
    rw [rhe_exact] at a4
    exact a4
theorem kept_ge {M : Nat} (h : M ≠ 0) (p : Int) (hl : last M p = p + M.log2 - 52) : 4503599627370496 ≤ kept M p := by
  have h2 : 2 ^ M.log2 ≤ M := Nat.log2_self_le h
  unfold kept
  generalize last M p = L at *
  by_cases g : L ≤ p
  · have a1 : (L - p).toNat = 0 := by omega
    rw [a1, rhe_zero]
    have a2 : 2 ^ M.log2 * 2 ^ (p - L).toNat ≤ M * 2 ^ (p - L).toNat := Nat.mul_le_mul_right _ h2
    rw [← Nat.pow_add] at a2
    have a3 : M.log2 + (p - L).toNat = 52 := by omega
    rw [a3] at a2
    omega
  · have a1 : (p - L).toNat = 0 := by omega
    rw [a1, Nat.pow_zero, Nat.mul_one]
    have a3 : 2 ^ 52 * 2 ^ (L - p).toNat ≤ M := by
      rw [← Nat.pow_add]
      have : 52 + (L - p).toNat = M.log2 := by omega
      rw [this]; exact h2
    have a4 := rhe_mono a3 (L - p).toNat
    rw [rhe_exact] at a4
    exact a4
theorem log2_mono {M N : Nat} (h0 : M ≠ 0) (h : M ≤ N) : M.log2 ≤ N.log2 := by
  have h1 : 2 ^ M.log2 ≤ M := Nat.log2_self_le h0
  exact (Nat.le_log2 (by omega)).2 (by omega)
theorem rd_le (M : Nat) (p : Int) : rd M p ≤ inf := by
  unfold rd
  split
  · exact Nat.zero_le _
  · exact Nat.min_le_right _ _
theorem rd_mono {M N : Nat} (p : Int) (h : M ≤ N) : rd M p ≤ rd N p := by
  by_cases h0 : M = 0
  · subst h0; simp [rd]
  · have hN : N ≠ 0 := by omega
    have hl := log2_mono h0 h
    have hL : last M p ≤ last N p := by unfold last; omega
    unfold rd
    rw [if_neg h0, if_neg hN]
    have key : (last M p + 1074).toNat * 4503599627370496 + kept M p ≤ (last N p + 1074).toNat * 4503599627370496 + kept N p := by
      rcases Int.lt_or_le (last M p) (last N p) with g | g
      · have a := kept_le M p
        have hn : last N p = p + N.log2 - 52 := by
          have : -1074 ≤ last M p := by unfold last; omega
          unfold last at g this ⊢
          omega
        have b := kept_ge hN p hn
        have : -1074 ≤ last M p := by unfold last; omega
        generalize kept M p = x at *
        generalize kept N p = y at *
        generalize last M p = x1 at *
        generalize last N p = y1 at *
        clear hL hn h hl
        omega
      · have e : last M p = last N p := by omega
        have : kept M p ≤ kept N p := by
          unfold kept
          rw [e]
          exact rhe_mono (Nat.mul_le_mul_right _ h) _
        rw [e]
        exact Nat.add_le_add_left this _
    exact Nat.le_min.2 ⟨Nat.le_trans (Nat.min_le_left _ _) key, Nat.min_le_right _ _⟩
theorem mag_high {r : Nat} (h : 4503599627370496 ≤ r) : mag r = (4503599627370496 + r % 4503599627370496) * 2 ^ (r / 4503599627370496 - 1) := by
  unfold mag
  rw [if_neg (by omega)]
/-- what is a number's magnitude is rounded to itself. -/
theorem rd_mag {r : Nat} (h : r ≤ inf) : rd (mag r) (-1074) = r := by
  have hi : inf = 9218868437227405312 := rfl
  by_cases g : r < 4503599627370496
  · have e : mag r = r := by unfold mag; rw [if_pos g]
    rw [e]
    by_cases h0 : r = 0
    · subst h0; rfl
    · have l : r.log2 < 52 := (Nat.log2_lt h0).2 (by omega)
      have el : last r (-1074) = -1074 := by unfold last; omega
      unfold rd kept
      rw [if_neg h0, el]
      have e0 : ((-1074 : Int) - -1074).toNat = 0 := by decide
      have e1 : ((-1074 : Int) + 1074).toNat = 0 := by decide
      rw [e0, e1, rhe_zero, Nat.zero_mul, Nat.zero_add, Nat.pow_zero, Nat.mul_one]
      exact Nat.min_eq_left h
  · rw [mag_high (by omega), rd_scale]
    generalize hq : r / 4503599627370496 - 1 = q
    generalize ht : r % 4503599627370496 = t
    have l : (4503599627370496 + t).log2 = 52 := log2_pos (by omega) (by omega) (by omega)
    have el : last (4503599627370496 + t) (-1074 + q) = -1074 + q := by unfold last; omega
    unfold rd kept
    rw [if_neg (by omega), el]
    have e0 : ((-1074 : Int) + q - (-1074 + q)).toNat = 0 := by omega
    have e1 : ((-1074 : Int) + q + 1074).toNat = q := by omega
    rw [e0, e1, rhe_zero, Nat.pow_zero, Nat.mul_one]
    have er : q * 4503599627370496 + (4503599627370496 + t) = r := by omega
    rw [er]
    exact Nat.min_eq_left h
/-- whatever has at most 53 digits is a magnitude. -/
theorem rep (k : Nat) : ∀ m : Nat, m < 9007199254740992 → ∃ r, mag r = m * 2 ^ k ∧ r < (k + 2) * 4503599627370496 := by
  induction k with
  | zero =>
    intro m hm
    refine ⟨m, ?_, by omega⟩
    by_cases g : m < 4503599627370496
    · unfold mag; rw [if_pos g]; simp
    · rw [mag_high (by omega)]
      have e1 : m / 4503599627370496 - 1 = 0 := by omega
      rw [e1, Nat.pow_zero, Nat.mul_one, Nat.mul_one]
      omega
  | succ k ih =>
    intro m hm
    by_cases g : m < 4503599627370496
    · obtain ⟨r, e, l⟩ := ih (2 * m) (by omega)
      refine ⟨r, ?_, Nat.lt_of_lt_of_le l (Nat.mul_le_mul_right _ (by omega))⟩
      rw [e, Nat.pow_succ, Nat.mul_comm 2 m, Nat.mul_assoc, Nat.mul_comm 2 (2 ^ k)]
    · clear ih
      have e0 : (k + 2) * 4503599627370496 + (m - 4503599627370496) < (k + 1 + 2) * 4503599627370496 := by omega
      refine ⟨(k + 2) * 4503599627370496 + (m - 4503599627370496), ?_, e0⟩
      have e3 : 4503599627370496 + (m - 4503599627370496) = m := by omega
      rw [mag_high (by omega)]
      have e1 : ((k + 2) * 4503599627370496 + (m - 4503599627370496)) / 4503599627370496 - 1 = k + 1 := by omega
      have e2 : ((k + 2) * 4503599627370496 + (m - 4503599627370496)) % 4503599627370496 = m - 4503599627370496 := by omega
      rw [e1, e2, e3]
/-- a number of at most 53 digits at a place that there is, rounded: itself. -/
theorem rd_exact {m k : Nat} (hm : m < 9007199254740992) (hk : k ≤ 2044) : mag (rd (m * 2 ^ k) (-1074)) = m * 2 ^ k ∧ rd (m * 2 ^ k) (-1074) < inf := by
  have hi : inf = 9218868437227405312 := rfl
  obtain ⟨r, e, l⟩ := rep k m hm
  have hr : r < inf := by omega
  rw [← e, rd_mag (by omega)]
  exact ⟨rfl, hr⟩

/-- the least place. -/
def lp : Nat := 1074
theorem cut_low (n d : Nat) : n / 2 ^ min d (n.log2 + 2) = n / 2 ^ d ∧ n % 2 ^ min d (n.log2 + 2) = n % 2 ^ d := by
  rcases Nat.le_total d (n.log2 + 2) with h | h
  · rw [Nat.min_eq_left h]; exact ⟨rfl, rfl⟩
  · rw [Nat.min_eq_right h]
    have a : n < 2 ^ (n.log2 + 1) := Nat.lt_log2_self
    have b : 2 ^ (n.log2 + 2) = 2 * 2 ^ (n.log2 + 1) := by rw [Nat.pow_succ]; omega
    have c : 2 ^ (n.log2 + 2) ≤ 2 ^ d := Nat.pow_le_pow_right (by omega) h
    rw [Nat.div_eq_of_lt (by omega), Nat.mod_eq_of_lt (by omega), Nat.div_eq_of_lt (by omega : n < 2 ^ d), Nat.mod_eq_of_lt (by omega : n < 2 ^ d)]
    exact ⟨rfl, rfl⟩
theorem cut_zero (s : Bool) (n d : Nat) : Toward.zero.cut s n d = n / 2 ^ d := by
  unfold Toward.cut
  dsimp only
  rw [Nat.shiftLeft_eq, Nat.one_mul, (cut_low n d).1]
  simp
/-- downwards, of a number without its sign. -/
def dn (s : Bool) (n d : Nat) : Nat := n / 2 ^ d + (s && n % 2 ^ d != 0).toNat
theorem cut_down (s : Bool) (n d : Nat) : Toward.down.cut s n d = dn s n d := by
  unfold Toward.cut dn
  dsimp only
  rw [Nat.shiftLeft_eq, Nat.one_mul, (cut_low n d).1, (cut_low n d).2]
theorem up_any {F : Nat → Nat → Nat} (hF : ∀ n d j, F (n * 2 ^ j) (d + j) = F n d) (m k : Nat) : F (m * 2 ^ (-1074 + (k : Int)).toNat) (-(-1074 + (k : Int))).toNat = F (m * 2 ^ k) lp := by
  have hl : lp = 1074 := rfl
  rcases Nat.le_total lp k with h | h
  · have a : (-1074 + (k : Int)).toNat = k - lp := by omega
    have b : (-(-1074 + (k : Int))).toNat = 0 := by omega
    have c := hF (m * 2 ^ (k - lp)) 0 lp
    rw [a, b, ← c, Nat.mul_assoc, ← Nat.pow_add]
    have e : k - lp + lp = k := by omega
    rw [e, Nat.zero_add]
  · have a : (-1074 + (k : Int)).toNat = 0 := by omega
    have b : (-(-1074 + (k : Int))).toNat = lp - k := by omega
    have c := hF m (lp - k) k
    have e : lp - k + k = lp := by omega
    rw [e] at c
    rw [a, b, c, Nat.pow_zero, Nat.mul_one]
theorem div_up (n d j : Nat) : n * 2 ^ j / 2 ^ (d + j) = n / 2 ^ d := by
  rw [Nat.pow_add, Nat.mul_div_mul_right _ _ (Nat.two_pow_pos _)]
theorem dn_up (s : Bool) (n d j : Nat) : dn s (n * 2 ^ j) (d + j) = dn s n d := by
  have p : 0 < 2 ^ j := Nat.two_pow_pos _
  unfold dn
  rw [div_up, Nat.pow_add, Nat.mul_mod_mul_right]
  congr 3
  by_cases h : n % 2 ^ d = 0
  · rw [h, Nat.zero_mul]
  · have g : n % 2 ^ d * 2 ^ j ≠ 0 := Nat.mul_ne_zero h (by omega)
    rw [show (n % 2 ^ d * 2 ^ j != 0) = true from by simpa using g, show (n % 2 ^ d != 0) = true from by simpa using h]
/-- a finite number as a whole one, towards zero. -/
theorem toInt_fin {w : Nat} (hw : w < 18446744073709551616) (h : rung w < inf) : (double.read w).toInt .zero = some (sg (neg w) (mag (rung w) / 2 ^ lp)) := by
  obtain ⟨m, k, e1, e2, -, -⟩ := read_fin hw h
  rw [e1]
  unfold Datum.toInt Datum.integral
  dsimp only
  rw [signed_eq, cut_zero, Nat.shiftLeft_eq, up_any (F := fun n d => n / 2 ^ d) div_up, e2, Nat.pow_zero, Nat.mul_one]
theorem even_fin {w : Nat} (hw : w < 18446744073709551616) (h : rung w < inf) : double.write ((double.read w).integral .even) = double.word (neg w) (rd (rhe (mag (rung w)) lp) 0) := by
  obtain ⟨m, k, e1, e2, -, -⟩ := read_fin hw h
  rw [e1]
  unfold Datum.integral Format.write
  dsimp only
  rw [nearest_rd, cut_even, Nat.shiftLeft_eq, up_any rhe_up, e2]
theorem down_fin {w : Nat} (hw : w < 18446744073709551616) (h : rung w < inf) : double.write ((double.read w).integral .down) = double.word (neg w) (rd (dn (neg w) (mag (rung w)) lp) 0) := by
  obtain ⟨m, k, e1, e2, -, -⟩ := read_fin hw h
  rw [e1]
  unfold Datum.integral Format.write
  dsimp only
  rw [nearest_rd, cut_down, Nat.shiftLeft_eq, up_any (dn_up (neg w)), e2]
/-- a word of a sign and a rung. -/
theorem word_eq (s : Bool) (r : Nat) : double.word s r = if s then 9223372036854775808 + r else r := by
  have : double.signWeight = 9223372036854775808 := by decide
  unfold Format.word
  rw [this]
theorem word_rung {s : Bool} {r : Nat} (h : r ≤ inf) : rung (double.word s r) = r ∧ neg (double.word s r) = s ∧ double.word s r < 18446744073709551616 := by
  have hi : inf = 9218868437227405312 := rfl
  rw [word_eq]
  unfold rung neg
  cases s
  · simp; omega
  · simp; omega
/-- a whole number, rounded: itself. -/
theorem rd_int {n : Nat} (h : n < 9007199254740992) : mag (rd n 0) = n * 2 ^ lp ∧ rd n 0 < inf := by
  have e : rd n 0 = rd (n * 2 ^ lp) (-1074) := by rw [rd_scale]; rfl
  rw [e]
  exact rd_exact h (by have hl : lp = 1074 := rfl; omega)
/-- and back. -/
theorem int_back {s : Bool} {n : Nat} (h : n < 9007199254740992) : (double.read (double.word s (rd n 0))).toInt .zero = some (sg s n) := by
  obtain ⟨a, b⟩ := rd_int h
  obtain ⟨c1, c2, c3⟩ := word_rung (s := s) (Nat.le_of_lt b)
  rw [toInt_fin c3 (by rw [c1]; exact b), c1, c2, a, Nat.mul_div_cancel _ (Nat.two_pow_pos _)]
/-- a product of two finite ones. -/
def mr (r s : Nat) : Nat := rd (mag r * mag s) (-2148)
theorem mul_fin {x y : Nat} (hx : x < 18446744073709551616) (hy : y < 18446744073709551616) (fx : rung x < inf) (fy : rung y < inf) : double.mul x y = some (double.word (neg x ^^ neg y) (mr (rung x) (rung y))) := by
  obtain ⟨m, a, e1, e2, -, -⟩ := read_fin hx fx
  obtain ⟨n, b, f1, f2, -, -⟩ := read_fin hy fy
  unfold Format.mul
  rw [e1, f1]
  unfold Datum.product
  dsimp only
  unfold Format.write
  simp only [Option.map_some, nearest_rd]
  unfold mr
  have : -1074 + (a : Int) + (-1074 + (b : Int)) = -2148 + ((a + b : Nat) : Int) := by omega
  rw [this, ← rd_scale, ← e2, ← f2, Nat.pow_add]
  congr 3
  rw [Nat.mul_mul_mul_comm]
/-- a product of two that are no less than nothing. -/
def mi (x y : Nat) : Nat := if x = inf ∨ y = inf then inf else mr x y
theorem mr_le (x y : Nat) : mr x y ≤ inf := rd_le _ _
theorem mi_le (x y : Nat) : mi x y ≤ inf := by
  unfold mi
  split
  · exact Nat.le_refl _
  · exact mr_le _ _
theorem rung_low {x : Nat} (h : x ≤ inf) : rung x = x ∧ neg x = false ∧ x < 18446744073709551616 := by
  have hi : inf = 9218868437227405312 := rfl
  unfold rung neg
  refine ⟨by omega, by simp; omega, by omega⟩
theorem mag_pos {r : Nat} (h : r ≠ 0) : 0 < mag r := by
  have := @mag_lt 0 r (by omega)
  rw [mag_zero] at this
  exact this
theorem prod_ii : (Datum.product (.infinity false) (.infinity false)).map double.write = some inf := by decide
theorem prod_in {n : Nat} {p : Int} (h : n ≠ 0) : (Datum.product (.infinity false) (.number false n p)).map double.write = some inf := by
  unfold Datum.product
  dsimp only
  rw [if_neg h]
  decide
theorem prod_ni {n : Nat} {p : Int} (h : n ≠ 0) : (Datum.product (.number false n p) (.infinity false)).map double.write = some inf := by
  unfold Datum.product
  dsimp only
  rw [if_neg h]
  decide
theorem read_low {x : Nat} (hx : x ≤ inf) (h0 : x ≠ 0) (c : x ≠ inf) : ∃ n p, double.read x = .number false n p ∧ n ≠ 0 := by
  obtain ⟨a1, a2, a3⟩ := rung_low hx
  have fx : rung x < inf := by rw [a1]; exact Nat.lt_of_le_of_ne hx c
  obtain ⟨n, b, f1, f2, -, -⟩ := read_fin a3 fx
  refine ⟨n, _, by rw [f1, a2], ?_⟩
  intro z
  rw [z, Nat.zero_mul, a1] at f2
  exact absurd f2 (Nat.ne_of_lt (mag_pos h0))
theorem read_infw : double.read inf = .infinity false := by decide
theorem mul_mi {x y : Nat} (hx : x ≤ inf) (hy : y ≤ inf) (h1 : x = inf → y ≠ 0) (h2 : y = inf → x ≠ 0) : double.mul x y = some (mi x y) := by
  by_cases cx : x = inf
  · have e : mi x y = inf := by unfold mi; exact if_pos (Or.inl cx)
    rw [e]
    unfold Format.mul
    rw [cx, read_infw]
    by_cases cy : y = inf
    · rw [cy, read_infw]
      exact prod_ii
    · obtain ⟨n, p, f, g⟩ := read_low hy (h1 cx) cy
      rw [f]
      exact prod_in g
  · by_cases cy : y = inf
    · have e : mi x y = inf := by unfold mi; exact if_pos (Or.inr cy)
      rw [e]
      unfold Format.mul
      obtain ⟨n, p, f, g⟩ := read_low hx (h2 cy) cx
      rw [cy, read_infw, f]
      exact prod_ni g
    · have e : mi x y = mr x y := by
        unfold mi
        exact if_neg (fun h => h.elim cx cy)
      obtain ⟨a1, a2, a3⟩ := rung_low hx
      obtain ⟨b1, b2, b3⟩ := rung_low hy
      have fx : rung x < inf := by rw [a1]; exact Nat.lt_of_le_of_ne hx cx
      have fy : rung y < inf := by rw [b1]; exact Nat.lt_of_le_of_ne hy cy
      rw [e, mul_fin a3 b3 fx fy, a1, b1, a2, b2, word_eq, Bool.xor_false, if_neg (by decide)]
theorem mi_mono {x x' y y' : Nat} (hx : x ≤ x') (hy : y ≤ y') (lx : x' ≤ inf) (ly : y' ≤ inf) : mi x y ≤ mi x' y' := by
  unfold mi
  by_cases c : x' = inf ∨ y' = inf
  · rw [if_pos c]
    split
    · exact Nat.le_refl _
    · exact mr_le _ _
  · rw [if_neg c, if_neg (by omega)]
    exact rd_mono _ (Nat.mul_le_mul (mag_le_iff.2 hx) (mag_le_iff.2 hy))
theorem mi_zero {x : Nat} (hx : x ≠ inf) : mi x 0 = 0 := by
  unfold mi
  rw [if_neg (by intro h; rcases h with h | h; exact hx h; exact absurd h (by decide))]
  unfold mr
  rw [mag_zero, Nat.mul_zero]
  rfl
/-- 100 and 10000, and how loose, thrice. -/
def hund : Nat := 4636737291354636288
def most : Nat := 4666723172467343360
def tri (a : Nat) : Nat := mi (mi (mi hund a) a) a
def bad (a : Nat) : Nat := if most ≤ tri a then 10000 else mag (tri a) / 2 ^ lp
theorem tri_steps {a : Nat} (h : a ≤ inf) : double.mul hund a = some (mi hund a) ∧ double.mul (mi hund a) a = some (mi (mi hund a) a) ∧ double.mul (mi (mi hund a) a) a = some (tri a) := by
  have h0 : hund ≠ inf := by decide
  have h1 : hund ≠ 0 := by decide
  have p1 : mi hund a = inf → a ≠ 0 := by
    intro e z; subst z; rw [mi_zero h0] at e; exact absurd e (by decide)
  have p2 : mi (mi hund a) a = inf → a ≠ 0 := by
    intro e z; subst z; rw [mi_zero h0, mi_zero (by decide)] at e; exact absurd e (by decide)
  have i1 : a = inf → mi hund a ≠ 0 := by
    intro e; unfold mi; rw [if_pos (Or.inr e)]; decide
  have i2 : a = inf → mi (mi hund a) a ≠ 0 := by
    intro e; rw [mi, if_pos (Or.inr e)]; decide
  exact ⟨mul_mi (by decide) h (fun e => absurd e h0) (fun _ => h1), mul_mi (mi_le _ _) h p1 i1, mul_mi (mi_le _ _) h p2 i2⟩
theorem tri_le (a : Nat) : tri a ≤ inf := mi_le _ _
theorem tri_mono {a b : Nat} (h : a ≤ b) (hb : b ≤ inf) : tri a ≤ tri b := by
  unfold tri
  exact mi_mono (mi_mono (mi_mono (Nat.le_refl _) h (by decide) hb) h (mi_le _ _) hb) h (mi_le _ _) hb
theorem mag_most : mag most = 10000 * 2 ^ lp := by
  have e : lp = 1074 := rfl
  rw [e]
  decide +kernel
theorem bad_le (a : Nat) : bad a ≤ 10000 := by
  unfold bad
  split
  · exact Nat.le_refl _
  · rename_i h
    have := @mag_lt (tri a) most (by omega)
    rw [mag_most] at this
    exact Nat.le_of_lt ((Nat.div_lt_iff_lt_mul (Nat.two_pow_pos _)).2 this)
theorem bad_mono {a b : Nat} (h : a ≤ b) (hb : b ≤ inf) : bad a ≤ bad b := by
  have t := tri_mono h hb
  by_cases c : most ≤ tri b
  · have : bad b = 10000 := by unfold bad; rw [if_pos c]
    rw [this]; exact bad_le a
  · unfold bad
    rw [if_neg c, if_neg (by omega)]
    exact Nat.div_le_div_right (mag_le_iff.2 t)
/-- of what is below 10000: so many whole ones are in it. -/
theorem bad_step {a n : Nat} (h : tri a < most) (hn : n < 9007199254740992) : rd n 0 ≤ tri a ↔ n ≤ bad a := by
  unfold bad
  rw [if_neg (by omega), Nat.le_div_iff_mul_le (Nat.two_pow_pos _), ← (rd_int hn).1]
  exact mag_le_iff.symm

/-- what a finite number is, in units of the least one. -/
def V (w : Nat) : Int := sg (neg w) (mag (rung w))
theorem sg_not (t : Bool) (n : Nat) : sg (!t) n = - sg t n := by cases t <;> simp [sg]
theorem natAbs_mul_pow (a : Int) (c : Nat) : a.natAbs * 2 ^ c = (a * ((2 ^ c : Nat) : Int)).natAbs := by
  rw [Int.natAbs_mul]; rfl
theorem total_eq (s t : Bool) (m n a b : Nat) : ∃ c : Nat, min (-1074 + (a : Int)) (-1074 + b) = -1074 + c ∧ (signed s m (-1074 + (a : Int) - min (-1074 + (a : Int)) (-1074 + b)).toNat + signed (!t) n (-1074 + (b : Int) - min (-1074 + (a : Int)) (-1074 + b)).toNat) * ((2 ^ c : Nat) : Int) = sg s (m * 2 ^ a) - sg t (n * 2 ^ b) := by
  refine ⟨min a b, by omega, ?_⟩
  have e : min (-1074 + (a : Int)) (-1074 + b) = -1074 + (min a b : Nat) := by omega
  rw [e]
  have e1 : (-1074 + (a : Int) - (-1074 + (min a b : Nat))).toNat = a - min a b := by omega
  have e2 : (-1074 + (b : Int) - (-1074 + (min a b : Nat))).toNat = b - min a b := by omega
  rw [e1, e2, signed_eq, signed_eq, sg_not, Int.add_mul, Int.neg_mul, ← sg_mul, ← sg_mul]
  have f1 : m * 2 ^ (a - min a b) * 2 ^ min a b = m * 2 ^ a := by
    rw [Nat.mul_assoc, ← Nat.pow_add]; congr 2; omega
  have f2 : n * 2 ^ (b - min a b) * 2 ^ min a b = n * 2 ^ b := by
    rw [Nat.mul_assoc, ← Nat.pow_add]; congr 2; omega
  rw [f1, f2]
  exact Int.sub_eq_add_neg.symm
/-- a difference of two finite ones. -/
theorem sub_fin {x y : Nat} (hx : x < 18446744073709551616) (hy : y < 18446744073709551616) (fx : rung x < inf) (fy : rung y < inf) : ∃ b, double.sub x y = some (double.word b (rd (V x - V y).natAbs (-1074))) ∧ (V y < V x → b = false) := by
  obtain ⟨m, i, e1, e2, -, -⟩ := read_fin hx fx
  obtain ⟨n, j, f1, f2, -, -⟩ := read_fin hy fy
  obtain ⟨c, hb, ht⟩ := total_eq (neg x) (neg y) m n i j
  unfold Format.sub
  rw [e1, f1]
  unfold Datum.opposite Datum.sum
  dsimp only
  rw [hb] at ht ⊢
  unfold Format.write
  simp only [Option.map_some, nearest_rd]
  have hp : (0 : Int) < ((2 ^ c : Nat) : Int) := by exact_mod_cast Nat.two_pow_pos c
  rw [← rd_scale, natAbs_mul_pow, ht, e2, f2]
  refine ⟨_, rfl, ?_⟩
  intro hl
  unfold V at hl
  rw [e2, f2] at ht
  generalize signed (neg x) m (-1074 + (i : Int) - (-1074 + (c : Int))).toNat + signed (!neg y) n (-1074 + (j : Int) - (-1074 + (c : Int))).toNat = tt at ht ⊢
  have h0 : 0 < tt := by
    rcases Int.lt_or_le 0 tt with g | g
    · exact g
    · have := Int.mul_nonpos_of_nonpos_of_nonneg g (Int.le_of_lt hp)
      omega
  rw [if_neg (by omega)]
  simp
  omega
def half : Nat := 4602678819172646912
theorem mag_half : 2 * mag half = 2 ^ lp := by
  have e : lp = 1074 := rfl
  rw [e]
  decide +kernel
def big : Nat := 4746794007248502784
theorem mag_big : mag big = 2147483648 * 2 ^ lp := by
  have e : lp = 1074 := rfl
  rw [e]
  decide +kernel
theorem exact_half {T : Nat} (h : mag (rd T (-1074)) = T) : (half < rd T (-1074) ↔ 2 ^ lp < 2 * T) ∧ (half = rd T (-1074) ↔ 2 ^ lp = 2 * T) := by
  have a := @mag_lt_iff half (rd T (-1074))
  have b := @mag_lt_iff (rd T (-1074)) half
  have c := mag_half
  rw [h] at a b
  generalize 2 ^ lp = U at *
  generalize rd T (-1074) = r at *
  generalize mag half = H at *
  generalize half = h0 at *
  constructor <;> constructor <;> intro g <;> omega
theorem small_half {T : Nat} (h : 2 ^ lp < 2 * T) : half ≤ rd T (-1074) := by
  have c := mag_half
  have e : rd (mag half) (-1074) = half := rd_mag (by decide)
  rw [← e]
  refine rd_mono _ ?_
  generalize 2 ^ lp = U at *
  omega
theorem fr_exact {m k : Nat} (hm : m < 9007199254740992) : mag (rd (m * 2 ^ k % 2 ^ lp) (-1074)) = m * 2 ^ k % 2 ^ lp := by
  have hl : lp = 1074 := rfl
  rcases Nat.le_total lp k with h | h
  · have e : m * 2 ^ k % 2 ^ lp = 0 := by
      have : k = (k - lp) + lp := by omega
      rw [this, Nat.pow_add, ← Nat.mul_assoc, Nat.mul_mod_left]
    rw [e]
    decide
  · have e : m * 2 ^ k % 2 ^ lp = m % 2 ^ (lp - k) * 2 ^ k := by
      have : lp = (lp - k) + k := by omega
      rw [show 2 ^ lp = 2 ^ (lp - k) * 2 ^ k from by rw [← Nat.pow_add, ← this], Nat.mul_mod_mul_right]
    rw [e]
    exact (rd_exact (Nat.lt_of_le_of_lt (Nat.mod_le _ _) hm) (by omega)).1
theorem fr_exact_neg {m k : Nat} (hm : m < 9007199254740992) (ht : m * 2 ^ k % 2 ^ lp ≠ 0) (hh : 2 ^ lp ≤ 2 * (m * 2 ^ k)) : mag (rd (2 ^ lp - m * 2 ^ k % 2 ^ lp) (-1074)) = 2 ^ lp - m * 2 ^ k % 2 ^ lp := by
  have hl : lp = 1074 := rfl
  rcases Nat.le_total lp k with h | h
  · have e : m * 2 ^ k % 2 ^ lp = 0 := by
      have : k = (k - lp) + lp := by omega
      rw [this, Nat.pow_add, ← Nat.mul_assoc, Nat.mul_mod_left]
    exact absurd e ht
  · have e0 : 2 ^ lp = 2 ^ (lp - k) * 2 ^ k := by
      rw [← Nat.pow_add]; congr 1; omega
    have e : m * 2 ^ k % 2 ^ lp = m % 2 ^ (lp - k) * 2 ^ k := by
      rw [e0, Nat.mul_mod_mul_right]
    have e3 : m % 2 ^ (lp - k) ≠ 0 := by
      intro z
      rw [e, z, Nat.zero_mul] at ht
      exact ht rfl
    have p : 0 < 2 ^ k := Nat.two_pow_pos _
    have h2 : 2 ^ (lp - k) ≤ 2 * m := by
      rw [e0, ← Nat.mul_assoc] at hh
      exact Nat.le_of_mul_le_mul_right hh p
    have h3 : lp - k < 54 := by
      rcases Nat.lt_or_ge (lp - k) 54 with g | g
      · exact g
      · have : 2 ^ 54 ≤ 2 ^ (lp - k) := Nat.pow_le_pow_right (by omega) g
        omega
    have h4 : 2 ^ (lp - k) ≤ 2 ^ 53 := Nat.pow_le_pow_right (by omega) (by omega)
    have e4 : 2 ^ lp - m * 2 ^ k % 2 ^ lp = (2 ^ (lp - k) - m % 2 ^ (lp - k)) * 2 ^ k := by
      rw [e, e0, Nat.sub_mul]
    rw [e4]
    exact (rd_exact (by omega) (by omega)).1
/-- a whole number as a float. -/
def ofI (n : Int) : Nat := double.write (.number (n < 0) n.natAbs 0)
theorem ofI_eq {n : Int} (h : n.natAbs < 9007199254740992) : rung (ofI n) < inf ∧ ofI n < 18446744073709551616 ∧ V (ofI n) = n * ((2 ^ lp : Nat) : Int) ∧ rung (ofI n) = rd n.natAbs 0 ∧ neg (ofI n) = decide (n < 0) := by
  have e : ofI n = double.word (decide (n < 0)) (rd n.natAbs 0) := by
    unfold ofI Format.write
    dsimp only
    rw [nearest_rd]
  obtain ⟨a, b⟩ := rd_int h
  obtain ⟨c1, c2, c3⟩ := word_rung (s := decide (n < 0)) (Nat.le_of_lt b)
  unfold V
  rw [e, c1, c2]
  refine ⟨b, c3, ?_, rfl, rfl⟩
  rw [a, sg_mul]
  congr 1
  unfold sg
  by_cases g : n < 0
  · simp [g]; omega
  · simp [g]; omega
/-- rounded by what is left over above the whole number beneath it. -/
theorem round_fin {w : Nat} (hw : w < 18446744073709551616) (h : rung w < big) :
    ∃ (A n : Int) (p : Nat), (double.read (double.write ((double.read w).integral .even))).toInt .zero = some A ∧ (double.read (double.write ((double.read w).integral .down))).toInt .zero = some n ∧
      double.sub w (ofI n) = some p ∧ p < 18446744073709551616 ∧ rung p ≤ inf ∧ -2147483648 ≤ n ∧ n ≤ 2147483648 ∧ -2147483648 ≤ A ∧ A ≤ 2147483648 ∧
      ((key half < key p ∨ key p = key half ∧ n % 2 ≠ 0) → A = n + 1) ∧ (¬ (key half < key p ∨ key p = key half ∧ n % 2 ≠ 0) → A = n) := by
  have hf : rung w < inf := Nat.lt_trans h (by decide)
  obtain ⟨m, k, e1, e2, e3, -⟩ := read_fin hw hf
  have hM : mag (rung w) < 2147483648 * 2 ^ lp := by
    have := mag_lt h
    rw [mag_big] at this
    exact this
  have hU : 0 < 2 ^ lp := Nat.two_pow_pos _
  have hq : mag (rung w) / 2 ^ lp < 2147483648 := (Nat.div_lt_iff_lt_mul hU).2 hM
  have hdm := Nat.div_add_mod (mag (rung w)) (2 ^ lp)
  have ht := Nat.mod_lt (mag (rung w)) hU
  have t1 (b : Bool) : b.toNat ≤ 1 := by cases b <;> decide
  have hR : rhe (mag (rung w)) lp ≤ 2147483648 := by
    unfold rhe
    have := t1 (decide (2 ^ lp < 2 * (mag (rung w) % 2 ^ lp)) || decide (2 ^ lp = 2 * (mag (rung w) % 2 ^ lp)) && mag (rung w) / 2 ^ lp % 2 == 1)
    omega
  have hD : dn (neg w) (mag (rung w)) lp ≤ 2147483648 := by
    unfold dn
    have := t1 (neg w && mag (rung w) % 2 ^ lp != 0)
    omega
  have E1 : (double.read (double.write ((double.read w).integral .even))).toInt .zero = some (sg (neg w) (rhe (mag (rung w)) lp)) := by
    rw [even_fin hw hf]
    exact int_back (by omega)
  have E2 : (double.read (double.write ((double.read w).integral .down))).toInt .zero = some (sg (neg w) (dn (neg w) (mag (rung w)) lp)) := by
    rw [down_fin hw hf]
    exact int_back (by omega)
  have hn0 : (sg (neg w) (dn (neg w) (mag (rung w)) lp)).natAbs < 9007199254740992 := by
    unfold sg
    split <;> omega
  obtain ⟨o1, o2, o3, -, -⟩ := ofI_eq hn0
  obtain ⟨b, s1, s2⟩ := sub_fin hw o2 hf o1
  obtain ⟨w1, w2, w3⟩ := word_rung (s := b) (rd_le (V w - V (ofI (sg (neg w) (dn (neg w) (mag (rung w)) lp)))).natAbs (-1074))
  obtain ⟨T, hT, hc⟩ : ∃ T : Nat, V w - V (ofI (sg (neg w) (dn (neg w) (mag (rung w)) lp))) = (T : Int) ∧ ((neg w = false ∧ T = mag (rung w) % 2 ^ lp) ∨ (neg w = true ∧ mag (rung w) % 2 ^ lp = 0 ∧ T = 0) ∨ (neg w = true ∧ mag (rung w) % 2 ^ lp ≠ 0 ∧ T = 2 ^ lp - mag (rung w) % 2 ^ lp)) := by
    rw [o3]
    unfold V dn
    clear E1 E2 s1 s2 w1 w2 w3 hn0 o1 o2 o3 hD hR e1 e2 e3 hM hq
    generalize mag (rung w) / 2 ^ lp = q at *
    generalize mag (rung w) % 2 ^ lp = t at *
    generalize mag (rung w) = M at *
    generalize 2 ^ lp = U at *
    generalize neg w = s
    have hdm2 : (M : Int) = U * q + t := by rw [← hdm, Int.natCast_add, Int.natCast_mul]
    cases s
    · refine ⟨t, ?_, Or.inl ⟨rfl, rfl⟩⟩
      simp only [sg, Bool.false_and, Bool.toNat_false, Nat.add_zero]
      rw [hdm2, Int.mul_comm (U : Int) q]
      simp
      omega
    · by_cases z : t = 0
      · refine ⟨0, ?_, Or.inr (Or.inl ⟨rfl, z, rfl⟩)⟩
        subst z
        simp only [sg]
        rw [hdm2]
        simp
        rw [Int.neg_mul, Int.mul_comm (q : Int) U]
        omega
      · refine ⟨U - t, ?_, Or.inr (Or.inr ⟨rfl, z, rfl⟩)⟩
        have zz : (t != 0) = true := by simpa using z
        simp only [sg, zz, Bool.true_and, Bool.toNat_true]
        rw [hdm2]
        simp
        rw [Int.neg_mul, Int.add_mul, Int.mul_comm (q : Int) U]
        omega
  rw [hT, Int.natAbs_natCast] at s1 w1 w2 w3
  have hk : key (double.word b (rd T (-1074))) = rd T (-1074) := by
    rw [key_sg, w1, w2]
    by_cases z : T = 0
    · subst z
      have : rd 0 (-1074) = 0 := by rfl
      rw [this]
      cases b <;> rfl
    · rw [s2 (by omega)]
      rfl
  have hh : key half = (half : Int) := by decide
  have R1 : rung (double.word b (rd T (-1074))) ≤ inf := by rw [w1]; exact rd_le _ _
  have hx : (half < rd T (-1074) ∨ rd T (-1074) = half ∧ (sg (neg w) (dn (neg w) (mag (rung w)) lp)) % 2 ≠ 0 → sg (neg w) (rhe (mag (rung w)) lp) = sg (neg w) (dn (neg w) (mag (rung w)) lp) + 1) ∧ (¬ (half < rd T (-1074) ∨ rd T (-1074) = half ∧ (sg (neg w) (dn (neg w) (mag (rung w)) lp)) % 2 ≠ 0) → sg (neg w) (rhe (mag (rung w)) lp) = sg (neg w) (dn (neg w) (mag (rung w)) lp)) := by
    have hE : (mag (rd T (-1074)) = T) ∨ (neg w = true ∧ mag (rung w) / 2 ^ lp = 0 ∧ 2 * (mag (rung w) % 2 ^ lp) < 2 ^ lp ∧ mag (rung w) % 2 ^ lp ≠ 0 ∧ half ≤ rd T (-1074)) := by
      rcases hc with ⟨c1, c2⟩ | ⟨c1, c2, c3⟩ | ⟨c1, c2, c3⟩
      · refine Or.inl ?_
        rw [c2, ← e2]
        exact fr_exact e3
      · refine Or.inl ?_
        rw [c3]
        rfl
      · by_cases g : mag (rung w) / 2 ^ lp = 0 ∧ 2 * (mag (rung w) % 2 ^ lp) < 2 ^ lp
        · refine Or.inr ⟨c1, g.1, g.2, c2, small_half ?_⟩
          rw [c3]
          have g2 := g.2
          clear s1 w1 w2 w3 hk R1 e1 e2 E1 E2 hM hdm
          generalize mag (rung w) % 2 ^ lp = t at *
          generalize 2 ^ lp = U at *
          omega
        · refine Or.inl ?_
          rw [c3, ← e2]
          refine fr_exact_neg e3 (by rw [e2]; exact c2) ?_
          rw [e2]
          clear s1 w1 w2 w3 hk R1 e1 e2 E1 E2 hM
          by_cases g1 : mag (rung w) / 2 ^ lp = 0
          · have g2 : ¬ 2 * (mag (rung w) % 2 ^ lp) < 2 ^ lp := fun z => g ⟨g1, z⟩
            rw [g1, Nat.mul_zero, Nat.zero_add] at hdm
            rw [hdm] at g2
            exact Nat.le_of_not_lt g2
          · have g3 : 2 ^ lp * 1 ≤ 2 ^ lp * (mag (rung w) / 2 ^ lp) := Nat.mul_le_mul_left _ (Nat.pos_of_ne_zero g1)
            rw [Nat.mul_one] at g3
            generalize 2 ^ lp * (mag (rung w) / 2 ^ lp) = x at *
            generalize mag (rung w) % 2 ^ lp = t at *
            generalize mag (rung w) = M at *
            generalize 2 ^ lp = U at *
            omega
    have hX : (mag (rd T (-1074)) = T → (half < rd T (-1074) ↔ 2 ^ lp < 2 * T) ∧ (half = rd T (-1074) ↔ 2 ^ lp = 2 * T)) := exact_half
    clear s1 s2 w1 w2 w3 hk R1 e1 e2 e3 E1 E2 hM hdm hT o1 o2 o3 hn0 hR hD hh hf hw h hq
    have r1 : 2 ^ lp < 2 * (mag (rung w) % 2 ^ lp) → rhe (mag (rung w)) lp = mag (rung w) / 2 ^ lp + 1 := by
      intro g; unfold rhe; simp [g]
    have r2 : 2 ^ lp = 2 * (mag (rung w) % 2 ^ lp) → mag (rung w) / 2 ^ lp % 2 = 1 → rhe (mag (rung w)) lp = mag (rung w) / 2 ^ lp + 1 := by
      intro g g2
      unfold rhe
      rw [show decide (2 ^ lp = 2 * (mag (rung w) % 2 ^ lp)) = true from decide_eq_true g, show (mag (rung w) / 2 ^ lp % 2 == 1) = true from by rw [g2]; rfl, Bool.and_true, Bool.or_true]
      rfl
    have r3 : 2 ^ lp = 2 * (mag (rung w) % 2 ^ lp) → mag (rung w) / 2 ^ lp % 2 = 0 → rhe (mag (rung w)) lp = mag (rung w) / 2 ^ lp := by
      intro g g2
      unfold rhe
      rw [show (mag (rung w) / 2 ^ lp % 2 == 1) = false from by rw [g2]; rfl, Bool.and_false, Bool.or_false, show decide (2 ^ lp < 2 * (mag (rung w) % 2 ^ lp)) = false from decide_eq_false (Nat.not_lt.2 (Nat.le_of_eq g.symm))]
      rfl
    have r4 : 2 * (mag (rung w) % 2 ^ lp) < 2 ^ lp → rhe (mag (rung w)) lp = mag (rung w) / 2 ^ lp := by
      intro g
      unfold rhe
      rw [show decide (2 ^ lp = 2 * (mag (rung w) % 2 ^ lp)) = false from decide_eq_false (fun z => Nat.ne_of_lt g z.symm), Bool.false_and, Bool.or_false, show decide (2 ^ lp < 2 * (mag (rung w) % 2 ^ lp)) = false from decide_eq_false (Nat.not_lt.2 (Nat.le_of_lt g))]
      rfl
    have d1 : neg w = false → dn (neg w) (mag (rung w)) lp = mag (rung w) / 2 ^ lp := by
      intro g; unfold dn; rw [g]; rfl
    have d2 : mag (rung w) % 2 ^ lp = 0 → dn (neg w) (mag (rung w)) lp = mag (rung w) / 2 ^ lp := by
      intro g; unfold dn; rw [g]; cases neg w <;> rfl
    have d3 : neg w = true → mag (rung w) % 2 ^ lp ≠ 0 → dn (neg w) (mag (rung w)) lp = mag (rung w) / 2 ^ lp + 1 := by
      intro g g2; unfold dn; rw [g, show (mag (rung w) % 2 ^ lp != 0) = true from by simpa using g2]; rfl
    generalize rhe (mag (rung w)) lp = R at *
    generalize dn (neg w) (mag (rung w)) lp = D at *
    generalize mag (rung w) / 2 ^ lp = q at *
    generalize mag (rung w) % 2 ^ lp = t at *
    generalize mag (rd T (-1074)) = y at *
    generalize rd T (-1074) = r at *
    generalize 2 ^ lp = U at *
    generalize half = H at *
    generalize neg w = s at *
    clear t1
    cases s
    · have hy : y = T := by
        rcases hE with g | ⟨g, -⟩
        · exact g
        · exact absurd g (by decide)
      have hT : T = t := by
        rcases hc with ⟨-, g⟩ | ⟨g, -⟩ | ⟨g, -⟩
        · exact g
        · exact absurd g (by decide)
        · exact absurd g (by decide)
      obtain ⟨x1, x2⟩ := hX hy
      have d1' := d1 rfl
      clear d1 d2 d3 hX hE hc hy
      subst hT
      simp only [sg]
      constructor
      · rintro (g | ⟨g1, g2⟩)
        · have := r1 (x1.1 g)
          simp; omega
        · have g3 := x2.1 g1.symm
          simp at g2
          have := r2 g3 (by omega)
          simp; omega
      · intro g
        simp only [not_or, not_and, Bool.false_eq_true, if_false] at g ⊢
        obtain ⟨g1, g2⟩ := g
        have g3 : ¬ U < 2 * T := fun z => g1 (x1.2 z)
        by_cases g4 : U = 2 * T
        · have g5 := g2 (x2.2 g4).symm
          have := r3 g4 (by omega)
          omega
        · have := r4 (by omega)
          omega
    · simp only [sg]
      by_cases z : t = 0
      · have hT : T = 0 := by
          rcases hc with ⟨g, -⟩ | ⟨-, -, g⟩ | ⟨-, g, -⟩
          · exact absurd g (by decide)
          · exact g
          · exact absurd z g
        have hy : y = T := by
          rcases hE with g | ⟨-, -, -, g, -⟩
          · exact g
          · exact absurd z g
        obtain ⟨x1, x2⟩ := hX hy
        have d := d2 z
        have rr := r4 (by omega)
        have n1 : ¬ H < r := fun g => by have := x1.1 g; omega
        have n2 : ¬ H = r := fun g => by have := x2.1 g; omega
        constructor
        · rintro (g | ⟨g1, g2⟩)
          · exact absurd g n1
          · exact absurd g1.symm n2
        · intro g
          simp; omega
      · have hT : T = U - t := by
          rcases hc with ⟨g, -⟩ | ⟨-, g, -⟩ | ⟨-, -, g⟩
          · exact absurd g (by decide)
          · exact absurd g z
          · exact g
        have d := d3 rfl z
        rcases hE with hy | ⟨-, q0, t0, -, hr⟩
        · obtain ⟨x1, x2⟩ := hX hy
          clear d1 d2 d3 hX hc
          constructor
          · rintro (g | ⟨g1, g2⟩)
            · have g3 := x1.1 g
              have := r4 (by omega)
              simp; omega
            · have g3 := x2.1 g1.symm
              simp at g2
              have := r3 (by omega) (by omega)
              simp; omega
          · intro g
            simp only [not_or, not_and, if_true] at g ⊢
            obtain ⟨g1, g2⟩ := g
            have g3 : ¬ U < 2 * T := fun z => g1 (x1.2 z)
            by_cases g4 : U = 2 * T
            · have g5 := g2 (x2.2 g4).symm
              have := r2 (by omega) (by omega)
              omega
            · have := r1 (by omega)
              omega
        · have rr := r4 t0
          clear d1 d2 d3 hX hc
          constructor
          · intro g
            simp; omega
          · intro g
            simp only [not_or, not_and, if_true] at g ⊢
            obtain ⟨g1, g2⟩ := g
            have g5 := g2 (by omega)
            omega
  refine ⟨_, _, _, E1, E2, s1, w3, R1, ?_, ?_, ?_, ?_, ?_, ?_⟩
  · unfold sg; split <;> omega
  · unfold sg; split <;> omega
  · unfold sg; split <;> omega
  · unfold sg; split <;> omega
  · rw [hk, hh]
    intro g
    refine hx.1 ?_
    rcases g with g | ⟨g1, g2⟩
    · exact Or.inl (Int.ofNat_lt.1 g)
    · exact Or.inr ⟨Int.ofNat_inj.1 g1, g2⟩
  · rw [hk, hh]
    intro g
    refine hx.2 (fun z => g ?_)
    rcases z with z | ⟨z1, z2⟩
    · exact Or.inl (Int.ofNat_lt.2 z)
    · exact Or.inr ⟨by rw [z1], z2⟩
end Fl
end Go.Proofs.Ytdepjmneoplicaa
