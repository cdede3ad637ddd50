/-
  A text that is cut between two signs: the signs of both halves; lists whose places are moved; and a law for appending from a slice that may be nil.
-/
import Derived.Test.YtaddjinjfdignabDoorLists
namespace Go.Proofs.YtaddjinjfdignabDoor
open Go.RowKit

theorem rest_shift (n : Nat) (x z : Nat → Nat) (M : Nat) (hz : ∀ j, z (M + j) = x j) : ∀ f k, n - k ≤ f → Sg.rest (M + n) z (M + k) = (Sg.rest n x k).map fun s => (s.1, s.2.1 + M, s.2.2) := by
  intro f
  induction f with
  | zero => intro k h; rw [Sg.rest_end _ _ _ (by omega), Sg.rest_end _ _ _ (by omega)]; rfl
  | succ f ih =>
    intro k h
    by_cases hk : k < n
    · have e : (fun j => z (M + k + j)) = fun j => x (k + j) := by funext j; rw [Nat.add_assoc, hz]
      have hp := Sg.cnt_pos (n - k) (fun j => x (k + j))
      rw [Sg.rest_step n x k hk, Sg.rest_step (M + n) z (M + k) (by omega), e, show M + n - (M + k) = n - k by omega, Nat.add_assoc, ih _ (by omega)]
      simp [Nat.add_comm]
    · rw [Sg.rest_end _ _ _ (by omega), Sg.rest_end _ _ _ (by omega)]; rfl

theorem cnt_cut {n m : Nat} {y : Nat → Nat} (h1 : Sg.cnt n y ≤ m) (h2 : m ≤ n) : Sg.cnt m y = Sg.cnt n y := by
  have hs := Sg.sz_le (y 0)
  unfold Sg.cnt at *
  generalize Sg.sz (y 0) = s at *
  generalize Sg.lo (y 0) = l at *
  generalize Sg.hi (y 0) = u at *
  (repeat' split at h1) <;> (repeat' split) <;> omega
theorem num_cut {n m : Nat} {y : Nat → Nat} (h1 : Sg.cnt n y ≤ m) (h2 : m ≤ n) : Sg.num m y = Sg.num n y := by
  unfold Sg.num Sg.whole; rw [cnt_cut h1 h2]
/-- the place behind so many signs. -/
def aft (n : Nat) (x : Nat → Nat) : Nat → Nat → Nat
  | q, 0 => q
  | q, k + 1 => if q < n then aft n x (q + Sg.cnt (n - q) (fun j => x (q + j))) k else q
theorem aft_le (n : Nat) (x : Nat → Nat) : ∀ k q, q ≤ n → q ≤ aft n x q k ∧ aft n x q k ≤ n := by
  intro k
  induction k with
  | zero => intro q h; exact ⟨Nat.le_refl _, h⟩
  | succ k ih =>
    intro q h
    simp only [aft]
    by_cases hq : q < n
    · rw [if_pos hq]
      have := Sg.cnt_le (n - q) (fun j => x (q + j)) (by omega)
      have := ih (q + Sg.cnt (n - q) (fun j => x (q + j))) (by omega)
      omega
    · rw [if_neg hq]; omega
theorem drop_aft (n : Nat) (x : Nat → Nat) : ∀ k q, (Sg.rest n x q).drop k = Sg.rest n x (aft n x q k) := by
  intro k
  induction k with
  | zero => intro q; rfl
  | succ k ih =>
    intro q
    simp only [aft]
    by_cases hq : q < n
    · rw [if_pos hq, Sg.rest_step n x q hq, List.drop_succ_cons, ih]
    · rw [if_neg hq, Sg.rest_end n x q (by omega)]; simp
theorem take_aft (n : Nat) (x : Nat → Nat) : ∀ k q, q ≤ n → (Sg.rest n x q).take k = Sg.rest (aft n x q k) x q := by
  intro k
  induction k with
  | zero => intro q h; simp only [aft, List.take_zero]; rw [Sg.rest_end _ _ _ (Nat.le_refl _)]
  | succ k ih =>
    intro q h
    simp only [aft]
    by_cases hq : q < n
    · rw [if_pos hq]
      have h1 := Sg.cnt_pos (n - q) (fun j => x (q + j))
      have h2 := Sg.cnt_le (n - q) (fun j => x (q + j)) (by omega)
      have h3 := aft_le n x k (q + Sg.cnt (n - q) (fun j => x (q + j))) (by omega)
      have h4 := ih (q + Sg.cnt (n - q) (fun j => x (q + j))) (by omega)
      generalize aft n x (q + Sg.cnt (n - q) (fun j => x (q + j))) k = p at *
      rw [Sg.rest_step n x q hq, List.take_succ_cons, h4, Sg.rest_step p x q (by omega), cnt_cut (n := n - q) (m := p - q) (by omega) (by omega), num_cut (n := n - q) (m := p - q) (by omega) (by omega)]
    · rw [if_neg hq, Sg.rest_end n x q (by omega), Sg.rest_end q x q (Nat.le_refl _)]; rfl
theorem cut_facts (n : Nat) (x : Nat → Nat) (k : Nat) : ∃ p, p ≤ n ∧ (Sg.all n x).take k = Sg.all p x ∧ (Sg.all n x).drop k = (Sg.all (n - p) (fun j => x (p + j))).map (fun s => (s.1, s.2.1 + p, s.2.2)) ∧
    (k < (Sg.all n x).length → p < n ∧ ∃ R L, (Sg.all n x)[k]? = some (R, p, L)) ∧ (k = (Sg.all n x).length → p = n) := by
  have hd := drop_aft n x k 0
  have ht := take_aft n x k 0 (by omega)
  have hl := aft_le n x k 0 (by omega)
  generalize aft n x 0 k = p at *
  have hsh := rest_shift (n - p) (fun j => x (p + j)) x p (fun j => rfl) n 0 (by omega)
  rw [show p + (n - p) = n by omega, Nat.add_zero] at hsh
  refine ⟨p, hl.2, ht, by unfold Sg.all; rw [hd, hsh], fun h => ?_, fun h => ?_⟩
  · have hpn : p < n := by
      by_cases hh : p < n
      · exact hh
      · rw [Sg.rest_end n x p (by omega)] at hd
        have := congrArg List.length hd
        unfold Sg.all at h
        simp at this
        omega
    refine ⟨hpn, Sg.num (n - p) (fun j => x (p + j)), Sg.cnt (n - p) (fun j => x (p + j)), ?_⟩
    rw [Sg.rest_step n x p hpn] at hd
    have := congrArg (·[0]?) hd
    unfold Sg.all
    simpa using this
  · by_cases hh : p < n
    · rw [Sg.rest_step n x p hh] at hd
      have := congrArg List.length hd
      unfold Sg.all at h
      simp at this
      omega
    · omega

/-- the first so many places of a list, moved. -/
def mix (p : Nat) : Nat → List (Nat × Nat × Nat) → List (Nat × Nat × Nat)
  | 0, l => l
  | _ + 1, [] => []
  | i + 1, s :: l => (s.1, s.2.1 + p, s.2.2) :: mix p i l
theorem mix_length (p : Nat) : ∀ i l, (mix p i l).length = l.length := by
  intro i
  induction i with
  | zero => intro l; rfl
  | succ i ih => intro l; cases l with
    | nil => rfl
    | cons s l => simp [mix, ih]
theorem mix_all (p : Nat) : ∀ (l : List (Nat × Nat × Nat)), mix p l.length l = l.map fun s => (s.1, s.2.1 + p, s.2.2) := by
  intro l
  induction l with
  | nil => rfl
  | cons s l ih => simp [mix, ih]
theorem mix_at (p : Nat) : ∀ (i : Nat) (l : List (Nat × Nat × Nat)), (mix p i l)[i]? = l[i]? := by
  intro i
  induction i with
  | zero => intro l; rfl
  | succ i ih => intro l; cases l with
    | nil => rfl
    | cons s l => simp [mix, ih]
theorem mix_set (p : Nat) : ∀ (i : Nat) (l : List (Nat × Nat × Nat)) (s : Nat × Nat × Nat), l[i]? = some s → (mix p i l).set i (s.1, s.2.1 + p, s.2.2) = mix p (i + 1) l := by
  intro i
  induction i with
  | zero => intro l s h; cases l with
    | nil => simp at h
    | cons a l => simp at h; subst h; rfl
  | succ i ih => intro l s h; cases l with
    | nil => simp at h
    | cons a l => simp only [mix, List.set_cons_succ]; rw [ih l s (by simpa using h)]
theorem sgCells_set : ∀ (l : List (Nat × Nat × Nat)) (i : Nat) (s : Nat × Nat × Nat) (a : Nat), l[i]? = some s → (sgCells l).set (i * 3 + 1) (.int .i64 (a : Nat)) = sgCells (l.set i (s.1, a, s.2.2)) := by
  intro l
  induction l with
  | nil => intro i s a h; simp at h
  | cons x l ih =>
    intro i s a h
    have e : ∀ (y : Nat × Nat × Nat) (l' : List (Nat × Nat × Nat)), sgCells (y :: l') = [.int .i32 (y.1 : Nat), .int .i64 (y.2.1 : Nat), .int .i64 (y.2.2 : Nat)] ++ sgCells l' := fun _ _ => rfl
    cases i with
    | zero => simp at h; subst h; rfl
    | succ i =>
      rw [List.set_cons_succ, e, e, ← ih i s a (by simpa using h), show (i + 1) * 3 + 1 = (i * 3 + 1) + 3 by omega]
      rfl
theorem sgCells_length (l : List (Nat × Nat × Nat)) : (sgCells l).length = l.length * 3 := by
  induction l with
  | nil => rfl
  | cons x l ih =>
    have e : sgCells (x :: l) = [.int .i32 (x.1 : Nat), .int .i64 (x.2.1 : Nat), .int .i64 (x.2.2 : Nat)] ++ sgCells l := rfl
    rw [e, List.length_append, ih, List.length_cons]; simp; omega
theorem sgCells_one (l : List (Nat × Nat × Nat)) : ∀ u ∈ sgCells l, u.oneCell' = true := by
  intro u hu
  obtain ⟨s, _, hu⟩ := List.mem_flatMap.1 hu
  simp at hu
  rcases hu with rfl | rfl | rfl <;> rfl

theorem wpList_append_src {P : Program} {w : World} {ops : Array Oper} {rest : List Oper} {o : Oper} {a : Act} {Q : Exit → Act → World → Prop} (hgd : o.guard = none) (s x : Operand) (t : TypeId)
    (ho : o.op = .call { callee := .builtin .append, args := #[s, x], argTypes := #[t, t] })
    (base : Nat) (e : TypeId) (i : TypeInfo) (z : Value) (size bytes : Nat) (ht : P.underlying t = some (.slice e)) (hi : P.info? e = some i) (hz : i.zero = some z)
    (hsize : i.size = size) (hby : i.bytes = bytes) (hzs : z.cells.size = size) (hsz : 0 < size)
    (v : Value) (n : Nat) (xs : List Value) (hs : a.eval s = v) (hown : w.ownsRow base e size v n xs)
    (ad : Option Addr) (m c : Nat) (news : List Value) (hx : a.eval x = .slice ad m c) (had : ad = none → m = 0 ∧ c = 0) (hl : news.length = m * size) (hnews : ∀ y, ad = some y → ∀ j u, news[j]? = some u → w.cell? (y.add j) = some u) (h1 : ∀ u ∈ news, u.oneCell' = true)
    (h63 : n + m ≤ maxLen) (hbytes : (n + m) * bytes ≤ 140737488355328) (hbase : base ≤ w.heap.size)
    (h : ∀ v' w', w'.ownsRow base e size v' (n + m) (xs ++ news) → w.grownBy w' v.ownBlock → wpList P ops Q rest (a.put o.dst v') w') : wpList P ops Q (o :: rest) a w := by
  cases ad with
  | none =>
    obtain ⟨rfl, rfl⟩ := had rfl
    obtain rfl : news = [] := List.eq_nil_of_length_eq_zero (by rw [hl]; omega)
    refine wpList_append_own_none hgd s x t ho base e i size ht hi v n xs hs hown hx (h v w ?_ ⟨rfl, rfl, rfl, Nat.le_refl _, fun _ _ _ => rfl⟩)
    rw [List.append_nil]
    exact hown
  | some y => exact wpList_append_own w hgd s x t ho base e i z size bytes ht hi hz hsize hby hzs hsz v n xs hs hown y m c news hx hl (hnews y rfl) h1 h63 hbytes hbase (fun v' w' h1 h2 _ => h v' w' h1 h2)
theorem row_none {w : World} {base e size n : Nat} {xs : List Value} {a : Option Addr} {m c : Nat} (h : w.ownsRow base e size (.slice a m c) n xs) (ha : a = none) : m = 0 ∧ c = 0 := by
  subst ha
  obtain ⟨_, ⟨hv, _⟩ | ⟨g, cap, cur, hv, _⟩⟩ := h
  · cases hv; exact ⟨rfl, rfl⟩
  · cases hv
theorem get_lt {l : List Value} {j : Nat} {u : Value} (h : l[j]? = some u) : j < l.length := by
  by_cases hh : j < l.length
  · exact hh
  · rw [List.getElem?_eq_none (by omega)] at h; cases h
end Go.Proofs.YtaddjinjfdignabDoor
