/-
  Signs in a row: what a text of put signs, with any bytes behind it, is read as; and a law for appending from a slice that may be nil.
-/
import Derived.Test.YtaddjinjfdignaaDoorPut
namespace Go.Proofs.YtaddjinjfdignaaDoor
open Go.RowKit

/-- numbers as bytes, one behind the other. -/
def txt (cs : List Nat) : List Nat := cs.flatMap pb
theorem txt_snoc (cs : List Nat) (c : Nat) : txt (cs ++ [c]) = txt cs ++ pb c := by simp [txt]
theorem txt_len (cs : List Nat) : (txt cs).length ≤ 4 * cs.length := by
  induction cs with
  | nil => simp [txt]
  | cons c cs ih =>
    have := (pb_len c).2
    simp only [txt, List.flatMap_cons, List.length_append, List.length_cons] at *
    omega
/-- numbers as signs, from a place on. -/
def sgs : List Nat → Nat → List (Nat × Nat × Nat)
  | [], _ => []
  | c :: cs, p => (c, p, (pb c).length) :: sgs cs (p + (pb c).length)
theorem sgs_length (cs : List Nat) : ∀ p, (sgs cs p).length = cs.length := by
  induction cs with
  | nil => intro p; rfl
  | cons c cs ih => intro p; simp [sgs, ih]
theorem sgs_at (cs : List Nat) : ∀ (p i c : Nat), cs[i]? = some c → ∃ a l, (sgs cs p)[i]? = some (c, a, l) := by
  induction cs with
  | nil => intro p i c h; simp at h
  | cons x cs ih =>
    intro p i c h
    cases i with
    | zero => simp at h; subst h; exact ⟨_, _, rfl⟩
    | succ i => simpa [sgs] using ih _ i c (by simpa using h)
theorem nth_append_left (a b : List Nat) (j : Nat) (h : j < a.length) : nth (a ++ b) j = nth a j := by
  unfold nth; rw [List.getD_eq_getElem?_getD, List.getD_eq_getElem?_getD, List.getElem?_append_left h]
theorem nth_append_right (a b : List Nat) (j : Nat) : nth (a ++ b) (a.length + j) = nth b j := by
  unfold nth; rw [List.getD_eq_getElem?_getD, List.getD_eq_getElem?_getD, List.getElem?_append_right (by omega), Nat.add_sub_cancel_left]
theorem rest_puts (N : Nat) (z : Nat → Nat) (cs : List Nat) : ∀ p, (∀ c ∈ cs, Right c) → p + (txt cs).length ≤ N → (∀ j, j < (txt cs).length → z (p + j) = nth (txt cs) j) →
    Sg.rest N z p = sgs cs p ++ Sg.rest N z (p + (txt cs).length) := by
  induction cs with
  | nil => intro p _ _ _; rfl
  | cons c cs ih =>
    intro p hr hN hz
    have hl := pb_len c
    have e : txt (c :: cs) = pb c ++ txt cs := rfl
    rw [e] at hN hz
    rw [List.length_append] at hN
    have hp : p < N := by omega
    obtain ⟨h1, h2⟩ := put_sign c (N - p) (fun j => z (p + j)) (hr c (by simp)) (by omega) (fun j hj => by
      show z (p + j) = _
      rw [hz j (by rw [List.length_append]; omega), nth_append_left _ _ _ hj])
    rw [Sg.rest_step N z p hp, h1, h2, ih (p + (pb c).length) (fun c' h => hr c' (by simp [h])) (by omega) (fun j hj => by
      rw [Nat.add_assoc, hz ((pb c).length + j) (by rw [List.length_append]; omega), nth_append_right])]
    rw [e, List.length_append]
    simp only [sgs, List.cons_append, Nat.add_assoc]
theorem rest_shift (n : Nat) (x z : Nat → Nat) (M : Nat) (hz : ∀ j, z (M + j) = x j) : ∀ f k, n - k ≤ f → Sg.rest (M + n) z (M + k) = (Sg.rest n x k).map fun s => (s.1, s.2.1 + M, s.2.2) := by
  intro f
  induction f with
  | zero => intro k h; rw [Sg.rest_end _ _ _ (by omega), Sg.rest_end _ _ _ (by omega)]; rfl
  | succ f ih =>
    intro k h
    by_cases hk : k < n
    · have e : (fun j => z (M + k + j)) = fun j => x (k + j) := by funext j; rw [Nat.add_assoc, hz]
      have hp := Sg.cnt_pos (n - k) (fun j => x (k + j))
      rw [Sg.rest_step n x k hk, Sg.rest_step (M + n) z (M + k) (by omega), e, show M + n - (M + k) = n - k by omega, Nat.add_assoc, ih _ (by omega)]
      simp [Nat.add_comm]
    · rw [Sg.rest_end _ _ _ (by omega), Sg.rest_end _ _ _ (by omega)]; rfl
/-- two texts as one. -/
def both (M : Nat) (t x : Nat → Nat) (j : Nat) : Nat := if j < M then t j else x (j - M)
theorem all_both (cs : List Nat) (n : Nat) (x : Nat → Nat) (hr : ∀ c ∈ cs, Right c) :
    Sg.all ((txt cs).length + n) (both (txt cs).length (nth (txt cs)) x) = sgs cs 0 ++ (Sg.all n x).map fun s => (s.1, s.2.1 + (txt cs).length, s.2.2) := by
  unfold Sg.all
  rw [rest_puts _ _ cs 0 hr (by omega) (fun j hj => by rw [Nat.zero_add]; unfold both; rw [if_pos hj]), Nat.zero_add]
  have := rest_shift n x (both (txt cs).length (nth (txt cs)) x) (txt cs).length (fun j => by unfold both; rw [if_neg (by omega), Nat.add_sub_cancel_left]) n 0 (by omega)
  rw [Nat.add_zero] at this
  rw [this]
theorem both_lt {M : Nat} {t x : Nat → Nat} (ht : ∀ j, t j < 256) (hx : ∀ j, x j < 256) (j : Nat) : both M t x j < 256 := by unfold both; split; exact ht j; exact hx _
/-- numbers as cells. -/
def cl (l : List Nat) : List Value := l.map fun z => .int .u8 (z : Nat)
theorem cl_by (l : List Nat) : byCells l.length (nth l) = cl l := by
  apply List.ext_getElem?
  intro i
  unfold byCells cl nth
  by_cases h : i < l.length
  · simp [h]
  · simp [List.getElem?_eq_none (show l.length ≤ i by omega)]
    omega
theorem cl_length (l : List Nat) : (cl l).length = l.length := by simp [cl]
theorem cl_append (a b : List Nat) : cl (a ++ b) = cl a ++ cl b := by simp [cl]
theorem cl_at (l : List Nat) (j : Nat) (h : j < l.length) : (cl l)[j]? = some (.int .u8 (nth l j : Nat)) := by rw [← cl_by, byCells_at _ _ _ h]
theorem cl_one (l : List Nat) : ∀ u ∈ cl l, u.oneCell' = true := by rw [← cl_by]; exact byCells_one _ _
theorem txt_all (cs : List Nat) (hr : ∀ c ∈ cs, Right c) : (txt cs).all (· < 256) = true := by
  rw [List.all_eq_true]
  intro z hz
  obtain ⟨c, hc, hz⟩ := List.mem_flatMap.1 hz
  exact List.all_eq_true.1 (pb_lt c (hr c hc)) z hz

theorem wpList_append_src {P : Program} {w : World} {ops : Array Oper} {rest : List Oper} {o : Oper} {a : Act} {Q : Exit → Act → World → Prop} (hgd : o.guard = none) (s x : Operand) (t : TypeId)
    (ho : o.op = .call { callee := .builtin .append, args := #[s, x], argTypes := #[t, t] })
    (base : Nat) (e : TypeId) (i : TypeInfo) (z : Value) (size bytes : Nat) (ht : P.underlying t = some (.slice e)) (hi : P.info? e = some i) (hz : i.zero = some z)
    (hsize : i.size = size) (hby : i.bytes = bytes) (hzs : z.cells.size = size) (hsz : 0 < size)
    (v : Value) (n : Nat) (xs : List Value) (hs : a.eval s = v) (hown : w.ownsRow base e size v n xs)
    (ad : Option Addr) (m c : Nat) (news : List Value) (hx : a.eval x = .slice ad m c) (had : ad = none → m = 0 ∧ c = 0) (hl : news.length = m * size) (hnews : ∀ y, ad = some y → ∀ j u, news[j]? = some u → w.cell? (y.add j) = some u) (h1 : ∀ u ∈ news, u.oneCell' = true)
    (h63 : n + m ≤ maxLen) (hbytes : (n + m) * bytes ≤ 140737488355328) (hbase : base ≤ w.heap.size)
    (h : ∀ v' w', w'.ownsRow base e size v' (n + m) (xs ++ news) → w.grownBy w' v.ownBlock → wpList P ops Q rest (a.put o.dst v') w') : wpList P ops Q (o :: rest) a w := by
  cases ad with
  | none =>
    obtain ⟨rfl, rfl⟩ := had rfl
    obtain rfl : news = [] := List.eq_nil_of_length_eq_zero (by rw [hl]; omega)
    refine wpList_append_own_none hgd s x t ho base e i size ht hi v n xs hs hown hx (h v w ?_ ⟨rfl, rfl, rfl, Nat.le_refl _, fun _ _ _ => rfl⟩)
    rw [List.append_nil]
    exact hown
  | some y => exact wpList_append_own w hgd s x t ho base e i z size bytes ht hi hz hsize hby hzs hsz v n xs hs hown y m c news hx hl (hnews y rfl) h1 h63 hbytes hbase (fun v' w' h1 h2 _ => h v' w' h1 h2)
end Go.Proofs.YtaddjinjfdignaaDoor
