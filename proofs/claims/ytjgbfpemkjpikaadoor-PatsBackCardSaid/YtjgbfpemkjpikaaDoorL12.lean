/-
  What pats.Parse answers, in plain words; a word's signs in memory.
-/
import Derived.Test.YtjgbfpemkjpikaaDoorL11
import Derived.Test.YtjgbfpemkjpikaaDoorAll
import Derived.Laws.IdiomStrings
namespace Go.Proofs.YtjgbfpemkjpikaaDoor
open Go.RowKit Go.Maps
set_option linter.unusedVariables false
set_option linter.unusedSimpArgs false
/-- a text's bytes. -/
def bx (s : ByteArray) (j : Nat) : Nat := (s.data[j]?.getD 0).toNat
theorem bx_lt (s : ByteArray) (j : Nat) : bx s j < 256 := UInt8.toNat_lt _
def sgs (s : ByteArray) : List (Nat × Nat × Nat) := Sg.all s.size (bx s)
theorem sgs_len (s : ByteArray) : (sgs s).length ≤ s.size := by
  have h2 := Sg.rest_len s.size (bx s) s.size 0 (by omega)
  unfold sgs Sg.all
  omega
def wordOf (S : List (Nat × Nat × Nat)) (p : Nat × Nat) : List (Nat × Nat × Nat) := (S.drop p.1).take (p.2 - p.1)
def atOf (S : List (Nat × Nat × Nat)) (p : Nat × Nat) : Nat := match S[p.1]? with | some x => x.2.1 | none => 0
/-- words, one behind the other. -/
def runs (S : List (Nat × Nat × Nat)) : List (Nat × Nat) → List Pt.Pat → List Pt.Pat → Nat × Nat × List Pt.Pat × List Pt.Pat
  | [], P, Q => (0, 0, P, Q)
  | p :: l, P, Q => if (addR (rs (wordOf S p)) P Q).1 = 0 then runs S l (addR (rs (wordOf S p)) P Q).2.1 (addR (rs (wordOf S p)) P Q).2.2 else ((addR (rs (wordOf S p)) P Q).1, atOf S p, [], [])
def parseR (s : ByteArray) : Nat × Nat × List Pt.Pat × List Pt.Pat := if 4096 < s.size then (24, 4096, [], []) else runs (sgs s) (cuts (rs (sgs s)) 0 0) [] []
theorem cuts_ok : ∀ (R : List Nat) (i f : Nat), f ≤ i → ∀ p ∈ cuts R i f, p.1 < p.2 ∧ p.2 ≤ i + R.length
  | [], i, f, h, p, hp => by
    unfold cuts at hp
    split at hp
    · simp at hp
      subst hp
      simp
      omega
    · simp at hp
  | c :: cs, i, f, h, p, hp => by
    unfold cuts at hp
    rw [List.length_cons]
    split at hp
    · split at hp
      · rcases List.mem_cons.1 hp with hp | hp
        · subst hp
          simp
          omega
        · have := cuts_ok cs (i + 1) (i + 1) (Nat.le_refl _) p hp
          omega
      · have := cuts_ok cs (i + 1) (i + 1) (Nat.le_refl _) p hp
        omega
    · have := cuts_ok cs (i + 1) f (by omega) p hp
      omega
theorem addR_small (R : List Nat) (P Q : List Pt.Pat) (h : P.length + Q.length ≤ 256) : (addR R P Q).2.1.length + (addR R P Q).2.2.length ≤ 256 := by
  unfold addR
  split
  · exact h
  · split
    · split
      · exact h
      · split
        · exact h
        · simp; omega
    · split
      · exact h
      · simp; omega
theorem Sw.sub {w : World} {b off n : Nat} {S : List (Nat × Nat × Nat)} (h : Sw w (some ⟨b, off, none⟩) n S) {f t : Nat} (h1 : f < t) (h2 : t ≤ n) : Sw w (some ⟨b, off + f * 3, none⟩) (t - f) (wordOf S (f, t)) := by
  obtain ⟨hl, b', off', k1, k2⟩ := h
  obtain ⟨e, hb⟩ := k1 (by omega)
  injection e with e
  injection e with e1 e2 _
  subst e1
  subst e2
  refine ⟨by unfold wordOf; simp; omega, b, off + f * 3, fun _ => ⟨rfl, hb⟩, fun j x hj => ?_⟩
  unfold wordOf at hj
  rw [List.getElem?_take] at hj
  split at hj
  · rw [List.getElem?_drop] at hj
    obtain ⟨c0, c1, c2⟩ := k2 _ _ hj
    have e : off + f * 3 + j * 3 = off + (f + j) * 3 := by omega
    simp only [] at c0 c1 c2
    rw [e]
    exact ⟨c0, c1, c2⟩
  · cases hj
theorem sgc_at : ∀ (S : List (Nat × Nat × Nat)) (j : Nat) (x : Nat × Nat × Nat), S[j]? = some x → (sgCells S)[j * 3]? = some (.int .i32 (x.1 : Int)) ∧ (sgCells S)[j * 3 + 1]? = some (.int .i64 (x.2.1 : Int)) ∧ (sgCells S)[j * 3 + 2]? = some (.int .i64 (x.2.2 : Int))
  | [], j, x, h => by simp at h
  | y :: S, 0, x, h => by
    simp at h
    subst h
    exact ⟨rfl, rfl, rfl⟩
  | y :: S, j + 1, x, h => by
    have ih := sgc_at S j x (by simpa using h)
    have e : sgCells (y :: S) = sgCells [y] ++ sgCells S := sgCells_append [y] S
    have e2 : ∀ k, (sgCells [y] ++ sgCells S)[k + 3]? = (sgCells S)[k]? := fun k => by simp [sgCells]
    rw [e]
    refine ⟨?_, ?_, ?_⟩
    · rw [show (j + 1) * 3 = j * 3 + 3 by omega, e2]; exact ih.1
    · rw [show (j + 1) * 3 + 1 = j * 3 + 1 + 3 by omega, e2]; exact ih.2.1
    · rw [show (j + 1) * 3 + 2 = j * 3 + 2 + 3 by omega, e2]; exact ih.2.2
theorem own_sw {w : World} {base n c : Nat} {a : Option Addr} {S : List (Nat × Nat × Nat)} (h : w.ownsRow base 52 3 (.slice a n c) n (sgCells S)) (hl : S.length = n) : Sw w a n S := by
  by_cases h0 : n = 0
  · subst h0
    have : S = [] := List.eq_nil_of_length_eq_zero hl
    subst this
    exact ⟨rfl, 0, 0, fun h => by omega, fun j x h => by simp at h⟩
  · obtain ⟨g, cap, hv, _, hg, _, hc⟩ := row_form h (by omega)
    injection hv with e1
    refine ⟨hl, g, 0, fun _ => ⟨e1, hg⟩, fun j x hj => ?_⟩
    have hjl := (List.getElem?_eq_some_iff.1 hj).1
    obtain ⟨c0, c1, c2⟩ := sgc_at S j x hj
    rw [Nat.zero_add, hc _ (by omega), hc _ (by omega), hc _ (by omega)]
    exact ⟨c0, c1, c2⟩
/-- how Parse ends. -/
def paP (w : World) (R : Nat × Nat × List Pt.Pat × List Pt.Pat) (e : Ending) (w' : World) : Prop :=
  ∃ aL cL aW cW, e = .returned (.tuple #[.agg #[.slice aL R.2.2.1.length cL, .slice aW R.2.2.2.length cW], .agg #[.int .i64 (R.1 : Int), .int .i64 (R.2.1 : Int)]]) ∧ Pw w' aL R.2.2.1.length R.2.2.1 ∧ Pw w' aW R.2.2.2.length R.2.2.2 ∧ Only (fun _ => False) w w'
theorem pw_nil (w : World) : Pw w none 0 [] := ⟨rfl, 0, 0, fun h => by omega, fun j p hj => by simp at hj⟩
theorem Ou.pl {W : World} {o B n c : Nat} {xs ys : List Qd} {vW : Value} {a : Option Addr} (h : Ou W o B xs ys (.slice a n c) vW) (hn : n = xs.length) : Pw W a n (xs.map (·.p)) := by
  subst hn
  refine ⟨by simp, ?_⟩
  by_cases h0 : xs.length = 0
  · have : xs = [] := List.eq_nil_of_length_eq_zero h0
    subst this
    exact ⟨0, 0, fun h => absurd h (by simp), fun j p hj => by simp at hj⟩
  · obtain ⟨g, cap, hv, _, hlt, _, hc⟩ := row_form h.rL (by omega)
    injection hv with hv
    refine ⟨g, 0, fun _ => ⟨hv, hlt⟩, fun j p hj => ?_⟩
    rw [List.getElem?_map] at hj
    cases hq : xs[j]? with
    | none => rw [hq] at hj; cases hj
    | some q =>
      rw [hq] at hj
      injection hj with hj
      subst hj
      have hjl := (List.getElem?_eq_some_iff.1 hq).1
      obtain ⟨k0, k1⟩ := qcs_at xs j q hq
      have hk := (h.qx q (List.mem_append_left _ (List.mem_of_getElem? hq))).1
      refine ⟨_, _, (by rw [Nat.zero_add, hc _ (by omega)]; exact k0), (by rw [Nat.zero_add, hc _ (by omega)]; exact k1), ?_⟩
      exact ⟨_, _, _, _, rfl, rfl, hk.l, hk.v, hk.l24, hk.v25, by show 0 < q.p.values.length; rw [hk.vl]; exact Nat.succ_pos _⟩
theorem results_row_row {P : Program} {fn : Func} {p q : Tmp} {ty ty' : TypeId} (h : fn.results = #[.cell p ty, .cell q ty']) (tmps : Array Value) (w : World) (g : Nat) (t : TypeId) (cs : Array Value) (fr : Nat × Nat) (d : TypeDesc)
    (hp : tmps.getD p undef = .pointer (some ⟨g, 0, none⟩)) (hg : w.heap[g]? = some (.cells cs t fr))
    (hu : P.underlying ty = some d) (hd : (match d with | .struct _ | .array _ _ => true | _ => false) = true) (hi : (P.info? ty).map (·.size) = some cs.size)
    (g' : Nat) (t' : TypeId) (cs' : Array Value) (fr' : Nat × Nat) (d' : TypeDesc)
    (hp2 : tmps.getD q undef = .pointer (some ⟨g', 0, none⟩)) (hg2 : w.heap[g']? = some (.cells cs' t' fr'))
    (hu2 : P.underlying ty' = some d') (hd2 : (match d' with | .struct _ | .array _ _ => true | _ => false) = true) (hi2 : (P.info? ty').map (·.size) = some cs'.size) :
    (results fn tmps).run P w = .ok (.tuple #[.agg cs, .agg cs']) w := by
  have hp' : tmps[p]?.getD undef = .pointer (some ⟨g, 0, none⟩) := by simpa using hp
  have hp2' : tmps[q]?.getD undef = .pointer (some ⟨g', 0, none⟩) := by simpa using hp2
  simp [results, h, hp', hp2', asAddr, run_loadVar_row w g t ty cs fr d hg hu hd hi, run_loadVar_row w g' t' ty' cs' fr' d' hg2 hu2 hd2 hi2]
theorem sz28 : (Tryd.prog.info? 28).map (·.size) = some 2 := by kernel_rfl
theorem sz31 : (Tryd.prog.info? 31).map (·.size) = some 2 := by kernel_rfl
theorem below_only {w w' : World} (h : Below w.heap.size w w') : Only (fun _ => False) w w' := by
  obtain ⟨h1, h2, h3, h4, h5⟩ := h
  exact ⟨h1, h2, h3, h4, fun g hg _ => h5 g hg⟩
/-- a pair of cells that is written. -/
theorem put2_blk {W : World} {b : Nat} {x y u v : Value} {t : TypeId} (h : W.heap[b]? = some (.cells #[x, y] t (0, 0))) : ((W.setCell ⟨b, 0, none⟩ u).setCell ⟨b, 1, none⟩ v).heap[b]? = some (.cells #[u, v] t (0, 0)) := heap_setCell_at (heap_setCell_at h _) _
theorem put2_off {W : World} {b c : Nat} {u v : Value} (h : c ≠ b) : ((W.setCell ⟨b, 0, none⟩ u).setCell ⟨b, 1, none⟩ v).heap[c]? = W.heap[c]? := (Below.heap_setCell _ _ _ _ h).trans (Below.heap_setCell _ _ _ _ h)
end Go.Proofs.YtjgbfpemkjpikaaDoor
