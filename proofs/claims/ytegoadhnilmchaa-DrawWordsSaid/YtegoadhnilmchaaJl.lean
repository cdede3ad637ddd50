/-
  Layer 18's lined: a text, its lines, and how wide it is set.
-/
import Derived.Test.YtegoadhnilmchaaJi
import Derived.Test.YtegoadhnilmchaaGa
import Derived.Test.YtegoadhnilmchaaPc
import Derived.Test.YtegoadhnilmchaaAp
namespace Go.Proofs.Ytegoadhnilmchaa
open Go.RowKit Go.Maps
set_option linter.unusedVariables false
set_option linter.unusedSimpArgs false
theorem opk_pa (L : List Bt) (k : Nat) : Lv.Opk (Pa.ops L k ++ [2]) k := by
  refine ⟨by rw [List.length_append, Pa.ops_len]; rfl, ops_end L k, fun h => ?_⟩
  have e : (Pa.ops L k ++ [2]).getD 0 0 = 0 := by
    rw [List.getD_eq_getElem?_getD, List.getElem?_append_left (by rw [Pa.ops_len]; omega)]
    unfold Pa.ops
    rw [List.getElem?_map, List.getElem?_range h]
    rfl
  rw [e]
  decide
namespace Lv
/-- of a line: how wide it is, and how it ends. -/
def Lnk (C : List Ct) (t : Nat) (l : Ln) : Prop := l.w = Sp.wde C t l.a l.b l.e ∧ l.e < 256
theorem getD_lt {O : List Nat} (h : ∀ x ∈ O, x < 256) (k : Nat) : O.getD k 0 < 256 := by
  rw [List.getD_eq_getElem?_getD]
  cases e : O[k]? with
  | none => show 0 < 256; decide
  | some x => exact h x (List.mem_of_getElem? e)
theorem nxt_lt256 {C : List Ct} {O : List Nat} (h : ∀ x ∈ O, x < 256) (t W a b : Nat) : (Sp.nxt C O t W a b).2 < 256 := by
  unfold Sp.nxt
  cases Sp.bst C O t W a (b - a) with
  | some k => exact getD_lt h k
  | none =>
    simp only
    split
    · exact getD_lt h _
    · decide
theorem lines_lnk {C : List Ct} {O : List Nat} (h : ∀ x ∈ O, x < 256) (t W b : Nat) : ∀ (n a : Nat), b - a ≤ n → ∀ l ∈ Sp.lines C O t W a b, Lnk C t l
  | 0, a, hn, l, hl => by
    rw [Sp.lines_nil (by omega)] at hl
    cases hl
  | n + 1, a, hn, l, hl => by
    by_cases e : a < b
    · have hx := Sp.nxt_in (C := C) (O := O) (t := t) (W := W) e
      rw [Sp.lines_cons e] at hl
      rcases List.mem_cons.1 hl with q | q
      · subst q
        exact ⟨rfl, nxt_lt256 h t W a b⟩
      · exact lines_lnk h t W b n _ (by omega) l q
    · rw [Sp.lines_nil (by omega)] at hl
      cases hl
theorem fof_lnk {C : List Ct} {O : List Nat} (h : ∀ x ∈ O, x < 256) (t W : Nat) (P : List Nat) : ∀ (i : Nat), ∀ l ∈ fof C O t W P i, Lnk C t l
  | 0, l, hl => by cases hl
  | i + 1, l, hl => by
    rcases List.mem_append.1 hl with q | q
    · exact fof_lnk h t W P i l q
    · exact lines_lnk h t W _ _ _ (Nat.le_refl _) l q
theorem Chn.line : ∀ {a b : Nat} {L : List Ln} {i : Nat} {l : Ln}, Chn a b L → L[i]? = some l → l.a < l.b ∧ l.b ≤ b
  | a, b, [], i, l, h, hl => by simp at hl
  | a, b, x :: L, 0, l, h, hl => by
    have e : x = l := by simpa using hl
    subst e
    have h1 := h.1
    have h2 := h.2.1
    exact ⟨by omega, h.2.2.le⟩
  | a, b, x :: L, i + 1, l, h, hl => Chn.line h.2.2 (i := i) (by simpa using hl)
end Lv
theorem results_cell3 {P : Program} {fn : Func} {p u p2 : Tmp} {ty ty2 : TypeId} (h : fn.results = #[.cell p ty, .tmp u, .cell p2 ty2]) (tmps : Array Value) (w : World) (g : Nat) (t : TypeId) (cs : Array Value) (fr : Nat × Nat) (d : TypeDesc)
    (hp : tmps.getD p undef = .pointer (some ⟨g, 0, none⟩)) (hg : w.heap[g]? = some (.cells cs t fr))
    (hu : P.underlying ty = some d) (hd : (match d with | .struct _ | .array _ _ => true | _ => false) = true) (hi : (P.info? ty).map (·.size) = some cs.size) (v1 : Value) (h1 : tmps.getD u undef = v1)
    (g2 : Nat) (t2 : TypeId) (cs2 : Array Value) (fr2 : Nat × Nat) (d2 : TypeDesc)
    (hp2 : tmps.getD p2 undef = .pointer (some ⟨g2, 0, none⟩)) (hg2 : w.heap[g2]? = some (.cells cs2 t2 fr2))
    (hu2 : P.underlying ty2 = some d2) (hd2 : (match d2 with | .struct _ | .array _ _ => true | _ => false) = true) (hi2 : (P.info? ty2).map (·.size) = some cs2.size) :
    (results fn tmps).run P w = .ok (.tuple #[.agg cs, v1, .agg cs2]) w := by
  subst h1
  have hp' : tmps[p]?.getD undef = .pointer (some ⟨g, 0, none⟩) := by simpa using hp
  have hp2' : tmps[p2]?.getD undef = .pointer (some ⟨g2, 0, none⟩) := by simpa using hp2
  simp [results, h, hp', hp2', asAddr, run_loadVar_row w g t ty cs fr d hg hu hd hi, run_loadVar_row w g2 t2 ty2 cs2 fr2 d2 hg2 hu2 hd2 hi2]
/-- what lined makes: a text of k clusters that can be read, and its lines. -/
structure Ld (X : World) (C : List Ct) (O : List Nat) (k : Nat) (aC aO : Option Addr) (cC cO : Nat) (A : List Ln) (nA : Nat) (aA : Option Addr) (W t : Nat) : Prop where
  pv : Pv X C O k (k + 1) aC aO cC cO
  few : k ≤ 100
  chn : Lv.Chn 0 k A
  lnk : ∀ l ∈ A, Lv.Lnk C t l
  vA : Vw X aA (lnC A)
  hA : nA = A.length
  w1 : W ≤ 256
  t0 : 0 < t
  t1 : t ≤ 64
theorem Ld.keep {X Y : World} {C : List Ct} {O : List Nat} {k : Nat} {aC aO : Option Addr} {cC cO : Nat} {A : List Ln} {nA : Nat} {aA : Option Addr} {W t : Nat} (h : Ld X C O k aC aO cC cO A nA aA W t) (ho : Only (fun _ => False) X Y) : Ld Y C O k aC aO cC cO A nA aA W t :=
  ⟨h.pv.keep ho, h.few, h.chn, h.lnk, h.vA.keep ho, h.hA, h.w1, h.t0, h.t1⟩
/-- the block of a way, and of the two results, ahead of all. -/
theorem box626 (w : World) (v0 v1 v2 v3 v4 v5 u0 u1 x0 x1 x2 x3 x4 x5 : Value) (t t' t'' : TypeId) : ∃ R b q w1, ((w.alloc (.cells #[v0, v1, v2, v3, v4, v5] t)).alloc (.cells #[u0, u1] t')).alloc (.cells #[x0, x1, x2, x3, x4, x5] t'') = w1 ∧ w.heap.size + 1 + 1 = q ∧ w.heap.size + 1 = b ∧ w.heap.size = R ∧ Hid (w1.heap[R]? = some (.cells #[v0, v1, v2, v3, v4, v5] t (0, 0)) ∧ w1.heap[b]? = some (.cells #[u0, u1] t' (0, 0)) ∧ w1.heap[q]? = some (.cells #[x0, x1, x2, x3, x4, x5] t'' (0, 0)) ∧ Only (fun _ => False) w w1 ∧ w.heap.size ≤ b ∧ w.heap.size ≤ q ∧ b ≠ q) := by
  have h3 := blk3 w (.cells #[v0, v1, v2, v3, v4, v5] t) (.cells #[u0, u1] t') (.cells #[x0, x1, x2, x3, x4, x5] t'')
  have o3 : Only (fun _ => False) ((w.alloc (.cells #[v0, v1, v2, v3, v4, v5] t)).alloc (.cells #[u0, u1] t')) (((w.alloc (.cells #[v0, v1, v2, v3, v4, v5] t)).alloc (.cells #[u0, u1] t')).alloc (.cells #[x0, x1, x2, x3, x4, x5] t'')) := (Only.refl _ _).alloc _
  exact ⟨_, _, _, _, rfl, rfl, rfl, rfl, ⟨blk_keep o3 (bx_made w _ _), blk_keep o3 (heap_alloc2_new w _ _), h3.1, (((Only.refl _ _).alloc _).alloc _).alloc _, by omega, by omega, by omega⟩⟩
end Go.Proofs.Ytegoadhnilmchaa

