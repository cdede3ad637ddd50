/-
  What stanzahand03.Para made, while other blocks are made and written beside it (p, c := Para(l), Config(w)).
-/
import Derived.Test.YtegoadhnilmchaaPb
import Derived.Test.YtegoadhnilmchaaCf
namespace Go.Proofs.Ytegoadhnilmchaa
open Go.RowKit Go.Maps
set_option linter.unusedVariables false
set_option linter.unusedSimpArgs false
/-- clusters and boundaries in memory of their own. -/
structure Made (X : World) (L : List Bt) (n0 k : Nat) (aC aO : Option Addr) (cC cO : Nat) : Prop where
  le : k ≤ n0
  all : k = n0 ∨ 4000 ≤ It.sum (Pa.cts (L.take k) 0)
  own : ∃ bc, X.ownsRow bc 53 4 (.slice aC k cC) k (ctC (Pa.cts (L.take k) 0)) ∧ X.ownsRow bc 41 1 (.slice aO (k + 1) cO) (k + 1) (u8s (Pa.ops L k ++ [2]))
theorem Made.keep {X Y : World} {L : List Bt} {n0 k : Nat} {aC aO : Option Addr} {cC cO : Nat} (h : Made X L n0 k aC aO cC cO) (ho : Only (fun _ => False) X Y) : Made Y L n0 k aC aO cC cO := by
  obtain ⟨h1, h2, bc, h3, h4⟩ := h
  exact ⟨h1, h2, bc, own_only h3 ho (fun _ _ h => h), own_only h4 ho (fun _ _ h => h)⟩
theorem Only.setRow (X : World) (B : Nat) (cs : Array Value) : Only (fun g => g = B) X (X.setRow B cs) :=
  ⟨rfl, rfl, rfl, by rw [setRow_size]; exact Nat.le_refl _, fun k hk hS => Go.setRow_other X B k cs hS⟩
theorem Made.store {X : World} {L : List Bt} {n0 k : Nat} {aC aO : Option Addr} {cC cO : Nat} (h : Made X L n0 k aC aO cC cO) {B : Nat} {old : Array Value} {t : TypeId} (hB : X.heap[B]? = some (.cells old t (0, 0))) (t1 : t ≠ 53) (t2 : t ≠ 41) (cs : Array Value) : Made (X.setRow B cs) L n0 k aC aO cC cO := by
  obtain ⟨h1, h2, bc, h3, h4⟩ := h
  exact ⟨h1, h2, bc, own_stay h3 (Only.setRow X B cs) (fun q hq e => own_ne h3 hB t1 (by rw [hq, e])), own_stay h4 (Only.setRow X B cs) (fun q hq e => own_ne h4 hB t2 (by rw [hq, e]))⟩
theorem Made.pv {X : World} {L : List Bt} {n0 k : Nat} {aC aO : Option Addr} {cC cO : Nat} (h : Made X L n0 k aC aO cC cO) (hn : n0 ≤ 1000) (hL : n0 = L.length) : Pv X (Pa.cts (L.take k) 0) (Pa.ops L k ++ [2]) k (k + 1) aC aO cC cO := by
  obtain ⟨h1, h2, bc, h3, h4⟩ := h
  have e1 : (Pa.cts (L.take k) 0).length = k := by rw [Pa.cts_len, List.length_take]; omega
  have e2 : (Pa.ops L k ++ [2]).length = k + 1 := by rw [List.length_append, Pa.ops_len]; rfl
  exact ⟨e1.symm, e2.symm, own_vw h3, own_le h3, own_cap h3, own_vw h4, cts_ok _ _, fun x hx => Nat.lt_of_lt_of_le (ops_lt L k x hx) (by decide), by omega, by omega⟩
/-- Para, so. -/
theorem para_made (L : List Bt) (n0 : Nat) (a0 : Option Addr) (c0 : Nat) (w : World) (hn : n0 = L.length) (hV : Vw w a0 (btC L)) (hB : ∀ b ∈ L, b.cells < 256 ∧ b.kind < 256 ∧ b.len < 256 ∧ b.opp < 256) (h1 : n0 ≤ 1000) :
    Calls Try.prog 14 #[.slice a0 n0 c0] w fun e w' => ∃ k aC aO cC cO, e = .returned (.agg #[.slice aC k cC, .slice aO (k + 1) cO]) ∧ Made w' L n0 k aC aO cC cO ∧ Only (fun _ => False) w w' := by
  subst hn
  refine (para_any L a0 c0 w hV hB h1).mono ?_
  rintro e w' ⟨k, hk, ⟨_, hs⟩, aC, aO, cC, cO, he, hC, hO, ho⟩
  have e1 : (Pa.cts (L.take k) 0).length = k := by rw [Pa.cts_len, List.length_take]; omega
  have e2 : (Pa.ops L k ++ [2]).length = k + 1 := by rw [List.length_append, Pa.ops_len]; rfl
  rw [e1] at hC
  rw [e2] at hO
  refine ⟨k, aC, aO, cC, cO, ?_, ⟨hk, hs, w.heap.size, hC, hO⟩, ho⟩
  rw [he, e1, e2]
theorem two_one (a b : Option Addr) (i j k l : Nat) : (#[Value.slice a i j, .slice b k l].all fun x => x.oneCell') = true := by simp [Value.oneCell']
theorem ops_end (L : List Bt) (k : Nat) : (Pa.ops L k ++ [2]).getD k 0 = 2 := by
  rw [List.getD_eq_getElem?_getD, List.getElem?_append_right (by rw [Pa.ops_len]; exact Nat.le_refl _), Pa.ops_len, Nat.sub_self]
  rfl
/-- a new block, and what it keeps. -/
def Blk (w X : World) (B : Nat) (t : TypeId) (cs : Array Value) : Prop := X.heap[B]? = some (.cells cs t (0, 0)) ∧ w.heap.size ≤ B
theorem Blk.keep {w X Y : World} {B : Nat} {t : TypeId} {cs : Array Value} (h : Blk w X B t cs) (ho : Only (fun _ => False) X Y) : Blk w Y B t cs := ⟨blk_keep ho h.1, h.2⟩
theorem Blk.made {w X : World} (ho : Only (fun _ => False) w X) (t : TypeId) (cs : Array Value) : Blk w (X.alloc (.cells cs t)) X.heap.size t cs := ⟨heap_alloc_new X _, ho.size⟩
theorem Blk.drew {w X : World} {B : Nat} {t : TypeId} {cs : Array Value} (h : Blk w X B t cs) : Blk w X.drew B t cs := h
theorem Blk.far {w X : World} {B B' : Nat} {t t' : TypeId} {cs cs' : Array Value} (h : Blk w X B t cs) (h' : Blk w X B' t' cs') (ht : t ≠ t') (ds : Array Value) : Blk w (X.setRow B' ds) B t cs := by
  refine ⟨(Go.setRow_other X B' B ds (fun e => ?_)).trans h.1, h.2⟩
  subst e
  have e2 := h.1.symm.trans h'.1
  injection e2 with e2
  injection e2 with _ e2
  exact ht e2
theorem Blk.put {w X : World} {B : Nat} {t : TypeId} {cs : Array Value} (h : Blk w X B t cs) (ds : Array Value) : Blk w (X.setRow B ds) B t ds := ⟨setRow_heap _ _ _ _ _ _ h.1, h.2⟩
end Go.Proofs.Ytegoadhnilmchaa

