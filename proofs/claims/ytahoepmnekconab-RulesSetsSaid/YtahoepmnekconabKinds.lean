/-
  lineKinds: the words that begin a line, and the functions that read the rest.
-/
import Derived.Test.YtahoepmnekconabClass2
namespace Go.Proofs.Ytahoepmnekconab
open Go.RowKit Go.Maps
set_option linter.unusedVariables false
set_option linter.unusedSimpArgs false

/-- a function as its number; none: -1. -/
def Rf (v : Value) : Option (DataW Unit × List MemPlace) :=
  match v with
  | .func (.func n) ⟨[]⟩ ⟨[]⟩ => some (.lit (.int .i64 n), [])
  | .nilFunc => some (.lit (.int .i64 (-1)), [])
  | _ => none
theorem Rf_inv {v : Value} {n : Nat} {ps : List MemPlace} (h : Rf v = some (.lit (.int .i64 (n : Int)), ps)) : v = .func (.func n) #[] #[] := by
  unfold Rf at h
  split at h
  · simp only [Option.some.injEq, Prod.mk.injEq] at h
    have h2 := (Lit.int.inj (DataW.lit.inj h.1)).2
    have : (_ : Nat) = n := Int.ofNat.inj h2
    rw [this]
  · simp only [Option.some.injEq, Prod.mk.injEq] at h
    have h2 := (Lit.int.inj (DataW.lit.inj h.1)).2
    omega
  · cases h
theorem zero82 (w : World) : (zeroValue 53).run Try.prog w = .ok .nilFunc w := by kernel_rfl
theorem wpList_insert_own {H : Type} {P : Program} (w : World) {ops : Array Oper} {rest : List Oper} {o : Oper} {a : Act} {Q : Exit → Act → World → Prop}
    (hg : o.guard = none) (m x v : Operand) (t : TypeId) (hop : o.op = Op.insert t m x v)
    (k e : TypeId) (K : Keyed P k) (ht : P.underlying t = some (.map k e)) (R : Value → Option (DataW H × List MemPlace)) (b n : Nat) (D : DataW H)
    (hm : a.eval m = .map (some b)) (hown : w.ownsMap P k R b n D) (hn : n < maxLen) (key val : Value) (kl : Lit) (hx : a.eval x = key) (hv : a.eval v = val) (hkey : keyOf P k key = some kl)
    (d : DataW H) (ps : List MemPlace) (hval : R val = some (d, ps))
    (hK : ∀ w', w'.ownsMap P k R b (n + 1) (D.put kl d) → w.grownBy w' (some b) → wpList P ops Q rest (a.put o.dst undef) w') :
    wpList P ops Q (o :: rest) a w := by
  refine wpList_plain hg fun K' hK' => ?_
  obtain ⟨w', hrun, r1, r2⟩ := hown.update K ht hn hkey hval
  unfold Oper.wp
  simp [execOp, hop, hm, hx, hv, hrun, Result.andThen]
  exact hK' _ _ (hK w' r1 r2)
def fnLit (n : Nat) : DataW Unit := .lit (.int .i64 (n : Int))
/-- the seven words, and what reads each one's line. -/
def kindsD : DataW Unit := ((((((((DataW.map []).put (.string Rl.wClass) (fnLit 14)).put (.string Rl.wSet) (fnLit 15)).put (.string Rl.wJoin) (fnLit 16)).put (.string Rl.wTreat) (fnLit 17)).put (.string Rl.wKeep) (fnLit 18)).put (.string Rl.wMay) (fnLit 19)).put (.string Rl.wMust) (fnLit 20))
def Kn (w : World) (kb : Nat) : Prop := w.ownsMap Try.prog 9 Rf kb 7 kindsD
theorem Kn.only {w w' : World} {kb : Nat} {P : Nat → Prop} (h : Kn w kb) (ho : Only P w w') (hn : ¬ P kb) : Kn w' kb := by
  obtain ⟨es, cl, h1, h2⟩ := h
  exact ⟨es, cl, (ho.block kb (Array.getElem?_eq_some_iff.1 h1).1 hn).trans h1, h2⟩
theorem Kn.look {w : World} {kb : Nat} (h : Kn w kb) {s : Rl.Str} (hs : s.length ≤ 4096) : ∃ v ps, (Instr.lookup 48 (.map (some kb)) (.string (bs s)) true).run Try.prog w = .ok (.tuple #[v, .bool (Maps.has kindsD (.string s))]) w ∧ Rf v = some (kindsD.atKey (.string s) (.lit (.int .i64 (-1))), ps) :=
  World.ownsMap.look_ok h law9 Try.underlying48 (zero82 w) (zd := .lit (.int .i64 (-1))) (zp := []) rfl (key9 s hs)
set_option maxRecDepth 100000 in
set_option maxHeartbeats 4000000 in
theorem kinds_any (w : World) : Calls Try.prog 9 #[] w fun e w' => e = .returned (.map (some w.heap.size)) ∧ Kn w' w.heap.size ∧ Only (fun _ => False) w w' := by
  have hmm := @run_makeMap Try.prog
  go_enter Try.func9, Try.ntmps9
  have key : ∀ s : Rl.Str, s.length ≤ 4096 → keyOf Try.prog 9 (.string (bs s)) = some (.string s) := key9
  have HK : Hid (∀ s : Rl.Str, s.length ≤ 4096 → keyOf Try.prog 9 (.string (bs s)) = some (.string s)) := key
  clear key
  have m0 : Hid ((w.alloc (Obj.map #[] 0)).ownsMap Try.prog 9 Rf w.heap.size 0 (DataW.map [] : DataW Unit)) := World.ownsMap_made w Try.prog 9 Rf
  go_wp2_with (first | (refine wpList_insert_own _ rfl _ _ _ 48 rfl 9 53 law9 Try.underlying48 Rf w.heap.size 0 _ rfl m0.out (by unfold maxLen; omega) _ _ _ rfl rfl (HK.out Rl.wClass (by decide)) (fnLit 14) [] rfl ?_; intro w1 m1 g1) | (refine wpList_insert_own _ rfl _ _ _ 48 rfl 9 53 law9 Try.underlying48 Rf w.heap.size 1 _ rfl m1 (by unfold maxLen; omega) _ _ _ rfl rfl (HK.out Rl.wSet (by decide)) (fnLit 15) [] rfl ?_; intro w2 m2 g2) | (refine wpList_insert_own _ rfl _ _ _ 48 rfl 9 53 law9 Try.underlying48 Rf w.heap.size 2 _ rfl m2 (by unfold maxLen; omega) _ _ _ rfl rfl (HK.out Rl.wJoin (by decide)) (fnLit 16) [] rfl ?_; intro w3 m3 g3) | (refine wpList_insert_own _ rfl _ _ _ 48 rfl 9 53 law9 Try.underlying48 Rf w.heap.size 3 _ rfl m3 (by unfold maxLen; omega) _ _ _ rfl rfl (HK.out Rl.wTreat (by decide)) (fnLit 17) [] rfl ?_; intro w4 m4 g4) | (refine wpList_insert_own _ rfl _ _ _ 48 rfl 9 53 law9 Try.underlying48 Rf w.heap.size 4 _ rfl m4 (by unfold maxLen; omega) _ _ _ rfl rfl (HK.out Rl.wKeep (by decide)) (fnLit 18) [] rfl ?_; intro w5 m5 g5) | (refine wpList_insert_own _ rfl _ _ _ 48 rfl 9 53 law9 Try.underlying48 Rf w.heap.size 5 _ rfl m5 (by unfold maxLen; omega) _ _ _ rfl rfl (HK.out Rl.wMay (by decide)) (fnLit 19) [] rfl ?_; intro w6 m6 g6) | (refine wpList_insert_own _ rfl _ _ _ 48 rfl 9 53 law9 Try.underlying48 Rf w.heap.size 6 _ rfl m6 (by unfold maxLen; omega) _ _ _ rfl rfl (HK.out Rl.wMust (by decide)) (fnLit 20) [] rfl ?_; intro w7 m7 g7))
  go_ret
  have hN : ∀ {a b : World}, a.grownBy b (some w.heap.size) → Only (· = w.heap.size) a b := fun hg => ⟨hg.os, hg.tape, hg.output, hg.size, fun g hgl hn => hg.block g hgl (fun e => hn (by injection e))⟩
  have hO : Only (· = w.heap.size) (w.alloc (Obj.map #[] 0)) w7 := (hN g1).trans ((hN g2).trans ((hN g3).trans ((hN g4).trans ((hN g5).trans ((hN g6).trans (hN g7))))))
  refine ⟨rfl, m7, ⟨hO.os, hO.tape, hO.output, Nat.le_trans (by simp) hO.size, fun g hg _ => (hO.block g (by simp; omega) (by omega)).trans (Below.heap_alloc _ _ _ hg)⟩⟩
end Go.Proofs.Ytahoepmnekconab
