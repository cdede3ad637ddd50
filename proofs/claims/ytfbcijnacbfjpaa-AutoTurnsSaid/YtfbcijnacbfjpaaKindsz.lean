/-
  lineKinds: the words that begin a line, and the functions that read the rest.
-/
import Derived.Test.YtfbcijnacbfjpaaClass2z
import Derived.Recover
import Derived.Laws.Pointers
namespace Go.Proofs.Ytfbcijnacbfjpaa
open Go.RowKit Go.Maps
set_option linter.unusedVariables false
set_option linter.unusedSimpArgs false

/-- a function as its number; none: -1. -/
def Rf (v : Value) : Option (DataW Unit × List MemPlace) :=
  match v with
  | .func (.func n) ⟨[]⟩ ⟨[]⟩ => some (.lit (.int .i64 n), [])
  | .nilFunc => some (.lit (.int .i64 (-1)), [])
  | _ => none
theorem Rf_inv {v : Value} {n : Nat} {ps : List MemPlace} (h : Rf v = some (.lit (.int .i64 (n : Int)), ps)) : v = .func (.func n) #[] #[] := by
  unfold Rf at h
  split at h
  · simp only [Option.some.injEq, Prod.mk.injEq] at h
    have h2 := (Lit.int.inj (DataW.lit.inj h.1)).2
    have : (_ : Nat) = n := Int.ofNat.inj h2
    rw [this]
  · simp only [Option.some.injEq, Prod.mk.injEq] at h
    have h2 := (Lit.int.inj (DataW.lit.inj h.1)).2
    omega
  · cases h
theorem zero82 (w : World) : (zeroValue 126).run Try.prog w = .ok .nilFunc w := by kernel_rfl
theorem wpList_insert_own {H : Type} {P : Program} (w : World) {ops : Array Oper} {rest : List Oper} {o : Oper} {a : Act} {Q : Exit → Act → World → Prop}
    (hg : o.guard = none) (m x v : Operand) (t : TypeId) (hop : o.op = Op.insert t m x v)
    (k e : TypeId) (K : Keyed P k) (ht : P.underlying t = some (.map k e)) (R : Value → Option (DataW H × List MemPlace)) (b n : Nat) (D : DataW H)
    (hm : a.eval m = .map (some b)) (hown : w.ownsMap P k R b n D) (hn : n < maxLen) (key val : Value) (kl : Lit) (hx : a.eval x = key) (hv : a.eval v = val) (hkey : keyOf P k key = some kl)
    (d : DataW H) (ps : List MemPlace) (hval : R val = some (d, ps))
    (hK : ∀ w', w'.ownsMap P k R b (n + 1) (D.put kl d) → w.grownBy w' (some b) → wpList P ops Q rest (a.put o.dst undef) w') :
    wpList P ops Q (o :: rest) a w := by
  refine wpList_plain hg fun K' hK' => ?_
  obtain ⟨w', hrun, r1, r2⟩ := hown.update K ht hn hkey hval
  unfold Oper.wp
  simp [execOp, hop, hm, hx, hv, hrun, Result.andThen]
  exact hK' _ _ (hK w' r1 r2)
def fnLit (n : Nat) : DataW Unit := .lit (.int .i64 (n : Int))
/-- the seven words, and what reads each one's line. -/
def kindsD : DataW Unit := ((((((((DataW.map []).put (.string Rl.wClass) (fnLit 60)).put (.string Rl.wSet) (fnLit 61)).put (.string Rl.wJoin) (fnLit 62)).put (.string Rl.wTreat) (fnLit 63)).put (.string Rl.wKeep) (fnLit 64)).put (.string Rl.wMay) (fnLit 65)).put (.string Rl.wMust) (fnLit 66))
def Kn (w : World) (kb : Nat) : Prop := w.ownsMap Try.prog 9 Rf kb 7 kindsD
theorem Kn.only {w w' : World} {kb : Nat} {P : Nat → Prop} (h : Kn w kb) (ho : Only P w w') (hn : ¬ P kb) : Kn w' kb := by
  obtain ⟨es, cl, h1, h2⟩ := h
  exact ⟨es, cl, (ho.block kb (Array.getElem?_eq_some_iff.1 h1).1 hn).trans h1, h2⟩
theorem Kn.look {w : World} {kb : Nat} (h : Kn w kb) {s : Rl.Str} (hs : s.length ≤ 4096) : ∃ v ps, (Instr.lookup 121 (.map (some kb)) (.string (bs s)) true).run Try.prog w = .ok (.tuple #[v, .bool (Maps.has kindsD (.string s))]) w ∧ Rf v = some (kindsD.atKey (.string s) (.lit (.int .i64 (-1))), ps) :=
  World.ownsMap.look_ok h law9 Try.underlying121 (zero82 w) (zd := .lit (.int .i64 (-1))) (zp := []) rfl (key9 s hs)
set_option maxRecDepth 100000 in
set_option maxHeartbeats 4000000 in
theorem kinds_any (w : World) : Calls Try.prog 50 #[] w fun e w' => e = .returned (.map (some w.heap.size)) ∧ Kn w' w.heap.size ∧ Only (fun _ => False) w w' := by
  have hmm := @run_makeMap Try.prog
  go_enter Try.func50, Try.ntmps50
  have key : ∀ s : Rl.Str, s.length ≤ 4096 → keyOf Try.prog 9 (.string (bs s)) = some (.string s) := key9
  have HK : Hid (∀ s : Rl.Str, s.length ≤ 4096 → keyOf Try.prog 9 (.string (bs s)) = some (.string s)) := key
  clear key
  have m0 : Hid ((w.alloc (Obj.map #[] 0)).ownsMap Try.prog 9 Rf w.heap.size 0 (DataW.map [] : DataW Unit)) := World.ownsMap_made w Try.prog 9 Rf
  go_wp2_with (first | (refine wpList_insert_own _ rfl _ _ _ 121 rfl 9 126 law9 Try.underlying121 Rf w.heap.size 0 _ rfl m0.out (by unfold maxLen; omega) _ _ _ rfl rfl (HK.out Rl.wClass (by decide)) (fnLit 60) [] rfl ?_; intro w1 m1 g1) | (refine wpList_insert_own _ rfl _ _ _ 121 rfl 9 126 law9 Try.underlying121 Rf w.heap.size 1 _ rfl m1 (by unfold maxLen; omega) _ _ _ rfl rfl (HK.out Rl.wSet (by decide)) (fnLit 61) [] rfl ?_; intro w2 m2 g2) | (refine wpList_insert_own _ rfl _ _ _ 121 rfl 9 126 law9 Try.underlying121 Rf w.heap.size 2 _ rfl m2 (by unfold maxLen; omega) _ _ _ rfl rfl (HK.out Rl.wJoin (by decide)) (fnLit 62) [] rfl ?_; intro w3 m3 g3) | (refine wpList_insert_own _ rfl _ _ _ 121 rfl 9 126 law9 Try.underlying121 Rf w.heap.size 3 _ rfl m3 (by unfold maxLen; omega) _ _ _ rfl rfl (HK.out Rl.wTreat (by decide)) (fnLit 63) [] rfl ?_; intro w4 m4 g4) | (refine wpList_insert_own _ rfl _ _ _ 121 rfl 9 126 law9 Try.underlying121 Rf w.heap.size 4 _ rfl m4 (by unfold maxLen; omega) _ _ _ rfl rfl (HK.out Rl.wKeep (by decide)) (fnLit 64) [] rfl ?_; intro w5 m5 g5) | (refine wpList_insert_own _ rfl _ _ _ 121 rfl 9 126 law9 Try.underlying121 Rf w.heap.size 5 _ rfl m5 (by unfold maxLen; omega) _ _ _ rfl rfl (HK.out Rl.wMay (by decide)) (fnLit 65) [] rfl ?_; intro w6 m6 g6) | (refine wpList_insert_own _ rfl _ _ _ 121 rfl 9 126 law9 Try.underlying121 Rf w.heap.size 6 _ rfl m6 (by unfold maxLen; omega) _ _ _ rfl rfl (HK.out Rl.wMust (by decide)) (fnLit 66) [] rfl ?_; intro w7 m7 g7))
  go_ret
  have hN : ∀ {a b : World}, a.grownBy b (some w.heap.size) → Only (· = w.heap.size) a b := fun hg => ⟨hg.os, hg.tape, hg.output, hg.size, fun g hgl hn => hg.block g hgl (fun e => hn (by injection e))⟩
  have hO : Only (· = w.heap.size) (w.alloc (Obj.map #[] 0)) w7 := (hN g1).trans ((hN g2).trans ((hN g3).trans ((hN g4).trans ((hN g5).trans ((hN g6).trans (hN g7))))))
  refine ⟨rfl, m7, ⟨hO.os, hO.tape, hO.output, Nat.le_trans (by simp) hO.size, fun g hg _ => (hO.block g (by simp; omega) (by omega)).trans (Below.heap_alloc _ _ _ hg)⟩⟩
end Go.Proofs.Ytfbcijnacbfjpaa
namespace Go.Proofs.Ytfbcijnacbfjpaa
open Go.RowKit Go.Maps
set_option linter.unusedVariables false
set_option linter.unusedSimpArgs false

theorem catch_idle (p q : Addr) (w : World) :
    CallsD Try.prog 35 #[.pointer (some p), .pointer (some q)] .returning w fun e u' w' => e = .returned (.tuple #[]) ∧ u' = .returning ∧ w' = w := by
  refine callsD_of_wpS Try.func35 rfl fun c₀ cs hu => ?_
  apply wpS_seq
  apply wpS_region
  simp [wpOpsS, go_sem, recoverD, hu, Try.ntmps35, Exit.thenS]
  refine wpS_of_wp ?_
  go_wp2
  cases c₀
  simp_all [bodyPostS, results, Try.results35]

set_option maxRecDepth 100000 in
set_option maxHeartbeats 4000000 in
theorem catch_thrown (ob fb : Nat) (c i : Int) (v0 v1 v2 v3 v4 u0 u1 : Value) (older : List PanicEntry) (w : World) (hO : w.heap[ob]? = some (.cells #[v0, v1, v2, v3, v4] 61 (0, 0))) (hF : w.heap[fb]? = some (.cells #[u0, u1] 63 (0, 0))) (hne : ob ≠ fb) :
    CallsD Try.prog 35 #[.pointer (some ⟨ob, 0, none⟩), .pointer (some ⟨fb, 0, none⟩)] (.panicking ({ v := .iface 63 (.agg #[.int .i64 c, .int .i64 i]), recovered := false } :: older)) w fun e u' w' =>
      e = .returned (.tuple #[]) ∧ u' = .panicking ({ v := .iface 63 (.agg #[.int .i64 c, .int .i64 i]), recovered := true } :: older) ∧ w'.heap[ob]? = some (.cells #[.slice none 0 0, .int .u32 0, .int .u32 0, .slice none 0 0, .slice none 0 0] 61 (0, 0)) ∧ w'.heap[fb]? = some (.cells #[.int .i64 c, .int .i64 i] 63 (0, 0)) ∧ Only (fun b => b = ob ∨ b = fb) w w' := by
  have a0 : w.cell? ⟨ob, 0, none⟩ = some v0 := (cell_of_row _ _ _ _ _ _ hO).trans rfl
  have a1 : w.cell? ⟨ob, 1, none⟩ = some v1 := (cell_of_row _ _ _ _ _ _ hO).trans rfl
  have a2 : w.cell? ⟨ob, 2, none⟩ = some v2 := (cell_of_row _ _ _ _ _ _ hO).trans rfl
  have a3 : w.cell? ⟨ob, 3, none⟩ = some v3 := (cell_of_row _ _ _ _ _ _ hO).trans rfl
  have a4 : w.cell? ⟨ob, 4, none⟩ = some v4 := (cell_of_row _ _ _ _ _ _ hO).trans rfl
  have b0 : w.cell? ⟨fb, 0, none⟩ = some u0 := (cell_of_row _ _ _ _ _ _ hF).trans rfl
  have b1 : w.cell? ⟨fb, 1, none⟩ = some u1 := (cell_of_row _ _ _ _ _ _ hF).trans rfl
  have fo : ∀ k, w.frozen? ⟨ob, k, none⟩ = false := fun k => by simp [World.frozen?, hO]
  have ff : ∀ k, w.frozen? ⟨fb, k, none⟩ = false := fun k => by simp [World.frozen?, hF]
  have o0 := fo 0
  have o1 := fo 1
  have o2 := fo 2
  have o3 := fo 3
  have o4 := fo 4
  have g0 := ff 0
  have g1 := ff 1
  have hne' : fb ≠ ob := fun e => hne e.symm
  have HO : Hid (w.heap[ob]? = some (.cells #[v0, v1, v2, v3, v4] 61 (0, 0))) := hO
  have HF : Hid (w.heap[fb]? = some (.cells #[u0, u1] 63 (0, 0))) := hF
  clear hO hF fo ff
  refine callsD_of_wpS Try.func35 rfl fun c₀ cs hu => ?_
  apply wpS_seq
  apply wpS_region
  simp [wpOpsS, go_sem, recoverD, hu, Try.ntmps35, Exit.thenS]
  refine wpS_of_wp ?_
  have hta : ∀ w, (Instr.typeAssert (.iface 63 (.agg #[.int .i64 c, .int .i64 i])) 20 63 false).run Try.prog w = .ok (.agg #[.int .i64 c, .int .i64 i]) w := fun w => by kernel_rfl
  go_wp2
  go_region
  all_goals
    have hob : (((((w.setCell ⟨ob, 0, none⟩ (Value.slice none 0 0)).setCell ⟨ob, 1, none⟩ (Value.int .u32 0)).setCell ⟨ob, 2, none⟩ (Value.int .u32 0)).setCell ⟨ob, 3, none⟩ (Value.slice none 0 0)).setCell ⟨ob, 4, none⟩ (Value.slice none 0 0)).heap[ob]? = some (.cells #[.slice none 0 0, .int .u32 0, .int .u32 0, .slice none 0 0, .slice none 0 0] 61 (0, 0)) := heap_setCell_at (heap_setCell_at (heap_setCell_at (heap_setCell_at (heap_setCell_at HO.out _) _) _) _) _
    have hon : Only (fun b => b = ob ∨ b = fb) w (((((w.setCell ⟨ob, 0, none⟩ (Value.slice none 0 0)).setCell ⟨ob, 1, none⟩ (Value.int .u32 0)).setCell ⟨ob, 2, none⟩ (Value.int .u32 0)).setCell ⟨ob, 3, none⟩ (Value.slice none 0 0)).setCell ⟨ob, 4, none⟩ (Value.slice none 0 0)) := (((((Only.refl (fun b => b = ob ∨ b = fb) w).setCell (p := ⟨ob, 0, none⟩) (Or.inl rfl) _).setCell (p := ⟨ob, 1, none⟩) (Or.inl rfl) _).setCell (p := ⟨ob, 2, none⟩) (Or.inl rfl) _).setCell (p := ⟨ob, 3, none⟩) (Or.inl rfl) _).setCell (p := ⟨ob, 4, none⟩) (Or.inl rfl) _
    have hfb : (((((w.setCell ⟨ob, 0, none⟩ (Value.slice none 0 0)).setCell ⟨ob, 1, none⟩ (Value.int .u32 0)).setCell ⟨ob, 2, none⟩ (Value.int .u32 0)).setCell ⟨ob, 3, none⟩ (Value.slice none 0 0)).setCell ⟨ob, 4, none⟩ (Value.slice none 0 0)).heap[fb]? = some (.cells #[u0, u1] 63 (0, 0)) := (Below.heap_setCell _ _ _ _ hne').trans ((Below.heap_setCell _ _ _ _ hne').trans ((Below.heap_setCell _ _ _ _ hne').trans ((Below.heap_setCell _ _ _ _ hne').trans ((Below.heap_setCell _ _ _ _ hne').trans HF.out))))
    generalize (((((w.setCell ⟨ob, 0, none⟩ (Value.slice none 0 0)).setCell ⟨ob, 1, none⟩ (Value.int .u32 0)).setCell ⟨ob, 2, none⟩ (Value.int .u32 0)).setCell ⟨ob, 3, none⟩ (Value.slice none 0 0)).setCell ⟨ob, 4, none⟩ (Value.slice none 0 0)) = W5 at hob hfb hon ⊢
    refine ⟨rfl, _, rfl, .tuple #[], by simp [results, Try.results35], rfl, rfl, ?_, ?_, ?_⟩
    · exact (Below.heap_setCell _ _ _ _ hne).trans ((Below.heap_setCell _ _ _ _ hne).trans hob)
    · exact heap_setCell_at (heap_setCell_at hfb _) _
    · exact ((hon.setCell (p := ⟨fb, 0, none⟩) (Or.inr rfl) _).setCell (p := ⟨fb, 1, none⟩) (Or.inr rfl) _).drew
end Go.Proofs.Ytfbcijnacbfjpaa
namespace Go.Proofs.Ytfbcijnacbfjpaa
open Go.RowKit Go.Maps
set_option linter.unusedVariables false
set_option linter.unusedSimpArgs false

theorem nm_len {ts ts' : List Rl.Tk} {t : Rl.Tk} (h : Rl.name ts = .ok (t, ts')) : ts'.length < ts.length := by
  cases ts with
  | nil => cases h
  | cons t0 ts0 =>
    rw [name_cons] at h
    split at h
    · cases h
    · split at h
      · cases h; simp
      · cases h
theorem fresh_len {E : Rl.Env} {ts ts' : List Rl.Tk} {t : Rl.Tk} (h : Rl.fresh E ts = .ok (t, ts')) : ts'.length < ts.length := nm_len (fresh_none h).1
theorem placeOf_len {C : List Rl.Str} {ts ts' : List Rl.Tk} {k : Nat} (h : Rl.placeOf C ts = .ok (k, ts')) : ts'.length < ts.length := by
  unfold Rl.placeOf at h
  split at h
  · cases h
  · rename_i hn
    split at h
    · cases h
    · cases h; exact nm_len hn
theorem classes_len : ∀ (ts : List Rl.Tk) (s : Rl.St) {ts' : List Rl.Tk} {s' : Rl.St}, Rl.classes ts s = .ok (ts', s') → ts'.length ≤ ts.length ∧ s'.env.length + ts'.length ≤ s.env.length + ts.length
  | [], s, _, _, h => by cases h
  | t :: ts, s, ts', s', h => by
    rw [classes_cons] at h
    split at h
    · cases h
    · split at h
      · split at h
        · cases h
        · split at h
          · cases h
          · have ih := classes_len ts _ h
            unfold Rl.addClass at ih
            simp only [List.length_append, List.length_cons, List.length_nil] at ih ⊢
            omega
      · cases h; simp
theorem line_len {t : Rl.Tk} {ts ts' : List Rl.Tk} {s s' : Rl.St} (h : Rl.line t ts s = .ok (ts', s')) (hp : s.places ≤ 200) : ts'.length ≤ ts.length ∧ s'.env.length + ts'.length ≤ s.env.length + ts.length := by
  have hrule : ∀ d, Rl.rule' d t.at' ts s = .ok (ts', s') → ts'.length ≤ ts.length ∧ s'.env.length + ts'.length ≤ s.env.length + ts.length := by
    intro d h
    unfold Rl.rule' at h
    split at h
    · cases h
    · split at h
      · cases h
      · rename_i h1
        split at h
        · cases h
        · rename_i h2
          split at h
          · cases h
          · rename_i h3
            cases h
            have a1 := (Rl.expr_len s.env s.cls.length _).1 _ _ _ _ _ _ h1 hp
            have a2 := Rl.want_len h2
            have a3 := (Rl.expr_len s.env s.cls.length _).1 _ _ _ _ _ _ h3 a1.2
            simp only
            omega
  unfold Rl.line at h
  split at h
  · exact classes_len ts s h
  · split at h
    · unfold Rl.set' at h
      split at h
      · cases h
      · rename_i h1
        split at h
        · cases h
        · rename_i h2
          split at h
          · cases h
          · rename_i h3
            cases h
            have a1 := fresh_len h1
            have a2 := Rl.want_len h2
            have a3 := Rl.names_len h3
            simp only [List.length_append, List.length_cons, List.length_nil]
            omega
    · split at h
      · unfold Rl.join' at h
        split at h
        · cases h
        · rename_i h1
          split at h
          · cases h
          · rename_i h2
            split at h
            · cases h
            · rename_i h3
              cases h
              have a1 := Rl.names_len h1
              have a2 := Rl.want_len h2
              have a3 := Rl.names_len h3
              simp only
              omega
      · split at h
        · unfold Rl.treat' at h
          split at h
          · cases h
          · rename_i h1
            split at h
            · cases h
            · rename_i h2
              split at h
              · cases h
              · rename_i h3
                cases h
                have a1 := placeOf_len h1
                have a2 := Rl.want_len h2
                have a3 := placeOf_len h3
                simp only
                omega
        · split at h
          · exact hrule 0 h
          · split at h
            · exact hrule 1 h
            · split at h
              · exact hrule 2 h
              · cases h
theorem has_none {s : Rl.Str} (h1 : s ≠ Rl.wClass) (h2 : s ≠ Rl.wSet) (h3 : s ≠ Rl.wJoin) (h4 : s ≠ Rl.wTreat) (h5 : s ≠ Rl.wKeep) (h6 : s ≠ Rl.wMay) (h7 : s ≠ Rl.wMust) : Maps.has kindsD (.string s) = false := by
  have ne : ∀ {a : Rl.Str}, s ≠ a → (Lit.string s) ≠ (Lit.string a) := fun h e => h (by injection e)
  unfold kindsD
  rw [has_put_other (ne h7), has_put_other (ne h6), has_put_other (ne h5), has_put_other (ne h4), has_put_other (ne h3), has_put_other (ne h2), has_put_other (ne h1)]
  rfl
end Go.Proofs.Ytfbcijnacbfjpaa
namespace Go.Proofs.Ytfbcijnacbfjpaa
open Go.RowKit Go.Maps
set_option linter.unusedVariables false
set_option linter.unusedSimpArgs false
namespace Rl
/-- every list of kids is short. -/
inductive Small : Ex → Prop
  | mk (op set : Int) (kids : List Ex) : kids.length ≤ 5000 → (∀ k ∈ kids, Small k) → Small (.mk op set kids)
theorem Small.kids {op set : Int} {kids : List Ex} (h : Small (.mk op set kids)) : kids.length ≤ 5000 ∧ ∀ k ∈ kids, Small k := by
  cases h with
  | mk _ _ _ h1 h2 => exact ⟨h1, h2⟩
theorem small_leaf (op set : Int) : Small (.mk op set []) := .mk op set [] (by simp) (by simp)
theorem small_one {e : Ex} (op : Int) (h : Small e) : Small (.mk op 0 [e]) := .mk op 0 [e] (by simp) (by simpa using h)
theorem small_alt {l : List Ex} (h : ∀ k ∈ l, Small k) (hl : l.length ≤ 5000) : Small (mkAlt l) := by
  unfold mkAlt
  split
  · simpa using h
  · exact .mk 3 0 _ hl h
theorem small_seq {l : List Ex} (h : ∀ k ∈ l, Small k) (hl : l.length ≤ 5000) : Small (mkSeq l) := by
  unfold mkSeq
  split
  · exact small_leaf 0 0
  · simpa using h
  · exact .mk 2 0 _ hl h
theorem small_often {e e' : Ex} {ts ts' : List Tk} (h : often e ts = .ok (e', ts')) (he : Small e) : Small e' := by
  cases ts with
  | nil => cases h
  | cons t ts =>
    simp only [often] at h
    split at h
    · cases h
    · split at h
      · cases h; exact small_one 4 he
      · split at h
        · cases h; exact small_one 5 he
        · split at h
          · cases h; exact small_one 6 he
          · cases h; exact he
theorem mem_snoc {l : List Ex} {e : Ex} (h : ∀ k ∈ l, Small k) (he : Small e) : ∀ k ∈ l ++ [e], Small k := by
  intro k hk
  rcases List.mem_append.1 hk with h1 | h1
  · exact h k h1
  · simp at h1; subst h1; exact he
theorem expr_small (E : Env) (nc : Nat) : ∀ n,
    (∀ d ts p e ts' p', either E nc n d ts p = .ok (e, ts', p') → p ≤ 200 → ts.length ≤ 4900 → Small e) ∧
    (∀ d ts p l e ts' p', alts E nc n d ts p l = .ok (e, ts', p') → p ≤ 200 → l.length + ts.length ≤ 4950 → ts.length ≤ 4900 → (∀ k ∈ l, Small k) → Small e) ∧
    (∀ d ts p l e ts' p', row E nc n d ts p l = .ok (e, ts', p') → p ≤ 200 → l.length + ts.length ≤ 4950 → ts.length ≤ 4900 → (∀ k ∈ l, Small k) → Small e) ∧
    (∀ d ts p e ts' p', thing E nc n d ts p = .ok (e, ts', p') → p ≤ 200 → ts.length ≤ 4900 → Small e)
  | 0 => by
    refine ⟨fun _ _ _ _ _ _ h => ?_, fun _ _ _ _ _ _ _ h => ?_, fun _ _ _ _ _ _ _ h => ?_, fun _ _ _ _ _ _ h => ?_⟩ <;> simp [either, alts, row, thing] at h
  | n + 1 => by
    obtain ⟨hE, hA, hR, hT⟩ := expr_small E nc n
    obtain ⟨lE, lA, lR, lT⟩ := expr_len E nc n
    refine ⟨fun d ts p e ts' p' h hp hl => ?_, fun d ts p l e ts' p' h hp hl hl2 hk => ?_, fun d ts p l e ts' p' h hp hl hl2 hk => ?_, fun d ts p e ts' p' h hp hl => ?_⟩
    · simp only [either] at h
      split at h
      · cases h
      · rename_i h1
        have a1 := lR _ _ _ _ _ _ _ h1 hp
        have b1 := hR _ _ _ _ _ _ _ h1 hp (by simp; omega) hl (by simp)
        exact hA _ _ _ _ _ _ _ h a1.2 (by simp; omega) (by omega) (by simpa using b1)
    · simp only [alts] at h
      split at h
      · cases h
      · cases h
        exact small_alt hk (by omega)
      · rename_i h1
        split at h
        · cases h
        · rename_i h2
          have a0 := took_len h1
          have a0' := a0.2 rfl
          have a1 := lR _ _ _ _ _ _ _ h2 hp
          have b1 := hR _ _ _ _ _ _ _ h2 hp (by simp; omega) (by omega) (by simp)
          exact hA _ _ _ _ _ _ _ h a1.2 (by simp; omega) (by omega) (mem_snoc hk b1)
    · cases ts with
      | nil => simp [row, thing] at h
      | cons t ts =>
        simp only [row] at h
        split at h
        · cases h
        · split at h
          · split at h
            · cases h
            · rename_i h1
              split at h
              · cases h
              · rename_i h2
                have a1 := lT _ _ _ _ _ _ h1 hp
                have a2 := often_len h2
                have b1 := hT _ _ _ _ _ _ h1 hp hl2
                simp only [List.length_cons] at hl hl2 a1
                exact hR _ _ _ _ _ _ _ h a1.2 (by simp; omega) (by omega) (mem_snoc hk (small_often h2 b1))
          · cases h
            exact small_seq hk (by simp only [List.length_cons] at hl; omega)
    · cases ts with
      | nil => simp [row, thing] at h
      | cons t ts =>
        simp only [thing] at h
        simp only [List.length_cons] at hl
        split at h
        · split at h
          · cases h
          · split at h
            · cases h
            · rename_i h1
              split at h
              · cases h
              · rename_i h2
                cases h
                exact hE _ _ _ _ _ _ h1 hp (by omega)
        · split at h
          · cases h
          · rename_i h1
            cases h
            exact small_leaf 1 _
def SmallS (s : St) : Prop := s.places ≤ 200 ∧ ∀ r ∈ s.list, Small r.left ∧ Small r.right
theorem rule_small {d : Int} {i : Nat} {ts ts' : List Tk} {s s' : St} (h : rule' d i ts s = .ok (ts', s')) (hs : SmallS s) (hl : ts.length ≤ 4900) : SmallS s' := by
  unfold rule' at h
  split at h
  · cases h
  · split at h
    · cases h
    · rename_i h1
      split at h
      · cases h
      · rename_i h2
        split at h
        · cases h
        · rename_i h3
          cases h
          have a1 := (expr_len s.env s.cls.length _).1 _ _ _ _ _ _ h1 hs.1
          have a2 := want_len h2
          have a3 := (expr_len s.env s.cls.length _).1 _ _ _ _ _ _ h3 a1.2
          have b1 := (expr_small s.env s.cls.length _).1 _ _ _ _ _ _ h1 hs.1 hl
          have b3 := (expr_small s.env s.cls.length _).1 _ _ _ _ _ _ h3 a1.2 (by omega)
          refine ⟨a3.2, fun r hr => ?_⟩
          rcases List.mem_append.1 hr with h4 | h4
          · exact hs.2 r h4
          · simp at h4; subst h4; exact ⟨b1, b3⟩
theorem classes_small : ∀ (ts : List Tk) (s : St) {ts' : List Tk} {s' : St}, classes ts s = .ok (ts', s') → SmallS s → SmallS s'
  | [], s, _, _, h, _ => by cases h
  | t :: ts, s, ts', s', h, hs => by
    rw [classes_cons] at h
    split at h
    · cases h
    · split at h
      · split at h
        · cases h
        · split at h
          · cases h
          · exact classes_small ts _ h hs
      · cases h; exact hs
theorem line_small {t : Tk} {ts ts' : List Tk} {s s' : St} (h : line t ts s = .ok (ts', s')) (hs : SmallS s) (hl : ts.length ≤ 4900) : SmallS s' := by
  unfold line at h
  split at h
  · exact classes_small ts s h hs
  · split at h
    · unfold set' at h
      split at h
      · cases h
      · split at h
        · cases h
        · split at h
          · cases h
          · cases h; exact hs
    · split at h
      · unfold join' at h
        split at h
        · cases h
        · split at h
          · cases h
          · split at h
            · cases h
            · cases h; exact hs
      · split at h
        · unfold treat' at h
          split at h
          · cases h
          · split at h
            · cases h
            · split at h
              · cases h
              · cases h; exact hs
        · split at h
          · exact rule_small h hs hl
          · split at h
            · exact rule_small h hs hl
            · split at h
              · exact rule_small h hs hl
              · cases h
theorem lines_small : ∀ (n : Nat) (ts : List Tk) (s : St) {s' : St}, lines n ts s = .ok s' → SmallS s → ts.length ≤ 4900 → SmallS s'
  | 0, _, _, _, h, _, _ => by cases h
  | _ + 1, [], _, _, h, _, _ => by cases h
  | n + 1, t :: ts, s, s', h, hs, hl => by
    simp only [lines] at h
    simp only [List.length_cons] at hl
    split at h
    · cases h
    · split at h
      · cases h; exact hs
      · split at h
        · cases h
        · rename_i h1
          split at h
          · cases h
          · rename_i h2
            have a1 := line_len h1 hs.1
            have a2 := want_len h2
            exact lines_small n _ _ h (line_small h1 hs (by omega)) (by omega)
theorem small_st0 : SmallS st0 := ⟨by decide, fun r hr => by cases hr⟩
end Rl
end Go.Proofs.Ytfbcijnacbfjpaa
