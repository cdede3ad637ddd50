/-
  What a reader has said so far, in memory.
-/
import Derived.Test.YtfbcijnacbfjpaaEither
import Derived.Test.YtfbcijnacbfjpaaClone
namespace Go.Proofs.Ytfbcijnacbfjpaa
open Go.RowKit Go.Maps
set_option linter.unusedVariables false
set_option linter.unusedSimpArgs false

theorem step_of_wp {P : Program} {ops : Array Oper} {o : Oper} {a : Act} {w : World} {K : Act → World → Prop} {Q : Exit → Act → World → Prop} {E : Prop} (hg : o.guard = none) (h : Oper.wp P o a w K Q) :
    if Region.wanted o (yielded ops a.tmps) = true then Oper.wp P o a w K Q else E := by
  have hw : Region.wanted o (yielded ops a.tmps) = true := by simp [Region.wanted, hg]
  rw [if_pos hw]
  exact h
theorem wp_append_at {P : Program} (w : World) {o : Oper} {a : Act} {K : Act → World → Prop} {Q : Exit → Act → World → Prop} (s x : Operand) (t : TypeId)
    (ho : o.op = .call { callee := .builtin .append, args := #[s, x], argTypes := #[t, t] })
    (base : Nat) (e : TypeId) (i : TypeInfo) (z : Value) (size bytes : Nat) (ht : P.underlying t = some (.slice e)) (hi : P.info? e = some i) (hz : i.zero = some z)
    (hsize : i.size = size) (hby : i.bytes = bytes) (hzs : z.cells.size = size) (hsz : 0 < size)
    (v : Value) (n : Nat) (xs : List Value) (hs : a.eval s = v) (hown : w.ownsRow base e size v n xs)
    (ad : Addr) (m c : Nat) (news : List Value) (hx : a.eval x = .slice (some ad) m c) (hl : news.length = m * size) (hnews : ∀ j u, news[j]? = some u → w.cell? (ad.add j) = some u) (h1 : ∀ u ∈ news, u.oneCell' = true)
    (h63 : n + m ≤ maxLen) (hbytes : (n + m) * bytes ≤ 140737488355328) (hbase : base ≤ w.heap.size)
    (h : ∀ v' w', w'.ownsRow base e size v' (n + m) (xs ++ news) → w.grownBy w' v.ownBlock → K (a.put o.dst v') w') : o.wp P a w K Q := by
  obtain ⟨v', w', hr, h2, h3, h4, h5⟩ := run_append_own_at (P := P) w base t o.type e i z size bytes ht hi hz hsize hby hzs hsz v n xs hown ad m c news hl hnews h1 h63 hbytes hbase
  unfold Oper.wp execOp
  simp only [ho, resolve, invoke, builtin, Sem.run_bind, Sem.run_pure, Result.andThen_ok, List.map_toArray, List.map_cons, List.map_nil, hs, hx, hr]
  exact h v' w' h2 h3
theorem wp_put {P : Program} (w : World) {o : Oper} {a : Act} {K : Act → World → Prop} {Q : Exit → Act → World → Prop} (m x v : Operand) (t : TypeId) (hop : o.op = Op.mapUpdate t m x v)
    (k e : TypeId) (L : Keyed P k) (ht : P.underlying t = some (.map k e)) (R : Value → Option (DataW Unit × List MemPlace)) (b n : Nat) (D : DataW Unit)
    (hm : a.eval m = .map (some b)) (hown : w.ownsMap P k R b n D) (hn : n < maxLen) (key val : Value) (kl : Lit) (hx : a.eval x = key) (hv : a.eval v = val) (hkey : keyOf P k key = some kl)
    (d : DataW Unit) (ps : List MemPlace) (hval : R val = some (d, ps))
    (h : ∀ w', w'.ownsMap P k R b (n + 1) (D.put kl d) → w.grownBy w' (some b) → K (a.put o.dst undef) w') : o.wp P a w K Q := by
  obtain ⟨w', hrun, r1, r2⟩ := hown.update L ht hn hkey hval
  unfold Oper.wp
  simp [execOp, hop, hm, hx, hv, hrun, Result.andThen]
  exact h w' r1 r2
/-- whole numbers as cells. -/
def ints (l : List Int) : List Value := l.map (Value.int .i64)
def Rcs (w : World) (F : Nat → Prop) : List Rl.Rule → (Nat → Option Value) → Prop
  | [], _ => True
  | r :: rs, c => (c 0 = some (.int .u8 r.does) ∧ (∃ o s k, c 1 = some o ∧ c 2 = some s ∧ c 3 = some k ∧ Tr w F r.left (.agg #[o, s, k])) ∧ (∃ o s k, c 4 = some o ∧ c 5 = some s ∧ c 6 = some k ∧ Tr w F r.right (.agg #[o, s, k]))) ∧ Rcs w F rs (fun j => c (j + 7))
theorem Rcs.keepT {w w' : World} {F F' : Nat → Prop} (hk : ∀ b, F b → b < w.heap.size → (∃ cs z, w.heap[b]? = some (.cells cs 49 z)) → F' b ∧ w'.heap[b]? = w.heap[b]?) : ∀ (rs : List Rl.Rule) (c : Nat → Option Value), Rcs w F rs c → Rcs w' F' rs c
  | [], _, _ => trivial
  | r :: rs, c, ⟨⟨h0, ⟨o, s, k, h1, h2, h3, h4⟩, ⟨o', s', k', h5, h6, h7, h8⟩⟩, h9⟩ => ⟨⟨h0, ⟨o, s, k, h1, h2, h3, Tr.keepT hk _ _ h4⟩, ⟨o', s', k', h5, h6, h7, Tr.keepT hk _ _ h8⟩⟩, Rcs.keepT hk rs _ h9⟩
theorem Rcs.cong {w : World} {F : Nat → Prop} : ∀ (rs : List Rl.Rule) {c c' : Nat → Option Value}, (∀ j, j < 7 * rs.length → c j = c' j) → Rcs w F rs c → Rcs w F rs c'
  | [], _, _, _, _ => trivial
  | r :: rs, c, c', hc, h => by
    simp only [List.length_cons] at hc
    obtain ⟨⟨h0, ⟨o, s, k, h1, h2, h3, h4⟩, ⟨o', s', k', h5, h6, h7, h8⟩⟩, h9⟩ := h
    exact ⟨⟨(hc 0 (by omega)).symm.trans h0, ⟨o, s, k, (hc 1 (by omega)).symm.trans h1, (hc 2 (by omega)).symm.trans h2, (hc 3 (by omega)).symm.trans h3, h4⟩, ⟨o', s', k', (hc 4 (by omega)).symm.trans h5, (hc 5 (by omega)).symm.trans h6, (hc 6 (by omega)).symm.trans h7, h8⟩⟩, Rcs.cong rs (fun j hj => hc (j + 7) (by omega)) h9⟩
theorem Rcs.snoc {w : World} {F : Nat → Prop} {r : Rl.Rule} {o s k o' s' k' : Value} (hl : Tr w F r.left (.agg #[o, s, k])) (hr : Tr w F r.right (.agg #[o', s', k'])) : ∀ (rs : List Rl.Rule) (xs : List Value), xs.length = 7 * rs.length → Rcs w F rs (fun j => xs[j]?) → Rcs w F (rs ++ [r]) (fun j => (xs ++ [.int .u8 r.does, o, s, k, o', s', k'])[j]?)
  | [], xs, hx, _ => by
    obtain rfl : xs = [] := List.length_eq_zero_iff.1 (by simpa using hx)
    exact ⟨⟨rfl, ⟨o, s, k, rfl, rfl, rfl, hl⟩, ⟨o', s', k', rfl, rfl, rfl, hr⟩⟩, trivial⟩
  | q :: rs, xs, hx, h => by
    obtain ⟨ys, zs, rfl, hy⟩ : ∃ ys zs, xs = ys ++ zs ∧ ys.length = 7 := ⟨xs.take 7, xs.drop 7, (List.take_append_drop 7 xs).symm, by rw [List.length_take, hx]; simp only [List.length_cons]; omega⟩
    have hz : zs.length = 7 * rs.length := by simp only [List.length_append, List.length_cons] at hx; omega
    obtain ⟨h0, h9⟩ := h
    have e1 : ∀ j, (ys ++ zs ++ [Value.int .u8 r.does, o, s, k, o', s', k'])[j + 7]? = (zs ++ [Value.int .u8 r.does, o, s, k, o', s', k'])[j]? := fun j => by
      rw [List.append_assoc, List.getElem?_append_right (by omega), hy, Nat.add_sub_cancel]
    have e2 : ∀ j, (ys ++ zs)[j + 7]? = zs[j]? := fun j => by rw [List.getElem?_append_right (by omega), hy, Nat.add_sub_cancel]
    have e3 : ∀ j, j < 7 → (ys ++ zs ++ [Value.int .u8 r.does, o, s, k, o', s', k'])[j]? = (ys ++ zs)[j]? := fun j hj => by
      rw [List.getElem?_append_left (by rw [List.length_append]; omega)]
    have ih := Rcs.snoc hl hr rs zs hz (Rcs.cong rs (fun j _ => e2 j) h9)
    refine ⟨?_, Rcs.cong (rs ++ [r]) (fun j _ => (e1 j).symm) ih⟩
    obtain ⟨h0, ⟨o1, s1, k1, h1, h2, h3, h4⟩, ⟨o2, s2, k2, h5, h6, h7, h8⟩⟩ := h0
    exact ⟨(e3 0 (by omega)).trans h0, ⟨o1, s1, k1, (e3 1 (by omega)).trans h1, (e3 2 (by omega)).trans h2, (e3 3 (by omega)).trans h3, h4⟩, ⟨o2, s2, k2, (e3 4 (by omega)).trans h5, (e3 5 (by omega)).trans h6, (e3 6 (by omega)).trans h7, h8⟩⟩
/-- the rules in memory. -/
def Rls (w : World) (B : Nat) (v : Value) (l : List Rl.Rule) : Prop := ∃ xs, w.ownsRow B 69 7 v l.length xs ∧ Rcs w (fun b => B ≤ b) l (fun j => xs[j]?)
structure Stt (w : World) (rb : Nat) (x : Rd) (s : Rl.St) : Prop where
  cls : w.ownsRow (rb + 1) 9 1 x.vC s.cls.length (strs s.cls)
  trt : w.ownsRow (rb + 1) 3 1 x.vT s.cls.length (ints s.treat)
  lst : Rls w (rb + 1) x.vL s.list
  mp : Mp w x.mb s.env
  jn : x.j = s.join
  af : x.a = s.after
  pl : x.pl = (s.places : Int)
  op : x.op = 0
  mb : x.mb < rb
  c24 : s.cls.length ≤ 24
  l24 : s.list.length ≤ 24
  p200 : s.places ≤ 200
theorem Rls.only {w w' : World} {B : Nat} {v : Value} {l : List Rl.Rule} {P : Nat → Prop} (h : Rls w B v l) (ho : Only P w w') (hP : ∀ g, B ≤ g → ¬ P g) : Rls w' B v l := by
  obtain ⟨xs, h1, h2⟩ := h
  exact ⟨xs, own_only h1 ho hP, h2.keepT (fun b hb hl _ => ⟨hb, ho.block b hl (hP b hb)⟩)⟩
theorem Stt.only {w w' : World} {rb : Nat} {x : Rd} {s : Rl.St} (h : Stt w rb x s) (ho : Only (· = rb) w w') : Stt w' rb x s :=
  ⟨own_only h.cls ho (fun g hg => by omega), own_only h.trt ho (fun g hg => by omega), h.lst.only ho (fun g hg => by omega), h.mp.only ho (by have := h.mb; omega), h.jn, h.af, h.pl, h.op, h.mb, h.c24, h.l24, h.p200⟩
theorem Stt.cx {w : World} {rb : Nat} {x : Rd} {s : Rl.St} (h : Stt w rb x s) : Cx s.cls.length rb x s.places 0 := ⟨by have := h.mb; omega, h.pl, h.p200, h.op, by omega, own_form h.cls, h.c24⟩
theorem Stt.withPl {w : World} {rb : Nat} {x : Rd} {s : Rl.St} (h : Stt w rb x s) {p : Nat} (hp : p ≤ 200) : Stt w rb (x.withPl p) { s with places := p } := ⟨h.cls, h.trt, h.lst, h.mp, h.jn, h.af, rfl, h.op, h.mb, h.c24, h.l24, hp⟩
/-- a row of another kind is not the one that was written. -/
theorem own_grown {w w' : World} {base base' e e' size size' n n' : Nat} {v v' : Value} {xs xs' : List Value} (h : w.ownsRow base e size v n xs) (h' : w.ownsRow base' e' size' v' n' xs') (hne : e ≠ e') (hg : w.grownBy w' v'.ownBlock) : w'.ownsRow base e size v n xs := by
  obtain ⟨hl, h | ⟨g, cap, cur, hv, hb, hh, h1⟩⟩ := h
  · exact ⟨hl, Or.inl h⟩
  · refine ⟨hl, Or.inr ⟨g, cap, cur, hv, hb, (hg.block g (Array.getElem?_eq_some_iff.1 hh).1 (fun he => ?_)).trans hh, h1⟩⟩
    obtain ⟨_, ⟨hv', _⟩ | ⟨g', cap', cur', hv', _, hh', _⟩⟩ := h'
    · rw [hv'] at he; cases he
    · rw [hv'] at he
      injection he with he
      simp only at he
      subst he
      rw [hh] at hh'
      injection hh' with hh'
      injection hh' with _ h2
      exact hne h2
theorem Rls.grown {w w' : World} {B base' e' size' n' : Nat} {v v' : Value} {l : List Rl.Rule} {xs' : List Value} (h : Rls w B v l) (h' : w.ownsRow base' e' size' v' n' xs') (h52 : 69 ≠ e') (h50 : 49 ≠ e') (hg : w.grownBy w' v'.ownBlock) : Rls w' B v l := by
  obtain ⟨xs, h1, h2⟩ := h
  refine ⟨xs, own_grown h1 h' h52 hg, h2.keepT (fun b hb hl hc => ⟨hb, hg.block b hl (fun he => ?_)⟩)⟩
  obtain ⟨cs, z, hc⟩ := hc
  obtain ⟨_, ⟨hv', _⟩ | ⟨g', cap', cur', hv', _, hh', _⟩⟩ := h'
  · rw [hv'] at he; cases he
  · rw [hv'] at he
    injection he with he
    simp only at he
    subst he
    rw [hc] at hh'
    injection hh' with hh'
    injection hh' with _ h2
    exact h50 h2
/-- the blocks that reading may turn. -/
def Lo (rb mb : Nat) (b : Nat) : Prop := b = mb ∨ rb ≤ b
/-- reading turns no block ahead of the reader but the names' map, and no other map. -/
def Fr (rb mb : Nat) (w w' : World) : Prop := Only (Lo rb mb) w w' ∧ ∀ b es cl, w.heap[b]? = some (.map es cl) → b ≠ mb → w'.heap[b]? = w.heap[b]?
theorem Fr.trans {rb mb : Nat} {a b c : World} (h : Fr rb mb a b) (k : Fr rb mb b c) : Fr rb mb a c :=
  ⟨h.1.trans k.1, fun g es cl hg hn => (k.2 g es cl ((h.2 g es cl hg hn).trans hg) hn).trans (h.2 g es cl hg hn)⟩
/-- a block of cells. -/
def Cl (w : World) (g : Nat) : Prop := ∃ cs t z, w.heap[g]? = some (.cells cs t z)
theorem Cl.no {w : World} {g : Nat} (h : Cl w g) {es : Array MapEntry} {cl : Nat} (k : w.heap[g]? = some (.map es cl)) : False := by
  obtain ⟨cs, t, z, h⟩ := h
  rw [h] at k
  cases k
theorem Rdr.cl {w : World} {rb : Nat} {S : ByteArray} {i : Int} {x : Rd} (h : Rdr w rb S i x) : Cl w rb := ⟨_, _, _, h⟩
theorem In.cl {w : World} {rb : Nat} {S : ByteArray} {x : Rd} {ts : List Rl.Tk} (h : In w rb S x ts) : Cl w rb := by
  obtain ⟨i, h, _⟩ := h
  exact h.cl
theorem Only.frAt {w w' : World} {g rb : Nat} (h : Only (· = g) w w') (hg : rb ≤ g) (hc : Cl w g) (mb : Nat) : Fr rb mb w w' :=
  ⟨h.mono (fun b e => Or.inr (by omega)), fun b es cl hb _ => h.block b (Array.getElem?_eq_some_iff.1 hb).1 (fun e => by subst e; exact hc.no hb)⟩
theorem Only.fr {w w' : World} {rb : Nat} (h : Only (· = rb) w w') (hc : Cl w rb) (mb : Nat) : Fr rb mb w w' := h.frAt (Nat.le_refl _) hc mb
theorem Only.frMb {w w' : World} {rb mb : Nat} (h : Only (· = mb) w w') : Fr rb mb w w' := ⟨h.mono (fun b e => Or.inl e), fun b es cl hb hn => h.block b (Array.getElem?_eq_some_iff.1 hb).1 hn⟩
theorem Only.fr0 {w w' : World} (h : Only (fun _ => False) w w') (rb mb : Nat) : Fr rb mb w w' := ⟨h.mono (fun b e => e.elim), fun b es cl hb hn => h.block b (Array.getElem?_eq_some_iff.1 hb).1 (fun e => e)⟩
theorem Only.frOwn {w w' : World} {rb e size n : Nat} {v : Value} {xs : List Value} (h : Only (fun g => v.ownBlock = some g) w w') (hx : w.ownsRow (rb + 1) e size v n xs) (mb : Nat) : Fr rb mb w w' := by
  refine ⟨h.mono (fun b hb => Or.inr (by have := (hx.lt b hb).1; omega)), fun b es cl hb hn => h.block b (Array.getElem?_eq_some_iff.1 hb).1 (fun hv => ?_)⟩
  obtain ⟨_, ⟨hv', _⟩ | ⟨g', cap', cur', hv', _, hh', _⟩⟩ := hx
  · rw [hv'] at hv; cases hv
  · rw [hv'] at hv
    injection hv with hv
    simp only at hv
    subst hv
    exact Cl.no ⟨_, _, _, hh'⟩ hb
/-- how a line's reading ends. -/
def lineP (rb : Nat) (S : ByteArray) (mb : Nat) (w : World) (F : Rl.R (List Rl.Tk × Rl.St)) (e : Ending) (w' : World) : Prop :=
  match F with
  | .error f => e = .panicked (thr f.1 f.2) ∧ Fr rb mb w w'
  | .ok (ts, s) => e = .returned (.tuple #[]) ∧ ∃ x, x.mb = mb ∧ In w' rb S x ts ∧ Stt w' rb x s ∧ Fr rb mb w w'
theorem bor_range (a b : Int) : 0 ≤ Rl.bor a b ∧ Rl.bor a b < 4294967296 := by
  unfold Rl.bor bits
  rw [IntKind.wrap_u32]
  exact ⟨Int.emod_nonneg _ (by omega), Int.emod_lt_of_pos _ (by omega)⟩
theorem names_range {E : Rl.Env} : ∀ {ts ts' : List Rl.Tk} {a b : Int}, Rl.names E ts a = .ok (b, ts') → 0 ≤ a ∧ a < 4294967296 → 0 ≤ b ∧ b < 4294967296
  | [], _, _, _, h, _ => by cases h
  | t :: ts, ts', a, b, h, ha => by
    rw [names_cons] at h
    split at h
    · cases h
    · split at h
      · split at h
        · cases h
        · exact names_range h (bor_range _ _)
      · cases h; exact ha
theorem wf_u32 {a : Int} (h : 0 ≤ a ∧ a < 4294967296) : (Lit.int .u32 a).wf = true := by
  have e1 : IntKind.min .u32 = 0 := by decide
  have e2 : IntKind.max .u32 = 4294967295 := by decide
  have h2 : a ≤ 4294967295 := by omega
  simp only [Lit.wf, e1, e2, h.1, h2, decide_true, Bool.and_self]
theorem find_snoc (E : Rl.Env) (s : Rl.Str) (b : Int) (x : Rl.Str) (h : Rl.find E s = none) : Rl.find (E ++ [(s, b)]) x = if s = x then some b else Rl.find E x := by
  induction E with
  | nil => rfl
  | cons q E ih =>
    obtain ⟨s', b'⟩ := q
    unfold Rl.find at h
    rw [List.cons_append]
    unfold Rl.find
    by_cases e : s' = s
    · rw [if_pos e] at h; cases h
    · rw [if_neg e] at h
      by_cases e2 : s' = x
      · subst e2
        rw [if_pos rfl, if_neg (fun h => e h.symm), if_pos rfl]
      · rw [if_neg e2, if_neg e2, ih h]
/-- one name more. -/
theorem Mp.put {w w' : World} {mb : Nat} {E : Rl.Env} {D : DataW Unit} {s : Rl.Str} {b : Int} (hm : IsMap D) (hD : ∀ s : Rl.Str, D.atKey (.string s) (.lit (.int .u32 0)) = .lit (.int .u32 ((Rl.find E s).getD 0)) ∧ Maps.has D (.string s) = (Rl.find E s).isSome)
    (h : w'.ownsMap Try.prog 9 (plainElem Try.prog 47) mb (E.length + 1) (D.put (.string s) (.lit (.int .u32 b)))) (hf : Rl.find E s = none) : Mp w' mb (E ++ [(s, b)]) := by
  have hk : WideAt.IsKeyLit (Lit.string s) := trivial
  refine ⟨_, by rw [List.length_append]; exact h, World.ownsMap.isMap h, fun x => ?_⟩
  rw [find_snoc E s b x hf]
  by_cases e : s = x
  · subst e
    rw [atKey_put_same hm hk, has_put_same hm hk, if_pos rfl]
    exact ⟨rfl, rfl⟩
  · have hne : (Lit.string x) ≠ (Lit.string s) := fun h => e (by injection h with h; exact h.symm)
    rw [atKey_put_other hne, has_put_other hne, if_neg e]
    exact hD x
end Go.Proofs.Ytfbcijnacbfjpaa
