/-
  Expressions read by a list of frames say what they say by recursion; no program in it.
-/
import Derived.Test.YtfbcijnacbfjpaaMathz
import Derived.Test.YtfbcijnacbfjpaaTokz
import Derived.Lib.UnsafeStr
import Derived.Lib.BufferWrite
import Derived.Laws.MakeOwn
import Derived.Test.YtfbcijnacbfjpaaTk2z
namespace Go.Proofs.Ytfbcijnacbfjpaa
set_option linter.unusedVariables false
set_option linter.unusedSimpArgs false
namespace Au
open Rl (Ex)
/-- an expression that is being read. -/
structure Fr where
  op : Int
  left : List Ex
  nd : Nd
def begin' : Ex → Pl → Option (Fr × Pl)
  | .mk op set kids, p =>
    if op = 1 then (if p.sets.length = 200 then none else some (⟨1, [], ⟨false, 2 ^ p.sets.length, 2 ^ p.sets.length⟩⟩, { p with sets := p.sets ++ [set] }))
    else if op = 2 then some (⟨2, kids, ⟨true, 0, 0⟩⟩, p)
    else if op = 3 then some (⟨3, kids, ⟨false, 0, 0⟩⟩, p)
    else if op = 4 then some (⟨4, kids.take 1, ⟨true, 0, 0⟩⟩, p)
    else if op = 5 then some (⟨5, kids.take 1, ⟨false, 0, 0⟩⟩, p)
    else if op = 6 then some (⟨6, kids.take 1, ⟨true, 0, 0⟩⟩, p)
    else some (⟨op, [], ⟨true, 0, 0⟩⟩, p)
def fin (f : Fr) (p : Pl) : Pl := if f.op = 4 ∨ f.op = 5 then chain p f.nd.last f.nd.first else p
def tkN (op : Int) (o x : Nd) : Nd := if op = 2 then seq1 o x else alt1 o x
def tkP (op : Int) (o x : Nd) (p : Pl) : Pl := if op = 2 then chain p o.last x.first else p
def mach : Nat → List Fr → Pl → Option (Option (Nd × Pl))
  | 0, _, _ => none
  | _ + 1, [], _ => none
  | n + 1, f :: fs, p => match f.left with
    | k :: ks => match begin' k p with
      | none => some none
      | some (g, p1) => mach n (g :: ⟨f.op, ks, f.nd⟩ :: fs) p1
    | [] => match fs with
      | [] => some (some (f.nd, fin f p))
      | g :: gs => mach n (⟨g.op, g.left, tkN g.op g.nd f.nd⟩ :: gs) (tkP g.op g.nd f.nd (fin f p))
/-- all kids, one behind the other. -/
def kf (op : Int) : List Ex → Nd → Pl → Option (Nd × Pl)
  | [], o, p => some (o, p)
  | e :: es, o, p => match node e p with
    | none => none
    | some (x, p1) => kf op es (tkN op o x) (tkP op o x p1)
theorem kf_seqs : ∀ (es : List Ex) (o : Nd) (p : Pl), kf 2 es o p = seqs es o p
  | [], o, p => by simp [kf, seqs]
  | e :: es, o, p => by
    simp only [kf, seqs]
    cases h : node e p with
    | none => rfl
    | some r => exact kf_seqs es _ _
theorem kf_alts : ∀ (es : List Ex) (o : Nd) (p : Pl), kf 3 es o p = alts es o p
  | [], o, p => by simp [kf, alts]
  | e :: es, o, p => by
    simp only [kf, alts]
    cases h : node e p with
    | none => rfl
    | some r => exact kf_alts es _ _
theorem alt_true (x : Nd) : alt1 ⟨true, 0, 0⟩ x = ⟨true, x.first, x.last⟩ := by simp [alt1]
theorem alt_false (x : Nd) : alt1 ⟨false, 0, 0⟩ x = x := by simp [alt1]
theorem kf_one {op : Int} (hop : op ≠ 2) (kids : List Ex) (b : Bool) (p : Pl) : kf op (kids.take 1) ⟨b, 0, 0⟩ p = match one kids p with | none => none | some (x, p1) => some (alt1 ⟨b, 0, 0⟩ x, p1) := by
  cases kids with
  | nil => cases b <;> simp [kf, one, alt1]
  | cons e es =>
    simp only [List.take_succ_cons, List.take_zero, kf, one]
    cases node e p with
    | none => rfl
    | some r => simp [tkN, tkP, hop]
/-- what node says, by the frame that is begun. -/
theorem node_begin (e : Ex) (p : Pl) : node e p = match begin' e p with
    | none => none
    | some (g, p1) => match kf g.op g.left g.nd p1 with
      | none => none
      | some (x, p2) => some (x, fin ⟨g.op, [], x⟩ p2) := by
  obtain ⟨op, set, kids⟩ := e
  unfold node begin'
  dsimp only
  by_cases o1 : op = 1
  · rw [if_pos o1, if_pos o1]
    split
    · rfl
    · simp [kf, fin]
  rw [if_neg o1, if_neg o1]
  by_cases o2 : op = 2
  · rw [if_pos o2, if_pos o2]
    simp only [kf_seqs]
    cases seqs kids ⟨true, 0, 0⟩ p with
    | none => rfl
    | some r => simp [fin]
  rw [if_neg o2, if_neg o2]
  by_cases o3 : op = 3
  · rw [if_pos o3, if_pos o3]
    simp only [kf_alts]
    cases alts kids ⟨false, 0, 0⟩ p with
    | none => rfl
    | some r => simp [fin]
  rw [if_neg o3, if_neg o3]
  by_cases o4 : op = 4
  · rw [if_pos o4, if_pos o4]
    simp only [kf_one (show (4 : Int) ≠ 2 by decide)]
    cases one kids p with
    | none => rfl
    | some r => simp [fin, alt_true]
  rw [if_neg o4, if_neg o4]
  by_cases o5 : op = 5
  · rw [if_pos o5, if_pos o5]
    simp only [kf_one (show (5 : Int) ≠ 2 by decide)]
    cases one kids p with
    | none => rfl
    | some r => simp [fin, alt_false]
  rw [if_neg o5, if_neg o5]
  by_cases o6 : op = 6
  · rw [if_pos o6, if_pos o6]
    simp only [kf_one (show (6 : Int) ≠ 2 by decide)]
    cases one kids p with
    | none => rfl
    | some r => simp [fin, alt_true]
  rw [if_neg o6, if_neg o6]
  simp [kf, fin, o4, o5]
/-- a kid on top of the open frames is taken as node says. -/
def Kid (e : Ex) : Prop := ∀ (p : Pl) (op : Int) (o : Nd) (ks : List Ex) (fs : List Fr), ∃ m, ∀ n, mach (m + n) (⟨op, e :: ks, o⟩ :: fs) p = match node e p with
  | none => some none
  | some (x, p1) => mach n (⟨op, ks, tkN op o x⟩ :: fs) (tkP op o x p1)
theorem kids_all : ∀ (es : List Ex), (∀ e ∈ es, Kid e) → ∀ (op : Int) (o : Nd) (p : Pl) (fs : List Fr), ∃ m, ∀ n, mach (m + n) (⟨op, es, o⟩ :: fs) p = match kf op es o p with
    | none => some none
    | some (x, p1) => mach n (⟨op, [], x⟩ :: fs) p1
  | [], _, op, o, p, fs => ⟨0, fun n => by simp [kf]⟩
  | e :: es, h, op, o, p, fs => by
    obtain ⟨m1, h1⟩ := h e (by simp) p op o es fs
    simp only [kf]
    cases hn : node e p with
    | none =>
      refine ⟨m1, fun n => ?_⟩
      rw [h1, hn]
    | some r =>
      obtain ⟨x, p1⟩ := r
      obtain ⟨m2, h2⟩ := kids_all es (fun e he => h e (by simp [he])) op (tkN op o x) (tkP op o x p1) fs
      refine ⟨m1 + m2, fun n => ?_⟩
      rw [Nat.add_assoc, h1, hn]
      exact h2 n
theorem begin_left (e : Ex) (p : Pl) (g : Fr) (p1 : Pl) (h : begin' e p = some (g, p1)) : ∃ op set kids, e = .mk op set kids ∧ ∀ k ∈ g.left, k ∈ kids := by
  obtain ⟨op, set, kids⟩ := e
  refine ⟨op, set, kids, rfl, ?_⟩
  unfold begin' at h
  dsimp only at h
  have ht : ∀ k ∈ kids.take 1, k ∈ kids := fun k hk => List.mem_of_mem_take hk
  repeat' split at h
  all_goals first
    | (cases h; done)
    | (injection h with h; injection h with h _; subst h; first | exact fun k hk => hk | exact ht | simp)
theorem kid_any : ∀ (e : Ex), Kid e := by
  intro e
  apply Ex.rec (motive_1 := fun e => Kid e) (motive_2 := fun es => ∀ e ∈ es, Kid e)
  · intro op set kids ih p op' o ks fs
    cases hb : begin' (.mk op set kids) p with
    | none =>
      refine ⟨1, fun n => ?_⟩
      rw [node_begin, hb, Nat.add_comm 1 n]
      simp only [mach, hb]
    | some r =>
      obtain ⟨g, p1⟩ := r
      obtain ⟨_, _, kids', hk, hl⟩ := begin_left _ _ _ _ hb
      injection hk with _ _ hk
      subst hk
      obtain ⟨m, hm⟩ := kids_all g.left (fun e he => ih e (hl e he)) g.op g.nd p1 (⟨op', ks, o⟩ :: fs)
      have hs : ∀ N, mach (N + 1) (⟨op', .mk op set kids :: ks, o⟩ :: fs) p = mach N (g :: ⟨op', ks, o⟩ :: fs) p1 := fun N => by simp only [mach, hb]
      have hx : node (.mk op set kids) p = match kf g.op g.left g.nd p1 with
          | none => none
          | some (x, p2) => some (x, fin ⟨g.op, [], x⟩ p2) := by rw [node_begin, hb]
      cases hkf : kf g.op g.left g.nd p1 with
      | none =>
        refine ⟨m + 1, fun n => ?_⟩
        rw [show m + 1 + n = (m + n) + 1 by omega, hs, hx, hkf]
        have := hm n
        rw [hkf] at this
        exact this
      | some r2 =>
        obtain ⟨x, p2⟩ := r2
        refine ⟨m + 1 + 1, fun n => ?_⟩
        rw [show m + 1 + 1 + n = (m + (n + 1)) + 1 by omega, hs, hx, hkf]
        have := hm (n + 1)
        rw [hkf] at this
        exact this
  · intro e he
    cases he
  · intro e es he hes k hk
    rcases List.mem_cons.1 hk with rfl | hk
    · exact he
    · exact hes k hk
/-- the whole. -/
theorem mach_all (e : Ex) (p : Pl) : ∃ m, mach m [⟨3, [e], ⟨false, 0, 0⟩⟩] p = some (node e p) := by
  obtain ⟨m, h⟩ := kid_any e p 3 ⟨false, 0, 0⟩ [] []
  refine ⟨m + 1, ?_⟩
  rw [h]
  cases node e p with
  | none => rfl
  | some r =>
    obtain ⟨x, p1⟩ := r
    have e1 : tkN 3 ⟨false, 0, 0⟩ x = x := by rw [tkN, if_neg (by decide), alt_false]
    have e2 : tkP 3 ⟨false, 0, 0⟩ x p1 = p1 := by rw [tkP, if_neg (by decide)]
    simp only [e1, e2, mach, fin]
    rfl
mutual
/-- how deep. -/
def dp : Ex → Nat
  | .mk _ _ kids => 1 + dps kids
def dps : List Ex → Nat
  | [] => 0
  | e :: es => max (dp e) (dps es)
end
theorem dps_mem : ∀ (es : List Ex) (e : Ex), e ∈ es → dp e ≤ dps es
  | e0 :: es, e, h => by
    unfold dps
    rcases List.mem_cons.1 h with rfl | h
    · omega
    · have := dps_mem es e h; omega
theorem dps_le : ∀ (es : List Ex) (n : Nat), (∀ e ∈ es, dp e ≤ n) → dps es ≤ n
  | [], n, _ => by simp [dps]
  | e :: es, n, h => by
    unfold dps
    have h1 := h e (by simp)
    have h2 := dps_le es n (fun x hx => h x (by simp [hx]))
    omega
/-- no frame stands too high. -/
def Hg (D : Nat) : List Fr → Prop
  | [] => True
  | f :: fs => fs.length + 1 + dps f.left ≤ D ∧ Hg D fs
theorem Hg.len {D : Nat} : ∀ {fs : List Fr}, Hg D fs → fs.length ≤ D
  | [], _ => Nat.zero_le _
  | f :: fs, h => by have := h.1; simp only [List.length_cons]; omega
theorem Hg.push {D : Nat} {op : Int} {k : Ex} {ks : List Ex} {o : Nd} {fs : List Fr} (h : Hg D (⟨op, k :: ks, o⟩ :: fs)) {p p1 : Pl} {g : Fr} (hb : begin' k p = some (g, p1)) : Hg D (g :: ⟨op, ks, o⟩ :: fs) := by
  obtain ⟨h1, h2⟩ := h
  obtain ⟨op', set, kids, rfl, hl⟩ := begin_left _ _ _ _ hb
  have hd : dps g.left ≤ dps kids := dps_le _ _ (fun e he => dps_mem _ _ (hl e he))
  unfold dps at h1
  unfold dp at h1
  refine ⟨?_, ?_, h2⟩
  · simp only [List.length_cons]; omega
  · simp only; omega
theorem Hg.pop {D : Nat} {f g : Fr} {gs : List Fr} (h : Hg D (f :: g :: gs)) (o : Nd) : Hg D (⟨g.op, g.left, o⟩ :: gs) := ⟨h.2.1, h.2.2⟩
/-- what holds of all frames, and of the places. -/
def Iv (fs : List Fr) (p : Pl) : Prop := OkP p ∧ p.sets.length ≤ 200 ∧ ∀ f ∈ fs, OkN p f.nd
theorem OkN.mono {p p1 : Pl} {x : Nd} (h : OkN p x) (hl : p.sets.length ≤ p1.sets.length) : OkN p1 x := ⟨Nat.lt_of_lt_of_le h.1 (pow_le hl), Nat.lt_of_lt_of_le h.2 (pow_le hl)⟩
theorem begin_ok {e : Ex} {p p1 : Pl} {g : Fr} (h : begin' e p = some (g, p1)) (hp : OkP p) (hl : p.sets.length ≤ 200) : OkP p1 ∧ p1.sets.length ≤ 200 ∧ OkN p1 g.nd ∧ p.sets.length ≤ p1.sets.length := by
  obtain ⟨op, set, kids⟩ := e
  have z : ∀ b, OkN p ⟨b, 0, 0⟩ := fun b => ⟨Nat.two_pow_pos _, Nat.two_pow_pos _⟩
  have hpl : OkP { p with sets := p.sets ++ [set] } := by
    intro i
    obtain ⟨a, b⟩ := hp i
    show p.next i < 2 ^ (p.sets ++ [set]).length ∧ ((p.sets ++ [set]).length ≤ i → p.next i = 0)
    rw [show (p.sets ++ [set]).length = p.sets.length + 1 by simp]
    exact ⟨Nat.lt_of_lt_of_le a (pow_le (by omega)), fun hi => b (by omega)⟩
  unfold begin' at h
  dsimp only at h
  split at h
  · split at h
    · cases h
    · rename_i hne
      injection h with h
      injection h with hg hp1
      subst hg hp1
      have e : (p.sets ++ [set]).length = p.sets.length + 1 := by simp
      refine ⟨hpl, ?_, ?_, ?_⟩
      · show (p.sets ++ [set]).length ≤ 200
        omega
      · show 2 ^ p.sets.length < 2 ^ (p.sets ++ [set]).length ∧ 2 ^ p.sets.length < 2 ^ (p.sets ++ [set]).length
        rw [e, Nat.pow_succ]
        have := Nat.two_pow_pos p.sets.length
        omega
      · show p.sets.length ≤ (p.sets ++ [set]).length
        omega
  · repeat' split at h
    all_goals
      injection h with h
      injection h with hg hp1
      subst hg hp1
      exact ⟨hp, hl, z _, Nat.le_refl _⟩
theorem Iv.push {op : Int} {k : Ex} {ks : List Ex} {o : Nd} {fs : List Fr} {p p1 : Pl} {g : Fr} (h : Iv (⟨op, k :: ks, o⟩ :: fs) p) (hb : begin' k p = some (g, p1)) : Iv (g :: ⟨op, ks, o⟩ :: fs) p1 := by
  obtain ⟨h1, h2, h3⟩ := h
  obtain ⟨a, b, c, d⟩ := begin_ok hb h1 h2
  refine ⟨a, b, fun f hf => ?_⟩
  rcases List.mem_cons.1 hf with rfl | hf
  · exact c
  rcases List.mem_cons.1 hf with rfl | hf
  · exact (h3 ⟨op, k :: ks, o⟩ (by simp)).mono d
  · exact (h3 f (by simp [hf])).mono d
theorem fin_ok {f : Fr} {p : Pl} (h : OkP p) (hf : OkN p f.nd) : OkP (fin f p) ∧ (fin f p).sets = p.sets := by
  unfold fin
  split
  · exact ⟨h.chain hf.2 hf.1, rfl⟩
  · exact ⟨h, rfl⟩
theorem tk_ok {op : Int} {o x : Nd} {p : Pl} (h : OkP p) (ho : OkN p o) (hx : OkN p x) : OkP (tkP op o x p) ∧ (tkP op o x p).sets = p.sets ∧ OkN p (tkN op o x) := by
  have hN : OkN p (tkN op o x) := by
    unfold tkN
    split
    · unfold seq1
      refine ⟨?_, ?_⟩
      · simp only; split
        · exact Nat.or_lt_two_pow ho.1 hx.1
        · exact ho.1
      · simp only; split
        · exact Nat.or_lt_two_pow ho.2 hx.2
        · exact hx.2
    · exact ⟨Nat.or_lt_two_pow ho.1 hx.1, Nat.or_lt_two_pow ho.2 hx.2⟩
  unfold tkP
  split
  · exact ⟨h.chain ho.2 hx.1, rfl, hN⟩
  · exact ⟨h, rfl, hN⟩
theorem Iv.fin {f : Fr} {fs : List Fr} {p : Pl} (h : Iv (f :: fs) p) : Iv (f :: fs) (fin f p) := by
  obtain ⟨h1, h2, h3⟩ := h
  obtain ⟨a, b⟩ := fin_ok h1 (h3 f (by simp))
  refine ⟨a, by rw [b]; exact h2, fun k hk => ?_⟩
  have := h3 k hk
  unfold OkN at this ⊢
  rw [b]
  exact this
theorem Iv.pop {f g : Fr} {gs : List Fr} {p : Pl} (h : Iv (f :: g :: gs) p) : Iv (⟨g.op, g.left, tkN g.op g.nd f.nd⟩ :: gs) (tkP g.op g.nd f.nd p) := by
  obtain ⟨h1, h2, h3⟩ := h
  obtain ⟨a, b, c⟩ := tk_ok (op := g.op) h1 (h3 g (by simp)) (h3 f (by simp))
  refine ⟨a, by rw [b]; exact h2, fun k hk => ?_⟩
  have : OkN p k.nd := by
    rcases List.mem_cons.1 hk with rfl | hk
    · exact c
    · exact h3 k (by simp [hk])
  unfold OkN at this ⊢
  rw [b]
  exact this
end Au
end Go.Proofs.Ytfbcijnacbfjpaa
namespace Go.Proofs.Ytfbcijnacbfjpaa
open Go.RowKit Go.Maps
set_option linter.unusedVariables false
set_option linter.unusedSimpArgs false

theorem either_succ (E : Rl.Env) (nc n d : Nat) (ts : List Rl.Tk) (p : Nat) : Rl.either E nc (n + 1) d ts p = match Rl.row E nc n d ts p [] with
    | .error f => .error f
    | .ok (e, ts1, p1) => Rl.alts E nc n d ts1 p1 [e] := by simp only [Rl.either]; rfl
theorem alts_succ (E : Rl.Env) (nc n d : Nat) (ts : List Rl.Tk) (p : Nat) (l : List Rl.Ex) : Rl.alts E nc (n + 1) d ts p l = match Rl.took 124 ts with
    | .error f => .error f
    | .ok (false, ts1) => .ok (Rl.mkAlt l, ts1, p)
    | .ok (true, ts1) => match Rl.row E nc n d ts1 p [] with
      | .error f => .error f
      | .ok (e, ts2, p2) => Rl.alts E nc n d ts2 p2 (l ++ [e]) := by simp only [Rl.alts]; rfl
theorem took_false {c : UInt8} {ts ts1 : List Rl.Tk} (h : Rl.took c ts = .ok (false, ts1)) : ts1 = ts := by
  cases ts with
  | nil => cases h
  | cons t ts =>
    rw [took_cons] at h
    split at h
    · cases h
    · split at h
      · cases h
      · cases h; rfl
/-- a list of one, just built. -/
theorem Es.first {w : World} {base : Nat} {e : Rl.Ex} {o s k : Value} (hT : Tr w (fun b => base ≤ b) e (.agg #[o, s, k])) (hb : base ≤ w.heap.size) : Es (w.alloc (.cells #[o, s, k] 49)) base (.slice (some ⟨w.heap.size, 0, none⟩) 1 1) [e] := by
  refine ⟨[o, s, k], ⟨rfl, Or.inr ⟨w.heap.size, 1, #[o, s, k], rfl, hb, heap_alloc_new _ _, Nat.le_refl _, by unfold maxLen; omega, rfl, rfl⟩⟩, ?_⟩
  unfold Trs
  refine ⟨⟨o, s, k, rfl, rfl, rfl, hT.keep (fun b hb hl => ⟨⟨hb, fun e => ?_⟩, Below.heap_alloc _ _ _ hl⟩)⟩, by unfold Trs; trivial⟩
  simp [Value.ownBlock] at e
  omega

set_option maxRecDepth 100000 in
set_option maxHeartbeats 8000000 in
theorem either_step (E : Rl.Env) (nc rb : Nat) (S : ByteArray) (n : Nat) (hS : S.size ≤ 4096) (hT : ∀ m, m ≤ n → RowOk E nc rb S m) : EitherOk E nc rb S (n + 1) := by
  intro d p x ts w hI hM hC hn
  obtain ⟨i0, hi, hz0, hz1, hz2⟩ := info_parts info50
  have hlt := hI.lt
  have htl : ts.length ≤ 5000 := by have := hI.len; omega
  have HC : Hid (Cx nc rb x p d) := hC
  have HI : Hid (In w rb S x ts) := hI
  have HM : Hid (Mp w x.mb E) := hM
  have HT : Hid (∀ m, m ≤ n → RowOk E nc rb S m) := hT
  have Z0 : Hid (Xb (w.alloc (.cells #[.int .u8 0, .int .u32 0, .slice none 0 0] 49)) w.heap.size (.int .u8 0) (.int .u32 0) (.slice none 0 0)) := Xb.new w _ _ _
  have hp200 := hC.p200
  rw [either_succ]
  clear hI hM hC hT
  cases hrow : Rl.row E nc n d ts p [] with
  | error f =>
    have T1 : Hid (Rl.row E nc n d ts p [] = .error f) := hrow
    clear hrow
    simp only
    go_enter Try.func88, Try.ntmps88
    go_wp2_with (go_at_call 90; have hc := HT.out n (Nat.le_refl _) d p x ts (w.alloc (.cells #[.int .u8 0, .int .u32 0, .slice none 0 0] 49)) (HI.out.alloc _) (HM.out.alloc _) HC.out (by omega); rw [T1.out] at hc; refine hc.mono ?_; clear hc; rintro e w1 ⟨rfl, ho1⟩)
    exact ⟨rfl, rfl, ((Only.refl (· = rb) w).alloc _).trans ho1⟩
  | ok r =>
    obtain ⟨e1, ts1, p1⟩ := r
    have T1 : Hid (Rl.row E nc n d ts p [] = .ok (e1, ts1, p1)) := hrow
    have hln1 := (Rl.expr_len E nc n).2.2.1 _ _ _ _ _ _ _ hrow hp200
    simp only
    obtain ⟨F, hF⟩ : ∃ F, F = Rl.alts E nc n d ts1 p1 [e1] := ⟨_, rfl⟩
    have HF : Hid (F = Rl.alts E nc n d ts1 p1 [e1]) := hF
    rw [← hF]
    clear hrow hF
    go_enter Try.func88, Try.ntmps88
    go_wp2_with (go_at_call 90; have hc := HT.out n (Nat.le_refl _) d p x ts (w.alloc (.cells #[.int .u8 0, .int .u32 0, .slice none 0 0] 49)) (HI.out.alloc _) (HM.out.alloc _) HC.out (by omega); rw [T1.out] at hc; refine hc.mono ?_; clear hc; rintro e w1 ⟨v1, rfl, hT1, hI1, ho1⟩; obtain ⟨o, s, a, k, c, rfl⟩ := hT1.form; have HI1 : Hid (In w1 rb S (x.withPl p1) ts1) := hI1; have HT1 : Hid (Tr w1 (fun b => w.heap.size + 1 ≤ b) e1 (.agg #[.int .u8 o, .int .u32 s, .slice a k c])) := (by have := hT1; simp only [World.alloc, Array.size_push] at this; exact this); clear hI1 hT1; have HO1 : Hid (Only (· = rb) w w1) := ((Only.refl (· = rb) w).alloc _).trans ho1; have Z1 : Hid (Xb w1 w.heap.size (.int .u8 0) (.int .u32 0) (.slice none 0 0)) := Z0.out.only ho1 (by omega); have hl1 := Z1.out.lt)
    go_loopg [3] ts1.length (fun g v wr => ∃ (tsr : List Rl.Tk) (m pr : Nat) (l : List Rl.Ex), g = tsr.length ∧ In wr rb S (x.withPl pr) tsr ∧ Only (· = rb) w wr ∧ Xb wr w.heap.size (.int .u8 0) (.int .u32 0) (.slice none 0 0) ∧ Es wr (w.heap.size + 1) v l ∧ l ≠ [] ∧ pr ≤ 200 ∧ 4 * tsr.length + 2 ≤ m ∧ m ≤ n ∧ l.length + tsr.length ≤ ts.length + 1 ∧ Hid (F = Rl.alts E nc m d tsr pr l))
    case atStart => exact ⟨ts1, n, p1, [e1], rfl, HI1.out.alloc _, HO1.out.alloc _, Z1.out.alloc _, Es.first HT1.out (by omega), by simp, hln1.2, by omega, Nat.le_refl _, by simp; omega, HF.out⟩
    case round =>
      obtain ⟨tsr, m, pr, l, rfl, hIr, hOr, hZr, hEr, hlne, hpr, hm1, hm2, hll, hFr⟩ := hrel
      obtain ⟨m, rfl⟩ : ∃ k, m = k + 1 := ⟨m - 1, by omega⟩
      have HIr : Hid (In wr rb S (x.withPl pr) tsr) := hIr
      have HOr : Hid (Only (· = rb) w wr) := hOr
      have HMr : Hid (Mp wr x.mb E) := HM.out.only hOr HC.out.mb
      have HCr : Hid (Cx nc rb (x.withPl pr) pr d) := HC.out.withPl hpr
      have HZr : Hid (Xb wr w.heap.size (.int .u8 0) (.int .u32 0) (.slice none 0 0)) := hZr
      have HEr := hEr
      have hFr' := hFr.out
      have hlz := hZr.lt
      have Hlne : Hid (l ≠ []) := hlne
      rw [alts_succ] at hFr'
      clear hIr hOr hFr hZr hEr hlne
      cases htk : Rl.took 124 tsr with
      | error f =>
        rw [htk] at hFr'
        have HE : Hid (F = .error f) := hFr'
        have T2 : Hid (Rl.took 124 tsr = .error f) := htk
        clear htk hFr' HEr
        go_wp2_with (go_at_call 70; have hc := took_any 124 rb S (x.withPl pr) tsr _ HIr.out hS; rw [T2.out] at hc; refine hc.mono ?_; clear hc; rintro e w2 ⟨rfl, ho2⟩)
        refine ⟨rfl, ?_⟩
        rw [HE.out]
        exact ⟨rfl, HOr.out.trans ho2⟩
      | ok r =>
        obtain ⟨b, ts2⟩ := r
        rw [htk] at hFr'
        have T2 : Hid (Rl.took 124 tsr = .ok (b, ts2)) := htk
        have hln2 := Rl.took_len htk
        clear htk
        cases b with
        | true =>
          simp only at hFr'
          have hln2' := hln2.2 rfl
          cases hrw : Rl.row E nc m d ts2 pr [] with
          | error f =>
            rw [hrw] at hFr'
            have HE : Hid (F = .error f) := hFr'
            have T3 : Hid (Rl.row E nc m d ts2 pr [] = .error f) := hrw
            clear hrw hFr' HEr
            go_wp2_with (first | (go_at_call 70; have hc := took_any 124 rb S (x.withPl pr) tsr _ HIr.out hS; rw [T2.out] at hc; refine hc.mono ?_; clear hc; rintro e w2 ⟨rfl, hI2, ho2⟩; have HI2 : Hid (In w2 rb S (x.withPl pr) ts2) := hI2; clear hI2; have HO2 : Hid (Only (· = rb) wr w2) := ho2; clear ho2) | (go_at_call 90; have hc := HT.out m (by omega) d pr (x.withPl pr) ts2 _ HI2.out (HMr.out.only HO2.out HC.out.mb) HCr.out (by omega); rw [T3.out] at hc; refine hc.mono ?_; clear hc; rintro e w3 ⟨rfl, ho3⟩))
            refine ⟨rfl, ?_⟩
            rw [HE.out]
            exact ⟨rfl, HOr.out.trans (HO2.out.trans ho3)⟩
          | ok r =>
            obtain ⟨e2, ts3, p3⟩ := r
            rw [hrw] at hFr'
            have HE : Hid (F = Rl.alts E nc m d ts3 p3 (l ++ [e2])) := hFr'
            have T3 : Hid (Rl.row E nc m d ts2 pr [] = .ok (e2, ts3, p3)) := hrw
            have hln3 := (Rl.expr_len E nc m).2.2.1 _ _ _ _ _ _ _ hrw hpr
            obtain ⟨xs, hown, hkids⟩ := HEr
            have HOwn : Hid (wr.ownsRow (w.heap.size + 1) 49 3 u3 l.length xs) := hown
            have HKid : Hid (Trs wr (Kb (w.heap.size + 1) u3) l (fun j => xs[j]?)) := hkids
            clear hrw hFr' hown hkids
            go_wp2_with (first | (go_at_call 70; have hc := took_any 124 rb S (x.withPl pr) tsr _ HIr.out hS; rw [T2.out] at hc; refine hc.mono ?_; clear hc; rintro e w2 ⟨rfl, hI2, ho2⟩; have HI2 : Hid (In w2 rb S (x.withPl pr) ts2) := hI2; clear hI2; have HO2 : Hid (Only (· = rb) wr w2) := ho2; clear ho2; have hl2 := HO2.out.size) | (go_at_call 90; have hc := HT.out m (by omega) d pr (x.withPl pr) ts2 _ HI2.out (HMr.out.only HO2.out HC.out.mb) HCr.out (by omega); rw [T3.out] at hc; refine hc.mono ?_; clear hc; rintro e w4 ⟨v4, rfl, hT4, hI4, ho4⟩; obtain ⟨o', s', a', k', c', rfl⟩ := hT4.form; have HI4 : Hid (In w4 rb S (x.withPl p3) ts3) := hI4; have HT4 : Hid (Tr w4 (fun b => w2.heap.size ≤ b) e2 (.agg #[.int .u8 o', .int .u32 s', .slice a' k' c'])) := hT4; clear hI4 hT4; have HO4 : Hid (Only (· = rb) wr w4) := HO2.out.trans ho4; have hl4 := HO4.out.size; have HOwn4 : Hid (w4.ownsRow (w.heap.size + 1) 49 3 u3 l.length xs) := own_only HOwn.out HO4.out (fun g hg => by omega); have HKid4 : Hid (Trs w4 (Kb (w.heap.size + 1) u3) l (fun j => xs[j]?)) := HKid.out.keep (fun b hb hl => ⟨hb, HO4.out.block b hl (by have := hb.1; omega)⟩)) | (at_builtin; refine wpList_append_own_at _ rfl _ _ 27 rfl (w.heap.size + 1) 49 i0 (.agg #[.int .u8 0, .int .u32 0, .slice none 0 0]) 3 32 Try.underlying27 hi hz0 hz1 hz2 rfl (by decide) _ _ _ rfl (HOwn4.out.alloc _) ⟨w4.heap.size, 0, none⟩ 1 1 [.int .u8 o', .int .u32 s', .slice a' k' c'] rfl rfl (ex_news _ _ _ _) (ex_cells _ _ _ _ _) (by unfold maxLen; omega) (by omega) (by simp; omega) ?_; intro v5 w5 hown5 hg5 _ hat5))
            go_roundg ts3.length
            case measure => omega
            case rel =>
              have hO5 : Only (· = rb) w w5 := by
                refine ⟨hg5.os.trans (HOr.out.trans HO4.out).os, hg5.tape.trans (HOr.out.trans HO4.out).tape, hg5.output.trans (HOr.out.trans HO4.out).output, Nat.le_trans (Nat.le_trans (HOr.out.trans HO4.out).size (by simp)) hg5.size, fun g hgl hgn => ?_⟩
                have hlw := (HOr.out.trans HO4.out).size
                rw [hg5.block g (by simp; omega) (fun e => by have := (HOwn4.out.lt g e.symm).1; omega), Below.heap_alloc _ _ _ (by omega)]
                exact (HOr.out.trans HO4.out).block g hgl hgn
              have hk5 : ∀ g, g < w4.heap.size → g < w.heap.size + 1 → w5.heap[g]? = w4.heap[g]? := fun g h1 h2 => by
                rw [hg5.block g (by simp; omega) (fun e => by have := (HOwn4.out.lt g e.symm).1; omega), Below.heap_alloc _ _ _ (by omega)]
              obtain ⟨i4, hR4, hs4, hi4⟩ := HI4.out
              refine ⟨ts3, m, p3, l ++ [e2], rfl, ⟨i4, (hk5 rb hR4.lt (by omega)).trans hR4, hs4, hi4⟩, hO5, (hk5 w.heap.size (by omega) (by omega)).trans (HZr.out.only HO4.out (by omega)), ?_, by simp, hln3.2, by omega, by omega, by simp; omega, HE.out⟩
              refine Es.snoc HOwn4.out HKid4.out HT4.out (fun b hb => ⟨by omega, fun e => ?_⟩) hown5 hg5 hat5
              have := (HOwn.out.lt b e).2
              omega
        | false =>
          simp only at hFr'
          have HE : Hid (F = .ok (Rl.mkAlt l, ts2, pr)) := hFr'
          clear hFr'
          have HEs : Hid (Es wr (w.heap.size + 1) u3 l) := HEr
          obtain ⟨xs, hown, hkids⟩ := HEr
          match l, HEs, HE, hown, hkids, Hlne with
          | [], HEs, HE, hown, hkids, Hlne => exact absurd rfl Hlne.out
          | [e0], HEs, HE, hown, hkids, Hlne =>
            obtain ⟨o', s', k', rfl, hT2⟩ := hkids.one hown.1
            obtain ⟨g, cap, rfl, hgb, hgl, hcap, hcells⟩ := row_form hown (by simp)
            have HT2 : Hid (Tr wr (Kb (w.heap.size + 1) (.slice (some ⟨g, 0, none⟩) 1 cap)) e0 (.agg #[o', s', k'])) := hT2
            have K0 : Hid (wr.cell? ⟨g, 0, none⟩ = some o') := hcells 0 (by simp)
            have K1 : Hid (wr.cell? ⟨g, 1, none⟩ = some s') := hcells 1 (by simp)
            have K2 : Hid (wr.cell? ⟨g, 2, none⟩ = some k') := hcells 2 (by simp)
            obtain ⟨op, st, a', n', c', hform⟩ := hT2.form
            simp only [Value.agg.injEq, Array.mk.injEq, List.cons.injEq, and_true] at hform
            obtain ⟨rfl, rfl, rfl⟩ := hform
            clear hown hkids hcells hT2
            go_wp2_with (go_at_call 70; have hc := took_any 124 rb S (x.withPl pr) tsr _ HIr.out hS; rw [T2.out] at hc; refine hc.mono ?_; clear hc; rintro e w2 ⟨rfl, hI2, ho2⟩; have HI2 : Hid (In w2 rb S (x.withPl pr) ts2) := hI2; clear hI2; have HO2 : Hid (Only (· = rb) wr w2) := ho2; clear ho2; have Z2 : Hid (Xb w2 w.heap.size (.int .u8 0) (.int .u32 0) (.slice none 0 0)) := HZr.out.only HO2.out (by omega); have z0 := Z2.out.c0; have z1 := Z2.out.c1; have z2 := Z2.out.c2; have zf0 := Z2.out.fz 0; have zf1 := Z2.out.fz 1; have zf2 := Z2.out.fz 2; have j0 := (World.cell?_of_block (a := ⟨g, 0, none⟩) (HO2.out.block g hgl (by omega))).trans K0.out; have j1 := (World.cell?_of_block (a := ⟨g, 1, none⟩) (HO2.out.block g hgl (by omega))).trans K1.out; have j2 := (World.cell?_of_block (a := ⟨g, 2, none⟩) (HO2.out.block g hgl (by omega))).trans K2.out)
            refine bodyPost_ret (v := .agg #[.int .u8 op, .int .u32 st, .slice a' n' c']) (results_x rfl _ rfl (Z2.out.set3 _ _ _)) rfl ?_
            rw [HE.out]
            refine ⟨_, rfl, ?_, HI2.out.set3 (z := w.heap.size) (by omega) _ _ _, (HOr.out.trans HO2.out).set3 (z := w.heap.size) (Nat.le_refl _) _ _ _⟩
            refine HT2.out.keep fun b hb hl => ⟨by have := hb.1; omega, ?_⟩
            exact (set3_other w2 (z := w.heap.size) _ _ _ (by have := hb.1; omega)).trans (HO2.out.block b hl (by have := hb.1; omega))
          | e0 :: e2 :: l2, HEs, HE, hown, hkids, Hlne =>
            obtain ⟨a', cap, rfl⟩ := own_form hown
            have q1 : (((e0 :: e2 :: l2).length : Int) == 1) = false := by simp; omega
            have Hown : Hid (wr.ownsRow (w.heap.size + 1) 49 3 (.slice a' (e0 :: e2 :: l2).length cap) (e0 :: e2 :: l2).length xs) := hown
            have Hkids : Hid (Trs wr (Kb (w.heap.size + 1) (.slice a' (e0 :: e2 :: l2).length cap)) (e0 :: e2 :: l2) (fun j => xs[j]?)) := hkids
            clear hown hkids
            generalize hL : e0 :: e2 :: l2 = L at *
            have HL : Hid (e0 :: e2 :: l2 = L) := hL
            clear hL
            go_wp2_with (go_at_call 70; have hc := took_any 124 rb S (x.withPl pr) tsr _ HIr.out hS; rw [T2.out] at hc; refine hc.mono ?_; clear hc; rintro e w2 ⟨rfl, hI2, ho2⟩; have HI2 : Hid (In w2 rb S (x.withPl pr) ts2) := hI2; clear hI2; have HO2 : Hid (Only (· = rb) wr w2) := ho2; clear ho2; have Z2 : Hid (Xb w2 w.heap.size (.int .u8 0) (.int .u32 0) (.slice none 0 0)) := HZr.out.only HO2.out (by omega); have z0 := Z2.out.c0; have z1 := Z2.out.c1; have z2 := Z2.out.c2; have zf0 := Z2.out.fz 0; have zf1 := Z2.out.fz 1; have zf2 := Z2.out.fz 2)
            refine bodyPost_ret (v := .agg #[.int .u8 3, .int .u32 0, .slice a' L.length cap]) (results_x rfl _ rfl (Z2.out.set3 _ _ _)) rfl ?_
            have hmk : Rl.mkAlt L = .mk 3 0 L := by rw [← HL.out]; rfl
            rw [HE.out, hmk]
            refine ⟨_, rfl, ?_, HI2.out.set3 (z := w.heap.size) (by omega) _ _ _, (HOr.out.trans HO2.out).set3 (z := w.heap.size) (Nat.le_refl _) _ _ _⟩
            have hT := Tr.row (F' := fun b => w.heap.size + 1 ≤ b) 3 Hown.out Hkids.out (fun g hg => (Hown.out.lt g hg).1) (fun b hb => hb.1) (by rw [← HL.out]; simp)
            refine hT.keep fun b hb hl => ⟨by omega, ?_⟩
            exact (set3_other w2 (z := w.heap.size) _ _ _ (by omega)).trans (HO2.out.block b hl (by omega))

theorem exprs_all (E : Rl.Env) (nc rb : Nat) (S : ByteArray) (hS : S.size ≤ 4096) : ∀ n, (∀ m, m ≤ n → EitherOk E nc rb S m) ∧ (∀ m, m ≤ n → ThingOk E nc rb S m) ∧ (∀ m, m ≤ n → RowOk E nc rb S m)
  | 0 => by
    refine ⟨fun m hm => ?_, fun m hm => ?_, fun m hm => ?_⟩
    · intro d p x ts w _ _ _ h; omega
    · intro d p x t ts w _ _ _ _ _ h; omega
    · intro d p x ts w _ _ _ h; omega
  | n + 1 => by
    obtain ⟨h1, h2, h3⟩ := exprs_all E nc rb S hS n
    have e1 : EitherOk E nc rb S (n + 1) := either_step E nc rb S n hS h3
    have e2 : ThingOk E nc rb S (n + 1) := thing_step E nc rb S n hS (h1 n (Nat.le_refl _))
    have e3 : RowOk E nc rb S (n + 1) := row_step E nc rb S (n + 1) hS (fun m hm => h2 m (by omega))
    refine ⟨fun m hm => ?_, fun m hm => ?_, fun m hm => ?_⟩
    · by_cases e : m = n + 1
      · rw [e]; exact e1
      · exact h1 m (by omega)
    · by_cases e : m = n + 1
      · rw [e]; exact e2
      · exact h2 m (by omega)
    · by_cases e : m = n + 1
      · rw [e]; exact e3
      · exact h3 m (by omega)
theorem either_any (E : Rl.Env) (nc rb : Nat) (S : ByteArray) (hS : S.size ≤ 4096) (n : Nat) : EitherOk E nc rb S n := (exprs_all E nc rb S hS n).1 n (Nat.le_refl _)
end Go.Proofs.Ytfbcijnacbfjpaa
namespace Go.Proofs.Ytfbcijnacbfjpaa
open Go.RowKit Go.Maps
set_option linter.unusedVariables false
set_option linter.unusedSimpArgs false

theorem Below.toOnly {B : Nat} {w w' : World} (h : Below B w w') (hB : B = w.heap.size) : Only (fun _ => False) w w' := ⟨h.os, h.tape, h.output, h.size, fun g hg _ => h.block g (by omega)⟩
theorem info5 : (Try.prog.info? 5).map (fun i => (i.zero, i.size, i.bytes)) = some (some (.int .u8 0), 1, 1) := by kernel_rfl

set_option maxRecDepth 100000 in
set_option maxHeartbeats 4000000 in
theorem clone_in (s : ByteArray) (w : World) (hs : 0 < s.size) (hs2 : s.size ≤ 4096) : Calls Try.prog 85 #[.string s] w fun e w' => e = .returned (.string s) ∧ Only (fun _ => False) w w' := by
  obtain ⟨i0, hi, hz0, hz1, hz2⟩ := info_parts info5
  have hsz : (Try.prog.info? 5).map (·.size) = some 1 := by rw [hi]; simp [hz1]
  have hco : Try.prog.cellsOf 5 = 1 := by simp [Program.cellsOf, hi, hz1]
  obtain ⟨M, hM⟩ : ∃ M, M = madeCells (Value.int .u8 0).cells (((s.size : Nat) : Int).toNat * i0.size) := ⟨_, rfl⟩
  have hMs : M.size = s.size := by rw [hM, size_madeCells, hz1]; simp
  have hmk : ∀ W : World, (Instr.makeSlice 22 (.int .i64 (s.size : Int)) (.int .i64 (s.size : Int))).run Try.prog W = .ok (.slice (some ⟨W.heap.size, 0, none⟩) s.size s.size) (W.alloc (.cells M 5)) := fun W => by
    have h := run_make (P := Try.prog) W 22 5 i0 (.int .u8 0) Try.underlying22 hi hz0 .i64 .i64 (s.size : Int) (s.size : Int) (by omega) (by omega) (by rw [hz2]; omega) (by omega)
    rw [← hM] at h
    simpa using h
  have hcp := Lib.run_copy_row_string (P := Try.prog) (w.alloc (.cells M 5)) 22 9 3 5 w.heap.size 0 s.size s.size s M 5 Try.underlying22 hsz (heap_alloc_new w _) (Nat.le_refl _) (by omega)
  obtain ⟨Y, hY⟩ : ∃ Y, Y = (M.toList.take 0 ++ Lib.byteCells s.data.toList ++ M.toList.drop (0 + s.size)).toArray := ⟨_, rfl⟩
  rw [← hY] at hcp
  have hYl : Y.toList = Lib.byteCells s.data.toList := by
    rw [hY, List.toList_toArray, List.take_zero, List.nil_append, List.drop_of_length_le (by rw [Array.length_toList]; omega), List.append_nil]
  have hYs : Y.size = s.size := by rw [← Array.length_toList, hYl, Lib.byteCells_length, ← Lib.size_eq]
  have hgY : ((w.alloc (.cells M 5)).setRow w.heap.size Y).heap[w.heap.size]? = some (.cells Y 5 (0, 0)) := setRow_heap _ _ M _ 5 (0, 0) (heap_alloc_new w _)
  have hne : s.data.toList ≠ [] := fun e => by rw [Lib.size_eq, e] at hs; exact absurd hs (by simp)
  have hUS := Lib.run_unsafeString_row (P := Try.prog) ((w.alloc (.cells M 5)).setRow w.heap.size Y) 158 3 9 5 Try.underlying158 hco w.heap.size Y.size (by unfold World.shape?; rw [hgY]) s.data.toList hne (by rw [← Lib.size_eq]; omega) (by rw [← Lib.size_eq]; omega)
    (fun j x hx => Lib.cells_of_row hgY Y.size j _ (by rw [List.take_of_length_le (by rw [Array.length_toList]; exact Nat.le_refl _), hYl]; simp [Lib.byteCells, hx]))
  rw [← Lib.size_eq] at hUS
  have h0 : ((s.size : Int) == 0) = false := by rw [beq_eq_false_iff_ne]; omega
  have h1 : (0 : Int) < (s.size : Int) := by omega
  clear hM hY
  go_enter Try.func85, Try.ntmps85
  go_wp2
  go_ret
  refine ⟨rfl, ?_⟩
  have hb1 : Below w.heap.size w (w.alloc (.cells M 5)) := (Below.refl _ w).alloc (Nat.le_refl _) _
  have hb2 : Below w.heap.size (w.alloc (.cells M 5)) ((w.alloc (.cells M 5)).setRow w.heap.size Y) := ⟨rfl, rfl, rfl, by simp, fun k hk => Go.setRow_other _ _ _ _ (by omega)⟩
  exact Below.toOnly (Lib.below_freeze (hb1.trans hb2) (p := ⟨w.heap.size, 0, none⟩) (Nat.le_refl _) _) rfl

theorem clone_any (s : ByteArray) (w : World) (hs : 0 < s.size) (hs2 : s.size ≤ 4096) : Calls Try.prog 77 #[.string s] w fun e w' => e = .returned (.string s) ∧ Only (fun _ => False) w w' := by
  go_enter Try.func77, Try.ntmps77
  go_wp2_with (go_at_call 85; refine (clone_in s _ hs hs2).mono ?_; rintro e w1 ⟨rfl, ho1⟩)
  go_ret
  exact ⟨rfl, ho1⟩

def strs (l : List Rl.Str) : List Value := l.map fun c => .string (bs c)
/-- the first place from k on, as the loop finds it; -1. -/
def idxI (l : List Rl.Str) (s : Rl.Str) : Int := match Rl.place l s with | some k => (k : Int) | none => -1
theorem place_none {l : List Rl.Str} {s : Rl.Str} (h : s ∉ l) : idxI l s = -1 := by unfold idxI Rl.place; rw [if_neg h]
theorem idxOf_at {s : Rl.Str} : ∀ (l : List Rl.Str) (k : Nat), l[k]? = some s → (∀ j, j < k → l[j]? ≠ some s) → l.idxOf s = k
  | [], k, h, _ => by simp at h
  | b :: l, 0, h, _ => by
    simp at h
    subst h
    simp
  | b :: l, k + 1, h, hb => by
    have hne : b ≠ s := fun e => hb 0 (by omega) (by simp [e])
    have ih := idxOf_at l k (by simpa using h) (fun j hj e => hb (j + 1) (by omega) (by simpa using e))
    rw [List.idxOf_cons, ih]
    have : (b == s) = false := by simpa using hne
    rw [this]; rfl
theorem place_at {l : List Rl.Str} {s : Rl.Str} {k : Nat} (hk : l[k]? = some s) (hb : ∀ j, j < k → l[j]? ≠ some s) : idxI l s = (k : Int) := by
  unfold idxI Rl.place
  rw [if_pos (List.mem_of_getElem? hk)]
  rw [idxOf_at l k hk hb]

set_option maxRecDepth 100000 in
set_option maxHeartbeats 4000000 in
theorem index_any (l : List Rl.Str) (s : Rl.Str) (base : Nat) (v : Value) (w : World) (hv : w.ownsRow base 9 1 v l.length (strs l)) (hl : l.length ≤ 24) :
    Calls Try.prog 87 #[v, .string (bs s)] w fun e w' => e = .returned (.int .i64 (idxI l s)) ∧ w' = w := by
  obtain ⟨a, cap, rfl⟩ := own_form hv
  have Hv : Hid (w.ownsRow base 9 1 (.slice a l.length cap) l.length (strs l)) := hv
  have ht := bs_toList s
  clear hv
  obtain ⟨n, hn⟩ : ∃ n, n = l.length := ⟨_, rfl⟩
  have Hn : Hid (n = l.length) := hn
  rw [← hn] at hl ⊢
  clear hn
  go_enter Try.func87, Try.ntmps87
  go_wp2_with fail
  go_loopg [8] n (fun g i wr => ∃ k : Nat, g = n - k ∧ k ≤ n ∧ i = .int .i64 (k : Int) ∧ w = wr ∧ Hid (∀ j, j < k → l[j]? ≠ some s))
  case atStart => exact ⟨0, rfl, Nat.zero_le _, rfl, rfl, (fun j hj => absurd hj (Nat.not_lt_zero _) : ∀ j, j < 0 → l[j]? ≠ some s)⟩
  case round =>
    obtain ⟨k, rfl, hk, rfl, rfl, hB⟩ := hrel
    by_cases hlt : k < n
    · have t1 : (k : Int) < (n : Int) := by omega
      obtain ⟨c, hc⟩ : ∃ c, l[k]? = some c := ⟨l[k]'(by rw [← Hn.out]; omega), List.getElem?_eq_getElem _⟩
      have Hc : Hid (l[k]? = some c) := hc
      obtain ⟨g, cap', hv', hgb, hgl, hcap, hcells⟩ := row_form Hv.out (by rw [← Hn.out]; omega)
      have e0 : a = some ⟨g, 0, none⟩ := by injection hv'
      have d0 : w.cell? ⟨g, k, none⟩ = some (.string (bs c)) := by
        rw [hcells k (by rw [← Hn.out]; omega)]
        unfold strs
        rw [List.getElem?_map, hc]; rfl
      have htc := bs_toList c
      subst e0
      clear hc hv' hcells
      by_cases he : s = c
      · have q : (s == c) = true := by simp [he]
        have He : Hid (s = c) := he
        clear he
        go_wp2
        go_ret
        refine ⟨?_, rfl⟩
        rw [place_at (by rw [Hc.out, He.out]) hB.out]; rfl
      · have q : (s == c) = false := by simpa using he
        have He : Hid (¬ s = c) := he
        clear he
        go_wp2
        go_roundg (n - (k + 1))
        case measure => omega
        case rel =>
          refine ⟨k + 1, rfl, by omega, by go_num, rfl, (?_ : ∀ j, j < k + 1 → l[j]? ≠ some s)⟩
          intro j hj e
          by_cases ej : j = k
          · subst ej
            rw [Hc.out] at e
            injection e with e
            exact He.out e.symm
          · exact hB.out j (by omega) e
    · have t2 : decide ((k : Int) < (n : Int)) = false := decide_eq_false (by omega)
      have hkn : k = n := by omega
      go_wp2
      go_ret
      refine ⟨?_, rfl⟩
      have hnm : s ∉ l := fun hm => by
        obtain ⟨j, hj, e⟩ := List.mem_iff_getElem.1 hm
        exact hB.out j (by rw [hkn, Hn.out]; exact hj) (by rw [List.getElem?_eq_getElem hj, e])
      rw [place_none hnm]; rfl
end Go.Proofs.Ytfbcijnacbfjpaa
namespace Go.Proofs.Ytfbcijnacbfjpaa
open Go.RowKit Go.Maps
set_option linter.unusedVariables false
set_option linter.unusedSimpArgs false

theorem step_of_wp {P : Program} {ops : Array Oper} {o : Oper} {a : Act} {w : World} {K : Act → World → Prop} {Q : Exit → Act → World → Prop} {E : Prop} (hg : o.guard = none) (h : Oper.wp P o a w K Q) :
    if Region.wanted o (yielded ops a.tmps) = true then Oper.wp P o a w K Q else E := by
  have hw : Region.wanted o (yielded ops a.tmps) = true := by simp [Region.wanted, hg]
  rw [if_pos hw]
  exact h
theorem wp_append_at {P : Program} (w : World) {o : Oper} {a : Act} {K : Act → World → Prop} {Q : Exit → Act → World → Prop} (s x : Operand) (t : TypeId)
    (ho : o.op = .call { callee := .builtin .append, args := #[s, x], argTypes := #[t, t] })
    (base : Nat) (e : TypeId) (i : TypeInfo) (z : Value) (size bytes : Nat) (ht : P.underlying t = some (.slice e)) (hi : P.info? e = some i) (hz : i.zero = some z)
    (hsize : i.size = size) (hby : i.bytes = bytes) (hzs : z.cells.size = size) (hsz : 0 < size)
    (v : Value) (n : Nat) (xs : List Value) (hs : a.eval s = v) (hown : w.ownsRow base e size v n xs)
    (ad : Addr) (m c : Nat) (news : List Value) (hx : a.eval x = .slice (some ad) m c) (hl : news.length = m * size) (hnews : ∀ j u, news[j]? = some u → w.cell? (ad.add j) = some u) (h1 : ∀ u ∈ news, u.oneCell' = true)
    (h63 : n + m ≤ maxLen) (hbytes : (n + m) * bytes ≤ 140737488355328) (hbase : base ≤ w.heap.size)
    (h : ∀ v' w', w'.ownsRow base e size v' (n + m) (xs ++ news) → w.grownBy w' v.ownBlock → K (a.put o.dst v') w') : o.wp P a w K Q := by
  obtain ⟨v', w', hr, h2, h3, h4, h5⟩ := run_append_own_at (P := P) w base t o.type e i z size bytes ht hi hz hsize hby hzs hsz v n xs hown ad m c news hl hnews h1 h63 hbytes hbase
  unfold Oper.wp execOp
  simp only [ho, resolve, invoke, builtin, Sem.run_bind, Sem.run_pure, Result.andThen_ok, List.map_toArray, List.map_cons, List.map_nil, hs, hx, hr]
  exact h v' w' h2 h3
theorem wp_put {P : Program} (w : World) {o : Oper} {a : Act} {K : Act → World → Prop} {Q : Exit → Act → World → Prop} (m x v : Operand) (t : TypeId) (hop : o.op = Op.mapUpdate t m x v)
    (k e : TypeId) (L : Keyed P k) (ht : P.underlying t = some (.map k e)) (R : Value → Option (DataW Unit × List MemPlace)) (b n : Nat) (D : DataW Unit)
    (hm : a.eval m = .map (some b)) (hown : w.ownsMap P k R b n D) (hn : n < maxLen) (key val : Value) (kl : Lit) (hx : a.eval x = key) (hv : a.eval v = val) (hkey : keyOf P k key = some kl)
    (d : DataW Unit) (ps : List MemPlace) (hval : R val = some (d, ps))
    (h : ∀ w', w'.ownsMap P k R b (n + 1) (D.put kl d) → w.grownBy w' (some b) → K (a.put o.dst undef) w') : o.wp P a w K Q := by
  obtain ⟨w', hrun, r1, r2⟩ := hown.update L ht hn hkey hval
  unfold Oper.wp
  simp [execOp, hop, hm, hx, hv, hrun, Result.andThen]
  exact h w' r1 r2
/-- whole numbers as cells. -/
def ints (l : List Int) : List Value := l.map (Value.int .i64)
def Rcs (w : World) (F : Nat → Prop) : List Rl.Rule → (Nat → Option Value) → Prop
  | [], _ => True
  | r :: rs, c => (c 0 = some (.int .u8 r.does) ∧ (∃ o s k, c 1 = some o ∧ c 2 = some s ∧ c 3 = some k ∧ Tr w F r.left (.agg #[o, s, k])) ∧ (∃ o s k, c 4 = some o ∧ c 5 = some s ∧ c 6 = some k ∧ Tr w F r.right (.agg #[o, s, k]))) ∧ Rcs w F rs (fun j => c (j + 7))
theorem Rcs.keepT {w w' : World} {F F' : Nat → Prop} (hk : ∀ b, F b → b < w.heap.size → (∃ cs z, w.heap[b]? = some (.cells cs 49 z)) → F' b ∧ w'.heap[b]? = w.heap[b]?) : ∀ (rs : List Rl.Rule) (c : Nat → Option Value), Rcs w F rs c → Rcs w' F' rs c
  | [], _, _ => trivial
  | r :: rs, c, ⟨⟨h0, ⟨o, s, k, h1, h2, h3, h4⟩, ⟨o', s', k', h5, h6, h7, h8⟩⟩, h9⟩ => ⟨⟨h0, ⟨o, s, k, h1, h2, h3, Tr.keepT hk _ _ h4⟩, ⟨o', s', k', h5, h6, h7, Tr.keepT hk _ _ h8⟩⟩, Rcs.keepT hk rs _ h9⟩
theorem Rcs.cong {w : World} {F : Nat → Prop} : ∀ (rs : List Rl.Rule) {c c' : Nat → Option Value}, (∀ j, j < 7 * rs.length → c j = c' j) → Rcs w F rs c → Rcs w F rs c'
  | [], _, _, _, _ => trivial
  | r :: rs, c, c', hc, h => by
    simp only [List.length_cons] at hc
    obtain ⟨⟨h0, ⟨o, s, k, h1, h2, h3, h4⟩, ⟨o', s', k', h5, h6, h7, h8⟩⟩, h9⟩ := h
    exact ⟨⟨(hc 0 (by omega)).symm.trans h0, ⟨o, s, k, (hc 1 (by omega)).symm.trans h1, (hc 2 (by omega)).symm.trans h2, (hc 3 (by omega)).symm.trans h3, h4⟩, ⟨o', s', k', (hc 4 (by omega)).symm.trans h5, (hc 5 (by omega)).symm.trans h6, (hc 6 (by omega)).symm.trans h7, h8⟩⟩, Rcs.cong rs (fun j hj => hc (j + 7) (by omega)) h9⟩
theorem Rcs.snoc {w : World} {F : Nat → Prop} {r : Rl.Rule} {o s k o' s' k' : Value} (hl : Tr w F r.left (.agg #[o, s, k])) (hr : Tr w F r.right (.agg #[o', s', k'])) : ∀ (rs : List Rl.Rule) (xs : List Value), xs.length = 7 * rs.length → Rcs w F rs (fun j => xs[j]?) → Rcs w F (rs ++ [r]) (fun j => (xs ++ [.int .u8 r.does, o, s, k, o', s', k'])[j]?)
  | [], xs, hx, _ => by
    obtain rfl : xs = [] := List.length_eq_zero_iff.1 (by simpa using hx)
    exact ⟨⟨rfl, ⟨o, s, k, rfl, rfl, rfl, hl⟩, ⟨o', s', k', rfl, rfl, rfl, hr⟩⟩, trivial⟩
  | q :: rs, xs, hx, h => by
    obtain ⟨ys, zs, rfl, hy⟩ : ∃ ys zs, xs = ys ++ zs ∧ ys.length = 7 := ⟨xs.take 7, xs.drop 7, (List.take_append_drop 7 xs).symm, by rw [List.length_take, hx]; simp only [List.length_cons]; omega⟩
    have hz : zs.length = 7 * rs.length := by simp only [List.length_append, List.length_cons] at hx; omega
    obtain ⟨h0, h9⟩ := h
    have e1 : ∀ j, (ys ++ zs ++ [Value.int .u8 r.does, o, s, k, o', s', k'])[j + 7]? = (zs ++ [Value.int .u8 r.does, o, s, k, o', s', k'])[j]? := fun j => by
      rw [List.append_assoc, List.getElem?_append_right (by omega), hy, Nat.add_sub_cancel]
    have e2 : ∀ j, (ys ++ zs)[j + 7]? = zs[j]? := fun j => by rw [List.getElem?_append_right (by omega), hy, Nat.add_sub_cancel]
    have e3 : ∀ j, j < 7 → (ys ++ zs ++ [Value.int .u8 r.does, o, s, k, o', s', k'])[j]? = (ys ++ zs)[j]? := fun j hj => by
      rw [List.getElem?_append_left (by rw [List.length_append]; omega)]
    have ih := Rcs.snoc hl hr rs zs hz (Rcs.cong rs (fun j _ => e2 j) h9)
    refine ⟨?_, Rcs.cong (rs ++ [r]) (fun j _ => (e1 j).symm) ih⟩
    obtain ⟨h0, ⟨o1, s1, k1, h1, h2, h3, h4⟩, ⟨o2, s2, k2, h5, h6, h7, h8⟩⟩ := h0
    exact ⟨(e3 0 (by omega)).trans h0, ⟨o1, s1, k1, (e3 1 (by omega)).trans h1, (e3 2 (by omega)).trans h2, (e3 3 (by omega)).trans h3, h4⟩, ⟨o2, s2, k2, (e3 4 (by omega)).trans h5, (e3 5 (by omega)).trans h6, (e3 6 (by omega)).trans h7, h8⟩⟩
/-- the rules in memory. -/
def Rls (w : World) (B : Nat) (v : Value) (l : List Rl.Rule) : Prop := ∃ xs, w.ownsRow B 69 7 v l.length xs ∧ Rcs w (fun b => B ≤ b) l (fun j => xs[j]?)
structure Stt (w : World) (rb : Nat) (x : Rd) (s : Rl.St) : Prop where
  cls : w.ownsRow (rb + 1) 9 1 x.vC s.cls.length (strs s.cls)
  trt : w.ownsRow (rb + 1) 3 1 x.vT s.cls.length (ints s.treat)
  lst : Rls w (rb + 1) x.vL s.list
  mp : Mp w x.mb s.env
  jn : x.j = s.join
  af : x.a = s.after
  pl : x.pl = (s.places : Int)
  op : x.op = 0
  mb : x.mb < rb
  c24 : s.cls.length ≤ 24
  l24 : s.list.length ≤ 24
  p200 : s.places ≤ 200
theorem Rls.only {w w' : World} {B : Nat} {v : Value} {l : List Rl.Rule} {P : Nat → Prop} (h : Rls w B v l) (ho : Only P w w') (hP : ∀ g, B ≤ g → ¬ P g) : Rls w' B v l := by
  obtain ⟨xs, h1, h2⟩ := h
  exact ⟨xs, own_only h1 ho hP, h2.keepT (fun b hb hl _ => ⟨hb, ho.block b hl (hP b hb)⟩)⟩
theorem Stt.only {w w' : World} {rb : Nat} {x : Rd} {s : Rl.St} (h : Stt w rb x s) (ho : Only (· = rb) w w') : Stt w' rb x s :=
  ⟨own_only h.cls ho (fun g hg => by omega), own_only h.trt ho (fun g hg => by omega), h.lst.only ho (fun g hg => by omega), h.mp.only ho (by have := h.mb; omega), h.jn, h.af, h.pl, h.op, h.mb, h.c24, h.l24, h.p200⟩
theorem Stt.cx {w : World} {rb : Nat} {x : Rd} {s : Rl.St} (h : Stt w rb x s) : Cx s.cls.length rb x s.places 0 := ⟨by have := h.mb; omega, h.pl, h.p200, h.op, by omega, own_form h.cls, h.c24⟩
theorem Stt.withPl {w : World} {rb : Nat} {x : Rd} {s : Rl.St} (h : Stt w rb x s) {p : Nat} (hp : p ≤ 200) : Stt w rb (x.withPl p) { s with places := p } := ⟨h.cls, h.trt, h.lst, h.mp, h.jn, h.af, rfl, h.op, h.mb, h.c24, h.l24, hp⟩
/-- a row of another kind is not the one that was written. -/
theorem own_grown {w w' : World} {base base' e e' size size' n n' : Nat} {v v' : Value} {xs xs' : List Value} (h : w.ownsRow base e size v n xs) (h' : w.ownsRow base' e' size' v' n' xs') (hne : e ≠ e') (hg : w.grownBy w' v'.ownBlock) : w'.ownsRow base e size v n xs := by
  obtain ⟨hl, h | ⟨g, cap, cur, hv, hb, hh, h1⟩⟩ := h
  · exact ⟨hl, Or.inl h⟩
  · refine ⟨hl, Or.inr ⟨g, cap, cur, hv, hb, (hg.block g (Array.getElem?_eq_some_iff.1 hh).1 (fun he => ?_)).trans hh, h1⟩⟩
    obtain ⟨_, ⟨hv', _⟩ | ⟨g', cap', cur', hv', _, hh', _⟩⟩ := h'
    · rw [hv'] at he; cases he
    · rw [hv'] at he
      injection he with he
      simp only at he
      subst he
      rw [hh] at hh'
      injection hh' with hh'
      injection hh' with _ h2
      exact hne h2
theorem Rls.grown {w w' : World} {B base' e' size' n' : Nat} {v v' : Value} {l : List Rl.Rule} {xs' : List Value} (h : Rls w B v l) (h' : w.ownsRow base' e' size' v' n' xs') (h52 : 69 ≠ e') (h50 : 49 ≠ e') (hg : w.grownBy w' v'.ownBlock) : Rls w' B v l := by
  obtain ⟨xs, h1, h2⟩ := h
  refine ⟨xs, own_grown h1 h' h52 hg, h2.keepT (fun b hb hl hc => ⟨hb, hg.block b hl (fun he => ?_)⟩)⟩
  obtain ⟨cs, z, hc⟩ := hc
  obtain ⟨_, ⟨hv', _⟩ | ⟨g', cap', cur', hv', _, hh', _⟩⟩ := h'
  · rw [hv'] at he; cases he
  · rw [hv'] at he
    injection he with he
    simp only at he
    subst he
    rw [hc] at hh'
    injection hh' with hh'
    injection hh' with _ h2
    exact h50 h2
/-- the blocks that reading may turn. -/
def Lo (rb mb : Nat) (b : Nat) : Prop := b = mb ∨ rb ≤ b
/-- reading turns no block ahead of the reader but the names' map, and no other map. -/
def Fr (rb mb : Nat) (w w' : World) : Prop := Only (Lo rb mb) w w' ∧ ∀ b es cl, w.heap[b]? = some (.map es cl) → b ≠ mb → w'.heap[b]? = w.heap[b]?
theorem Fr.trans {rb mb : Nat} {a b c : World} (h : Fr rb mb a b) (k : Fr rb mb b c) : Fr rb mb a c :=
  ⟨h.1.trans k.1, fun g es cl hg hn => (k.2 g es cl ((h.2 g es cl hg hn).trans hg) hn).trans (h.2 g es cl hg hn)⟩
/-- a block of cells. -/
def Cl (w : World) (g : Nat) : Prop := ∃ cs t z, w.heap[g]? = some (.cells cs t z)
theorem Cl.no {w : World} {g : Nat} (h : Cl w g) {es : Array MapEntry} {cl : Nat} (k : w.heap[g]? = some (.map es cl)) : False := by
  obtain ⟨cs, t, z, h⟩ := h
  rw [h] at k
  cases k
theorem Rdr.cl {w : World} {rb : Nat} {S : ByteArray} {i : Int} {x : Rd} (h : Rdr w rb S i x) : Cl w rb := ⟨_, _, _, h⟩
theorem In.cl {w : World} {rb : Nat} {S : ByteArray} {x : Rd} {ts : List Rl.Tk} (h : In w rb S x ts) : Cl w rb := by
  obtain ⟨i, h, _⟩ := h
  exact h.cl
theorem Only.frAt {w w' : World} {g rb : Nat} (h : Only (· = g) w w') (hg : rb ≤ g) (hc : Cl w g) (mb : Nat) : Fr rb mb w w' :=
  ⟨h.mono (fun b e => Or.inr (by omega)), fun b es cl hb _ => h.block b (Array.getElem?_eq_some_iff.1 hb).1 (fun e => by subst e; exact hc.no hb)⟩
theorem Only.fr {w w' : World} {rb : Nat} (h : Only (· = rb) w w') (hc : Cl w rb) (mb : Nat) : Fr rb mb w w' := h.frAt (Nat.le_refl _) hc mb
theorem Only.frMb {w w' : World} {rb mb : Nat} (h : Only (· = mb) w w') : Fr rb mb w w' := ⟨h.mono (fun b e => Or.inl e), fun b es cl hb hn => h.block b (Array.getElem?_eq_some_iff.1 hb).1 hn⟩
theorem Only.fr0 {w w' : World} (h : Only (fun _ => False) w w') (rb mb : Nat) : Fr rb mb w w' := ⟨h.mono (fun b e => e.elim), fun b es cl hb hn => h.block b (Array.getElem?_eq_some_iff.1 hb).1 (fun e => e)⟩
theorem Only.frOwn {w w' : World} {rb e size n : Nat} {v : Value} {xs : List Value} (h : Only (fun g => v.ownBlock = some g) w w') (hx : w.ownsRow (rb + 1) e size v n xs) (mb : Nat) : Fr rb mb w w' := by
  refine ⟨h.mono (fun b hb => Or.inr (by have := (hx.lt b hb).1; omega)), fun b es cl hb hn => h.block b (Array.getElem?_eq_some_iff.1 hb).1 (fun hv => ?_)⟩
  obtain ⟨_, ⟨hv', _⟩ | ⟨g', cap', cur', hv', _, hh', _⟩⟩ := hx
  · rw [hv'] at hv; cases hv
  · rw [hv'] at hv
    injection hv with hv
    simp only at hv
    subst hv
    exact Cl.no ⟨_, _, _, hh'⟩ hb
/-- how a line's reading ends. -/
def lineP (rb : Nat) (S : ByteArray) (mb : Nat) (w : World) (F : Rl.R (List Rl.Tk × Rl.St)) (e : Ending) (w' : World) : Prop :=
  match F with
  | .error f => e = .panicked (thr f.1 f.2) ∧ Fr rb mb w w'
  | .ok (ts, s) => e = .returned (.tuple #[]) ∧ ∃ x, x.mb = mb ∧ In w' rb S x ts ∧ Stt w' rb x s ∧ Fr rb mb w w'
theorem bor_range (a b : Int) : 0 ≤ Rl.bor a b ∧ Rl.bor a b < 4294967296 := by
  unfold Rl.bor bits
  rw [IntKind.wrap_u32]
  exact ⟨Int.emod_nonneg _ (by omega), Int.emod_lt_of_pos _ (by omega)⟩
theorem names_range {E : Rl.Env} : ∀ {ts ts' : List Rl.Tk} {a b : Int}, Rl.names E ts a = .ok (b, ts') → 0 ≤ a ∧ a < 4294967296 → 0 ≤ b ∧ b < 4294967296
  | [], _, _, _, h, _ => by cases h
  | t :: ts, ts', a, b, h, ha => by
    rw [names_cons] at h
    split at h
    · cases h
    · split at h
      · split at h
        · cases h
        · exact names_range h (bor_range _ _)
      · cases h; exact ha
theorem wf_u32 {a : Int} (h : 0 ≤ a ∧ a < 4294967296) : (Lit.int .u32 a).wf = true := by
  have e1 : IntKind.min .u32 = 0 := by decide
  have e2 : IntKind.max .u32 = 4294967295 := by decide
  have h2 : a ≤ 4294967295 := by omega
  simp only [Lit.wf, e1, e2, h.1, h2, decide_true, Bool.and_self]
theorem find_snoc (E : Rl.Env) (s : Rl.Str) (b : Int) (x : Rl.Str) (h : Rl.find E s = none) : Rl.find (E ++ [(s, b)]) x = if s = x then some b else Rl.find E x := by
  induction E with
  | nil => rfl
  | cons q E ih =>
    obtain ⟨s', b'⟩ := q
    unfold Rl.find at h
    rw [List.cons_append]
    unfold Rl.find
    by_cases e : s' = s
    · rw [if_pos e] at h; cases h
    · rw [if_neg e] at h
      by_cases e2 : s' = x
      · subst e2
        rw [if_pos rfl, if_neg (fun h => e h.symm), if_pos rfl]
      · rw [if_neg e2, if_neg e2, ih h]
/-- one name more. -/
theorem Mp.put {w w' : World} {mb : Nat} {E : Rl.Env} {D : DataW Unit} {s : Rl.Str} {b : Int} (hm : IsMap D) (hD : ∀ s : Rl.Str, D.atKey (.string s) (.lit (.int .u32 0)) = .lit (.int .u32 ((Rl.find E s).getD 0)) ∧ Maps.has D (.string s) = (Rl.find E s).isSome)
    (h : w'.ownsMap Try.prog 9 (plainElem Try.prog 47) mb (E.length + 1) (D.put (.string s) (.lit (.int .u32 b)))) (hf : Rl.find E s = none) : Mp w' mb (E ++ [(s, b)]) := by
  have hk : WideAt.IsKeyLit (Lit.string s) := trivial
  refine ⟨_, by rw [List.length_append]; exact h, World.ownsMap.isMap h, fun x => ?_⟩
  rw [find_snoc E s b x hf]
  by_cases e : s = x
  · subst e
    rw [atKey_put_same hm hk, has_put_same hm hk, if_pos rfl]
    exact ⟨rfl, rfl⟩
  · have hne : (Lit.string x) ≠ (Lit.string s) := fun h => e (by injection h with h; exact h.symm)
    rw [atKey_put_other hne, has_put_other hne, if_neg e]
    exact hD x
end Go.Proofs.Ytfbcijnacbfjpaa
namespace Go.Proofs.Ytfbcijnacbfjpaa
open Go.RowKit Go.Maps
set_option linter.unusedVariables false
set_option linter.unusedSimpArgs false
open Rl (Ex)
mutual
/-- v is the expression, its kids in blocks of F. -/
def Te (w : World) (F : Nat → Prop) : Ex → Value → Prop
  | .mk op set kids, v => ∃ (a : Option Addr) (cap : Nat), v = .agg #[.int .u8 op, .int .u32 set, .slice a kids.length cap] ∧ kids.length ≤ cap ∧ kids.length ≤ maxLen ∧ 0 ≤ set ∧ set < 4294967296 ∧
      (kids ≠ [] → ∃ b off, a = some ⟨b, off, none⟩ ∧ F b ∧ Tes w F kids b off)
/-- these expressions lie from here on. -/
def Tes (w : World) (F : Nat → Prop) : List Ex → Nat → Nat → Prop
  | [], _, _ => True
  | e :: es, b, off => (∃ o s k, w.cell? ⟨b, off, none⟩ = some o ∧ w.cell? ⟨b, off + 1, none⟩ = some s ∧ w.cell? ⟨b, off + 2, none⟩ = some k ∧ Te w F e (.agg #[o, s, k])) ∧ Tes w F es b (off + 3)
end
def Kp (w w' : World) (F : Nat → Prop) : Prop := ∀ b, F b → ∀ o v, w.cell? ⟨b, o, none⟩ = some v → w'.cell? ⟨b, o, none⟩ = some v
theorem Kp.only {w w' : World} {F P : Nat → Prop} (h : Only P w w') (hn : ∀ b, F b → ¬ P b) : Kp w w' F := fun b hb o v hv => by
  have hl := World.block_lt_of_cell? w _ hv
  exact (World.cell?_of_block (a := ⟨b, o, none⟩) (h.block b hl (hn b hb))).trans hv
mutual
theorem Te.keep {w w' : World} {F F' : Nat → Prop} (hk : Kp w w' F) (hF : ∀ b, F b → F' b) : ∀ (e : Ex) (v : Value), Te w F e v → Te w' F' e v
  | .mk op set kids, v, h => by
    unfold Te at h ⊢
    obtain ⟨a, cap, h1, h2, h3, h4, h5, h6⟩ := h
    refine ⟨a, cap, h1, h2, h3, h4, h5, fun hn => ?_⟩
    obtain ⟨b, off, g1, g2, g3⟩ := h6 hn
    exact ⟨b, off, g1, hF b g2, Tes.keep hk hF kids b off g2 g3⟩
theorem Tes.keep {w w' : World} {F F' : Nat → Prop} (hk : Kp w w' F) (hF : ∀ b, F b → F' b) : ∀ (es : List Ex) (b off : Nat), F b → Tes w F es b off → Tes w' F' es b off
  | [], _, _, _, _ => by unfold Tes; trivial
  | e :: es, b, off, hb, h => by
    unfold Tes at h ⊢
    obtain ⟨⟨o, s, k, h0, h1, h2, h3⟩, h4⟩ := h
    exact ⟨⟨o, s, k, hk b hb _ _ h0, hk b hb _ _ h1, hk b hb _ _ h2, Te.keep hk hF e _ h3⟩, Tes.keep hk hF es b (off + 3) hb h4⟩
end
/-- kids that weren't read yet. -/
def Lf (w : World) (F : Nat → Prop) (es : List Ex) (a : Option Addr) (c : Nat) : Prop := es.length ≤ c ∧ es.length ≤ maxLen ∧ (es ≠ [] → ∃ b off, a = some ⟨b, off, none⟩ ∧ F b ∧ Tes w F es b off)
theorem Lf.keep {w w' : World} {F F' : Nat → Prop} {es : List Ex} {a : Option Addr} {c : Nat} (h : Lf w F es a c) (hk : Kp w w' F) (hF : ∀ b, F b → F' b) : Lf w' F' es a c := by
  obtain ⟨h1, h2, h3⟩ := h
  refine ⟨h1, h2, fun hn => ?_⟩
  obtain ⟨b, off, g1, g2, g3⟩ := h3 hn
  exact ⟨b, off, g1, hF b g2, Tes.keep hk hF es b off g2 g3⟩
theorem Lf.nil (w : World) (F : Nat → Prop) (a : Option Addr) (c : Nat) : Lf w F [] a c := ⟨Nat.zero_le _, Nat.zero_le _, fun h => absurd rfl h⟩
theorem Lf.one {w : World} {F : Nat → Prop} {es : List Ex} {a : Option Addr} {c : Nat} (h : Lf w F es a c) : Lf w F (es.take 1) a c := by
  obtain ⟨h1, h2, h3⟩ := h
  refine ⟨by rw [List.length_take]; omega, by rw [List.length_take]; omega, fun hn => ?_⟩
  cases es with
  | nil => exact absurd rfl hn
  | cons e es =>
    obtain ⟨b, off, g1, g2, g3⟩ := h3 (by simp)
    refine ⟨b, off, g1, g2, ?_⟩
    unfold Tes at g3
    simp only [List.take_succ_cons, List.take_zero]
    unfold Tes
    exact ⟨g3.1, by unfold Tes; trivial⟩
theorem Te.kids {w : World} {F : Nat → Prop} {op set : Int} {kids : List Ex} {v : Value} (h : Te w F (.mk op set kids) v) : ∃ a cap, v = .agg #[.int .u8 op, .int .u32 set, .slice a kids.length cap] ∧ 0 ≤ set ∧ set < 4294967296 ∧ Lf w F kids a cap := by
  unfold Te at h
  obtain ⟨a, cap, h1, h2, h3, h4, h5, h6⟩ := h
  exact ⟨a, cap, h1, h4, h5, h2, h3, h6⟩
/-- by which classes each place is come to. -/
def byP (cl : Nat) (p : Au.Pl) : Nat → Nat := fun c => if c < cl then Au.by' p c else 0
theorem by_snoc (p : Au.Pl) (s : Int) (c : Nat) : Au.by' { p with sets := p.sets ++ [s] } c = if s / 2 ^ c % 2 = 1 then Au.by' p c ||| 2 ^ p.sets.length else Au.by' p c := by
  unfold Au.by'
  simp only [List.length_append, List.length_singleton, List.range_succ, List.foldl_append, List.foldl_cons, List.foldl_nil]
  have hf : ∀ (l : List Nat) (m : Nat), (∀ i ∈ l, i < p.sets.length) → l.foldl (fun m i => if ((p.sets ++ [s])[i]?.getD 0) / 2 ^ c % 2 = 1 then m ||| 2 ^ i else m) m = l.foldl (fun m i => if (p.sets[i]?.getD 0) / 2 ^ c % 2 = 1 then m ||| 2 ^ i else m) m := by
    intro l
    induction l with
    | nil => intro m _; rfl
    | cons a l ih =>
      intro m h
      simp only [List.foldl_cons]
      rw [List.getElem?_append_left (h a (by simp)), ih _ (fun i hi => h i (by simp [hi]))]
  rw [hf _ _ (fun i hi => List.mem_range.1 hi)]
  simp
theorem byP_snoc (cl : Nat) (p : Au.Pl) (s : Int) : byk (byP cl p) s p.sets.length cl = byP cl { p with sets := p.sets ++ [s] } := funext fun c => by
  unfold byk byP
  by_cases hc : c < cl
  · rw [if_pos hc, if_pos hc, by_snoc]
    by_cases h : s / 2 ^ c % 2 = 1
    · rw [if_pos ⟨hc, h⟩, if_pos h]
    · rw [if_neg (fun h2 => h h2.2), if_neg h]
  · rw [if_neg hc, if_neg hc, if_neg (fun h => hc h.1)]
/-- all places in a block, as they are known. -/
def Plm (w : World) (g cl : Nat) (p : Au.Pl) (fs : Nat) (vL : Value) (em : Nat) : Prop := Plb w g cl p.sets.length (byP cl p) p.next fs vL em
theorem chn_all (p : Au.Pl) (A N : Nat) (hA : A < 2 ^ p.sets.length) : chn p.next A N p.sets.length = (Au.chain p A N).next := funext fun i => by
  show (if i < p.sets.length ∧ A.testBit i = true then p.next i ||| N else p.next i) = if A.testBit i = true then p.next i ||| N else p.next i
  by_cases h : A.testBit i = true
  · have : i < p.sets.length := by
      apply Classical.byContradiction
      intro hn
      rw [Nat.testBit_lt_two_pow (Nat.lt_of_lt_of_le hA (Nat.pow_le_pow_right (by decide) (by omega)))] at h
      cases h
    rw [if_pos ⟨this, h⟩, if_pos h]
  · rw [if_neg (fun h2 => h h2.2), if_neg h]
theorem lt256 {n x : Nat} (hn : n ≤ 200) (h : x < 2 ^ n) : x < 2 ^ 256 := Nat.lt_of_lt_of_le h (Nat.pow_le_pow_right (by decide) (by omega))
/-- how begin ends. -/
def begP (w : World) (F : Nat → Prop) (g cl : Nat) (fs : Nat) (vL : Value) (em : Nat) (R : Option (Au.Fr × Au.Pl)) (e : Ending) (w' : World) : Prop :=
  match R with
  | none => e = .returned (.tuple #[.agg (zF 0), .bool false]) ∧ Only (· = g) w w'
  | some (f, p1) => (∃ a c, e = .returned (.tuple #[fmV f.op a f.left.length c f.nd, .bool true]) ∧ Lf w F f.left a c) ∧ Plm w' g cl p1 fs vL em ∧ Only (· = g) w w'
theorem begin_any (F : Nat → Prop) (g cl : Nat) (p : Au.Pl) (fs : Nat) (vL : Value) (em : Nat) (k : Ex) (v : Value) (w : World) (hP : Plm w g cl p fs vL em) (hp : p.sets.length ≤ 200) (hcl : cl ≤ 24) (hk : Te w F k v) :
    Calls Try.prog 56 #[.pointer (some ⟨g, 0, none⟩), v] w (begP w F g cl fs vL em (Au.begin' k p)) := by
  obtain ⟨op, set, kids⟩ := k
  obtain ⟨a, cap, rfl, hs0, hs1, hL⟩ := hk.kids
  obtain ⟨hl1, hl2, hl3⟩ := hL
  have hP0 : ∀ w', Only (fun _ => False) w w' → Plm w' g cl p fs vL em ∧ Only (· = g) w w' := fun w' h => ⟨Plb.only hP h (fun h => h), h.mono (fun _ h => h.elim)⟩
  have ha : 0 < kids.length → ∃ b off, a = some ⟨b, off, none⟩ := fun h => by
    obtain ⟨b, off, h1, _⟩ := hl3 (List.length_pos_iff.1 h)
    exact ⟨b, off, h1⟩
  unfold Au.begin'
  dsimp only
  by_cases o1 : op = 1
  · subst o1
    rw [if_pos rfl]
    by_cases hf : p.sets.length = 200
    · rw [if_pos hf]
      unfold Plm at hP
      rw [hf] at hP
      refine (begin1full g cl _ _ fs vL em set a _ cap w hP).mono ?_
      rintro e w' ⟨rfl, ho⟩
      exact ⟨rfl, ho.mono (fun _ h => h.elim)⟩
    · rw [if_neg hf]
      refine (begin1 g cl _ _ _ fs vL em set a _ cap w hP (by omega) hcl hs0 hs1).mono ?_
      rintro e w' ⟨rfl, hp', ho⟩
      refine ⟨⟨none, 0, rfl, Lf.nil _ _ _ _⟩, ?_, ho⟩
      unfold Plm
      rw [byP_snoc] at hp'
      have e : (p.sets ++ [set]).length = p.sets.length + 1 := by simp
      show Plb w' g cl (p.sets ++ [set]).length _ _ fs vL em
      rw [e]
      exact hp'
  rw [if_neg o1]
  by_cases o2 : op = 2
  · subst o2
    rw [if_pos rfl]
    refine (begin2 g set a _ cap w).mono ?_
    rintro e w' ⟨rfl, ho⟩
    exact ⟨⟨a, cap, rfl, hl1, hl2, hl3⟩, hP0 w' ho⟩
  rw [if_neg o2]
  by_cases o3 : op = 3
  · subst o3
    rw [if_pos rfl]
    refine (begin3 g set a _ cap w).mono ?_
    rintro e w' ⟨rfl, ho⟩
    exact ⟨⟨a, cap, rfl, hl1, hl2, hl3⟩, hP0 w' ho⟩
  rw [if_neg o3]
  have h1 : min 1 kids.length = (kids.take 1).length := by rw [List.length_take]
  by_cases o4 : op = 4
  · subst o4
    rw [if_pos rfl]
    refine (begin4 g set a _ cap w hl1 hl2 ha).mono ?_
    rintro e w' ⟨rfl, ho⟩
    exact ⟨⟨a, cap, by rw [h1], Lf.one ⟨hl1, hl2, hl3⟩⟩, hP0 w' ho⟩
  rw [if_neg o4]
  by_cases o5 : op = 5
  · subst o5
    rw [if_pos rfl]
    refine (begin5 g set a _ cap w hl1 hl2 ha).mono ?_
    rintro e w' ⟨rfl, ho⟩
    exact ⟨⟨a, cap, by rw [h1], Lf.one ⟨hl1, hl2, hl3⟩⟩, hP0 w' ho⟩
  rw [if_neg o5]
  by_cases o6 : op = 6
  · subst o6
    rw [if_pos rfl]
    refine (begin6 g set a _ cap w hl1 hl2 ha).mono ?_
    rintro e w' ⟨rfl, ho⟩
    exact ⟨⟨a, cap, by rw [h1], Lf.one ⟨hl1, hl2, hl3⟩⟩, hP0 w' ho⟩
  rw [if_neg o6]
  refine (beginO g op set a _ cap w (by omega)).mono ?_
  rintro e w' ⟨rfl, ho⟩
  exact ⟨⟨none, 0, rfl, Lf.nil _ _ _ _⟩, hP0 w' ho⟩
theorem end_any (g cl : Nat) (p : Au.Pl) (fs : Nat) (vL : Value) (em : Nat) (op : Int) (l : List Ex) (a : Option Addr) (m c : Nat) (x : Au.Nd) (w : World) (hP : Plm w g cl p fs vL em) (hn : p.sets.length ≤ 200) (hx : Au.OkN p x) :
    Calls Try.prog 57 #[.pointer (some ⟨g, 0, none⟩), fmV op a m c x] w fun e w' => e = .returned (ptV x) ∧ Plm w' g cl (Au.fin ⟨op, l, x⟩ p) fs vL em ∧ Only (· = g) w w' := by
  unfold Au.fin
  by_cases h : op = 4 ∨ op = 5
  · rw [if_pos h]
    refine (end_link g cl _ _ _ fs vL em op a m c x w hP hn (lt256 hn hx.1) h).mono ?_
    rintro e w' ⟨rfl, hp, ho⟩
    refine ⟨rfl, ?_, ho⟩
    rw [chn_all _ _ _ hx.2] at hp
    exact hp
  · rw [if_neg h]
    refine (end_plain g op a m c x w (fun h1 => h (Or.inl h1)) (fun h1 => h (Or.inr h1))).mono ?_
    rintro e w' ⟨rfl, ho⟩
    exact ⟨rfl, Plb.only hP ho (fun h => h), ho.mono (fun _ h => h.elim)⟩
theorem tke_any (g cl : Nat) (p : Au.Pl) (fs : Nat) (vL : Value) (em : Nat) (fb fo : Nat) (t : TypeId) (cs : Array Value) (op : Int) (a : Option Addr) (m c : Nat) (y x : Au.Nd) (w : World) (hP : Plm w g cl p fs vL em) (hn : p.sets.length ≤ 200) (hx : Au.OkN p x) (hy : Au.OkN p y) (hF : Fb w fb fo t cs op a m c y) (hgf : fb ≠ g) :
    Calls Try.prog 58 #[.pointer (some ⟨g, 0, none⟩), .pointer (some ⟨fb, fo, none⟩), ptV x] w fun e w' => e = .returned (.tuple #[]) ∧ (∃ cs', Fb w' fb fo t cs' op a m c (Au.tkN op y x) ∧ Same cs cs' fo) ∧ Plm w' g cl (Au.tkP op y x p) fs vL em ∧ Only (fun h => h = fb ∨ h = g) w w' := by
  unfold Au.tkN Au.tkP
  by_cases h : op = 2
  · subst h
    rw [if_pos rfl, if_pos rfl]
    refine (take_seq g cl _ _ _ fs vL em fb fo t cs a m c y x w hP hn (lt256 hn hx.1) hF hgf).mono ?_
    rintro e w' ⟨rfl, hf, hp, ho⟩
    refine ⟨rfl, hf, ?_, ho⟩
    rw [chn_all _ _ _ hy.2] at hp
    exact hp
  · rw [if_neg h, if_neg h]
    refine (take_alt g fb fo t cs op a m c y x w hF h).mono ?_
    rintro e w' ⟨rfl, hf, ho⟩
    exact ⟨rfl, hf, Plb.only hP ho (by intro h; exact hgf h.symm), ho.mono (fun _ h => Or.inl h)⟩
end Go.Proofs.Ytfbcijnacbfjpaa
namespace Go.Proofs.Ytfbcijnacbfjpaa
open Go.RowKit Go.Maps
set_option linter.unusedVariables false
set_option linter.unusedSimpArgs false
open Rl (Ex)
theorem Tes.get' {w : World} {F : Nat → Prop} : ∀ (es : List Ex) (b off i : Nat) (e : Ex), Tes w F es b off → es[i]? = some e → ∃ o s k, w.cell? ⟨b, off + i * 3, none⟩ = some o ∧ w.cell? ⟨b, off + i * 3 + 1, none⟩ = some s ∧ w.cell? ⟨b, off + i * 3 + 2, none⟩ = some k ∧ Te w F e (.agg #[o, s, k])
  | e0 :: es, b, off, 0, e, ht, h => by
    injection h with h
    subst h
    unfold Tes at ht
    exact ht.1
  | e0 :: es, b, off, i + 1, e, ht, h => by
    unfold Tes at ht
    obtain ⟨o, s, k, h0, h1, h2, h3⟩ := Tes.get' es b (off + 3) i e ht.2 (by simpa using h)
    rw [show off + 3 + i * 3 = off + (i + 1) * 3 by omega] at h0 h1 h2
    exact ⟨o, s, k, h0, h1, h2, h3⟩
mutual
/-- no kind of an expression is below 0. -/
def Nn : Ex → Prop
  | .mk op _ kids => 0 ≤ op ∧ Nns kids
def Nns : List Ex → Prop
  | [] => True
  | e :: es => Nn e ∧ Nns es
end
theorem Nns.mem : ∀ {es : List Ex} {e : Ex}, Nns es → e ∈ es → Nn e
  | e0 :: es, e, h, hm => by
    unfold Nns at h
    rcases List.mem_cons.1 hm with rfl | hm
    · exact h.1
    · exact Nns.mem h.2 hm
theorem kid_at0 {w W : World} {F : Nat → Prop} {kids : List Ex} {a : Option Addr} {c : Nat} (hL : Lf w F kids a c) (ho : Only (fun _ => False) w W) {i : Nat} {kd : Ex} (hi : kids[i]? = some kd) :
    ∃ kb ko op set a' n' c', a = some ⟨kb, ko, none⟩ ∧ kb < W.heap.size ∧ W.cell? ⟨kb, ko + i * 3, none⟩ = some (.int .u8 op) ∧ W.cell? ⟨kb, ko + i * 3 + 1, none⟩ = some (.int .u32 set) ∧ W.cell? ⟨kb, ko + i * 3 + 2, none⟩ = some (.slice a' n' c') ∧ Te W F kd (.agg #[.int .u8 op, .int .u32 set, .slice a' n' c']) := by
  obtain ⟨kb, ko, rfl, hFb, hTes⟩ := hL.2.2 (by intro e; rw [e] at hi; simp at hi)
  obtain ⟨o0, s0, k0, d0, d1, d2, hTe⟩ := Tes.get' kids kb ko i kd hTes hi
  have hKp : Kp w W F := Kp.only ho (fun b hb h => h)
  obtain ⟨op, set, a', n', c', hv⟩ : ∃ op set a' n' c', Value.agg #[o0, s0, k0] = .agg #[.int .u8 op, .int .u32 set, .slice a' n' c'] := by
    obtain ⟨o, s, kids⟩ := kd
    obtain ⟨a, cap, h, _⟩ := hTe.kids
    exact ⟨o, s, a, _, cap, h⟩
  simp only [Value.agg.injEq, Array.mk.injEq, List.cons.injEq, and_true] at hv
  obtain ⟨rfl, rfl, rfl⟩ := hv
  exact ⟨kb, ko, op, set, a', n', c', rfl, Nat.lt_of_lt_of_le (World.block_lt_of_cell? w _ d0) ho.size, hKp kb hFb _ _ d0, hKp kb hFb _ _ d1, hKp kb hFb _ _ d2, Te.keep hKp (fun _ h => h) kd _ hTe⟩
end Go.Proofs.Ytfbcijnacbfjpaa
