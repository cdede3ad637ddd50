/-
  Expressions read by a list of frames say what they say by recursion; no program in it.
-/
import Derived.Test.YtfbcijnacbfjpaaAu
namespace Go.Proofs.Ytfbcijnacbfjpaa
set_option linter.unusedVariables false
set_option linter.unusedSimpArgs false
namespace Au
open Rl (Ex)
/-- an expression that is being read. -/
structure Fr where
  op : Int
  left : List Ex
  nd : Nd
def begin' : Ex → Pl → Option (Fr × Pl)
  | .mk op set kids, p =>
    if op = 1 then (if p.sets.length = 200 then none else some (⟨1, [], ⟨false, 2 ^ p.sets.length, 2 ^ p.sets.length⟩⟩, { p with sets := p.sets ++ [set] }))
    else if op = 2 then some (⟨2, kids, ⟨true, 0, 0⟩⟩, p)
    else if op = 3 then some (⟨3, kids, ⟨false, 0, 0⟩⟩, p)
    else if op = 4 then some (⟨4, kids.take 1, ⟨true, 0, 0⟩⟩, p)
    else if op = 5 then some (⟨5, kids.take 1, ⟨false, 0, 0⟩⟩, p)
    else if op = 6 then some (⟨6, kids.take 1, ⟨true, 0, 0⟩⟩, p)
    else some (⟨op, [], ⟨true, 0, 0⟩⟩, p)
def fin (f : Fr) (p : Pl) : Pl := if f.op = 4 ∨ f.op = 5 then chain p f.nd.last f.nd.first else p
def tkN (op : Int) (o x : Nd) : Nd := if op = 2 then seq1 o x else alt1 o x
def tkP (op : Int) (o x : Nd) (p : Pl) : Pl := if op = 2 then chain p o.last x.first else p
def mach : Nat → List Fr → Pl → Option (Option (Nd × Pl))
  | 0, _, _ => none
  | _ + 1, [], _ => none
  | n + 1, f :: fs, p => match f.left with
    | k :: ks => match begin' k p with
      | none => some none
      | some (g, p1) => mach n (g :: ⟨f.op, ks, f.nd⟩ :: fs) p1
    | [] => match fs with
      | [] => some (some (f.nd, fin f p))
      | g :: gs => mach n (⟨g.op, g.left, tkN g.op g.nd f.nd⟩ :: gs) (tkP g.op g.nd f.nd (fin f p))
/-- all kids, one behind the other. -/
def kf (op : Int) : List Ex → Nd → Pl → Option (Nd × Pl)
  | [], o, p => some (o, p)
  | e :: es, o, p => match node e p with
    | none => none
    | some (x, p1) => kf op es (tkN op o x) (tkP op o x p1)
theorem kf_seqs : ∀ (es : List Ex) (o : Nd) (p : Pl), kf 2 es o p = seqs es o p
  | [], o, p => by simp [kf, seqs]
  | e :: es, o, p => by
    simp only [kf, seqs]
    cases h : node e p with
    | none => rfl
    | some r => exact kf_seqs es _ _
theorem kf_alts : ∀ (es : List Ex) (o : Nd) (p : Pl), kf 3 es o p = alts es o p
  | [], o, p => by simp [kf, alts]
  | e :: es, o, p => by
    simp only [kf, alts]
    cases h : node e p with
    | none => rfl
    | some r => exact kf_alts es _ _
theorem alt_true (x : Nd) : alt1 ⟨true, 0, 0⟩ x = ⟨true, x.first, x.last⟩ := by simp [alt1]
theorem alt_false (x : Nd) : alt1 ⟨false, 0, 0⟩ x = x := by simp [alt1]
theorem kf_one {op : Int} (hop : op ≠ 2) (kids : List Ex) (b : Bool) (p : Pl) : kf op (kids.take 1) ⟨b, 0, 0⟩ p = match one kids p with | none => none | some (x, p1) => some (alt1 ⟨b, 0, 0⟩ x, p1) := by
  cases kids with
  | nil => cases b <;> simp [kf, one, alt1]
  | cons e es =>
    simp only [List.take_succ_cons, List.take_zero, kf, one]
    cases node e p with
    | none => rfl
    | some r => simp [tkN, tkP, hop]
/-- what node says, by the frame that is begun. -/
theorem node_begin (e : Ex) (p : Pl) : node e p = match begin' e p with
    | none => none
    | some (g, p1) => match kf g.op g.left g.nd p1 with
      | none => none
      | some (x, p2) => some (x, fin ⟨g.op, [], x⟩ p2) := by
  obtain ⟨op, set, kids⟩ := e
  unfold node begin'
  dsimp only
  by_cases o1 : op = 1
  · rw [if_pos o1, if_pos o1]
    split
    · rfl
    · simp [kf, fin]
  rw [if_neg o1, if_neg o1]
  by_cases o2 : op = 2
  · rw [if_pos o2, if_pos o2]
    simp only [kf_seqs]
    cases seqs kids ⟨true, 0, 0⟩ p with
    | none => rfl
    | some r => simp [fin]
  rw [if_neg o2, if_neg o2]
  by_cases o3 : op = 3
  · rw [if_pos o3, if_pos o3]
    simp only [kf_alts]
    cases alts kids ⟨false, 0, 0⟩ p with
    | none => rfl
    | some r => simp [fin]
  rw [if_neg o3, if_neg o3]
  by_cases o4 : op = 4
  · rw [if_pos o4, if_pos o4]
    simp only [kf_one (show (4 : Int) ≠ 2 by decide)]
    cases one kids p with
    | none => rfl
    | some r => simp [fin, alt_true]
  rw [if_neg o4, if_neg o4]
  by_cases o5 : op = 5
  · rw [if_pos o5, if_pos o5]
    simp only [kf_one (show (5 : Int) ≠ 2 by decide)]
    cases one kids p with
    | none => rfl
    | some r => simp [fin, alt_false]
  rw [if_neg o5, if_neg o5]
  by_cases o6 : op = 6
  · rw [if_pos o6, if_pos o6]
    simp only [kf_one (show (6 : Int) ≠ 2 by decide)]
    cases one kids p with
    | none => rfl
    | some r => simp [fin, alt_true]
  rw [if_neg o6, if_neg o6]
  simp [kf, fin, o4, o5]
/-- a kid on top of the open frames is taken as node says. -/
def Kid (e : Ex) : Prop := ∀ (p : Pl) (op : Int) (o : Nd) (ks : List Ex) (fs : List Fr), ∃ m, ∀ n, mach (m + n) (⟨op, e :: ks, o⟩ :: fs) p = match node e p with
  | none => some none
  | some (x, p1) => mach n (⟨op, ks, tkN op o x⟩ :: fs) (tkP op o x p1)
theorem kids_all : ∀ (es : List Ex), (∀ e ∈ es, Kid e) → ∀ (op : Int) (o : Nd) (p : Pl) (fs : List Fr), ∃ m, ∀ n, mach (m + n) (⟨op, es, o⟩ :: fs) p = match kf op es o p with
    | none => some none
    | some (x, p1) => mach n (⟨op, [], x⟩ :: fs) p1
  | [], _, op, o, p, fs => ⟨0, fun n => by simp [kf]⟩
  | e :: es, h, op, o, p, fs => by
    obtain ⟨m1, h1⟩ := h e (by simp) p op o es fs
    simp only [kf]
    cases hn : node e p with
    | none =>
      refine ⟨m1, fun n => ?_⟩
      rw [h1, hn]
    | some r =>
      obtain ⟨x, p1⟩ := r
      obtain ⟨m2, h2⟩ := kids_all es (fun e he => h e (by simp [he])) op (tkN op o x) (tkP op o x p1) fs
      refine ⟨m1 + m2, fun n => ?_⟩
      rw [Nat.add_assoc, h1, hn]
      exact h2 n
theorem begin_left (e : Ex) (p : Pl) (g : Fr) (p1 : Pl) (h : begin' e p = some (g, p1)) : ∃ op set kids, e = .mk op set kids ∧ ∀ k ∈ g.left, k ∈ kids := by
  obtain ⟨op, set, kids⟩ := e
  refine ⟨op, set, kids, rfl, ?_⟩
  unfold begin' at h
  dsimp only at h
  have ht : ∀ k ∈ kids.take 1, k ∈ kids := fun k hk => List.mem_of_mem_take hk
  repeat' split at h
  all_goals first
    | (cases h; done)
    | (injection h with h; injection h with h _; subst h; first | exact fun k hk => hk | exact ht | simp)
theorem kid_any : ∀ (e : Ex), Kid e := by
  intro e
  apply Ex.rec (motive_1 := fun e => Kid e) (motive_2 := fun es => ∀ e ∈ es, Kid e)
  · intro op set kids ih p op' o ks fs
    cases hb : begin' (.mk op set kids) p with
    | none =>
      refine ⟨1, fun n => ?_⟩
      rw [node_begin, hb, Nat.add_comm 1 n]
      simp only [mach, hb]
    | some r =>
      obtain ⟨g, p1⟩ := r
      obtain ⟨_, _, kids', hk, hl⟩ := begin_left _ _ _ _ hb
      injection hk with _ _ hk
      subst hk
      obtain ⟨m, hm⟩ := kids_all g.left (fun e he => ih e (hl e he)) g.op g.nd p1 (⟨op', ks, o⟩ :: fs)
      have hs : ∀ N, mach (N + 1) (⟨op', .mk op set kids :: ks, o⟩ :: fs) p = mach N (g :: ⟨op', ks, o⟩ :: fs) p1 := fun N => by simp only [mach, hb]
      have hx : node (.mk op set kids) p = match kf g.op g.left g.nd p1 with
          | none => none
          | some (x, p2) => some (x, fin ⟨g.op, [], x⟩ p2) := by rw [node_begin, hb]
      cases hkf : kf g.op g.left g.nd p1 with
      | none =>
        refine ⟨m + 1, fun n => ?_⟩
        rw [show m + 1 + n = (m + n) + 1 by omega, hs, hx, hkf]
        have := hm n
        rw [hkf] at this
        exact this
      | some r2 =>
        obtain ⟨x, p2⟩ := r2
        refine ⟨m + 1 + 1, fun n => ?_⟩
        rw [show m + 1 + 1 + n = (m + (n + 1)) + 1 by omega, hs, hx, hkf]
        have := hm (n + 1)
        rw [hkf] at this
        exact this
  · intro e he
    cases he
  · intro e es he hes k hk
    rcases List.mem_cons.1 hk with rfl | hk
    · exact he
    · exact hes k hk
/-- the whole. -/
theorem mach_all (e : Ex) (p : Pl) : ∃ m, mach m [⟨3, [e], ⟨false, 0, 0⟩⟩] p = some (node e p) := by
  obtain ⟨m, h⟩ := kid_any e p 3 ⟨false, 0, 0⟩ [] []
  refine ⟨m + 1, ?_⟩
  rw [h]
  cases node e p with
  | none => rfl
  | some r =>
    obtain ⟨x, p1⟩ := r
    have e1 : tkN 3 ⟨false, 0, 0⟩ x = x := by rw [tkN, if_neg (by decide), alt_false]
    have e2 : tkP 3 ⟨false, 0, 0⟩ x p1 = p1 := by rw [tkP, if_neg (by decide)]
    simp only [e1, e2, mach, fin]
    rfl
mutual
/-- how deep. -/
def dp : Ex → Nat
  | .mk _ _ kids => 1 + dps kids
def dps : List Ex → Nat
  | [] => 0
  | e :: es => max (dp e) (dps es)
end
theorem dps_mem : ∀ (es : List Ex) (e : Ex), e ∈ es → dp e ≤ dps es
  | e0 :: es, e, h => by
    unfold dps
    rcases List.mem_cons.1 h with rfl | h
    · omega
    · have := dps_mem es e h; omega
theorem dps_le : ∀ (es : List Ex) (n : Nat), (∀ e ∈ es, dp e ≤ n) → dps es ≤ n
  | [], n, _ => by simp [dps]
  | e :: es, n, h => by
    unfold dps
    have h1 := h e (by simp)
    have h2 := dps_le es n (fun x hx => h x (by simp [hx]))
    omega
/-- no frame stands too high. -/
def Hg (D : Nat) : List Fr → Prop
  | [] => True
  | f :: fs => fs.length + 1 + dps f.left ≤ D ∧ Hg D fs
theorem Hg.len {D : Nat} : ∀ {fs : List Fr}, Hg D fs → fs.length ≤ D
  | [], _ => Nat.zero_le _
  | f :: fs, h => by have := h.1; simp only [List.length_cons]; omega
theorem Hg.push {D : Nat} {op : Int} {k : Ex} {ks : List Ex} {o : Nd} {fs : List Fr} (h : Hg D (⟨op, k :: ks, o⟩ :: fs)) {p p1 : Pl} {g : Fr} (hb : begin' k p = some (g, p1)) : Hg D (g :: ⟨op, ks, o⟩ :: fs) := by
  obtain ⟨h1, h2⟩ := h
  obtain ⟨op', set, kids, rfl, hl⟩ := begin_left _ _ _ _ hb
  have hd : dps g.left ≤ dps kids := dps_le _ _ (fun e he => dps_mem _ _ (hl e he))
  unfold dps at h1
  unfold dp at h1
  refine ⟨?_, ?_, h2⟩
  · simp only [List.length_cons]; omega
  · simp only; omega
theorem Hg.pop {D : Nat} {f g : Fr} {gs : List Fr} (h : Hg D (f :: g :: gs)) (o : Nd) : Hg D (⟨g.op, g.left, o⟩ :: gs) := ⟨h.2.1, h.2.2⟩
/-- what holds of all frames, and of the places. -/
def Iv (fs : List Fr) (p : Pl) : Prop := OkP p ∧ p.sets.length ≤ 200 ∧ ∀ f ∈ fs, OkN p f.nd
theorem OkN.mono {p p1 : Pl} {x : Nd} (h : OkN p x) (hl : p.sets.length ≤ p1.sets.length) : OkN p1 x := ⟨Nat.lt_of_lt_of_le h.1 (pow_le hl), Nat.lt_of_lt_of_le h.2 (pow_le hl)⟩
theorem begin_ok {e : Ex} {p p1 : Pl} {g : Fr} (h : begin' e p = some (g, p1)) (hp : OkP p) (hl : p.sets.length ≤ 200) : OkP p1 ∧ p1.sets.length ≤ 200 ∧ OkN p1 g.nd ∧ p.sets.length ≤ p1.sets.length := by
  obtain ⟨op, set, kids⟩ := e
  have z : ∀ b, OkN p ⟨b, 0, 0⟩ := fun b => ⟨Nat.two_pow_pos _, Nat.two_pow_pos _⟩
  have hpl : OkP { p with sets := p.sets ++ [set] } := by
    intro i
    obtain ⟨a, b⟩ := hp i
    show p.next i < 2 ^ (p.sets ++ [set]).length ∧ ((p.sets ++ [set]).length ≤ i → p.next i = 0)
    rw [show (p.sets ++ [set]).length = p.sets.length + 1 by simp]
    exact ⟨Nat.lt_of_lt_of_le a (pow_le (by omega)), fun hi => b (by omega)⟩
  unfold begin' at h
  dsimp only at h
  split at h
  · split at h
    · cases h
    · rename_i hne
      injection h with h
      injection h with hg hp1
      subst hg hp1
      have e : (p.sets ++ [set]).length = p.sets.length + 1 := by simp
      refine ⟨hpl, ?_, ?_, ?_⟩
      · show (p.sets ++ [set]).length ≤ 200
        omega
      · show 2 ^ p.sets.length < 2 ^ (p.sets ++ [set]).length ∧ 2 ^ p.sets.length < 2 ^ (p.sets ++ [set]).length
        rw [e, Nat.pow_succ]
        have := Nat.two_pow_pos p.sets.length
        omega
      · show p.sets.length ≤ (p.sets ++ [set]).length
        omega
  · repeat' split at h
    all_goals
      injection h with h
      injection h with hg hp1
      subst hg hp1
      exact ⟨hp, hl, z _, Nat.le_refl _⟩
theorem Iv.push {op : Int} {k : Ex} {ks : List Ex} {o : Nd} {fs : List Fr} {p p1 : Pl} {g : Fr} (h : Iv (⟨op, k :: ks, o⟩ :: fs) p) (hb : begin' k p = some (g, p1)) : Iv (g :: ⟨op, ks, o⟩ :: fs) p1 := by
  obtain ⟨h1, h2, h3⟩ := h
  obtain ⟨a, b, c, d⟩ := begin_ok hb h1 h2
  refine ⟨a, b, fun f hf => ?_⟩
  rcases List.mem_cons.1 hf with rfl | hf
  · exact c
  rcases List.mem_cons.1 hf with rfl | hf
  · exact (h3 ⟨op, k :: ks, o⟩ (by simp)).mono d
  · exact (h3 f (by simp [hf])).mono d
theorem fin_ok {f : Fr} {p : Pl} (h : OkP p) (hf : OkN p f.nd) : OkP (fin f p) ∧ (fin f p).sets = p.sets := by
  unfold fin
  split
  · exact ⟨h.chain hf.2 hf.1, rfl⟩
  · exact ⟨h, rfl⟩
theorem tk_ok {op : Int} {o x : Nd} {p : Pl} (h : OkP p) (ho : OkN p o) (hx : OkN p x) : OkP (tkP op o x p) ∧ (tkP op o x p).sets = p.sets ∧ OkN p (tkN op o x) := by
  have hN : OkN p (tkN op o x) := by
    unfold tkN
    split
    · unfold seq1
      refine ⟨?_, ?_⟩
      · simp only; split
        · exact Nat.or_lt_two_pow ho.1 hx.1
        · exact ho.1
      · simp only; split
        · exact Nat.or_lt_two_pow ho.2 hx.2
        · exact hx.2
    · exact ⟨Nat.or_lt_two_pow ho.1 hx.1, Nat.or_lt_two_pow ho.2 hx.2⟩
  unfold tkP
  split
  · exact ⟨h.chain ho.2 hx.1, rfl, hN⟩
  · exact ⟨h, rfl, hN⟩
theorem Iv.fin {f : Fr} {fs : List Fr} {p : Pl} (h : Iv (f :: fs) p) : Iv (f :: fs) (fin f p) := by
  obtain ⟨h1, h2, h3⟩ := h
  obtain ⟨a, b⟩ := fin_ok h1 (h3 f (by simp))
  refine ⟨a, by rw [b]; exact h2, fun k hk => ?_⟩
  have := h3 k hk
  unfold OkN at this ⊢
  rw [b]
  exact this
theorem Iv.pop {f g : Fr} {gs : List Fr} {p : Pl} (h : Iv (f :: g :: gs) p) : Iv (⟨g.op, g.left, tkN g.op g.nd f.nd⟩ :: gs) (tkP g.op g.nd f.nd p) := by
  obtain ⟨h1, h2, h3⟩ := h
  obtain ⟨a, b, c⟩ := tk_ok (op := g.op) h1 (h3 g (by simp)) (h3 f (by simp))
  refine ⟨a, by rw [b]; exact h2, fun k hk => ?_⟩
  have : OkN p k.nd := by
    rcases List.mem_cons.1 hk with rfl | hk
    · exact c
    · exact h3 k (by simp [hk])
  unfold OkN at this ⊢
  rw [b]
  exact this
end Au
end Go.Proofs.Ytfbcijnacbfjpaa
