/-
  Expressions in memory, wherever they lie; the open frames in memory; begin, end and take in one word each.
-/
import Derived.Test.YtfbcijnacbfjpaaTk2
import Derived.Test.YtfbcijnacbfjpaaMch
import Derived.Test.YtfbcijnacbfjpaaState
namespace Go.Proofs.Ytfbcijnacbfjpaa
open Go.RowKit Go.Maps
set_option linter.unusedVariables false
set_option linter.unusedSimpArgs false
open Rl (Ex)
mutual
/-- v is the expression, its kids in blocks of F. -/
def Te (w : World) (F : Nat → Prop) : Ex → Value → Prop
  | .mk op set kids, v => ∃ (a : Option Addr) (cap : Nat), v = .agg #[.int .u8 op, .int .u32 set, .slice a kids.length cap] ∧ kids.length ≤ cap ∧ kids.length ≤ maxLen ∧ 0 ≤ set ∧ set < 4294967296 ∧
      (kids ≠ [] → ∃ b off, a = some ⟨b, off, none⟩ ∧ F b ∧ Tes w F kids b off)
/-- these expressions lie from here on. -/
def Tes (w : World) (F : Nat → Prop) : List Ex → Nat → Nat → Prop
  | [], _, _ => True
  | e :: es, b, off => (∃ o s k, w.cell? ⟨b, off, none⟩ = some o ∧ w.cell? ⟨b, off + 1, none⟩ = some s ∧ w.cell? ⟨b, off + 2, none⟩ = some k ∧ Te w F e (.agg #[o, s, k])) ∧ Tes w F es b (off + 3)
end
def Kp (w w' : World) (F : Nat → Prop) : Prop := ∀ b, F b → ∀ o v, w.cell? ⟨b, o, none⟩ = some v → w'.cell? ⟨b, o, none⟩ = some v
theorem Kp.only {w w' : World} {F P : Nat → Prop} (h : Only P w w') (hn : ∀ b, F b → ¬ P b) : Kp w w' F := fun b hb o v hv => by
  have hl := World.block_lt_of_cell? w _ hv
  exact (World.cell?_of_block (a := ⟨b, o, none⟩) (h.block b hl (hn b hb))).trans hv
mutual
theorem Te.keep {w w' : World} {F F' : Nat → Prop} (hk : Kp w w' F) (hF : ∀ b, F b → F' b) : ∀ (e : Ex) (v : Value), Te w F e v → Te w' F' e v
  | .mk op set kids, v, h => by
    unfold Te at h ⊢
    obtain ⟨a, cap, h1, h2, h3, h4, h5, h6⟩ := h
    refine ⟨a, cap, h1, h2, h3, h4, h5, fun hn => ?_⟩
    obtain ⟨b, off, g1, g2, g3⟩ := h6 hn
    exact ⟨b, off, g1, hF b g2, Tes.keep hk hF kids b off g2 g3⟩
theorem Tes.keep {w w' : World} {F F' : Nat → Prop} (hk : Kp w w' F) (hF : ∀ b, F b → F' b) : ∀ (es : List Ex) (b off : Nat), F b → Tes w F es b off → Tes w' F' es b off
  | [], _, _, _, _ => by unfold Tes; trivial
  | e :: es, b, off, hb, h => by
    unfold Tes at h ⊢
    obtain ⟨⟨o, s, k, h0, h1, h2, h3⟩, h4⟩ := h
    exact ⟨⟨o, s, k, hk b hb _ _ h0, hk b hb _ _ h1, hk b hb _ _ h2, Te.keep hk hF e _ h3⟩, Tes.keep hk hF es b (off + 3) hb h4⟩
end
/-- kids that weren't read yet. -/
def Lf (w : World) (F : Nat → Prop) (es : List Ex) (a : Option Addr) (c : Nat) : Prop := es.length ≤ c ∧ es.length ≤ maxLen ∧ (es ≠ [] → ∃ b off, a = some ⟨b, off, none⟩ ∧ F b ∧ Tes w F es b off)
theorem Lf.keep {w w' : World} {F F' : Nat → Prop} {es : List Ex} {a : Option Addr} {c : Nat} (h : Lf w F es a c) (hk : Kp w w' F) (hF : ∀ b, F b → F' b) : Lf w' F' es a c := by
  obtain ⟨h1, h2, h3⟩ := h
  refine ⟨h1, h2, fun hn => ?_⟩
  obtain ⟨b, off, g1, g2, g3⟩ := h3 hn
  exact ⟨b, off, g1, hF b g2, Tes.keep hk hF es b off g2 g3⟩
theorem Lf.nil (w : World) (F : Nat → Prop) (a : Option Addr) (c : Nat) : Lf w F [] a c := ⟨Nat.zero_le _, Nat.zero_le _, fun h => absurd rfl h⟩
theorem Lf.one {w : World} {F : Nat → Prop} {es : List Ex} {a : Option Addr} {c : Nat} (h : Lf w F es a c) : Lf w F (es.take 1) a c := by
  obtain ⟨h1, h2, h3⟩ := h
  refine ⟨by rw [List.length_take]; omega, by rw [List.length_take]; omega, fun hn => ?_⟩
  cases es with
  | nil => exact absurd rfl hn
  | cons e es =>
    obtain ⟨b, off, g1, g2, g3⟩ := h3 (by simp)
    refine ⟨b, off, g1, g2, ?_⟩
    unfold Tes at g3
    simp only [List.take_succ_cons, List.take_zero]
    unfold Tes
    exact ⟨g3.1, by unfold Tes; trivial⟩
theorem Te.kids {w : World} {F : Nat → Prop} {op set : Int} {kids : List Ex} {v : Value} (h : Te w F (.mk op set kids) v) : ∃ a cap, v = .agg #[.int .u8 op, .int .u32 set, .slice a kids.length cap] ∧ 0 ≤ set ∧ set < 4294967296 ∧ Lf w F kids a cap := by
  unfold Te at h
  obtain ⟨a, cap, h1, h2, h3, h4, h5, h6⟩ := h
  exact ⟨a, cap, h1, h4, h5, h2, h3, h6⟩
/-- by which classes each place is come to. -/
def byP (cl : Nat) (p : Au.Pl) : Nat → Nat := fun c => if c < cl then Au.by' p c else 0
theorem by_snoc (p : Au.Pl) (s : Int) (c : Nat) : Au.by' { p with sets := p.sets ++ [s] } c = if s / 2 ^ c % 2 = 1 then Au.by' p c ||| 2 ^ p.sets.length else Au.by' p c := by
  unfold Au.by'
  simp only [List.length_append, List.length_singleton, List.range_succ, List.foldl_append, List.foldl_cons, List.foldl_nil]
  have hf : ∀ (l : List Nat) (m : Nat), (∀ i ∈ l, i < p.sets.length) → l.foldl (fun m i => if ((p.sets ++ [s])[i]?.getD 0) / 2 ^ c % 2 = 1 then m ||| 2 ^ i else m) m = l.foldl (fun m i => if (p.sets[i]?.getD 0) / 2 ^ c % 2 = 1 then m ||| 2 ^ i else m) m := by
    intro l
    induction l with
    | nil => intro m _; rfl
    | cons a l ih =>
      intro m h
      simp only [List.foldl_cons]
      rw [List.getElem?_append_left (h a (by simp)), ih _ (fun i hi => h i (by simp [hi]))]
  rw [hf _ _ (fun i hi => List.mem_range.1 hi)]
  simp
theorem byP_snoc (cl : Nat) (p : Au.Pl) (s : Int) : byk (byP cl p) s p.sets.length cl = byP cl { p with sets := p.sets ++ [s] } := funext fun c => by
  unfold byk byP
  by_cases hc : c < cl
  · rw [if_pos hc, if_pos hc, by_snoc]
    by_cases h : s / 2 ^ c % 2 = 1
    · rw [if_pos ⟨hc, h⟩, if_pos h]
    · rw [if_neg (fun h2 => h h2.2), if_neg h]
  · rw [if_neg hc, if_neg hc, if_neg (fun h => hc h.1)]
/-- all places in a block, as they are known. -/
def Plm (w : World) (g cl : Nat) (p : Au.Pl) (fs : Nat) (vL : Value) (em : Nat) : Prop := Plb w g cl p.sets.length (byP cl p) p.next fs vL em
theorem chn_all (p : Au.Pl) (A N : Nat) (hA : A < 2 ^ p.sets.length) : chn p.next A N p.sets.length = (Au.chain p A N).next := funext fun i => by
  show (if i < p.sets.length ∧ A.testBit i = true then p.next i ||| N else p.next i) = if A.testBit i = true then p.next i ||| N else p.next i
  by_cases h : A.testBit i = true
  · have : i < p.sets.length := by
      apply Classical.byContradiction
      intro hn
      rw [Nat.testBit_lt_two_pow (Nat.lt_of_lt_of_le hA (Nat.pow_le_pow_right (by decide) (by omega)))] at h
      cases h
    rw [if_pos ⟨this, h⟩, if_pos h]
  · rw [if_neg (fun h2 => h h2.2), if_neg h]
theorem lt256 {n x : Nat} (hn : n ≤ 200) (h : x < 2 ^ n) : x < 2 ^ 256 := Nat.lt_of_lt_of_le h (Nat.pow_le_pow_right (by decide) (by omega))
/-- how begin ends. -/
def begP (w : World) (F : Nat → Prop) (g cl : Nat) (fs : Nat) (vL : Value) (em : Nat) (R : Option (Au.Fr × Au.Pl)) (e : Ending) (w' : World) : Prop :=
  match R with
  | none => e = .returned (.tuple #[.agg (zF 0), .bool false]) ∧ Only (· = g) w w'
  | some (f, p1) => (∃ a c, e = .returned (.tuple #[fmV f.op a f.left.length c f.nd, .bool true]) ∧ Lf w F f.left a c) ∧ Plm w' g cl p1 fs vL em ∧ Only (· = g) w w'
theorem begin_any (F : Nat → Prop) (g cl : Nat) (p : Au.Pl) (fs : Nat) (vL : Value) (em : Nat) (k : Ex) (v : Value) (w : World) (hP : Plm w g cl p fs vL em) (hp : p.sets.length ≤ 200) (hcl : cl ≤ 24) (hk : Te w F k v) :
    Calls Try.prog 56 #[.pointer (some ⟨g, 0, none⟩), v] w (begP w F g cl fs vL em (Au.begin' k p)) := by
  obtain ⟨op, set, kids⟩ := k
  obtain ⟨a, cap, rfl, hs0, hs1, hL⟩ := hk.kids
  obtain ⟨hl1, hl2, hl3⟩ := hL
  have hP0 : ∀ w', Only (fun _ => False) w w' → Plm w' g cl p fs vL em ∧ Only (· = g) w w' := fun w' h => ⟨Plb.only hP h (fun h => h), h.mono (fun _ h => h.elim)⟩
  have ha : 0 < kids.length → ∃ b off, a = some ⟨b, off, none⟩ := fun h => by
    obtain ⟨b, off, h1, _⟩ := hl3 (List.length_pos_iff.1 h)
    exact ⟨b, off, h1⟩
  unfold Au.begin'
  dsimp only
  by_cases o1 : op = 1
  · subst o1
    rw [if_pos rfl]
    by_cases hf : p.sets.length = 200
    · rw [if_pos hf]
      unfold Plm at hP
      rw [hf] at hP
      refine (begin1full g cl _ _ fs vL em set a _ cap w hP).mono ?_
      rintro e w' ⟨rfl, ho⟩
      exact ⟨rfl, ho.mono (fun _ h => h.elim)⟩
    · rw [if_neg hf]
      refine (begin1 g cl _ _ _ fs vL em set a _ cap w hP (by omega) hcl hs0 hs1).mono ?_
      rintro e w' ⟨rfl, hp', ho⟩
      refine ⟨⟨none, 0, rfl, Lf.nil _ _ _ _⟩, ?_, ho⟩
      unfold Plm
      rw [byP_snoc] at hp'
      have e : (p.sets ++ [set]).length = p.sets.length + 1 := by simp
      show Plb w' g cl (p.sets ++ [set]).length _ _ fs vL em
      rw [e]
      exact hp'
  rw [if_neg o1]
  by_cases o2 : op = 2
  · subst o2
    rw [if_pos rfl]
    refine (begin2 g set a _ cap w).mono ?_
    rintro e w' ⟨rfl, ho⟩
    exact ⟨⟨a, cap, rfl, hl1, hl2, hl3⟩, hP0 w' ho⟩
  rw [if_neg o2]
  by_cases o3 : op = 3
  · subst o3
    rw [if_pos rfl]
    refine (begin3 g set a _ cap w).mono ?_
    rintro e w' ⟨rfl, ho⟩
    exact ⟨⟨a, cap, rfl, hl1, hl2, hl3⟩, hP0 w' ho⟩
  rw [if_neg o3]
  have h1 : min 1 kids.length = (kids.take 1).length := by rw [List.length_take]
  by_cases o4 : op = 4
  · subst o4
    rw [if_pos rfl]
    refine (begin4 g set a _ cap w hl1 hl2 ha).mono ?_
    rintro e w' ⟨rfl, ho⟩
    exact ⟨⟨a, cap, by rw [h1], Lf.one ⟨hl1, hl2, hl3⟩⟩, hP0 w' ho⟩
  rw [if_neg o4]
  by_cases o5 : op = 5
  · subst o5
    rw [if_pos rfl]
    refine (begin5 g set a _ cap w hl1 hl2 ha).mono ?_
    rintro e w' ⟨rfl, ho⟩
    exact ⟨⟨a, cap, by rw [h1], Lf.one ⟨hl1, hl2, hl3⟩⟩, hP0 w' ho⟩
  rw [if_neg o5]
  by_cases o6 : op = 6
  · subst o6
    rw [if_pos rfl]
    refine (begin6 g set a _ cap w hl1 hl2 ha).mono ?_
    rintro e w' ⟨rfl, ho⟩
    exact ⟨⟨a, cap, by rw [h1], Lf.one ⟨hl1, hl2, hl3⟩⟩, hP0 w' ho⟩
  rw [if_neg o6]
  refine (beginO g op set a _ cap w (by omega)).mono ?_
  rintro e w' ⟨rfl, ho⟩
  exact ⟨⟨none, 0, rfl, Lf.nil _ _ _ _⟩, hP0 w' ho⟩
theorem end_any (g cl : Nat) (p : Au.Pl) (fs : Nat) (vL : Value) (em : Nat) (op : Int) (l : List Ex) (a : Option Addr) (m c : Nat) (x : Au.Nd) (w : World) (hP : Plm w g cl p fs vL em) (hn : p.sets.length ≤ 200) (hx : Au.OkN p x) :
    Calls Try.prog 57 #[.pointer (some ⟨g, 0, none⟩), fmV op a m c x] w fun e w' => e = .returned (ptV x) ∧ Plm w' g cl (Au.fin ⟨op, l, x⟩ p) fs vL em ∧ Only (· = g) w w' := by
  unfold Au.fin
  by_cases h : op = 4 ∨ op = 5
  · rw [if_pos h]
    refine (end_link g cl _ _ _ fs vL em op a m c x w hP hn (lt256 hn hx.1) h).mono ?_
    rintro e w' ⟨rfl, hp, ho⟩
    refine ⟨rfl, ?_, ho⟩
    rw [chn_all _ _ _ hx.2] at hp
    exact hp
  · rw [if_neg h]
    refine (end_plain g op a m c x w (fun h1 => h (Or.inl h1)) (fun h1 => h (Or.inr h1))).mono ?_
    rintro e w' ⟨rfl, ho⟩
    exact ⟨rfl, Plb.only hP ho (fun h => h), ho.mono (fun _ h => h.elim)⟩
theorem tke_any (g cl : Nat) (p : Au.Pl) (fs : Nat) (vL : Value) (em : Nat) (fb fo : Nat) (t : TypeId) (cs : Array Value) (op : Int) (a : Option Addr) (m c : Nat) (y x : Au.Nd) (w : World) (hP : Plm w g cl p fs vL em) (hn : p.sets.length ≤ 200) (hx : Au.OkN p x) (hy : Au.OkN p y) (hF : Fb w fb fo t cs op a m c y) (hgf : fb ≠ g) :
    Calls Try.prog 58 #[.pointer (some ⟨g, 0, none⟩), .pointer (some ⟨fb, fo, none⟩), ptV x] w fun e w' => e = .returned (.tuple #[]) ∧ (∃ cs', Fb w' fb fo t cs' op a m c (Au.tkN op y x) ∧ Same cs cs' fo) ∧ Plm w' g cl (Au.tkP op y x p) fs vL em ∧ Only (fun h => h = fb ∨ h = g) w w' := by
  unfold Au.tkN Au.tkP
  by_cases h : op = 2
  · subst h
    rw [if_pos rfl, if_pos rfl]
    refine (take_seq g cl _ _ _ fs vL em fb fo t cs a m c y x w hP hn (lt256 hn hx.1) hF hgf).mono ?_
    rintro e w' ⟨rfl, hf, hp, ho⟩
    refine ⟨rfl, hf, ?_, ho⟩
    rw [chn_all _ _ _ hy.2] at hp
    exact hp
  · rw [if_neg h, if_neg h]
    refine (take_alt g fb fo t cs op a m c y x w hF h).mono ?_
    rintro e w' ⟨rfl, hf, ho⟩
    exact ⟨rfl, hf, Plb.only hP ho (by intro h; exact hgf h.symm), ho.mono (fun _ h => Or.inl h)⟩
end Go.Proofs.Ytfbcijnacbfjpaa
