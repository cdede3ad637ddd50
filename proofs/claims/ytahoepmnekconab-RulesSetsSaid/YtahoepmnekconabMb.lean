/-
  A plan's text has these pieces; no program in it.
-/
import Derived.Test.YtahoepmnekconabSa
import Derived.Test.YtahoepmnekconabHdS
namespace Go.Proofs.Ytahoepmnekconab
set_option linter.unusedVariables false
set_option linter.unusedSimpArgs false
namespace Rl
open Hd (at' up ex)
def nmx (n b : Nat) : Nat → List Str
  | 0 => []
  | k + 1 => nmx n b k ++ if Hd.bit b k = true then [Hd.name n k] else []
def xp (n : Nat) (L : List Nat) : Nat → Nat → List Str
  | 0, i => [Hd.name n (at' L i)]
  | d + 1, i =>
    if at' L i % 12 = 4 then [[46]]
    else if at' L i % 12 = 5 then ([[91]] ++ nmx n (at' L (up L i)) n) ++ [[93]]
    else if at' L i % 12 = 6 then ([[91], [94]] ++ nmx n (at' L (up L i)) n) ++ [[93]]
    else if at' L i % 12 = 7 then ([[40]] ++ xp n L d (up L i)) ++ [[41], [42]]
    else if at' L i % 12 = 8 then ([[40]] ++ xp n L d (up L i)) ++ [[41], [43]]
    else if at' L i % 12 = 9 then ([[40]] ++ xp n L d (up L i)) ++ [[41], [63]]
    else if at' L i % 12 = 10 then ((([[40]] ++ xp n L d (up L i)) ++ [[124]]) ++ xp n L d (ex n L d (up L i)).2) ++ [[41]]
    else if at' L i % 12 = 11 then (xp n L d (up L i) ++ []) ++ xp n L d (ex n L d (up L i)).2
    else [Hd.name n (at' L i)]
def xpr (n : Nat) (L : List Nat) : List Str := if L.length = 0 then [] else xp n (L.take 30) 3 0
def fx (n : Nat) : List Str := ([wClass] ++ nmx n 255 n) ++ [[59]]
def sx (n jo af : Nat) : List Str := if jo = 0 then fx n else ((((fx n ++ [wJoin]) ++ nmx n jo n) ++ [[47]]) ++ nmx n af n) ++ [[59]]
def trx (n : Nat) (T : List Nat) (t : List Str) : Nat → List Str
  | 0 => t
  | k + 1 => ((((trx n T t k ++ [wTreat]) ++ [Hd.name n k]) ++ [[61]]) ++ [Hd.name n (at' T k)]) ++ [[59]]
def wdx (d : Nat) : Str := if d % 3 = 0 then wKeep else if d % 3 = 1 then wMay else wMust
def rux (n : Nat) (rs : List Pr) (t : List Str) : Nat → List Str
  | 0 => t
  | k + 1 => match rs[k]? with
    | none => rux n rs t k
    | some x => ((((rux n rs t k ++ [wdx x.d]) ++ xpr n x.L) ++ [[47]]) ++ xpr n x.R) ++ [[59]]
def tx (n jo af : Nat) (T : List Nat) (rs : List Pr) : List Str := rux n rs (trx n T (sx n jo af) (min T.length n)) (min rs.length 10)
/-- a text has these pieces, and no byte that begins none. -/
def Pc (l : Str) (X : List Str) : Prop := Pk l (X.map (fun x => (x, false)) ++ [([], false)])
theorem Pc.none : Pc [] [] := Pk.fin [] rfl
def sgn (c : UInt8) : Bool := !isN c && !decide (c.toNat = 10 ∨ c.toNat = 32 ∨ c.toNat = 9 ∨ c.toNat = 13) && !decide (c.toNat = 35) && signs.contains c
theorem Pc.sign {c : UInt8} {l : Str} {X : List Str} (hc : sgn c = true) (h : Pc l X) : Pc (c :: l) ([c] :: X) := by
  unfold sgn at hc
  simp only [Bool.and_eq_true, Bool.not_eq_true', decide_eq_false_iff_not] at hc
  obtain ⟨⟨⟨h1, h2⟩, h3⟩, h4⟩ := hc
  have e : q (c :: l) = c :: l := q_cons_other c l h2 h3
  have p : plen (c :: l) = 1 := by
    have h5 : nml (c :: l) = 0 := by rw [nml_cons, if_neg (by rw [h1]; exact Bool.false_ne_true)]
    unfold plen
    rw [h5, if_neg (Nat.lt_irrefl 0)]
    exact if_pos h4
  have := Pk.step (c :: l) _ (by rw [e, p]; omega) (by rw [e, p]; exact h)
  rw [e, p] at this
  exact this
theorem isN_other {c : UInt8} (h : isN c = true) : ¬ (c.toNat = 10 ∨ c.toNat = 32 ∨ c.toNat = 9 ∨ c.toNat = 13) ∧ c.toNat ≠ 35 := by
  unfold isN at h
  simp only [Bool.or_eq_true, Bool.and_eq_true, decide_eq_true_eq] at h
  omega
theorem nml_app {l : Str} (hl : nml l = 0) : ∀ w : Str, (∀ c ∈ w, isN c = true) → nml (w ++ l) = w.length
  | [], _ => hl
  | c :: w, h => by
    rw [List.cons_append, nml_cons, if_pos (h c List.mem_cons_self), nml_app hl w (fun x hx => h x (List.mem_cons_of_mem _ hx)), List.length_cons]
    omega
theorem Pc.name {w l : Str} {X : List Str} (hw : w ≠ []) (ha : ∀ c ∈ w, isN c = true) (hl : nml l = 0) (h : Pc l X) : Pc (w ++ l) (w :: X) := by
  have h1 := nml_app hl w ha
  have h2 : 0 < w.length := List.length_pos_iff.2 hw
  have e : q (w ++ l) = w ++ l := by
    cases w with
    | nil => exact absurd rfl hw
    | cons c w =>
      obtain ⟨a, b⟩ := isN_other (ha c List.mem_cons_self)
      exact q_cons_other c _ a b
  have p : plen (w ++ l) = w.length := by
    unfold plen
    rw [h1, if_pos h2]
  have := Pk.step (w ++ l) _ (by rw [e, p]; omega) (by rw [e, p, List.drop_left]; exact h)
  rw [e, p, List.take_left] at this
  exact this
def Lx (l : Str) (X : List Str) : Prop := ∀ r Y, nml r = 0 → Pc r Y → Pc (l ++ r) (X ++ Y)
def Lz (l : Str) (X : List Str) : Prop := ∀ r Y, Pc r Y → Pc (l ++ r) (X ++ Y)
def Fr (l : Str) : Prop := ∀ r, nml r = 0 → nml (l ++ r) = 0
def Fz (l : Str) : Prop := ∀ r, nml (l ++ r) = 0
theorem Lz.lx {l : Str} {X : List Str} (h : Lz l X) : Lx l X := fun r Y _ hp => h r Y hp
theorem Fz.fr {l : Str} (h : Fz l) : Fr l := fun r _ => h r
theorem Lx.app {a b : Str} {X Y : List Str} (h : Lx a X) (hf : Fr b) (k : Lx b Y) : Lx (a ++ b) (X ++ Y) := fun r Z hr hp => by
  rw [List.append_assoc, List.append_assoc]
  exact h _ _ (hf r hr) (k r Z hr hp)
theorem Lx.appz {a b : Str} {X Y : List Str} (h : Lx a X) (hf : Fz b) (k : Lz b Y) : Lz (a ++ b) (X ++ Y) := fun r Z hp => by
  rw [List.append_assoc, List.append_assoc]
  exact h _ _ (hf r) (k r Z hp)
theorem Lz.app {a b : Str} {X Y : List Str} (h : Lz a X) (k : Lz b Y) : Lz (a ++ b) (X ++ Y) := fun r Z hp => by
  rw [List.append_assoc, List.append_assoc]
  exact h _ _ (k r Z hp)
theorem Lz.appx {a b : Str} {X Y : List Str} (h : Lz a X) (k : Lx b Y) : Lx (a ++ b) (X ++ Y) := fun r Z hr hp => by
  rw [List.append_assoc, List.append_assoc]
  exact h _ _ (k r Z hr hp)
theorem Lz.nil : Lz [] [] := fun r Y h => h
theorem Lz.sign (c : UInt8) (hc : sgn c = true) : Lz [c] [[c]] := fun r Y h => Pc.sign hc h
theorem Lz.blank (c : UInt8) (hc : c.toNat = 10 ∨ c.toNat = 32 ∨ c.toNat = 9 ∨ c.toNat = 13) : Lz [c] [] := fun r Y h => Pk.same h (q_cons_blank c r hc)
theorem Fz.one (c : UInt8) (l : Str) (hc : isN c = false) : Fz (c :: l) := fun r => by
  rw [List.cons_append, nml_cons, if_neg (by rw [hc]; exact Bool.false_ne_true)]
theorem Fr.nil : Fr [] := fun r h => h
theorem Fr.app {a b : Str} (h : Fr a) (k : Fr b) : Fr (a ++ b) := fun r hr => by rw [List.append_assoc]; exact h _ (k r hr)
theorem Lx.word (w : Str) (hw : w ≠ []) (ha : ∀ c ∈ w, isN c = true) : Lx w [w] := fun r Y hr h => Pc.name hw ha hr h
def nmOk : Bool := (List.range 6).all (fun m => isN (65 + m).toUInt8 && decide ((65 + m).toUInt8.toNat = 65 + m))
theorem nmOk_true : nmOk = true := by kernel_rfl
theorem isN_name {n : Nat} (hn : 1 ≤ n) (hn6 : n ≤ 6) (i : Nat) : isN (65 + i % n).toUInt8 = true ∧ (65 + i % n).toUInt8.toNat = 65 + i % n := by
  have h := nmOk_true
  unfold nmOk at h
  rw [List.all_eq_true] at h
  have := h (i % n) (List.mem_range.2 (by have := Nat.mod_lt i (by omega : n > 0); omega))
  rw [Bool.and_eq_true, decide_eq_true_eq] at this
  exact this
theorem lx_name {n : Nat} (hn : 1 ≤ n) (hn6 : n ≤ 6) (i : Nat) : Lx (Hd.name n i) [Hd.name n i] := Lx.word _ (by simp [Hd.name]) (fun c hc => by
  simp only [Hd.name, List.mem_singleton] at hc
  rw [hc]
  exact (isN_name hn hn6 i).1)
theorem lx_names {n : Nat} (hn : 1 ≤ n) (hn6 : n ≤ 6) (b : Nat) : ∀ k, Lx (Hd.names n b k) (nmx n b k) ∧ Fr (Hd.names n b k)
  | 0 => ⟨Lz.nil.lx, Fr.nil⟩
  | k + 1 => by
    obtain ⟨h1, h2⟩ := lx_names hn hn6 b k
    rw [Hd.names, nmx]
    by_cases hb : Hd.bit b k = true
    · rw [if_pos hb, if_pos hb]
      have hf : Fz (32 :: Hd.name n k) := Fz.one 32 _ rfl
      refine ⟨h1.app hf.fr ?_, h2.app hf.fr⟩
      exact (Lz.blank 32 (by decide)).appx (lx_name hn hn6 k)
    · rw [if_neg hb, if_neg hb, List.append_nil, List.append_nil]
      exact ⟨h1, h2⟩
theorem lx_ex {n : Nat} (hn : 1 ≤ n) (hn6 : n ≤ 6) (L : List Nat) : ∀ d i, Lx (ex n L d i).1 (xp n L d i)
  | 0, i => lx_name hn hn6 _
  | d + 1, i => by
    have h1 := lx_ex hn hn6 L d (up L i)
    have h2 := lx_ex hn hn6 L d (ex n L d (up L i)).2
    have h3 := (lx_names hn hn6 (at' L (up L i)) n)
    have z41 : ∀ l, Fz (41 :: l) := fun l => Fz.one 41 l rfl
    rw [ex, xp]
    by_cases c4 : at' L i % 12 = 4
    · rw [if_pos c4, if_pos c4]
      exact (Lz.sign 46 rfl).lx
    rw [if_neg c4, if_neg c4]
    by_cases c5 : at' L i % 12 = 5
    · rw [if_pos c5, if_pos c5]
      exact (((Lz.sign 91 rfl).appx h3.1).appz (Fz.one 93 [] rfl) (Lz.sign 93 rfl)).lx
    rw [if_neg c5, if_neg c5]
    by_cases c6 : at' L i % 12 = 6
    · rw [if_pos c6, if_pos c6]
      exact ((((Lz.sign 91 rfl).app (Lz.sign 94 rfl)).appx h3.1).appz (Fz.one 93 [] rfl) (Lz.sign 93 rfl)).lx
    rw [if_neg c6, if_neg c6]
    by_cases c7 : at' L i % 12 = 7
    · rw [if_pos c7, if_pos c7]
      exact (((Lz.sign 40 rfl).appx h1).appz (z41 [42]) ((Lz.sign 41 rfl).app (Lz.sign 42 rfl))).lx
    rw [if_neg c7, if_neg c7]
    by_cases c8 : at' L i % 12 = 8
    · rw [if_pos c8, if_pos c8]
      exact (((Lz.sign 40 rfl).appx h1).appz (z41 [43]) ((Lz.sign 41 rfl).app (Lz.sign 43 rfl))).lx
    rw [if_neg c8, if_neg c8]
    by_cases c9 : at' L i % 12 = 9
    · rw [if_pos c9, if_pos c9]
      exact (((Lz.sign 40 rfl).appx h1).appz (z41 [63]) ((Lz.sign 41 rfl).app (Lz.sign 63 rfl))).lx
    rw [if_neg c9, if_neg c9]
    by_cases c10 : at' L i % 12 = 10
    · rw [if_pos c10, if_pos c10]
      exact (((((Lz.sign 40 rfl).appx h1).appz (Fz.one 124 [] rfl) (Lz.sign 124 rfl)).appx h2).appz (Fz.one 41 [] rfl) (Lz.sign 41 rfl)).lx
    rw [if_neg c10, if_neg c10]
    by_cases c11 : at' L i % 12 = 11
    · rw [if_pos c11, if_pos c11]
      exact (h1.appz (Fz.one 32 [] rfl) (Lz.blank 32 (by decide))).appx h2
    rw [if_neg c11, if_neg c11]
    exact lx_name hn hn6 _
theorem lx_expr {n : Nat} (hn : 1 ≤ n) (hn6 : n ≤ 6) (L : List Nat) : Lx (Hd.expr n L) (xpr n L) := by
  unfold Hd.expr xpr
  by_cases h : L.length = 0
  · rw [if_pos h, if_pos h]; exact Lz.nil.lx
  · rw [if_neg h, if_neg h]; exact lx_ex hn hn6 _ 3 0
theorem lz_end : Lz [59, 10] [[59]] := (Lz.sign 59 rfl).app (Lz.blank 10 (by decide))
theorem fz_end : Fz [59, 10] := Fz.one 59 _ rfl
theorem lz_first {n : Nat} (hn : 1 ≤ n) (hn6 : n ≤ 6) : Lz (Hd.first n) (fx n) := by
  have h := lx_names hn hn6 255 n
  exact ((Lx.word wClass (by decide) (by decide)).app h.2 h.1).appz fz_end lz_end
theorem lz_second {n : Nat} (hn : 1 ≤ n) (hn6 : n ≤ 6) (jo af : Nat) : Lz (Hd.second n jo af) (sx n jo af) := by
  have h := lx_names hn hn6 jo n
  have k := lx_names hn hn6 af n
  unfold Hd.second sx
  by_cases e : jo = 0
  · rw [if_pos e, if_pos e]; exact lz_first hn hn6
  · rw [if_neg e, if_neg e]
    have s1 := (lz_first hn hn6).appx (Lx.word wJoin (by decide) (by decide))
    have s2 := s1.app h.2 h.1
    have s3 : Lz [32, 47] [[47]] := (Lz.blank 32 (by decide)).app (Lz.sign 47 rfl)
    have s4 := s2.appz (Fz.one 32 [47] rfl) s3
    exact (s4.appx k.1).appz fz_end lz_end
theorem lz_treat {n : Nat} (hn : 1 ≤ n) (hn6 : n ≤ 6) (T : List Nat) {t : Str} {X : List Str} (h : Lz t X) : ∀ k, Lz (Hd.treat n T t k) (trx n T X k)
  | 0 => h
  | k + 1 => by
    have ih := lz_treat hn hn6 T h k
    rw [Hd.treat, trx]
    have s0 : Lz [116, 114, 101, 97, 116, 32] [wTreat] := (Lx.word wTreat (by decide) (by decide)).appz (Fz.one 32 [] rfl) (Lz.blank 32 (by decide))
    have s1 : Lz [32, 61, 32] [[61]] := ((Lz.blank 32 (by decide)).app (Lz.sign 61 rfl)).app (Lz.blank 32 (by decide))
    have s2 := ((ih.app s0).appx (lx_name hn hn6 k)).appz (Fz.one 32 [61, 32] rfl) s1
    exact (s2.appx (lx_name hn hn6 (at' T k))).appz fz_end lz_end
theorem lz_word (d : Nat) : Lz (Hd.word d) [wdx d] := by
  unfold Hd.word wdx
  have b := Lz.blank 32 (by decide)
  have f : Fz [32] := Fz.one 32 [] rfl
  by_cases h0 : d % 3 = 0
  · rw [if_pos h0, if_pos h0]; exact (Lx.word wKeep (by decide) (by decide)).appz f b
  rw [if_neg h0, if_neg h0]
  by_cases h1 : d % 3 = 1
  · rw [if_pos h1, if_pos h1]; exact (Lx.word wMay (by decide) (by decide)).appz f b
  rw [if_neg h1, if_neg h1]
  exact (Lx.word wMust (by decide) (by decide)).appz f b
theorem lz_ru {n : Nat} (hn : 1 ≤ n) (hn6 : n ≤ 6) (rs : List Pr) {t : Str} {X : List Str} (h : Lz t X) : ∀ k, Lz (Hd.ru n rs t k) (rux n rs X k)
  | 0 => h
  | k + 1 => by
    have ih := lz_ru hn hn6 rs h k
    rw [Hd.ru, rux]
    cases rs[k]? with
    | none => exact ih
    | some x =>
      have s1 : Lz [32, 47, 32] [[47]] := ((Lz.blank 32 (by decide)).app (Lz.sign 47 rfl)).app (Lz.blank 32 (by decide))
      have s2 := ((ih.app (lz_word x.d)).appx (lx_expr hn hn6 x.L)).appz (Fz.one 32 [47, 32] rfl) s1
      exact (s2.appx (lx_expr hn hn6 x.R)).appz fz_end lz_end
theorem pc_text {n : Nat} (hn : 1 ≤ n) (hn6 : n ≤ 6) (jo af : Nat) (T : List Nat) (rs : List Pr) : Pc (Hd.text n jo af T rs) (tx n jo af T rs) := by
  have := lz_ru hn hn6 rs (lz_treat hn hn6 T (lz_second hn hn6 jo af) (min T.length n)) (min rs.length 10) [] [] Pc.none
  rw [List.append_nil, List.append_nil] at this
  exact this
end Rl
end Go.Proofs.Ytahoepmnekconab
