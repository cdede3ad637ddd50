/-
  Lines one behind the other; all parts of a text in lines as long as may be; clusters one behind the other: in plain words; no walk in it. (For layers 17, 18, 22.)
-/
import Derived.Test.YtegoadhnilmchaaPq
import Derived.Test.YtegoadhnilmchaaFc
import Derived.Test.YtegoadhnilmchaaPb
namespace Go.Proofs.Ytegoadhnilmchaa
set_option linter.unusedVariables false
set_option linter.unusedSimpArgs false
namespace Lv
/-- lines one behind the other, from a boundary up to another one. -/
def Chn : Nat → Nat → List Ln → Prop
  | a, b, [] => a = b
  | a, b, l :: L => l.a = a ∧ a < l.b ∧ Chn l.b b L
theorem Chn.le : ∀ {a b : Nat} {L : List Ln}, Chn a b L → a ≤ b
  | a, b, [], h => Nat.le_of_eq h
  | a, b, l :: L, h => Nat.le_trans (Nat.le_of_lt h.2.1) (Chn.le h.2.2)
theorem Chn.app {m b : Nat} {M : List Ln} (h2 : Chn m b M) : ∀ {a : Nat} {L : List Ln}, Chn a m L → Chn a b (L ++ M)
  | a, [], h => by have e : a = m := h; subst e; exact h2
  | a, l :: L, h => ⟨h.1, h.2.1, Chn.app h2 h.2.2⟩
theorem Chn.len : ∀ {a b : Nat} {L : List Ln}, Chn a b L → a + L.length ≤ b
  | a, b, [], h => Nat.le_of_eq h
  | a, b, l :: L, h => by
    have := Chn.len h.2.2
    have := h.2.1
    rw [List.length_cons]
    omega
theorem Chn.nil_iff {a b : Nat} {L : List Ln} (h : Chn a b L) : L = [] ↔ a = b := by
  cases L with
  | nil => exact ⟨fun _ => h, fun _ => rfl⟩
  | cons l L => exact ⟨fun e => (by cases e), fun e => absurd h.2.2.le (by have := h.2.1; omega)⟩
theorem chn_lines (C : List Ct) (O : List Nat) (t wi b : Nat) : ∀ (n a : Nat), b - a ≤ n → a ≤ b → Chn a b (Sp.lines C O t wi a b)
  | 0, a, h, hab => by
    have e : a = b := by omega
    rw [Sp.lines_nil (by omega)]
    exact e
  | n + 1, a, h, hab => by
    by_cases e : a < b
    · have hn := Sp.nxt_in (C := C) (O := O) (t := t) (W := wi) e
      rw [Sp.lines_cons e]
      have h2 := hn.1
      exact ⟨rfl, hn.1, chn_lines C O t wi b n (Sp.nxt C O t wi a b).1 (by omega) hn.2⟩
    · rw [Sp.lines_nil (by omega)]
      show a = b
      omega
/-- the first i parts in lines as long as may be. -/
def fof (C : List Ct) (O : List Nat) (t wi : Nat) (P : List Nat) : Nat → List Ln
  | 0 => []
  | i + 1 => fof C O t wi P i ++ Sp.lines C O t wi (It.fr P i) (P.getD i 0)
theorem fof_next {C : List Ct} {O : List Nat} {t wi i x f : Nat} {P : List Nat} {D : List Ln} (h : fof C O t wi P i = D) (hx : P[i]? = some x) (hf : It.fr P i = f) : fof C O t wi P (i + 1) = D ++ Sp.lines C O t wi f x := by
  have e : P.getD i 0 = x := by rw [List.getD_eq_getElem?_getD, hx]; rfl
  show fof C O t wi P i ++ _ = _
  rw [h, hf, e]
theorem fof_len {C : List Ct} {O : List Nat} {t wi m : Nat} : ∀ i, i ≤ (It.parts O m).length → (fof C O t wi (It.parts O m) i).length ≤ It.fr (It.parts O m) i
  | 0, _ => Nat.zero_le _
  | i + 1, h => by
    obtain ⟨x, hx⟩ : ∃ x, (It.parts O m)[i]? = some x := ⟨_, List.getElem?_eq_getElem (by omega)⟩
    have h1 := fof_len (C := C) (O := O) (m := m) (t := t) (wi := wi) i (by omega)
    have h2 := (It.fr_le hx).1
    rw [It.fr_succ _ hx, fof_next rfl hx rfl, List.length_append]
    have h3 := lines_len C O t wi x (It.fr (It.parts O m) i)
    omega
/-- what may be done in a text of k clusters. -/
structure Opk (O : List Nat) (k : Nat) : Prop where
  len : O.length = k + 1
  last : O.getD k 0 = 2
  first : 0 < k → O.getD 0 0 ≠ 2
theorem parts_snoc {O : List Nat} {k : Nat} (h : Opk O k) : It.parts O (k + 1) = It.parts O k ++ [k] := It.parts_yes h.last
theorem parts_pos {O : List Nat} {k : Nat} (h : Opk O k) : 0 < (It.parts O (k + 1)).length := by rw [parts_snoc h, List.length_append]; exact Nat.succ_pos _
theorem fr_last {O : List Nat} {k : Nat} (h : Opk O k) : It.fr (It.parts O (k + 1)) (It.parts O (k + 1)).length = k := by
  have e : (It.parts O (k + 1)).length = (It.parts O k).length + 1 := by rw [parts_snoc h, List.length_append]; rfl
  rw [e]
  refine It.fr_succ _ ?_
  rw [parts_snoc h, List.getElem?_append_right (Nat.le_refl _), Nat.sub_self]
  rfl
/-- part i: from where, up to where. -/
theorem part_at {O : List Nat} {k i : Nat} (h : Opk O k) (hi : i < (It.parts O (k + 1)).length) : ∃ x, (It.parts O (k + 1))[i]? = some x ∧ (It.parts O (k + 1)).getD i 0 = x ∧ It.fr (It.parts O (k + 1)) (i + 1) = x ∧ It.fr (It.parts O (k + 1)) i ≤ x ∧ x ≤ k ∧ O.getD x 0 = 2 ∧ (0 < k → It.fr (It.parts O (k + 1)) i < x) ∧ ∀ y, It.fr (It.parts O (k + 1)) i < y → y < x → O.getD y 0 ≠ 2 := by
  obtain ⟨x, hx⟩ : ∃ x, (It.parts O (k + 1))[i]? = some x := ⟨_, List.getElem?_eq_getElem hi⟩
  have h1 := It.parts_at hx
  have h2 := It.fr_le hx
  refine ⟨x, hx, by rw [List.getD_eq_getElem?_getD, hx]; rfl, It.fr_succ _ hx, h2.1, by omega, h1.2, fun hk => ?_, fun y y1 y2 => It.parts_none hx y1 y2⟩
  by_cases e : 0 < i
  · exact h2.2 e
  · have e0 : i = 0 := by omega
    subst e0
    rw [It.fr_zero]
    rcases Nat.eq_zero_or_pos x with g | g
    · subst g
      exact absurd h1.2 (h.first hk)
    · exact g
section
variable {C : List Ct} {O : List Nat} {t wi k : Nat}
theorem fof_chn (h : Opk O k) : ∀ i, i ≤ (It.parts O (k + 1)).length → Chn 0 (It.fr (It.parts O (k + 1)) i) (fof C O t wi (It.parts O (k + 1)) i)
  | 0, _ => rfl
  | i + 1, hi => by
    obtain ⟨x, hx, e1, e2, e3, e4, -⟩ := part_at h (show i < _ by omega)
    have q1 := fof_chn h i (by omega)
    rw [e2, fof_next rfl hx rfl]
    exact Chn.app (chn_lines C O t wi x _ _ (Nat.le_refl _) e3) q1
/-- all lines: from the first boundary to the last one. -/
theorem all_chn (h : Opk O k) : Chn 0 k (fof C O t wi (It.parts O (k + 1)) (It.parts O (k + 1)).length) := by
  have := fof_chn (C := C) (t := t) (wi := wi) h _ (Nat.le_refl _)
  rw [fr_last h] at this
  exact this
end
/-- clusters one behind the other, none without bytes. -/
def Ctg (C : List Ct) : Prop := ∀ i, i < C.length → (Sp.at' C i).pl = It.sum (C.take i) ∧ 1 ≤ (Sp.at' C i).len
theorem cts_ctg : ∀ (S : List Bt) (p i : Nat), i < (Pa.cts S p).length → (Sp.at' (Pa.cts S p) i).pl = p + It.sum ((Pa.cts S p).take i) ∧ 1 ≤ (Sp.at' (Pa.cts S p) i).len
  | [], p, i, h => by simp [Pa.cts] at h
  | b :: S, p, 0, h => ⟨rfl, by show 1 ≤ 1 + b.len % 4; omega⟩
  | b :: S, p, i + 1, h => by
    have h' : i < (Pa.cts S (p + (1 + b.len % 4))).length := by simpa [Pa.cts] using h
    have ih := cts_ctg S (p + (1 + b.len % 4)) i h'
    have e : Sp.at' (Pa.cts (b :: S) p) (i + 1) = Sp.at' (Pa.cts S (p + (1 + b.len % 4))) i := rfl
    rw [e]
    refine ⟨?_, ih.2⟩
    rw [ih.1]
    show _ = p + ((1 + b.len % 4) + It.sum ((Pa.cts S (p + (1 + b.len % 4))).take i))
    omega
theorem ctg_pa (S : List Bt) : Ctg (Pa.cts S 0) := fun i hi => by
  have := cts_ctg S 0 i hi
  exact ⟨by rw [this.1, Nat.zero_add], this.2⟩
theorem sum_next {C : List Ct} {i : Nat} (h : i < C.length) : It.sum (C.take (i + 1)) = It.sum (C.take i) + (Sp.at' C i).len := by
  have e : C[i]? = some C[i] := List.getElem?_eq_getElem h
  rw [List.take_add_one, e, It.sum_append]
  show _ + (C[i].len + 0) = _
  unfold Sp.at'
  rw [List.getD_eq_getElem?_getD, e]
  rfl
theorem sum_rise {C : List Ct} (hC : Ctg C) {a : Nat} : ∀ {b : Nat}, a < b → b ≤ C.length → It.sum (C.take a) < It.sum (C.take b)
  | 0, h, _ => by omega
  | b + 1, h, hb => by
    have h1 := sum_next (C := C) (i := b) (by omega)
    have h2 := (hC b (by omega)).2
    by_cases e : a < b
    · have := sum_rise hC e (by omega)
      omega
    · have e2 : a = b := by omega
      subst e2
      omega
end Lv
end Go.Proofs.Ytegoadhnilmchaa
