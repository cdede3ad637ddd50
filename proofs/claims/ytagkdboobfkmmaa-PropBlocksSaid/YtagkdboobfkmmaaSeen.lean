/-
  A set of blocks, told by the strings that they are: what it holds, and how many; no walk in it.
-/
import Derived.Test.YtagkdboobfkmmaaRight
import Derived.StringKeys
namespace Go.Proofs.Ytagkdboobfkmmaa
open Go.RowKit Go.Maps
set_option linter.unusedVariables false
set_option linter.unusedSimpArgs false

theorem info5 : (Try.prog.info? 5).map (fun i => (i.zero, i.size, i.bytes)) = some (some (.int .u8 0), 1, 1) := by kernel_rfl
/-- a block's string as a key. -/
def sk (f : List Int) : Lit := .string (f.map fun n => UInt8.ofNat n.toNat)
theorem sk_inj {f g : List Int} (hf : Byt f) (hg : Byt g) (h : sk f = sk g) : f = g := by
  unfold sk at h
  injection h with h
  apply List.ext_getElem?
  intro j
  have hj := congrArg (fun l => l[j]?) h
  simp only [List.getElem?_map] at hj
  by_cases hl : j < 256
  · have lf : j < f.length := by rw [hf.1]; exact hl
    have lg : j < g.length := by rw [hg.1]; exact hl
    rw [List.getElem?_eq_getElem lf, List.getElem?_eq_getElem lg] at hj ⊢
    have h1 := hf.2 f[j] (List.getElem_mem _)
    have h2 := hg.2 g[j] (List.getElem_mem _)
    simp only [Option.map_some, Option.some.injEq] at hj
    have h3 := congrArg UInt8.toNat hj
    rw [UInt8.toNat_ofNat', UInt8.toNat_ofNat'] at h3
    rw [Option.some.injEq]
    omega
  · rw [List.getElem?_eq_none (by rw [hf.1]; omega), List.getElem?_eq_none (by rw [hg.1]; omega)]
theorem sk_key {f : List Int} (h : Byt f) : keyOf Try.prog 9 (.string (strOfNums f)) = some (sk f) := by
  have hs : (strOfNums f).size ≤ maxLen := by rw [strOfNums_size, h.1]; unfold maxLen; omega
  unfold keyOf
  simp [Try.underlying9, mapKey, hs]
  rfl
/-- the map tells the blocks. -/
def SD (D : DataW Unit) (S : List (List Int)) : Prop := Tidy D ∧ (∀ f, Byt f → Maps.has D (sk f) = decide (f ∈ S)) ∧ Maps.size D = S.length
theorem sd_start : SD (.map []) [] := ⟨tidy_empty, fun f _ => rfl, rfl⟩
theorem sd_put {D : DataW Unit} {S : List (List Int)} {f : List Int} (h : SD D S) (hf : Byt f) : SD (D.put (sk f) (.lit (.bool true))) (add S f) := by
  obtain ⟨ht, hh, hs⟩ := h
  have hk : WideAt.IsKeyLit (sk f) := trivial
  refine ⟨ht.put hk _, fun g hg => ?_, ?_⟩
  · by_cases e : g = f
    · subst e
      rw [has_put_same ht.isMap hk]
      simp [add_mem]
    · rw [has_put_other (fun h' => e (sk_inj hg hf h')), hh g hg]
      simp [add_mem, e]
  · rw [size_put ht, hh f hf, hs]
    unfold add
    by_cases hm : f ∈ S
    · simp [hm]
    · simp [hm]
theorem add_nodup {S : List (List Int)} {f : List Int} (h : S.Nodup) : (add S f).Nodup := by
  unfold add
  split
  · exact h
  · rename_i hn
    rw [List.nodup_append]
    exact ⟨h, by simp, fun a ha b hb => by simp at hb; subst hb; exact fun e => hn (e ▸ ha)⟩
/-- the blocks seen behind k rows. -/
def Sn (M : List Rg) (k : Nat) (S : List (List Int)) : Prop := S.Nodup ∧ ∀ x, x ∈ S ↔ x = Pr.zeros ∨ ∃ i, i < k ∧ x = Pr.blk M i
theorem sn_start (M : List Rg) : Sn M 0 (add [] Pr.zeros) := by
  refine ⟨add_nodup List.nodup_nil, fun x => ?_⟩
  rw [add_mem]
  constructor
  · rintro (h | h)
    · exact absurd h List.not_mem_nil
    · exact Or.inl h
  · rintro (h | ⟨i, hi, _⟩)
    · exact Or.inr h
    · omega
theorem sn_next {M : List Rg} {k : Nat} {S : List (List Int)} (h : Sn M k S) : Sn M (k + 1) (add S (Pr.blk M k)) := by
  refine ⟨add_nodup h.1, fun x => ?_⟩
  rw [add_mem, h.2 x]
  constructor
  · rintro ((h | ⟨i, hi, e⟩) | h)
    · exact Or.inl h
    · exact Or.inr ⟨i, by omega, e⟩
    · exact Or.inr ⟨k, by omega, h⟩
  · rintro (h | ⟨i, hi, e⟩)
    · exact Or.inl (Or.inl h)
    · by_cases ei : i = k
      · subst ei; exact Or.inr e
      · exact Or.inl (Or.inr ⟨i, by omega, e⟩)
theorem sn_end {M : List Rg} {k : Nat} {S B : List (List Int)} (h : Sn M k S) (hk : k ≤ 4352) (hz : ∀ i, k ≤ i → i < 4352 → Pr.blk M i = Pr.zeros) (hB : Pr.Bs M B) : S.length = B.length + 1 := by
  have hn : (Pr.zeros :: B).Nodup := List.nodup_cons.2 ⟨fun hm => ((hB.2 _).1 hm).1 rfl, hB.1⟩
  have hle : ∀ x, x ∈ S ↔ x ∈ Pr.zeros :: B := fun x => by
    rw [h.2 x, List.mem_cons]
    constructor
    · rintro (e | ⟨i, hi, e⟩)
      · exact Or.inl e
      · by_cases ez : x = Pr.zeros
        · exact Or.inl ez
        · exact Or.inr ((hB.2 x).2 ⟨ez, i, by omega, e⟩)
    · rintro (e | e)
      · exact Or.inl e
      · obtain ⟨h1, i, hi, e⟩ := (hB.2 x).1 e
        by_cases hik : i < k
        · exact Or.inr ⟨i, hik, e⟩
        · exact absurd (e.trans (hz i (by omega) hi)) h1
  have h1 := Pr.nodup_length h.1 (fun x hx => (hle x).1 hx)
  have h2 := Pr.nodup_length hn (fun x hx => (hle x).2 hx)
  simp only [List.length_cons] at h1 h2
  omega
/-- where all ranges end ahead of a row, it and those behind it are zeros. -/
theorem blk_far {M : List Rg} {k i : Nat} (h : ∀ x ∈ M, x.hi < 256 * (k : Int)) (hi : k ≤ i) : Pr.blk M i = Pr.zeros := by
  apply List.map_congr_left
  intro j _
  exact Pr.of_below (fun x hx => by have := h x hx; omega)
theorem last_hi {most : Int} : ∀ {M : List Rg} {a : Int} {x : Rg}, Pr.okFrom most a M = true → M[M.length - 1]? = some x → ∀ y ∈ M, y.hi ≤ x.hi
  | [], _, _, _, _, y, hy => absurd hy List.not_mem_nil
  | [z], _, x, _, h, y, hy => by
    simp at h hy
    subst h hy
    exact Int.le_refl _
  | z :: z' :: M, a, x, hok, h, y, hy => by
    obtain ⟨hz, h'⟩ := Pr.ok_cons.1 hok
    have hx' : (z' :: M)[(z' :: M).length - 1]? = some x := by
      rw [← h]
      simp
    have ih := last_hi h' hx'
    rcases List.mem_cons.1 hy with rfl | hy
    · have h1 := ih z' (by simp)
      have h2 := (Pr.ok_cons.1 h').1
      have := h2.1
      have := h2.2.1
      omega
    · exact ih y hy
theorem row_heap {w : World} {base g : Nat} {xs : List Value} (h : w.ownsRow base 5 1 (.slice (some ⟨g, 0, none⟩) 256 256) 256 xs) : w.heap[g]? = some (.cells xs.toArray 5 (0, 0)) := by
  obtain ⟨hl, ⟨hv, _⟩ | ⟨g', cap, cur, hv, _, hh, _, _, hs, ht⟩⟩ := h
  · cases hv
  · injection hv with h1 h2 h3
    injection h1 with h1
    injection h1 with h1
    subst h1 h3
    rw [hh, ← ht, List.take_of_length_le (by rw [Array.length_toList, hs]; omega)]
theorem made_zeros : (madeCells (Value.int .u8 0).cells (256 * 1)).toList.toArray = bC Pr.zeros := by
  have : (madeCells (Value.int .u8 0).cells (256 * 1)) = bC Pr.zeros := by kernel_rfl
  rw [this]
theorem conv_blk {w : World} {g : Nat} {f : List Int} (h : w.heap[g]? = some (.cells (bC f) 5 (0, 0))) (hf : f.length = 256) : (convert 45 9 (.slice (some ⟨g, 0, none⟩) 256 256)).run Try.prog w = .ok (.string (strOfNums f)) w := by
  refine run_convert_bytes_arg w 45 5 Try.underlying45 Try.underlying5 g 0 256 256 f hf (fun i hi => ?_) 9 Try.underlying9
  rw [Nat.zero_add, cell_of_row _ _ _ _ _ _ h]
  exact bC_at hf hi
theorem wpList_insert_own {H : Type} {P : Program} (w : World) {ops : Array Oper} {rest : List Oper} {o : Oper} {a : Act} {Q : Exit → Act → World → Prop}
    (hg : o.guard = none) (m x v : Operand) (t : TypeId) (hop : o.op = Op.insert t m x v)
    (k e : TypeId) (K : Keyed P k) (ht : P.underlying t = some (.map k e)) (R : Value → Option (DataW H × List MemPlace)) (b n : Nat) (D : DataW H)
    (hm : a.eval m = .map (some b)) (hown : w.ownsMap P k R b n D) (hn : n < maxLen) (key val : Value) (kl : Lit) (hx : a.eval x = key) (hv : a.eval v = val) (hkey : keyOf P k key = some kl)
    (d : DataW H) (ps : List MemPlace) (hval : R val = some (d, ps))
    (hK : ∀ w', w'.ownsMap P k R b (n + 1) (D.put kl d) → w.grownBy w' (some b) → wpList P ops Q rest (a.put o.dst undef) w') :
    wpList P ops Q (o :: rest) a w := by
  refine wpList_plain hg fun K' hK' => ?_
  obtain ⟨w', hrun, r1, r2⟩ := hown.update K ht hn hkey hval
  unfold Oper.wp
  simp [execOp, hop, hm, hx, hv, hrun, Result.andThen]
  exact hK' _ _ (hK w' r1 r2)
end Go.Proofs.Ytagkdboobfkmmaa
