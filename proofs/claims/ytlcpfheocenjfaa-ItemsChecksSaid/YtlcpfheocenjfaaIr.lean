/-
  What Para makes and what items.Make makes of breaks below 3 is right: for ItemsChecks, ItemsRight.
-/
import Derived.Test.YtlcpfheocenjfaaPa
import Derived.Test.YtlcpfheocenjfaaCe4
import Derived.Test.YtlcpfheocenjfaaAl
import Derived.Test.YtlcpfheocenjfaaIc
namespace Go.Proofs.Ytlcpfheocenjfaa
open Go.RowKit Go.Maps
set_option linter.unusedVariables false
set_option linter.unusedSimpArgs false
theorem row_cons {c : Cg} {C : List Cg} {e : Int} (h : It.good e c) : It.row (c :: C) e = It.row C (e + c.len) := by
  conv => lhs; unfold It.row
  rw [decide_eq_true h, Bool.true_and]
theorem cts_row : ∀ (Q : List Bt) (p : Nat), p + It.sum (Pa.cts Q p) ≤ 4096 → It.row ((Pa.cts Q p).map Ct.g) (p : Int) = true
  | [], _, _ => rfl
  | b :: Q, p, h => by
    simp only [Pa.cts, It.sum] at h
    simp only [Pa.cts, List.map_cons]
    have ih := cts_row Q (p + (1 + b.len % 4)) (by omega)
    rw [row_cons (by
      refine ⟨rfl, ?_, ?_, ?_, ?_, ?_⟩
      · show (1 : Int) ≤ ((1 + b.len % 4 : Nat) : Int); omega
      · show ((1 + b.len % 4 : Nat) : Int) ≤ 4096 - (p : Int); omega
      · show (0 : Int) ≤ ((b.cells % 3 : Nat) : Int); omega
      · show ((b.cells % 3 : Nat) : Int) ≤ 2; omega
      · show b.kind % 3 ≤ 2; omega)]
    show It.row _ ((p : Int) + ((1 + b.len % 4 : Nat) : Int)) = true
    rw [← Int.natCast_add]
    exact ih
theorem ops_fit (L : List Bt) (m : Nat) : It.fit (Pa.ops L m ++ [2]) m = true := by
  have hl := Pa.ops_len L m
  unfold It.fit
  rw [decide_eq_true, Bool.true_and]
  · rw [List.all_eq_true]
    intro x hx
    rw [List.mem_append] at hx
    rw [decide_eq_true_eq]
    rcases hx with hx | hx
    · unfold Pa.ops at hx
      obtain ⟨i, _, rfl⟩ := List.mem_map.1 hx
      unfold Pa.op
      by_cases h : i = 0
      · rw [if_pos h]; omega
      · rw [if_neg h]; omega
    · simp at hx; omega
  · refine ⟨by rw [List.length_append, hl]; rfl, ?_, fun h0 => ?_⟩
    · rw [List.getD_eq_getElem?_getD, List.getElem?_append_right (by omega), hl, Nat.sub_self]; rfl
    · rw [List.getD_eq_getElem?_getD, List.getElem?_append_left (by omega)]
      unfold Pa.ops
      rw [List.getElem?_map, List.getElem?_range h0]
      rfl
/-- what Para makes is right. -/
theorem para_chk {L : List Bt} {m : Nat} (hm : m ≤ L.length) (hs : It.sum (Pa.cts (L.take m) 0) ≤ 4003) : It.chk ((Pa.cts (L.take m) 0).map Ct.g) (Pa.ops L m ++ [2]) = true := by
  unfold It.chk
  rw [List.length_map, Pa.cts_len, List.length_take, Nat.min_eq_left hm, ops_fit, Bool.true_and]
  exact cts_row (L.take m) 0 (by omega)
theorem take_seg {S : List Sn} {x y : Nat} (h : x ≤ y) : Ce.lens (S.take y) = Ce.lens (S.take x) + Ce.lens (Ce.seg S x y) := by
  have h1 : S.take y = S.take x ++ Ce.seg S x y := by
    have := Ce.seg_join (S := S) (Nat.zero_le x) h
    unfold Ce.seg at this ⊢
    simpa using this
  rw [h1, Ce.lens_append]
theorem take_lens (S : List Sn) (y : Nat) : Ce.lens (S.take y) ≤ Ce.lens S := by
  have h := Ce.lens_append (S.take y) (S.drop y)
  rw [List.take_append_drop] at h
  omega
theorem kind_le : ∀ l, Ce.kind l ≤ 2
  | [] => by decide
  | [s] => by unfold Ce.kind; (repeat' split) <;> omega
  | _ :: _ :: _ => Nat.zero_le 2
/-- clusters of signs in a row are in a row, and have all bytes. -/
theorem cls_from {of : Int → Int} {S : List Sn} {M : List Nat} {N : Nat} (hR : Row S 0 N) (hN : N ≤ 4096) : ∀ (d k x : Nat), k + d = (Ce.st M S.length).length → (Ce.starts M S.length)[k]? = some x → It.row (((Ce.cls of S M).map Ct.g).drop k) (Ce.lens (S.take x) : Int) = true ∧ Ce.lens (S.take x) + It.sum ((Ce.cls of S M).drop k) = N
  | 0, k, x, hk, hx => by
    have hl : k = (Ce.st M S.length).length := by omega
    have hxn : x = S.length := by
      rw [hl, Ce.starts_last] at hx
      injection hx with hx
      exact hx.symm
    have hN' := row_lens hR
    constructor
    · rw [List.drop_eq_nil_of_le (by rw [List.length_map, Ce.cls_len]; omega)]; rfl
    · rw [List.drop_eq_nil_of_le (by rw [Ce.cls_len]; omega), hxn, List.take_length]
      show Ce.lens S + 0 = N
      omega
  | d + 1, k, x, hk, hx => by
    obtain ⟨y, hy⟩ : ∃ y, (Ce.starts M S.length)[k + 1]? = some y := Ce.starts_at (by omega)
    have ih := cls_from (of := of) hR hN d (k + 1) y (by omega) hy
    have hlt := Ce.starts_lt hx hy (Nat.lt_succ_self k)
    have hyl := Ce.starts_le hy
    have hc := Ce.cls_at (of := of) (by omega) hx hy
    have hts := take_seg (S := S) (Nat.le_of_lt hlt)
    have htl := take_lens S y
    have hN' := row_lens hR
    obtain ⟨s, hs⟩ : ∃ s, S[x]? = some s := ⟨_, List.getElem?_eq_getElem (by omega)⟩
    have hra := row_at hR hs
    have h0 : (Ce.seg S x y)[0]? = some s := by rw [Ce.seg_at (by omega)]; exact hs
    have hpl : (Ce.tog of (Ce.seg S x y)).pl = Ce.lens (S.take x) := by
      show ((Ce.seg S x y)[0]?.map Sn.pl).getD 0 = _
      rw [h0]
      show s.pl = _
      omega
    have hle : (Ce.tog of (Ce.seg S x y)).len = Ce.lens (Ce.seg S x y) := rfl
    have h1 : 1 ≤ Ce.lens (Ce.seg S x y) := by
      match hsg : Ce.seg S x y, h0 with
      | z :: l, h0 =>
        simp at h0
        subst h0
        simp only [Ce.lens]
        omega
    have hcl := List.getElem?_eq_some_iff.1 hc
    constructor
    · have hg : ((Ce.cls of S M).map Ct.g)[k]? = some (Ce.tog of (Ce.seg S x y)).g := by rw [List.getElem?_map, hc]; rfl
      rw [It.row_yes hg (by
        refine ⟨?_, ?_, ?_, Ce.wide_nn _ _, Ce.wide_le _ _, kind_le _⟩
        · show ((Ce.tog of (Ce.seg S x y)).pl : Int) = _; rw [hpl]
        · show (1 : Int) ≤ (Ce.lens (Ce.seg S x y) : Int); omega
        · show (Ce.lens (Ce.seg S x y) : Int) ≤ 4096 - (Ce.lens (S.take x) : Int); omega)]
      show It.row _ ((Ce.lens (S.take x) : Int) + (Ce.lens (Ce.seg S x y) : Int)) = true
      rw [← Int.natCast_add, ← hts]
      exact ih.1
    · rw [List.drop_eq_getElem_cons hcl.1, hcl.2]
      show Ce.lens (S.take x) + (Ce.lens (Ce.seg S x y) + It.sum _) = N
      have := ih.2
      omega
theorem opl_fit {Bk : List Nat} {Pt : List Bool} {P : List Nat} {q : Nat} (hB : ∀ x ∈ Bk, x < 3) : It.fit (It.opl Bk Pt P q) q = true := by
  unfold It.fit
  rw [decide_eq_true, Bool.true_and]
  · rw [List.all_eq_true]
    intro x hx
    rw [decide_eq_true_eq]
    unfold It.opl at hx
    obtain ⟨k, _, rfl⟩ := List.mem_map.1 hx
    unfold It.op
    by_cases h1 : k = q
    · rw [if_pos h1]; omega
    · rw [if_neg h1]
      by_cases h2 : k = 0
      · rw [if_pos h2]; omega
      · rw [if_neg h2]
        unfold It.ah
        by_cases h3 : P.getD k 0 < Bk.length
        · rw [if_pos h3]
          by_cases h4 : Bk.getD (P.getD k 0) 0 = 0 ∧ Pt.getD (P.getD k 0) false = true
          · rw [if_pos h4]; omega
          · rw [if_neg h4]
            have : Bk.getD (P.getD k 0) 0 < 3 := by
              rw [List.getD_eq_getElem?_getD, List.getElem?_eq_getElem h3]
              exact hB _ (List.getElem_mem h3)
            omega
        · rw [if_neg h3]; omega
  · refine ⟨It.opl_len _ _ _ _, ?_, fun h0 => ?_⟩
    · rw [List.getD_eq_getElem?_getD, It.opl_at (Nat.le_refl q)]
      show It.op Bk Pt P q q = 2
      unfold It.op
      rw [if_pos rfl]
    · rw [List.getD_eq_getElem?_getD, It.opl_at (Nat.zero_le q)]
      show It.op Bk Pt P q 0 = 0
      unfold It.op
      rw [if_neg (by omega), if_pos rfl]
/-- what items.Make makes of breaks below 3 is right, and has all bytes. -/
theorem made_chk {of : Int → Int} {S : List Sn} {M Bk : List Nat} {Pt : List Bool} {N : Nat} (hR : Row S 0 N) (hN : N ≤ 4096) (hB : ∀ x ∈ Bk, x < 3) : It.chk ((Ce.cls of S M).map Ct.g) (It.opl Bk Pt (Ce.starts M S.length) (Ce.cls of S M).length) = true ∧ It.sum (Ce.cls of S M) = N := by
  have h := cls_from (of := of) (M := M) hR hN _ 0 0 (Nat.zero_add _) Ce.starts_first
  rw [List.take_zero] at h
  constructor
  · unfold It.chk
    rw [List.length_map, opl_fit hB, Bool.true_and]
    exact h.1
  · have := h.2
    rw [List.drop_zero] at this
    simpa [Ce.lens] using this
/-- parts rise, and each is where 2 is. -/
theorem parts_two {O : List Nat} {n i x : Nat} (h : (It.parts O n)[i]? = some x) : x < n ∧ O.getD x 0 = 2 := by
  have := List.mem_of_getElem? h
  unfold It.parts at this
  rw [List.mem_filter] at this
  exact ⟨List.mem_range.1 this.1, by simpa using this.2⟩
theorem parts_rise {O : List Nat} {n i j x y : Nat} (hi : (It.parts O n)[i]? = some x) (hj : (It.parts O n)[j]? = some y) (h : i < j) : x < y := by
  have hp : (It.parts O n).Pairwise (· < ·) := by
    unfold It.parts
    exact List.Pairwise.filter _ List.pairwise_lt_range
  have hi' := List.getElem?_eq_some_iff.1 hi
  have hj' := List.getElem?_eq_some_iff.1 hj
  have := List.pairwise_iff_getElem.1 hp i j hi'.1 hj'.1 h
  rw [hi'.2, hj'.2] at this
  exact this
theorem parts_last {O : List Nat} {q : Nat} (h : O.getD q 0 = 2) : (It.parts O (q + 1))[(It.parts O (q + 1)).length - 1]? = some q ∧ 0 < (It.parts O (q + 1)).length := by
  rw [It.parts_yes h]
  constructor
  · rw [List.length_append]
    show (It.parts O q ++ [q])[(It.parts O q).length + 1 - 1]? = some q
    rw [Nat.add_sub_cancel, List.getElem?_append_right (Nat.le_refl _), Nat.sub_self]
    rfl
  · rw [List.length_append]
    exact Nat.succ_pos _
end Go.Proofs.Ytlcpfheocenjfaa
