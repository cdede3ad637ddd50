/-
  Searching rising numbers; rows of a text, one at least; the bytes of boundaries: in plain words; no walk in it. (For layers 17, 21.)
-/
import Derived.Test.YteejgjapghccnaaPm
namespace Go.Proofs.Yteejgjapghccnaa
set_option linter.unusedVariables false
set_option linter.unusedSimpArgs false
namespace Lv
/-- what a search answers: the first one that is there, else the last one ahead. -/
def Sr (A : List Nat) (q r : Nat) : Prop := r < A.length ∧ ((A.getD r 0 = q ∧ ∀ i, i < r → A.getD i 0 < q) ∨ (A.getD r 0 < q ∧ ∀ i, r < i → i < A.length → q < A.getD i 0))
/-- numbers that never fall. -/
def Up (A : List Nat) : Prop := ∀ i j, i ≤ j → j < A.length → A.getD i 0 ≤ A.getD j 0
theorem Sr.one {A : List Nat} {q r s : Nat} (hA : Up A) (h1 : Sr A q r) (h2 : Sr A q s) : r = s := by
  obtain ⟨l1, h1⟩ := h1
  obtain ⟨l2, h2⟩ := h2
  rcases Nat.lt_trichotomy r s with h | h | h
  · have := hA r s (by omega) l2
    rcases h1 with ⟨p1, p2⟩ | ⟨p1, p2⟩
    · rcases h2 with ⟨q1, q2⟩ | ⟨q1, q2⟩
      · have := q2 r h
        omega
      · omega
    · have := p2 s h l2
      rcases h2 with ⟨q1, q2⟩ | ⟨q1, q2⟩ <;> omega
  · exact h
  · have := hA s r (by omega) l1
    rcases h2 with ⟨p1, p2⟩ | ⟨p1, p2⟩
    · rcases h1 with ⟨q1, q2⟩ | ⟨q1, q2⟩
      · have := q2 s h
        omega
      · omega
    · have := p2 r h l1
      rcases h1 with ⟨q1, q2⟩ | ⟨q1, q2⟩ <;> omega
/-- what a search by halves ends with. -/
theorem Sr.found {A : List Nat} {q i : Nat} (h1 : ∀ k, k < i → A.getD k 0 < q) (hi : i < A.length) (he : A.getD i 0 = q) : Sr A q i := ⟨hi, Or.inl ⟨he, h1⟩⟩
theorem Sr.miss {A : List Nat} {q i : Nat} (h0 : 0 < A.length) (hz : A.getD 0 0 ≤ q) (hl : i ≤ A.length) (h1 : ∀ k, k < i → A.getD k 0 < q) (h2 : ∀ k, i ≤ k → k < A.length → q ≤ A.getD k 0) (he : ¬ (i < A.length ∧ A.getD i 0 = q)) (hA : Up A) : Sr A q (i - 1) := by
  have hi : 0 < i := by
    rcases Nat.eq_zero_or_pos i with e | e
    · subst e
      have := h2 0 (Nat.le_refl _) h0
      exact absurd ⟨h0, by omega⟩ he
    · exact e
  refine ⟨by omega, Or.inr ⟨h1 _ (by omega), fun k k1 k2 => ?_⟩⟩
  have p1 := h2 k (by omega) k2
  have p2 := hA i k (by omega) k2
  have p3 := h2 i (Nat.le_refl _) (by omega)
  by_cases e : A.getD i 0 = q
  · exact absurd ⟨by omega, e⟩ he
  · omega
/-- the byte of each boundary. -/
def bys (C : List Ct) : List Nat := (List.range (C.length + 1)).map (fun i => It.sum (C.take i))
theorem bys_len (C : List Ct) : (bys C).length = C.length + 1 := by simp [bys]
theorem bys_at {C : List Ct} {i : Nat} (h : i ≤ C.length) : (bys C)[i]? = some (It.sum (C.take i)) := by
  unfold bys
  rw [List.getElem?_map, List.getElem?_range (by omega)]
  rfl
theorem bys_get {C : List Ct} {i : Nat} (h : i ≤ C.length) : (bys C).getD i 0 = It.sum (C.take i) := by rw [List.getD_eq_getElem?_getD, bys_at h]; rfl
theorem bys_up {C : List Ct} (hC : Ctg C) : Up (bys C) := fun i j h1 h2 => by
  rw [bys_len] at h2
  rw [bys_get (by omega), bys_get (by omega)]
  exact sum_mono hC h1 (by omega)
theorem bys_zero (C : List Ct) : (bys C).getD 0 0 = 0 := by rw [bys_get (Nat.zero_le _)]; rfl
theorem bys_last (C : List Ct) : (bys C)[C.length]? = some (It.sum C) := by rw [bys_at (Nat.le_refl _), List.take_length]
theorem clu_sr {C : List Ct} (hC : Ctg C) {q r : Nat} (h : Sr (bys C) q r) : clu C q C.length = r := by
  obtain ⟨h1, h2⟩ := h
  rw [bys_len] at h1 h2
  rw [bys_get (by omega)] at h2
  refine clu_iff hC (by omega) (by rcases h2 with ⟨p, _⟩ | ⟨p, _⟩ <;> omega) (fun hk => ?_)
  rcases h2 with ⟨p, _⟩ | ⟨_, p⟩
  · have h3 : It.sum (C.take r) < It.sum (C.take (r + 1)) := sum_rise hC (Nat.lt_succ_self r) hk
    omega
  · have := p (r + 1) (Nat.lt_succ_self r) (by omega)
    rw [bys_get (by omega)] at this
    exact this
/-- rows of a text of n clusters: its lines; of no lines one row of nothing. -/
def Rws (n : Nat) (L : List Ln) : Prop := (Chn 0 n L ∧ L ≠ []) ∨ (n = 0 ∧ L = [⟨0, 0, 0, 0⟩])
def rof : List Ln → List Ln
  | [] => [⟨0, 0, 0, 0⟩]
  | l :: L => l :: L
theorem rof_nil : rof [] = [⟨0, 0, 0, 0⟩] := rfl
theorem rof_self {L : List Ln} (h : L ≠ []) : rof L = L := by
  cases L with
  | nil => exact absurd rfl h
  | cons l L => rfl
theorem rof_len (L : List Ln) : (rof L).length = max L.length 1 := by
  cases L with
  | nil => rfl
  | cons l L => show (l :: L).length = _; rw [List.length_cons]; omega
theorem rof_ne (L : List Ln) : rof L ≠ [] := by cases L <;> simp [rof]
theorem rws_rof {n : Nat} {L : List Ln} (h : Chn 0 n L) : Rws n (rof L) := by
  cases L with
  | nil => exact Or.inr ⟨(show 0 = n from h).symm, rfl⟩
  | cons l L => exact Or.inl ⟨h, rof_ne _⟩
theorem Rws.ne {n : Nat} {L : List Ln} (h : Rws n L) : L ≠ [] := by
  rcases h with ⟨_, h⟩ | ⟨_, h⟩
  · exact h
  · rw [h]; simp
theorem Rws.at {n i : Nat} {L : List Ln} {l : Ln} (h : Rws n L) (hl : L[i]? = some l) : l.a ≤ l.b ∧ l.b ≤ n ∧ (i = 0 → l.a = 0) ∧ (i + 1 = L.length → l.b = n) ∧ (0 < n → l.a < l.b) := by
  rcases h with ⟨h, _⟩ | ⟨h, e⟩
  · obtain ⟨h1, h2, h3, h4, h5⟩ := chn_at h hl
    exact ⟨by omega, h3, h4, h5.1, fun _ => h2⟩
  · rw [e] at hl ⊢
    cases i with
    | zero =>
      simp at hl
      subst hl
      exact ⟨Nat.le_refl _, Nat.zero_le _, fun _ => rfl, fun _ => h.symm, fun q => by omega⟩
    | succ i => simp at hl
theorem Rws.chn {n : Nat} {L : List Ln} (h : Rws n L) (hn : 0 < n) : Chn 0 n L ∧ L ≠ [] := by
  rcases h with h | ⟨h, _⟩
  · exact h
  · omega
theorem Rws.next {n i : Nat} {L : List Ln} {l m : Ln} (h : Rws n L) (hl : L[i]? = some l) (hm : L[i + 1]? = some m) : m.a = l.b := by
  rcases h with ⟨h, _⟩ | ⟨h, e⟩
  · exact chn_next h hl hm
  · rw [e] at hm
    simp at hm
theorem Rws.spec {n k : Nat} {L : List Ln} (h : Rws n L) (hk : k ≤ n) : ∃ l, L[rwF L k]? = some l ∧ l.a ≤ k ∧ k ≤ l.b := by
  rcases h with ⟨h, hn⟩ | ⟨h, e⟩
  · obtain ⟨l, h1, h2, h3, h4⟩ := rw_spec h hn (Nat.zero_le _) hk
    refine ⟨l, h1, h2, ?_⟩
    rcases h4 with h4 | ⟨h4, h5, _⟩ <;> omega
  · rw [e]
    exact ⟨⟨0, 0, 0, 0⟩, rfl, Nat.zero_le _, by show k ≤ 0; omega⟩
theorem map_get {L : List Ln} {i : Nat} {l : Ln} (h : L[i]? = some l) : (L.map (·.a)).getD i 0 = l.a := by
  rw [List.getD_eq_getElem?_getD, List.getElem?_map, h]
  rfl
theorem rows_up {n : Nat} {L : List Ln} (h : Rws n L) : Up (L.map (·.a)) := fun i j => by
  rw [List.length_map]
  intro h1 h2
  obtain ⟨l, hl⟩ : ∃ l, L[i]? = some l := ⟨_, List.getElem?_eq_getElem (by omega)⟩
  induction j with
  | zero =>
    have e : i = 0 := by omega
    subst e
    exact Nat.le_refl _
  | succ j ih =>
    by_cases e : i = j + 1
    · subst e
      exact Nat.le_refl _
    · have := ih (by omega) (by omega)
      obtain ⟨x, hx⟩ : ∃ l, L[j]? = some l := ⟨_, List.getElem?_eq_getElem (by omega)⟩
      obtain ⟨y, hy⟩ : ∃ l, L[j + 1]? = some l := ⟨_, List.getElem?_eq_getElem h2⟩
      rw [map_get hx] at this
      rw [map_get hy, h.next hx hy]
      have := (h.at hx).1
      omega
theorem rows_zero {n : Nat} {L : List Ln} (h : Rws n L) : (L.map (·.a)).getD 0 0 = 0 := by
  obtain ⟨l, hl⟩ : ∃ l, L[0]? = some l := ⟨_, List.getElem?_eq_getElem (List.length_pos_iff.2 h.ne)⟩
  rw [map_get hl]
  exact (h.at hl).2.2.1 rfl
theorem row_sr {n k r : Nat} {L : List Ln} (h : Rws n L) (hk : k ≤ n) (hs : Sr (L.map (·.a)) k r) : rwF L k = r := by
  obtain ⟨h1, h2⟩ := hs
  rw [List.length_map] at h1 h2
  obtain ⟨l, hl⟩ : ∃ l, L[r]? = some l := ⟨_, List.getElem?_eq_getElem h1⟩
  rw [map_get hl] at h2
  rcases h with ⟨h, hn⟩ | ⟨h, e⟩
  · have ha := chn_at h hl
    by_cases hb : k < l.b
    · exact rw_uniq h hl (by rcases h2 with ⟨p, _⟩ | ⟨p, _⟩ <;> omega) hb
    · have p2 : ∀ i, r < i → i < L.length → k < (L.map (·.a)).getD i 0 := by
        rcases h2 with ⟨p, _⟩ | ⟨_, p⟩
        · omega
        · exact p
      have hlast : r + 1 = L.length := by
        rcases Nat.lt_or_ge (r + 1) L.length with g | g
        · obtain ⟨m, hm⟩ : ∃ l, L[r + 1]? = some l := ⟨_, List.getElem?_eq_getElem g⟩
          have := p2 (r + 1) (Nat.lt_succ_self r) g
          rw [map_get hm, chn_next h hl hm] at this
          omega
        · omega
      have := ha.2.2.2.2.1 hlast
      have e : k = n := by omega
      subst e
      have := rw_end h hn
      omega
  · rw [e] at h1 ⊢
    have : r < 1 := h1
    show 0 = r
    omega
theorem cols_len (C : List Ct) (t a k : Nat) : (Sp.cols C t a k).length = k + 1 := by simp [Sp.cols]
theorem cols_at (C : List Ct) (t a : Nat) {k i : Nat} (h : i ≤ k) : (Sp.cols C t a k)[i]? = some (Sp.col C t a i) := by
  unfold Sp.cols
  rw [List.getElem?_map, List.getElem?_range (by omega)]
  rfl
theorem cols_get (C : List Ct) (t a : Nat) {k i : Nat} (h : i ≤ k) : (Sp.cols C t a k).getD i 0 = Sp.col C t a i := by rw [List.getD_eq_getElem?_getD, cols_at C t a h]; rfl
theorem cols_up (C : List Ct) {t : Nat} (ht : 0 < t) (a k : Nat) : Up (Sp.cols C t a k) := fun i j h1 h2 => by
  rw [cols_len] at h2
  rw [cols_get C t a (by omega), cols_get C t a (by omega)]
  exact Sp.col_mono C ht a h1
theorem cols_zero (C : List Ct) (t a k : Nat) : (Sp.cols C t a k).getD 0 0 = 0 := by rw [cols_get C t a (Nat.zero_le _)]; rfl
theorem bi_sr (C : List Ct) {t : Nat} (ht : 0 < t) {a m c r : Nat} (h : Sr (Sp.cols C t a m) c r) : bi C t a c (m + 1) = r := by
  refine Sr.one (cols_up C ht a m) ?_ h
  obtain ⟨h1, h2⟩ := bi_spec C ht a c m
  refine ⟨by rw [cols_len]; omega, ?_⟩
  rw [cols_get C t a h1, cols_len]
  rcases h2 with ⟨p1, p2⟩ | ⟨p1, p2⟩
  · exact Or.inl ⟨p1, fun i hi => by rw [cols_get C t a (by omega)]; exact p2 i hi⟩
  · exact Or.inr ⟨p1, fun i h3 h4 => by rw [cols_get C t a (by omega)]; exact p2 i h3 (by omega)⟩
end Lv
end Go.Proofs.Yteejgjapghccnaa
