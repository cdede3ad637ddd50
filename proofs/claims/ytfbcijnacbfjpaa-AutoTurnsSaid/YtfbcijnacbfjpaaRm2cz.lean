/-
  The sets of places are u32.
-/
import Derived.Test.YtfbcijnacbfjpaaSts0z
import Derived.Test.YtfbcijnacbfjpaaMchz
import Derived.Test.YtfbcijnacbfjpaaKindsz
import Derived.Test.YtfbcijnacbfjpaaClass2z
namespace Go.Proofs.Ytfbcijnacbfjpaa
open Go.RowKit Go.Maps
set_option linter.unusedVariables false
set_option linter.unusedSimpArgs false
open Rl (Ex)
mutual
/-- all sets are u32. -/
def Sok : Ex → Prop
  | .mk _ set kids => 0 ≤ set ∧ set < 4294967296 ∧ Soks kids
def Soks : List Ex → Prop
  | [] => True
  | e :: es => Sok e ∧ Soks es
end
mutual
theorem Te.sok {w : World} {F : Nat → Prop} : ∀ (e : Ex) (v : Value), Te w F e v → Sok e
  | .mk op set kids, v, h => by
    unfold Te at h
    unfold Sok
    obtain ⟨a, cap, h1, h2, h3, h4, h5, h6⟩ := h
    refine ⟨h4, h5, ?_⟩
    by_cases hk : kids = []
    · subst hk; unfold Soks; trivial
    · obtain ⟨b, off, _, _, g3⟩ := h6 hk
      exact Tes.sok kids b off g3
theorem Tes.sok {w : World} {F : Nat → Prop} : ∀ (es : List Ex) (b off : Nat), Tes w F es b off → Soks es
  | [], _, _, _ => by unfold Soks; trivial
  | e :: es, b, off, h => by
    unfold Tes at h
    unfold Soks
    obtain ⟨⟨o, s, k, _, _, _, h3⟩, h4⟩ := h
    exact ⟨Te.sok e _ h3, Tes.sok es b (off + 3) h4⟩
end
def Sls (p : Au.Pl) : Prop := ∀ x ∈ p.sets, 0 ≤ x ∧ x < 4294967296
theorem Sls.chain {p : Au.Pl} (h : Sls p) (a b : Nat) : Sls (Au.chain p a b) := h
theorem node_sls : ∀ (e : Ex) (p : Au.Pl), Sok e → Sls p → ∀ x p1, Au.node e p = some (x, p1) → Sls p1 := by
  intro e
  apply Ex.rec (motive_1 := fun e => ∀ (p : Au.Pl), Sok e → Sls p → ∀ x p1, Au.node e p = some (x, p1) → Sls p1)
    (motive_2 := fun es => (∀ (o : Au.Nd) (p : Au.Pl), Soks es → Sls p → ∀ x p1, Au.seqs es o p = some (x, p1) → Sls p1) ∧ (∀ (o : Au.Nd) (p : Au.Pl), Soks es → Sls p → ∀ x p1, Au.alts es o p = some (x, p1) → Sls p1) ∧ (∀ (p : Au.Pl), Soks es → Sls p → ∀ x p1, Au.one es p = some (x, p1) → Sls p1))
  · intro op set kids ⟨h1, h2, h3⟩ p hs hp x p1 h
    unfold Sok at hs
    unfold Au.node at h
    have hone : ∀ (f : Au.Nd → Au.Pl → Au.Nd × Au.Pl), (∀ y q, (f y q).2.sets = q.sets) → (match Au.one kids p with | none => none | some (y, q) => some (f y q)) = some (x, p1) → Sls p1 := fun f hf h => by
      cases ho : Au.one kids p with
      | none => rw [ho] at h; cases h
      | some r =>
        obtain ⟨y, p2⟩ := r
        rw [ho] at h
        injection h with h
        have hq := h3 p hs.2.2 hp y p2 ho
        have e : p1.sets = p2.sets := by rw [← hf y p2, h]
        intro z hz
        rw [e] at hz
        exact hq z hz
    split at h
    · split at h
      · cases h
      · injection h with h
        injection h with _ hp1
        subst hp1
        intro z hz
        rcases List.mem_append.1 hz with hz | hz
        · exact hp z hz
        · simp at hz; subst hz; exact ⟨hs.1, hs.2.1⟩
    · split at h
      · exact h1 _ p hs.2.2 hp x p1 h
      · split at h
        · exact h2 _ p hs.2.2 hp x p1 h
        · split at h
          · exact hone (fun x p1 => (⟨true, x.first, x.last⟩, Au.chain p1 x.last x.first)) (fun _ _ => rfl) h
          · split at h
            · exact hone (fun x p1 => (x, Au.chain p1 x.last x.first)) (fun _ _ => rfl) h
            · split at h
              · exact hone (fun x p1 => (⟨true, x.first, x.last⟩, p1)) (fun _ _ => rfl) h
              · injection h with h
                injection h with _ hp1
                subst hp1
                exact hp
  · refine ⟨fun o p hs hp x p1 h => ?_, fun o p hs hp x p1 h => ?_, fun p hs hp x p1 h => ?_⟩
    · simp only [Au.seqs] at h
      injection h with h
      injection h with _ hp1
      subst hp1
      exact hp
    · simp only [Au.alts] at h
      injection h with h
      injection h with _ hp1
      subst hp1
      exact hp
    · simp only [Au.one] at h
      injection h with h
      injection h with _ hp1
      subst hp1
      exact hp
  · intro e es he ⟨h1, h2, h3⟩
    refine ⟨fun o p hs hp x p1 h => ?_, fun o p hs hp x p1 h => ?_, fun p hs hp x p1 h => ?_⟩
    · unfold Soks at hs
      simp only [Au.seqs] at h
      cases hn : Au.node e p with
      | none => rw [hn] at h; cases h
      | some r =>
        obtain ⟨y, p2⟩ := r
        rw [hn] at h
        exact h1 (Au.seq1 o y) (Au.chain p2 o.last y.first) hs.2 (he p hs.1 hp y p2 hn) x p1 h
    · unfold Soks at hs
      simp only [Au.alts] at h
      cases hn : Au.node e p with
      | none => rw [hn] at h; cases h
      | some r =>
        obtain ⟨y, p2⟩ := r
        rw [hn] at h
        exact h2 (Au.alt1 o y) p2 hs.2 (he p hs.1 hp y p2 hn) x p1 h
    · unfold Soks at hs
      simp only [Au.one] at h
      exact he p hs.1 hp x p1 h
theorem all_sls : ∀ (es : List Ex) (l : List Au.Nd) (p : Au.Pl), Soks es → Sls p → ∀ l1 p1, Au.all es l p = some (l1, p1) → Sls p1
  | [], l, p, hs, hp, l1, p1, h => by
    simp only [Au.all] at h
    injection h with h
    injection h with h1 h2
    subst h1 h2
    exact hp
  | e :: es, l, p, hs, hp, l1, p1, h => by
    unfold Soks at hs
    rw [all_step] at h
    cases hn : Au.node e p with
    | none => rw [hn] at h; cases h
    | some r =>
      obtain ⟨x, p2⟩ := r
      rw [hn] at h
      exact all_sls es (l ++ [x]) p2 hs.2 (node_sls e p hs.1 hp x p2 hn) l1 p1 h
theorem Lex.sok {w : World} {F : Nat → Prop} {es : List Ex} {a : Option Addr} {c : Nat} (h : Lex w F es a c) : Soks es := by
  by_cases hk : es = []
  · subst hk; unfold Soks; trivial
  · obtain ⟨b, off, _, _, g3⟩ := h.2 hk
    exact Tes.sok es b off g3
theorem two_at (W : World) (A B : Obj) : ((W.alloc A).alloc B).heap[W.heap.size]? = some A := (Below.heap_alloc _ _ _ (by simp)).trans (heap_alloc_new _ _)
theorem old_cell {W0 W : World} (ho : Only (fun b => W0.heap.size ≤ b) W0 W) {b k : Nat} {v : Value} (h : W0.cell? ⟨b, k, none⟩ = some v) : W.cell? ⟨b, k, none⟩ = some v := by
  have hl := World.block_lt_of_cell? W0 _ h
  exact (World.cell?_of_block (a := ⟨b, k, none⟩) (ho.block b hl (fun e => by have : b < W0.heap.size := hl; omega))).trans h
end Go.Proofs.Ytfbcijnacbfjpaa
namespace Go.Proofs.Ytfbcijnacbfjpaa
open Go.RowKit Go.Maps
set_option linter.unusedVariables false
set_option linter.unusedSimpArgs false
namespace Rl
theorem nns_app : ∀ (l : List Ex) (e : Ex), Nns l → Nn e → Nns (l ++ [e])
  | [], e, _, h => by show Nns [e]; unfold Nns; exact ⟨h, by unfold Nns; trivial⟩
  | a :: l, e, hl, h => by
    unfold Nns at hl
    show Nns (a :: (l ++ [e]))
    unfold Nns
    exact ⟨hl.1, nns_app l e hl.2 h⟩
theorem soks_app : ∀ (l : List Ex) (e : Ex), Soks l → Sok e → Soks (l ++ [e])
  | [], e, _, h => by show Soks [e]; unfold Soks; exact ⟨h, by unfold Soks; trivial⟩
  | a :: l, e, hl, h => by
    unfold Soks at hl
    show Soks (a :: (l ++ [e]))
    unfold Soks
    exact ⟨hl.1, soks_app l e hl.2 h⟩
theorem cnts_app : ∀ (l : List Ex) (e : Ex), Au.cnts (l ++ [e]) = Au.cnts l + Au.cnt e
  | [], e => by simp [Au.cnts]
  | a :: l, e => by
    have := cnts_app l e
    simp only [List.cons_append, Au.cnts]
    omega
theorem dps_app : ∀ (l : List Ex) (e : Ex) (D : Nat), Au.dps l ≤ D → Au.dp e ≤ D → Au.dps (l ++ [e]) ≤ D
  | [], e, D, _, h => by simp [Au.dps]; exact h
  | a :: l, e, D, hl, h => by
    simp only [Au.dps] at hl
    have := dps_app l e D (by omega) h
    simp only [List.cons_append, Au.dps]
    omega
/-- what is known of an expression that was read. -/
def Fine (e : Ex) (k D : Nat) : Prop := Nn e ∧ Au.cnt e = k ∧ Au.dp e ≤ D ∧ Sok e
theorem fine_alt {l : List Ex} {D : Nat} (h1 : Nns l) (h2 : Au.dps l ≤ D) (h3 : Soks l) : Fine (mkAlt l) (Au.cnts l) (D + 1) := by
  unfold mkAlt
  split
  · unfold Nns at h1
    unfold Soks at h3
    refine ⟨h1.1, by simp [Au.cnts], ?_, h3.1⟩
    simp only [Au.dps] at h2
    omega
  · refine ⟨?_, ?_, ?_, ?_⟩
    · unfold Nn; exact ⟨by decide, h1⟩
    · unfold Au.cnt; rw [if_neg (by decide), if_pos (by decide)]
    · unfold Au.dp; omega
    · unfold Sok; exact ⟨by decide, by decide, h3⟩
theorem fine_seq {l : List Ex} {D : Nat} (h1 : Nns l) (h2 : Au.dps l ≤ D) (h3 : Soks l) : Fine (mkSeq l) (Au.cnts l) (D + 1) := by
  unfold mkSeq
  split
  · refine ⟨?_, ?_, ?_, ?_⟩
    · unfold Nn; exact ⟨by decide, h1⟩
    · unfold Au.cnt; rw [if_neg (by decide), if_neg (by decide), if_neg (by decide)]; rfl
    · unfold Au.dp; simp only [Au.dps]; omega
    · unfold Sok; exact ⟨by decide, by decide, h3⟩
  · unfold Nns at h1
    unfold Soks at h3
    refine ⟨h1.1, by simp [Au.cnts], ?_, h3.1⟩
    simp only [Au.dps] at h2
    omega
  · refine ⟨?_, ?_, ?_, ?_⟩
    · unfold Nn; exact ⟨by decide, h1⟩
    · unfold Au.cnt; rw [if_neg (by decide), if_pos (by decide)]
    · unfold Au.dp; omega
    · unfold Sok; exact ⟨by decide, by decide, h3⟩
theorem fine_one {e : Ex} {k D : Nat} (op : Int) (ho : op = 4 ∨ op = 5 ∨ op = 6) (h : Fine e k D) : Fine (.mk op 0 [e]) k (D + 1) := by
  obtain ⟨h1, h2, h3, h4⟩ := h
  refine ⟨?_, ?_, ?_, ?_⟩
  · unfold Nn
    refine ⟨by omega, ?_⟩
    unfold Nns
    exact ⟨h1, by unfold Nns; trivial⟩
  · unfold Au.cnt
    rw [if_neg (by omega), if_neg (by omega), if_pos ho]
    simp only [Au.cnt1]
    exact h2
  · unfold Au.dp
    simp only [Au.dps]
    omega
  · unfold Sok
    refine ⟨by decide, by decide, ?_⟩
    unfold Soks
    exact ⟨h4, by unfold Soks; trivial⟩
theorem fine_often {e e' : Ex} {ts ts' : List Tk} {k D : Nat} (h : often e ts = .ok (e', ts')) (he : Fine e k D) : Fine e' k (D + 1) := by
  cases ts with
  | nil => cases h
  | cons t ts =>
    simp only [often] at h
    split at h
    · cases h
    · split at h
      · cases h; exact fine_one 4 (by omega) he
      · split at h
        · cases h; exact fine_one 5 (by omega) he
        · split at h
          · cases h; exact fine_one 6 (by omega) he
          · cases h; exact ⟨he.1, he.2.1, by have := he.2.2.1; omega, he.2.2.2⟩
def EnvR (E : Env) : Prop := ∀ (s : Str) (b : Int), find E s = some b → 0 ≤ b ∧ b < 4294967296
theorem bits_range (a b : Int) : 0 ≤ without a b ∧ without a b < 4294967296 := by
  unfold without bits
  simp only
  rw [IntKind.wrap_u32]
  omega
theorem some_one {E : Env} {nc p p' : Nat} {ts ts' : List Tk} {b : Int} (h : some' E nc ts p = .ok (b, ts', p')) (hE : EnvR E) (hnc : nc ≤ 24) : p' = p + 1 ∧ 0 ≤ b ∧ b < 4294967296 := by
  have hw : 0 ≤ whole nc ∧ whole nc < 4294967296 := by
    have h := pow24 ⟨nc, by omega⟩
    have h1 : 1 ≤ (2 : Int) ^ nc := h.2.2.1
    have h2 : (2 : Int) ^ nc ≤ 16777216 := h.2.2.2
    unfold whole
    omega
  cases ts with
  | nil => cases h
  | cons t ts =>
    simp only [some'] at h
    split at h
    · cases h
    · split at h
      · cases h; exact ⟨rfl, hw⟩
      · split at h
        · split at h
          · cases h
          · split at h
            · cases h
            · rename_i hn
              split at h
              · cases h
              · cases h
                refine ⟨rfl, ?_⟩
                split
                · exact bits_range _ _
                · exact names_range hn (by omega)
        · split at h
          · cases h
          · rename_i hf
            cases h
            exact ⟨rfl, hE _ _ hf⟩
theorem expr_fine (E : Env) (nc : Nat) (hEn : EnvR E) (hnc : nc ≤ 24) : ∀ n,
    (∀ d ts p e ts' p', either E nc n d ts p = .ok (e, ts', p') → d ≤ 16 → p ≤ p' ∧ Fine e (p' - p) (3 * (16 - d) + 4)) ∧
    (∀ d ts p l e ts' p', alts E nc n d ts p l = .ok (e, ts', p') → d ≤ 16 → (Nns l ∧ Soks l) → Au.dps l ≤ 3 * (16 - d) + 3 → p ≤ p' ∧ Fine e (Au.cnts l + (p' - p)) (3 * (16 - d) + 4)) ∧
    (∀ d ts p l e ts' p', row E nc n d ts p l = .ok (e, ts', p') → d ≤ 16 → (Nns l ∧ Soks l) → Au.dps l ≤ 3 * (16 - d) + 2 → p ≤ p' ∧ Fine e (Au.cnts l + (p' - p)) (3 * (16 - d) + 3)) ∧
    (∀ d ts p e ts' p', thing E nc n d ts p = .ok (e, ts', p') → d ≤ 16 → p ≤ p' ∧ Fine e (p' - p) (3 * (16 - d) + 1))
  | 0 => by
    refine ⟨fun _ _ _ _ _ _ h => ?_, fun _ _ _ _ _ _ _ h => ?_, fun _ _ _ _ _ _ _ h => ?_, fun _ _ _ _ _ _ h => ?_⟩ <;> simp [either, alts, row, thing] at h
  | n + 1 => by
    obtain ⟨hE, hA, hR, hT⟩ := expr_fine E nc hEn hnc n
    have n00 : Nns [] := by unfold Nns; trivial
    have n01 : Soks [] := by unfold Soks; trivial
    have n0 : Nns [] ∧ Soks [] := ⟨n00, n01⟩
    have n1 : ∀ e, Nn e → Sok e → Nns [e] ∧ Soks [e] := fun e h h2 => ⟨by unfold Nns; exact ⟨h, n00⟩, by unfold Soks; exact ⟨h2, n01⟩⟩
    refine ⟨fun d ts p e ts' p' h hd => ?_, fun d ts p l e ts' p' h hd hl hD => ?_, fun d ts p l e ts' p' h hd hl hD => ?_, fun d ts p e ts' p' h hd => ?_⟩
    · simp only [either] at h
      split at h
      · cases h
      · rename_i h1
        obtain ⟨a1, b1, b2, b3, b4⟩ := hR _ _ _ _ _ _ _ h1 hd n0 (by simp [Au.dps])
        obtain ⟨a2, c1, c2, c3, c4⟩ := hA _ _ _ _ _ _ _ h hd (n1 _ b1 b4) (by simp only [Au.dps]; omega)
        refine ⟨by omega, c1, ?_, c3, c4⟩
        rw [c2]
        simp only [Au.cnts] at b2 ⊢
        omega
    · simp only [alts] at h
      split at h
      · cases h
      · cases h
        obtain ⟨c1, c2, c3, c4⟩ := fine_alt hl.1 hD hl.2
        exact ⟨Nat.le_refl _, c1, by rw [c2]; omega, by omega, c4⟩
      · rename_i h1
        split at h
        · cases h
        · rename_i h2
          obtain ⟨a1, b1, b2, b3, b4⟩ := hR _ _ _ _ _ _ _ h2 hd n0 (by simp [Au.dps])
          obtain ⟨a2, c1, c2, c3, c4⟩ := hA _ _ _ _ _ _ _ h hd ⟨nns_app _ _ hl.1 b1, soks_app _ _ hl.2 b4⟩ (dps_app _ _ _ hD (by omega))
          refine ⟨by omega, c1, ?_, c3, c4⟩
          rw [c2, cnts_app]
          simp only [Au.cnts] at b2
          omega
    · cases ts with
      | nil => simp [row, thing] at h
      | cons t ts =>
        simp only [row] at h
        split at h
        · cases h
        · split at h
          · split at h
            · cases h
            · rename_i h1
              split at h
              · cases h
              · rename_i h2
                obtain ⟨a1, b1⟩ := hT _ _ _ _ _ _ h1 hd
                obtain ⟨d1, d2, d3, d4⟩ := fine_often h2 b1
                obtain ⟨a2, c1, c2, c3, c4⟩ := hR _ _ _ _ _ _ _ h hd ⟨nns_app _ _ hl.1 d1, soks_app _ _ hl.2 d4⟩ (dps_app _ _ _ hD (by omega))
                refine ⟨by omega, c1, ?_, c3, c4⟩
                rw [c2, cnts_app]
                omega
          · cases h
            obtain ⟨c1, c2, c3, c4⟩ := fine_seq hl.1 hD hl.2
            exact ⟨Nat.le_refl _, c1, by rw [c2]; omega, by omega, c4⟩
    · cases ts with
      | nil => simp [row, thing] at h
      | cons t ts =>
        simp only [thing] at h
        split at h
        · split at h
          · cases h
          · split at h
            · cases h
            · rename_i h1
              split at h
              · cases h
              · rename_i h2
                cases h
                obtain ⟨a1, c1, c2, c3, c4⟩ := hE _ _ _ _ _ _ h1 (by omega)
                exact ⟨a1, c1, c2, by omega, c4⟩
        · split at h
          · cases h
          · rename_i h1
            cases h
            have := some_one h1 hEn hnc
            refine ⟨by omega, ?_, ?_, ?_, ?_⟩
            · unfold Nn; exact ⟨by decide, n00⟩
            · unfold Au.cnt; rw [if_pos rfl]; omega
            · unfold Au.dp; simp only [Au.dps]; omega
            · unfold Sok; exact ⟨this.2.1, this.2.2, n01⟩
/-- lefts and rights, in their order. -/
def sides : List Rule → List Ex
  | [] => []
  | r :: rs => r.left :: r.right :: sides rs
theorem sides_snoc : ∀ (l : List Rule) (r : Rule), sides (l ++ [r]) = sides l ++ [r.left, r.right]
  | [], r => rfl
  | a :: l, r => by simp [sides, sides_snoc l r]
structure FineS (s : St) : Prop where
  nn : Nns (sides s.list)
  cn : Au.cnts (sides s.list) = s.places
  dp : Au.dps (sides s.list) ≤ 100
  pl : s.places ≤ 200
  so : Soks (sides s.list)
  en : EnvR s.env
  cl : s.cls.length ≤ 24
theorem rule_fine {d : Int} {i : Nat} {ts ts' : List Tk} {s s' : St} (h : rule' d i ts s = .ok (ts', s')) (hs : FineS s) : FineS s' := by
  unfold rule' at h
  split at h
  · cases h
  · split at h
    · cases h
    · rename_i h1
      split at h
      · cases h
      · rename_i h2
        split at h
        · cases h
        · rename_i h3
          cases h
          have a1 := (expr_len s.env s.cls.length _).1 _ _ _ _ _ _ h1 hs.pl
          have a3 := (expr_len s.env s.cls.length _).1 _ _ _ _ _ _ h3 a1.2
          obtain ⟨p1, b1, b2, b3, b4⟩ := (expr_fine s.env s.cls.length hs.en hs.cl _).1 _ _ _ _ _ _ h1 (by omega)
          obtain ⟨p2, c1, c2, c3, c4⟩ := (expr_fine s.env s.cls.length hs.en hs.cl _).1 _ _ _ _ _ _ h3 (by omega)
          obtain ⟨s1, s2, s3, s4, s5, s6, s7⟩ := hs
          have e : ∀ (r : Rule), sides (s.list ++ [r]) = (sides s.list ++ [r.left]) ++ [r.right] := fun r => by rw [sides_snoc]; simp
          refine ⟨?_, ?_, ?_, a3.2, ?_, s6, s7⟩
          · rw [e]; exact nns_app _ _ (nns_app _ _ s1 b1) c1
          · rw [e, cnts_app, cnts_app]
            simp only
            omega
          · rw [e]; exact dps_app _ _ _ (dps_app _ _ _ s3 (by simp only; omega)) (by simp only; omega)
          · rw [e]; exact soks_app _ _ (soks_app _ _ s5 b4) c4
theorem find_app' (E : Env) (x : Str) (b : Int) (s : Str) (c : Int) : find (E ++ [(x, b)]) s = some c → find E s = some c ∨ c = b := by
  induction E with
  | nil =>
    intro hc
    simp only [List.nil_append, find] at hc
    split at hc
    · injection hc with hc; exact Or.inr hc.symm
    · cases hc
  | cons a E ih =>
    obtain ⟨y, d⟩ := a
    intro hc
    simp only [List.cons_append, find] at hc
    split at hc
    · rename_i he
      exact Or.inl (by simp only [find]; rw [if_pos he]; exact hc)
    · rename_i he
      rcases ih hc with h | h
      · exact Or.inl (by simp only [find]; rw [if_neg he]; exact h)
      · exact Or.inr h
theorem envR_app {E : Env} {x : Str} {b : Int} (h : EnvR E) (hb : 0 ≤ b ∧ b < 4294967296) : EnvR (E ++ [(x, b)]) := by
  intro s c hc
  rcases find_app' E x b s c hc with h1 | h1
  · exact h s c h1
  · subst h1; exact hb
theorem classes_fine : ∀ (ts : List Tk) (s : St) {ts' : List Tk} {s' : St}, classes ts s = .ok (ts', s') → FineS s → FineS s'
  | [], s, _, _, h, _ => by cases h
  | t :: ts, s, ts', s', h, hs => by
    rw [classes_cons] at h
    split at h
    · cases h
    · split at h
      · split at h
        · cases h
        · split at h
          · cases h
          · rename_i hc24
            exact classes_fine ts _ h ⟨hs.nn, hs.cn, hs.dp, hs.pl, hs.so, envR_app hs.en (pow_range _ (by have := hs.cl; omega)), by show (s.cls ++ [t.text]).length ≤ 24; have := hs.cl; rw [List.length_append]; simp; omega⟩
      · cases h; exact hs
theorem line_fine {t : Tk} {ts ts' : List Tk} {s s' : St} (h : line t ts s = .ok (ts', s')) (hs : FineS s) : FineS s' := by
  unfold line at h
  split at h
  · exact classes_fine ts s h hs
  · split at h
    · unfold set' at h
      split at h
      · cases h
      · split at h
        · cases h
        · split at h
          · cases h
          · rename_i h1
            cases h
            exact ⟨hs.nn, hs.cn, hs.dp, hs.pl, hs.so, envR_app hs.en (names_range h1 (by omega)), hs.cl⟩
    · split at h
      · unfold join' at h
        split at h
        · cases h
        · split at h
          · cases h
          · split at h
            · cases h
            · cases h; exact ⟨hs.nn, hs.cn, hs.dp, hs.pl, hs.so, hs.en, hs.cl⟩
      · split at h
        · unfold treat' at h
          split at h
          · cases h
          · split at h
            · cases h
            · split at h
              · cases h
              · cases h; exact ⟨hs.nn, hs.cn, hs.dp, hs.pl, hs.so, hs.en, hs.cl⟩
        · split at h
          · exact rule_fine h hs
          · split at h
            · exact rule_fine h hs
            · split at h
              · exact rule_fine h hs
              · cases h
theorem lines_fine : ∀ (n : Nat) (ts : List Tk) (s : St) {s' : St}, lines n ts s = .ok s' → FineS s → FineS s'
  | 0, _, _, _, h, _ => by cases h
  | _ + 1, [], _, _, h, _ => by cases h
  | n + 1, t :: ts, s, s', h, hs => by
    simp only [lines] at h
    split at h
    · cases h
    · split at h
      · cases h; exact hs
      · split at h
        · cases h
        · rename_i h1
          split at h
          · cases h
          · exact lines_fine n _ _ h (line_fine h1 hs)
theorem fine_st0 : FineS st0 := by
  refine ⟨?_, rfl, ?_, by decide, ?_, fun s b h => (by cases h), by decide⟩
  · show Nns []
    unfold Nns
    trivial
  · show Au.dps [] ≤ 100
    simp [Au.dps]
  · show Soks []
    unfold Soks
    trivial
end Rl
end Go.Proofs.Ytfbcijnacbfjpaa
