/-
  A plan's text is read as the plan says; no program in it.
-/
import Derived.Test.YtahoepmnekconabMb
namespace Go.Proofs.Ytahoepmnekconab
set_option linter.unusedVariables false
set_option linter.unusedSimpArgs false
namespace Rl
open Hd (at' up ex)
def z (x : Str) : Tk := ⟨x, 0, false⟩
def tz (X : List Str) : List Tk := X.map z
theorem z_text (x : Str) : (z x).text = x := rfl
theorem tz_app (X Y : List Str) : tz (X ++ Y) = tz X ++ tz Y := List.map_append
theorem tz_cons (x : Str) (X : List Str) : tz (x :: X) = z x :: tz X := rfl
theorem tz_nil : tz [] = [] := rfl
theorem tz_len (X : List Str) : (tz X).length = X.length := List.length_map _
/-- the classes' names say their bits. -/
def EnvOk (E : Env) (n : Nat) : Prop := ∀ k, k < n → find E [(65 + k).toUInt8] = some (2 ^ k)
theorem EnvOk.get {E : Env} {n : Nat} (h : EnvOk E n) (hn : 1 ≤ n) (i : Nat) : find E (Hd.name n i) = some (2 ^ (i % n)) := h (i % n) (Nat.mod_lt i hn)
theorem name_nm {n : Nat} (hn : 1 ≤ n) (hn6 : n ≤ 6) (i : Nat) : isNm (z (Hd.name n i)) = true := by
  have h := (isN_name hn hn6 i).1
  show decide (0 < nml [(65 + i % n).toUInt8]) = true
  rw [nml_cons, if_pos h]
  rfl
theorem name_ne {n : Nat} (hn : 1 ≤ n) (hn6 : n ≤ 6) (i : Nat) (c : UInt8) (hc : c.toNat < 65 ∨ 70 < c.toNat) : Hd.name n i ≠ [c] := by
  intro e
  have h := (isN_name hn hn6 i).2
  have := Nat.mod_lt i hn
  unfold Hd.name at e
  injection e with e _
  rw [e] at h
  omega
theorem nmx_mem {n b : Nat} {x : Str} : ∀ {k : Nat}, x ∈ nmx n b k → ∃ j, x = Hd.name n j
  | 0, h => by cases h
  | k + 1, h => by
    rw [nmx, List.mem_append] at h
    rcases h with h | h
    · exact nmx_mem h
    · split at h
      · exact ⟨k, by simpa using h⟩
      · cases h
def borOk : Bool := (List.range 6).all fun k => (List.range (2 ^ k)).all fun a => decide (bor (a : Int) (2 ^ k) = ((a + 2 ^ k : Nat) : Int))
theorem borOk_true : borOk = true := by kernel_rfl
theorem bor_pow {k a : Nat} (hk : k < 6) (ha : a < 2 ^ k) : bor (a : Int) (2 ^ k) = ((a + 2 ^ k : Nat) : Int) := by
  have h := borOk_true
  unfold borOk at h
  rw [List.all_eq_true] at h
  have h := h k (List.mem_range.2 hk)
  rw [List.all_eq_true] at h
  exact of_decide_eq_true (h a (List.mem_range.2 ha))
theorem bit_mod (b k : Nat) : b % 2 ^ (k + 1) = b % 2 ^ k + if Hd.bit b k = true then 2 ^ k else 0 := by
  have h := Nat.mod_mul (x := b) (a := 2 ^ k) (b := 2)
  rw [Nat.pow_succ, h]
  unfold Hd.bit
  rcases Nat.mod_two_eq_zero_or_one (b / 2 ^ k) with e | e
  · simp [e]
  · simp [e]
theorem names_x {E : Env} {n : Nat} (hE : EnvOk E n) (hn : 1 ≤ n) (hn6 : n ≤ 6) (b : Nat) : ∀ k, k ≤ n → ∀ K : List Tk, names E (tz (nmx n b k) ++ K) 0 = names E K ((b % 2 ^ k : Nat) : Int)
  | 0, _, K => by
    show names E K 0 = _
    rw [Nat.pow_zero, Nat.mod_one]
    rfl
  | k + 1, hk, K => by
    rw [nmx, tz_app, List.append_assoc, names_x hE hn hn6 b k (by omega), bit_mod]
    by_cases hb : Hd.bit b k = true
    · rw [if_pos hb, if_pos hb]
      show names E (z (Hd.name n k) :: K) _ = _
      have e1 : find E (z (Hd.name n k)).text = some (2 ^ k) := by
        have := hE.get hn k
        rw [Nat.mod_eq_of_lt (by omega : k < n)] at this
        exact this
      rw [names, if_neg (by exact Bool.false_ne_true), if_pos (name_nm hn hn6 k), e1]
      show names E K (bor _ _) = _
      rw [bor_pow (by omega) (Nat.mod_lt _ (Nat.two_pow_pos k))]
    · rw [if_neg hb, if_neg hb]
      rfl
theorem names_end {E : Env} {t : Tk} {K : List Tk} {a : Int} (h : isNm t = false) (hb : t.bad = false) : names E (t :: K) a = .ok (a, t :: K) := by
  rw [names, if_neg (by rw [hb]; exact Bool.false_ne_true), if_neg (by rw [h]; exact Bool.false_ne_true)]
theorem took_no {c : UInt8} {t : Tk} {K : List Tk} (hb : t.bad = false) (h : t.text ≠ [c]) : took c (t :: K) = .ok (false, t :: K) := by
  rw [took, if_neg (by rw [hb]; exact Bool.false_ne_true), if_neg h]
theorem took_yes {c : UInt8} {K : List Tk} : took c (z [c] :: K) = .ok (true, K) := by
  rw [took, if_neg (by exact Bool.false_ne_true), z_text, if_pos rfl]
theorem want_yes {c : UInt8} {K : List Tk} : want c (z [c] :: K) = .ok K := by
  rw [want, if_neg (by exact Bool.false_ne_true), z_text, if_pos rfl]
theorem took94 {n : Nat} (hn : 1 ≤ n) (hn6 : n ≤ 6) (b k : Nat) (K : List Tk) : took 94 (tz (nmx n b k) ++ z [93] :: K) = .ok (false, tz (nmx n b k) ++ z [93] :: K) := by
  cases h : nmx n b k with
  | nil => exact took_no rfl (by show ([93] : Str) ≠ [94]; decide)
  | cons x X =>
    obtain ⟨j, rfl⟩ := nmx_mem (k := k) (by rw [h]; exact List.mem_cons_self)
    exact took_no rfl (name_ne hn hn6 j 94 (by decide))
/-- the next piece says nothing of how often. -/
def Nr (K : List Tk) : Prop := ∃ t K', K = t :: K' ∧ t.bad = false ∧ t.text ≠ [42] ∧ t.text ≠ [43] ∧ t.text ≠ [63]
theorem Nr.mk {t : Tk} {K : List Tk} (h0 : t.bad = false) (h1 : t.text ≠ [42]) (h2 : t.text ≠ [43]) (h3 : t.text ≠ [63]) : Nr (t :: K) := ⟨t, K, rfl, h0, h1, h2, h3⟩
theorem often_no {e : Ex} {K : List Tk} (h : Nr K) : often e K = .ok (e, K) := by
  obtain ⟨t, K', rfl, h0, h1, h2, h3⟩ := h
  rw [often, if_neg (by rw [h0]; exact Bool.false_ne_true), if_neg h1, if_neg h2, if_neg h3]
def opz : Ex → Int
  | .mk o _ _ => o
theorem seq_opz {l : List Ex} (h0 : l ≠ []) (h : ∀ e ∈ l, opz e ≠ 0) : opz (mkSeq l) ≠ 0 := by
  cases l with
  | nil => exact absurd rfl h0
  | cons e l =>
    cases l with
    | nil => exact h e List.mem_cons_self
    | cons f l => exact (by decide : (2 : Int) ≠ 0)
theorem alt_opz2 {e f : Ex} {l : List Ex} : opz (mkAlt (e :: f :: l)) ≠ 0 := (by decide : (3 : Int) ≠ 0)
/-- a row's next thing. -/
theorem row_step {E : Env} {nc f d p p1 : Nat} {t : Tk} {ts K K2 : List Tk} {l : List Ex} {e e2 : Ex} (hb : t.bad = false) (hg : beg t = true) (h : thing E nc f d (t :: ts) p = .ok (e, K, p1)) (ho : often e K = .ok (e2, K2)) :
    row E nc (f + 1) d (t :: ts) p l = row E nc f d K2 p1 (l ++ [e2]) := by
  rw [row]
  rw [if_neg (by rw [hb]; exact Bool.false_ne_true), if_pos hg, h]
  simp only [ho]
theorem row_end {E : Env} {nc f d p : Nat} {t : Tk} {K : List Tk} {l : List Ex} (hb : t.bad = false) (hg : beg t = false) : row E nc (f + 1) d (t :: K) p l = .ok (mkSeq l, t :: K, p) := by
  rw [row]
  rw [if_neg (by rw [hb]; exact Bool.false_ne_true), if_neg (by rw [hg]; exact Bool.false_ne_true)]
/-- one sign alone. -/
theorem thing_name {E : Env} {n nc : Nat} (hE : EnvOk E n) (hn : 1 ≤ n) (hn6 : n ≤ 6) (i f d p : Nat) (K : List Tk) (hp : p < 200) : thing E nc (f + 1) d (z (Hd.name n i) :: K) p = .ok (.mk 1 (2 ^ (i % n)) [], K, p + 1) := by
  rw [thing]
  rw [z_text, if_neg (name_ne hn hn6 i 40 (by decide)), some', if_neg (by omega), z_text, if_neg (name_ne hn hn6 i 46 (by decide)), if_neg (name_ne hn hn6 i 91 (by decide))]
  rw [hE.get hn i]
theorem thing_dot {E : Env} {nc : Nat} (f d p : Nat) (K : List Tk) (hp : p < 200) : thing E nc (f + 1) d (z [46] :: K) p = .ok (.mk 1 (whole nc) [], K, p + 1) := by
  rw [thing]
  rw [if_neg (by show ([46] : Str) ≠ [40]; decide), some', if_neg (by omega), z_text, if_pos rfl]
theorem thing_set {E : Env} {n nc : Nat} (hE : EnvOk E n) (hn : 1 ≤ n) (hn6 : n ≤ 6) (b f d p : Nat) (K : List Tk) (hp : p < 200) : thing E nc (f + 1) d (z [91] :: (tz (nmx n b n) ++ z [93] :: K)) p = .ok (.mk 1 ((b % 2 ^ n : Nat) : Int) [], K, p + 1) := by
  rw [thing]
  rw [if_neg (by show ([91] : Str) ≠ [40]; decide), some', if_neg (by omega), if_neg (by show ([91] : Str) ≠ [46]; decide), z_text, if_pos rfl, took94 hn hn6]
  simp only
  rw [names_x hE hn hn6 b n (Nat.le_refl _), names_end rfl rfl]
  simp only
  rw [want_yes]
  rfl
theorem thing_not {E : Env} {n nc : Nat} (hE : EnvOk E n) (hn : 1 ≤ n) (hn6 : n ≤ 6) (b f d p : Nat) (K : List Tk) (hp : p < 200) : thing E nc (f + 1) d (z [91] :: z [94] :: (tz (nmx n b n) ++ z [93] :: K)) p = .ok (.mk 1 (without (whole nc) ((b % 2 ^ n : Nat) : Int)) [], K, p + 1) := by
  rw [thing]
  rw [if_neg (by show ([91] : Str) ≠ [40]; decide), some', if_neg (by omega), if_neg (by show ([91] : Str) ≠ [46]; decide), z_text, if_pos rfl, took_yes]
  simp only
  rw [names_x hE hn hn6 b n (Nat.le_refl _), names_end rfl rfl]
  simp only
  rw [want_yes]
  rfl
theorem thing_open {E : Env} {nc f d p p1 : Nat} {ts K : List Tk} {e : Ex} (hd : d ≠ 16) (h : either E nc f (d + 1) ts p = .ok (e, z [41] :: K, p1)) : thing E nc (f + 1) d (z [40] :: ts) p = .ok (e, K, p1) := by
  rw [thing]
  rw [z_text, if_pos rfl, if_neg hd, h]
  simp only
  rw [want_yes]
theorem xp_head {n : Nat} (hn : 1 ≤ n) (hn6 : n ≤ 6) (L : List Nat) : ∀ d i, ∃ x X, xp n L d i = x :: X ∧ beg (z x) = true ∧ x ≠ [42] ∧ x ≠ [43] ∧ x ≠ [63] := by
  have hname : ∀ i, ∃ x X, [Hd.name n i] = x :: X ∧ beg (z x) = true ∧ x ≠ [42] ∧ x ≠ [43] ∧ x ≠ [63] := fun i => ⟨Hd.name n i, [], rfl, by unfold beg; rw [name_nm hn hn6 i]; rfl, name_ne hn hn6 i 42 (by decide), name_ne hn hn6 i 43 (by decide), name_ne hn hn6 i 63 (by decide)⟩
  have hs : ∀ (c : UInt8) (X Y : List Str), Y = [c] :: X → beg (z [c]) = true → ([c] : Str) ≠ [42] → ([c] : Str) ≠ [43] → ([c] : Str) ≠ [63] → ∃ x X, Y = x :: X ∧ beg (z x) = true ∧ x ≠ [42] ∧ x ≠ [43] ∧ x ≠ [63] := fun c X Y e h1 h2 h3 h4 => ⟨[c], X, e, h1, h2, h3, h4⟩
  intro d
  induction d with
  | zero => exact fun i => hname _
  | succ d ih =>
    intro i
    rw [xp]
    repeat' split
    all_goals first
      | exact hname _
      | exact hs 46 _ _ rfl rfl (by decide) (by decide) (by decide)
      | exact hs 91 _ _ rfl rfl (by decide) (by decide) (by decide)
      | exact hs 40 _ _ rfl rfl (by decide) (by decide) (by decide)
      | (obtain ⟨x, X, e, h⟩ := ih (up L i); rw [e]; exact ⟨x, _, rfl, h⟩)
/-- these pieces are so many things of a row, and so many places, wherever they stand. -/
def Xs (E : Env) (n d : Nat) (X : List Str) (es : List Ex) (q : Nat) : Prop := es ≠ [] ∧ (∀ e ∈ es, opz e ≠ 0) ∧ q ≤ 2 ^ d ∧ ∀ (dd p f : Nat) (K : List Tk) (l : List Ex), Nr K → dd + d ≤ 16 → p + 2 ^ d ≤ 200 → 4 * X.length ≤ f → ∃ f', row E n f dd (tz X ++ K) p l = row E n f' dd K (p + q) (l ++ es) ∧ f ≤ f' + X.length
theorem Xs.one {E : Env} {n d : Nat} {x : Str} {X : List Str} {e : Ex} (hx : beg (z x) = true) (he : opz e ≠ 0) (h : ∀ (g dd p : Nat) (K : List Tk), p < 200 → thing E n (g + 1) dd (z x :: (tz X ++ K)) p = .ok (e, K, p + 1)) : Xs E n d (x :: X) [e] 1 := by
  refine ⟨by simp, by simpa using he, Nat.two_pow_pos d, fun dd p f K l hK hd hp hf => ?_⟩
  have := Nat.two_pow_pos d
  rw [List.length_cons] at hf ⊢
  obtain ⟨g, rfl⟩ : ∃ g, f = g + 1 + 1 := ⟨f - 2, by omega⟩
  exact ⟨g + 1, row_step rfl hx (h g dd p K (by omega)) (often_no hK), by omega⟩
theorem Nr.close (K : List Tk) : Nr (z [41] :: K) := Nr.mk rfl (by show ([41] : Str) ≠ [42]; decide) (by show ([41] : Str) ≠ [43]; decide) (by show ([41] : Str) ≠ [63]; decide)
/-- a bracket around one expression, and how often. -/
theorem Xs.often {E : Env} {n d : Nat} {X : List Str} {es : List Ex} {q : Nat} (h : Xs E n d X es q) (c : UInt8) (op : Int) (hop : op ≠ 0) (ho : ∀ (e : Ex) (K : List Tk), Rl.often e (z [c] :: K) = .ok (.mk op 0 [e], K)) :
    Xs E n (d + 1) (([[40]] ++ X) ++ [[41], [c]]) [.mk op 0 [mkSeq es]] q := by
  obtain ⟨h2, h3, h4, h5⟩ := h
  have hp2 : 2 ^ (d + 1) = 2 * 2 ^ d := by rw [Nat.pow_succ]; omega
  refine ⟨by simp, by simpa [opz] using hop, by omega, fun dd p f K l hK hd hp hf => ?_⟩
  simp only [List.length_append, List.length_cons, List.length_nil] at hf ⊢
  obtain ⟨g, rfl⟩ : ∃ g, f = g + 1 + 1 + 1 := ⟨f - 3, by omega⟩
  obtain ⟨f', h1, h6⟩ := h5 (dd + 1) p g (z [41] :: z [c] :: K) [] (Nr.close _) (by omega) (by omega) (by omega)
  obtain ⟨f'', rfl⟩ : ∃ f'', f' = f'' + 1 := ⟨f' - 1, by omega⟩
  have hr : row E n g (dd + 1) (tz X ++ z [41] :: z [c] :: K) p [] = .ok (mkSeq es, z [41] :: z [c] :: K, p + q) := by
    rw [h1, row_end rfl rfl, List.nil_append]
  obtain ⟨g', rfl⟩ : ∃ g', g = g' + 1 := ⟨g - 1, by omega⟩
  have he : either E n (g' + 1 + 1) (dd + 1) (tz X ++ z [41] :: z [c] :: K) p = .ok (mkSeq es, z [41] :: z [c] :: K, p + q) := by
    rw [either, hr]
    simp only
    rw [alts, took_no rfl (by show ([41] : Str) ≠ [124]; decide)]
    rfl
  have ht := thing_open (by omega : dd ≠ 16) he
  refine ⟨g' + 1 + 1 + 1, ?_, by omega⟩
  have e1 : tz (([[40]] ++ X) ++ [[41], [c]]) ++ K = z [40] :: (tz X ++ z [41] :: z [c] :: K) := by
    simp [tz, List.append_assoc]
  rw [e1]
  exact row_step rfl rfl ht (ho _ _)
/-- one of two expressions. -/
theorem Xs.either {E : Env} {n d : Nat} {X Y : List Str} {es es2 : List Ex} {q q2 : Nat} (h : Xs E n d X es q) (k : Xs E n d Y es2 q2) : Xs E n (d + 1) (((([[40]] ++ X) ++ [[124]]) ++ Y) ++ [[41]]) [mkAlt [mkSeq es, mkSeq es2]] (q + q2) := by
  obtain ⟨_, _, h4, h5⟩ := h
  obtain ⟨_, _, k4, k5⟩ := k
  have hp2 : 2 ^ (d + 1) = 2 * 2 ^ d := by rw [Nat.pow_succ]; omega
  refine ⟨by simp, by simpa using alt_opz2, by omega, fun dd p f K l hK hd hp hf => ?_⟩
  simp only [List.length_append, List.length_cons, List.length_nil] at hf ⊢
  obtain ⟨g, rfl⟩ : ∃ g, f = g + 1 + 1 + 1 := ⟨f - 3, by omega⟩
  have nb : Nr (z [124] :: (tz Y ++ z [41] :: K)) := Nr.mk rfl (by show ([124] : Str) ≠ [42]; decide) (by show ([124] : Str) ≠ [43]; decide) (by show ([124] : Str) ≠ [63]; decide)
  obtain ⟨f', h1, h6⟩ := h5 (dd + 1) p g (z [124] :: (tz Y ++ z [41] :: K)) [] nb (by omega) (by omega) (by omega)
  obtain ⟨f'', rfl⟩ : ∃ f'', f' = f'' + 1 := ⟨f' - 1, by omega⟩
  obtain ⟨g', rfl⟩ : ∃ g', g = g' + 1 := ⟨g - 1, by omega⟩
  obtain ⟨f2, k1, k6⟩ := k5 (dd + 1) (p + q) g' (z [41] :: K) [] (Nr.close _) (by omega) (by omega) (by omega)
  obtain ⟨f3, rfl⟩ : ∃ f3, f2 = f3 + 1 := ⟨f2 - 1, by omega⟩
  obtain ⟨g2, rfl⟩ : ∃ g2, g' = g2 + 1 := ⟨g' - 1, by omega⟩
  have he : Rl.either E n (g2 + 1 + 1 + 1) (dd + 1) (tz X ++ z [124] :: (tz Y ++ z [41] :: K)) p = .ok (mkAlt [mkSeq es, mkSeq es2], z [41] :: K, p + q + q2) := by
    rw [Rl.either, h1, row_end rfl rfl, List.nil_append]
    simp only
    rw [alts, took_yes]
    simp only
    rw [k1, row_end rfl rfl, List.nil_append]
    simp only
    rw [alts, took_no rfl (by show ([41] : Str) ≠ [124]; decide)]
    rfl
  have ht := thing_open (by omega : dd ≠ 16) he
  refine ⟨g2 + 1 + 1 + 1 + 1, ?_, by omega⟩
  have e1 : tz (((([[40]] ++ X) ++ [[124]]) ++ Y) ++ [[41]]) ++ K = z [40] :: (tz X ++ z [124] :: (tz Y ++ z [41] :: K)) := by
    simp [tz, List.append_assoc]
  rw [e1, ← Nat.add_assoc]
  exact row_step rfl rfl ht (often_no hK)
/-- one expression behind another one. -/
theorem Xs.then {E : Env} {n d : Nat} {X Y : List Str} {es es2 : List Ex} {q q2 : Nat} (h : Xs E n d X es q) (k : Xs E n d Y es2 q2) (hY : ∀ K, Nr (tz Y ++ K)) : Xs E n (d + 1) ((X ++ []) ++ Y) (es ++ es2) (q + q2) := by
  obtain ⟨h2, h3, h4, h5⟩ := h
  obtain ⟨k2, k3, k4, k5⟩ := k
  have hp2 : 2 ^ (d + 1) = 2 * 2 ^ d := by rw [Nat.pow_succ]; omega
  refine ⟨by simp [h2], ?_, by omega, fun dd p f K l hK hd hp hf => ?_⟩
  · intro e he
    rcases List.mem_append.1 he with he | he
    · exact h3 e he
    · exact k3 e he
  · simp only [List.length_append, List.length_nil] at hf ⊢
    obtain ⟨f', h1, h6⟩ := h5 dd p f (tz Y ++ K) l (hY K) (by omega) (by omega) (by omega)
    obtain ⟨f2, k1, k6⟩ := k5 dd (p + q) f' K (l ++ es) hK (by omega) (by omega) (by omega)
    refine ⟨f2, ?_, by omega⟩
    have e1 : tz ((X ++ []) ++ Y) ++ K = tz X ++ (tz Y ++ K) := by simp [tz, List.append_assoc]
    rw [e1, h1, k1, List.append_assoc, Nat.add_assoc]
theorem xs_x {E : Env} {n : Nat} (hE : EnvOk E n) (hn : 1 ≤ n) (hn6 : n ≤ 6) (L : List Nat) : ∀ d i, ∃ es q, Xs E n d (xp n L d i) es q := by
  have nam : ∀ (d i : Nat), Xs E n d [Hd.name n i] [.mk 1 (2 ^ (i % n)) []] 1 := fun d i =>
    Xs.one (by unfold beg; rw [name_nm hn hn6 i]; rfl) (by decide : (1 : Int) ≠ 0) (fun g dd p K hp => thing_name hE hn hn6 i g dd p K hp)
  intro d
  induction d with
  | zero => exact fun i => ⟨_, _, nam 0 _⟩
  | succ d ih =>
    intro i
    rw [xp]
    by_cases c4 : at' L i % 12 = 4
    · rw [if_pos c4]
      exact ⟨_, _, Xs.one (x := [46]) (X := []) (e := .mk 1 (whole n) []) rfl (by decide : (1 : Int) ≠ 0) (fun g dd p K hp => thing_dot g dd p K hp)⟩
    rw [if_neg c4]
    by_cases c5 : at' L i % 12 = 5
    · rw [if_pos c5, List.append_assoc]
      refine ⟨_, _, Xs.one (x := [91]) (X := nmx n (at' L (up L i)) n ++ [[93]]) (e := .mk 1 ((at' L (up L i) % 2 ^ n : Nat) : Int) []) rfl (by decide : (1 : Int) ≠ 0) (fun g dd p K hp => ?_)⟩
      have e1 : tz (nmx n (at' L (up L i)) n ++ [[93]]) ++ K = tz (nmx n (at' L (up L i)) n) ++ z [93] :: K := by simp [tz, List.append_assoc]
      rw [e1]
      exact thing_set hE hn hn6 _ g dd p K hp
    rw [if_neg c5]
    by_cases c6 : at' L i % 12 = 6
    · rw [if_pos c6, List.append_assoc]
      refine ⟨_, _, Xs.one (x := [91]) (X := [94] :: (nmx n (at' L (up L i)) n ++ [[93]])) (e := .mk 1 (without (whole n) ((at' L (up L i) % 2 ^ n : Nat) : Int)) []) rfl (by decide : (1 : Int) ≠ 0) (fun g dd p K hp => ?_)⟩
      have e1 : tz ([94] :: (nmx n (at' L (up L i)) n ++ [[93]])) ++ K = z [94] :: (tz (nmx n (at' L (up L i)) n) ++ z [93] :: K) := by simp [tz, List.append_assoc]
      rw [e1]
      exact thing_not hE hn hn6 _ g dd p K hp
    rw [if_neg c6]
    obtain ⟨es, q, h1⟩ := ih (up L i)
    obtain ⟨es2, q2, h2⟩ := ih (ex n L d (up L i)).2
    by_cases c7 : at' L i % 12 = 7
    · rw [if_pos c7]
      exact ⟨_, _, h1.often 42 4 (by decide) (fun e K => rfl)⟩
    rw [if_neg c7]
    by_cases c8 : at' L i % 12 = 8
    · rw [if_pos c8]
      exact ⟨_, _, h1.often 43 5 (by decide) (fun e K => rfl)⟩
    rw [if_neg c8]
    by_cases c9 : at' L i % 12 = 9
    · rw [if_pos c9]
      exact ⟨_, _, h1.often 63 6 (by decide) (fun e K => rfl)⟩
    rw [if_neg c9]
    by_cases c10 : at' L i % 12 = 10
    · rw [if_pos c10]
      exact ⟨_, _, h1.either h2⟩
    rw [if_neg c10]
    by_cases c11 : at' L i % 12 = 11
    · rw [if_pos c11]
      refine ⟨_, _, h1.then h2 (fun K => ?_)⟩
      obtain ⟨x, X, e, h1, h2, h3, h4⟩ := xp_head hn hn6 L d (ex n L d (up L i)).2
      rw [e]
      exact Nr.mk (t := z x) rfl h2 h3 h4
    rw [if_neg c11]
    exact ⟨_, _, nam _ _⟩
/-- a whole expression. -/
theorem either_x {E : Env} {n : Nat} (hE : EnvOk E n) (hn : 1 ≤ n) (hn6 : n ≤ 6) (L : List Nat) : ∃ (e : Ex) (q : Nat), q ≤ 8 ∧ (opz e = 0 ↔ L.length = 0) ∧ ∀ (p f : Nat) (t : Tk) (K : List Tk), t.bad = false → beg t = false → t.text ≠ [124] → Nr (t :: K) → p + 8 ≤ 200 → 4 * (xpr n L).length + 4 ≤ f →
    either E n f 0 (tz (xpr n L) ++ t :: K) p = .ok (e, t :: K, p + q) := by
  unfold xpr
  by_cases h0 : L.length = 0
  · rw [if_pos h0]
    refine ⟨.mk 0 0 [], 0, by omega, by simp [h0, opz], fun p f t K hb hg h124 hK hp hf => ?_⟩
    obtain ⟨g, rfl⟩ : ∃ g, f = g + 1 + 1 := ⟨f - 2, by omega⟩
    rw [either]
    rw [tz_nil, List.nil_append, row_end hb hg]
    simp only
    rw [alts, took_no hb h124]
    rfl
  · rw [if_neg h0]
    obtain ⟨es, q, h2, h3, h4, h5⟩ := xs_x hE hn hn6 (L.take 30) 3 0
    refine ⟨mkSeq es, q, h4, ?_, fun p f t K hb hg h124 hK hp hf => ?_⟩
    · have := seq_opz h2 h3
      constructor
      · intro e; exact absurd e this
      · intro e; exact absurd e h0
    · obtain ⟨g, rfl⟩ : ∃ g, f = g + 1 + 1 := ⟨f - 2, by omega⟩
      obtain ⟨f', h1, h6⟩ := h5 0 p (g + 1) (t :: K) [] hK (by omega) (by omega) (by omega)
      obtain ⟨f'', rfl⟩ : ∃ f'', f' = f'' + 1 := ⟨f' - 1, by omega⟩
      rw [either, h1, row_end hb hg, List.nil_append]
      simp only
      rw [alts, took_no hb h124]
      rfl
end Rl
end Go.Proofs.Ytahoepmnekconab
