/-
  Texts of bytes below 128; the texts of PatsLimits, reckoned.
-/
import Derived.Test.YtjgbfpemkjpikaaDoorJn
namespace Go.Proofs.YtjgbfpemkjpikaaDoor
set_option linter.unusedVariables false
set_option linter.unusedSimpArgs false
/-- a text's bytes as numbers. -/
def tl (s : ByteArray) : List Nat := s.data.toList.map UInt8.toNat
theorem tl_app (a b : ByteArray) : tl (a ++ b) = tl a ++ tl b := by
  unfold tl
  rw [ByteArray.data_append, Array.toList_append, List.map_append]
theorem tl_len (s : ByteArray) : (tl s).length = s.size := by
  unfold tl
  rw [List.length_map, Array.length_toList]
  rfl
theorem bx_tl (s : ByteArray) (j c : Nat) (h : (tl s)[j]? = some c) : bx s j = c := by
  unfold tl at h
  rw [List.getElem?_map, Array.getElem?_toList] at h
  unfold bx
  cases hc : s.data[j]? with
  | none => rw [hc] at h; cases h
  | some x => rw [hc] at h; injection h
/-- signs of bytes below 128. -/
def asc : List Nat → Nat → List (Nat × Nat × Nat)
  | [], _ => []
  | c :: cs, p => (c, p, 1) :: asc cs (p + 1)
theorem asc_app : ∀ (A B : List Nat) (p : Nat), asc (A ++ B) p = asc A p ++ asc B (p + A.length)
  | [], B, p => rfl
  | c :: A, B, p => by
    simp only [List.cons_append, asc, List.length_cons]
    rw [asc_app A B (p + 1), show p + 1 + A.length = p + (A.length + 1) by omega]
theorem rest_asc (n : Nat) (x : Nat → Nat) : ∀ (L : List Nat) (p : Nat), n = p + L.length → (∀ c ∈ L, c < 128) → (∀ (j c : Nat), L[j]? = some c → x (p + j) = c) → Sg.rest n x p = asc L p
  | [], p, hn, _, _ => by rw [Sg.rest_end _ _ _ (by simp at hn; omega)]; rfl
  | c :: L, p, hn, hc, hx => by
    simp only [List.length_cons] at hn
    rw [Sg.rest_step _ _ _ (by omega)]
    have h0 : x (p + 0) = c := hx 0 c rfl
    obtain ⟨h1, h2⟩ := Sg.ascii (n := n - p) (y := fun j => x (p + j)) (by show x (p + 0) < 128; rw [h0]; exact hc c (by simp))
    rw [h1, h2, rest_asc n x L (p + 1) (by omega) (fun c' h => hc c' (by simp [h])) (fun j c' h => by rw [show p + 1 + j = p + (j + 1) by omega]; exact hx (j + 1) c' (by simpa using h))]
    simp only [asc]
    rw [h0]
theorem sgs_asc (s : ByteArray) (h : ∀ c ∈ tl s, c < 128) : sgs s = asc (tl s) 0 := by
  unfold sgs Sg.all
  exact rest_asc s.size (bx s) (tl s) 0 (by rw [tl_len]; omega) h (fun j c hj => by rw [Nat.zero_add]; exact bx_tl s j c hj)
/-- a word of PatsLimits. -/
def limw (k : Nat) : List Nat := [49, 97 + k % 26, 97 + k / 26]
def limL : Nat → List Nat
  | 0 => []
  | k + 1 => limL k ++ (limw k ++ [32])
theorem limL_len : ∀ k, (limL k).length = 4 * k
  | 0 => rfl
  | k + 1 => by simp [limL, limw, limL_len k]; omega
theorem limL_small : ∀ k, k ≤ 257 → ∀ c ∈ limL k, c < 128
  | 0, _, c, h => by cases h
  | k + 1, hk, c, h => by
    simp only [limL, limw, List.mem_append, List.mem_cons, List.mem_nil_iff, or_false] at h
    rcases h with h | (h | h | h) | h
    · exact limL_small k (by omega) c h
    all_goals omega
def wl (k : Nat) : List (List Nat × Nat) := (List.range k).map (fun i => (limw i, 4 * i))
theorem wds_nil : wds [] = [] := rfl
theorem bl_no {c : Nat} (h : 32 < c) : Pt.isBl c = false := by
  unfold Pt.isBl
  simp
  omega
theorem wds_word {x y z : Nat} (p : Nat) (hx : 32 < x) (hy : 32 < y) (hz : 32 < z) : wds (asc [x, y, z] p) = [([x, y, z], p)] := by
  simp [wds, asc, rs, cuts, bl_no hx, bl_no hy, bl_no hz, wordOf, atOf]
theorem wds_lim : ∀ k, wds (asc (limL k) 0) = wl k
  | 0 => rfl
  | k + 1 => by
    have e1 : asc (limL (k + 1)) 0 = (asc (limL k) 0 ++ asc (limw k) (4 * k)) ++ (32, 4 * k + 3, 1) :: [] := by
      simp only [limL]
      rw [asc_app, asc_app, limL_len, Nat.zero_add, List.append_assoc]
      rfl
    have e2 : wl (k + 1) = wl k ++ [(limw k, 4 * k)] := by unfold wl; rw [List.range_succ, List.map_append]; rfl
    have e3 : wds (asc (limw k) (4 * k)) = [(limw k, 4 * k)] := wds_word _ (by omega) (by omega) (by omega)
    rw [e1, wds_sep _ _ (by decide), wds_nil, List.append_nil, e2, ← wds_lim k, ← e3]
    cases k with
    | zero => rfl
    | succ k =>
      have e4 : asc (limL (k + 1)) 0 = asc (limL k ++ limw k) 0 ++ (32, 4 * k + 3, 1) :: [] := by
        simp only [limL]
        rw [← List.append_assoc, asc_app, List.length_append, limL_len, Nat.zero_add]
        rfl
      rw [e4, List.append_assoc, List.cons_append, List.nil_append, wds_sep _ _ (by decide), wds_sep _ _ (by decide), wds_nil, List.append_nil]
def lpat (i : Nat) : Pt.Pat := ⟨[97 + i % 26, 97 + i / 26], [1, 0, 0]⟩
theorem patt_lim (k : Nat) (hk : k ≤ 256) : Pt.patt (limw k) = some (lpat k) := by
  have h1 : 97 + k % 26 ≤ 122 := by omega
  have h2 : 97 + k / 26 ≤ 122 := by omega
  have a1 : Pt.isDg (97 + k % 26) = false := by unfold Pt.isDg; simp; omega
  have a2 : Pt.isDg (97 + k / 26) = false := by unfold Pt.isDg; simp; omega
  have a0 : Pt.isDg 49 = true := rfl
  unfold limw lpat
  have b1 : 97 + k % 26 ≠ 46 := by omega
  have b2 : 97 + k / 26 ≠ 46 := by omega
  have b3 : ¬ 65533 = 97 + k % 26 := by omega
  have b4 : ¬ 65533 = 97 + k / 26 := by omega
  have b5 : ¬ 46 = 97 + k % 26 := by omega
  have b6 : ¬ 46 = 97 + k / 26 := by omega
  simp [Pt.patt, Pt.parted, Pt.raw, a0, a1, a2, b1, b2, b3, b4, b5, b6, Pt.ends, Pt.dval]
theorem no45 (k : Nat) : 45 ∉ limw k := by
  unfold limw
  simp
  omega
theorem wrun_lim : ∀ k, k ≤ 256 → wrun (wl k) [] [] = (0, 0, (List.range k).map lpat, [])
  | 0, _ => rfl
  | k + 1, hk => by
    have e2 : wl (k + 1) = wl k ++ [(limw k, 4 * k)] := by unfold wl; rw [List.range_succ, List.map_append]; rfl
    rw [e2, wrun_app, wrun_lim k (by omega), if_pos rfl, List.range_succ, List.map_append]
    have e : addR (limw k) ((List.range k).map lpat) [] = (0, (List.range k).map lpat ++ [lpat k], []) := by
      unfold addR
      rw [if_neg (by simp; omega), if_neg (no45 k), patt_lim k (by omega)]
    simp only [wrun]
    rw [e]
    rfl
theorem wrun_lim7 : wrun (wl 257) [] [] = (24, 1024, [], []) := by
  have e2 : wl 257 = wl 256 ++ [(limw 256, 1024)] := by unfold wl; rw [List.range_succ, List.map_append]; rfl
  rw [e2, wrun_app, wrun_lim 256 (by omega), if_pos rfl]
  have e : addR (limw 256) ((List.range 256).map lpat) [] = (24, (List.range 256).map lpat, []) := by
    unfold addR
    rw [if_pos (by simp)]
  simp only [wrun]
  rw [e]
  rfl
theorem parse_lim {s : ByteArray} {k : Nat} (h : tl s = limL k) (hk : k ≤ 257) : parseR s = wrun (wl k) [] [] := by
  have hs : s.size = 4 * k := by rw [← tl_len, h, limL_len]
  rw [parse_wrun (by omega), sgs_asc s (by rw [h]; exact limL_small k hk), h, wds_lim]
theorem parse_lim6 {s : ByteArray} (h : tl s = limL 256) : (parseR s).1 = 0 := by rw [parse_lim h (by omega), wrun_lim 256 (by omega)]
theorem parse_lim7 {s : ByteArray} (h : tl s = limL 257) : parseR s = (24, 1024, [], []) := by rw [parse_lim h (by omega), wrun_lim7]
/-- the other text. -/
def xsL (k : Nat) : List Nat := [97, 98, 32] ++ List.replicate k 120
theorem parse_x4 : (parseR ⟨#[97, 98, 32, 120, 120, 120, 120, 120, 120, 120, 120, 120, 120, 120, 120, 120, 120, 120, 120, 120, 120, 120, 120, 120, 120, 120, 120]⟩).1 = 0 := by kernel_rfl
theorem parse_x5 : parseR ⟨#[97, 98, 32, 120, 120, 120, 120, 120, 120, 120, 120, 120, 120, 120, 120, 120, 120, 120, 120, 120, 120, 120, 120, 120, 120, 120, 120, 120]⟩ = (30, 3, [], []) := by kernel_rfl
theorem tl_inj {a b : ByteArray} (h : tl a = tl b) : a = b := by
  unfold tl at h
  have h2 : a.data.toList = b.data.toList := (List.map_inj_right (fun x y h => UInt8.toNat.inj h)).1 h
  have h3 : a.data = b.data := Array.toList_inj.1 h2
  cases a
  cases b
  simp only at h3
  rw [h3]
theorem parse_x24 {s : ByteArray} (h : tl s = xsL 24) : (parseR s).1 = 0 := by
  have e : s = ⟨#[97, 98, 32, 120, 120, 120, 120, 120, 120, 120, 120, 120, 120, 120, 120, 120, 120, 120, 120, 120, 120, 120, 120, 120, 120, 120, 120]⟩ := tl_inj (by rw [h]; rfl)
  rw [e]
  exact parse_x4
theorem parse_x25 {s : ByteArray} (h : tl s = xsL 25) : parseR s = (30, 3, [], []) := by
  have e : s = ⟨#[97, 98, 32, 120, 120, 120, 120, 120, 120, 120, 120, 120, 120, 120, 120, 120, 120, 120, 120, 120, 120, 120, 120, 120, 120, 120, 120, 120]⟩ := tl_inj (by rw [h]; rfl)
  rw [e]
  exact parse_x5
end Go.Proofs.YtjgbfpemkjpikaaDoor
