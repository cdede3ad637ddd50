/-
  Hyphens counted, and what they cost. (For BestHyphens.)
-/
import Derived.Test.YthckdomljfdmpaaRb
import Derived.Test.YthckdomljfdmpaaDt
import Derived.Test.YthckdomljfdmpaaCf
namespace Go.Proofs.Ythckdomljfdmpaa
open Go.RowKit Go.Maps
set_option linter.unusedVariables false
set_option linter.unusedSimpArgs false
/-- where a hyphen costs and two in a row nothing more. -/
theorem bsF_more (C : List Ct) (O : List Nat) (t W h lo b : Nat) : bsF C O t W h 0 lo b = Ds.more (bsF C O t W 0 0 lo b) (fun k => O.getD k 0 == 3) h := by
  funext i k
  unfold Ds.more bsF
  have hx : ∀ h, Sp.ext O h 0 i k = if (O.getD k 0 == 3) = true then h else 0 := fun h => by
    unfold Sp.ext
    have h0 : (if O.getD i 0 = 3 then (0 : Nat) else 0) = 0 := by split <;> rfl
    rw [h0, Nat.add_zero]
    by_cases e : O.getD k 0 = 3
    · rw [if_pos e, if_pos (by rw [e]; rfl)]
    · rw [if_neg e, if_neg (by rw [beq_iff_eq]; exact e)]
  have hx0 : Sp.ext O 0 0 i k = 0 := by rw [hx]; split <;> rfl
  cases hc : Sp.can C O t W i k with
  | false => rw [Sp.cos_no hc, Sp.cos_no hc]; rfl
  | true =>
    cases decide (k = b) with
    | true => rw [Sp.cos_last hc, Sp.cos_last hc, hx h, hx0]; rfl
    | false =>
      cases hl : Fl.loose lo (Sp.rat C O t W i k) with
      | true => rw [Sp.cos_loose hc hl, Sp.cos_loose hc hl]; rfl
      | false => rw [Sp.cos_fit hc hl, Sp.cos_fit hc hl, hx h, hx0]; rfl
/-- how many lines end in a hyphen. -/
def hyL : List Ln → Nat
  | [] => 0
  | x :: L => (if x.e = 3 then 1 else 0) + hyL L
theorem hyL_le : ∀ L : List Ln, hyL L ≤ L.length
  | [] => Nat.le_refl _
  | x :: L => by
    have := hyL_le L
    unfold hyL
    rw [List.length_cons]
    split <;> omega
theorem hyL_mk (C : List Ct) (O : List Nat) (t : Nat) : ∀ (a : Nat) (E : List Nat), hyL (mkL C O t a E) = Ds.hys (fun k => O.getD k 0 == 3) E
  | _, [] => rfl
  | a, k :: E => by
    unfold mkL hyL Ds.hys
    rw [hyL_mk C O t k E]
    by_cases e : O.getD k 0 = 3
    · rw [if_pos e, if_pos (by rw [e]; rfl)]
    · rw [if_neg e, if_neg (by rw [beq_iff_eq]; exact e)]
theorem hyL_step {L : List Ln} {i : Nat} {x : Ln} (h : L[i]? = some x) : hyL (L.take (i + 1)) = hyL (L.take i) + (if x.e = 3 then 1 else 0) := by
  induction L generalizing i with
  | nil => simp at h
  | cons y L ih =>
    cases i with
    | zero =>
      simp at h
      subst h
      simp [hyL]
    | succ i =>
      have := ih (i := i) (by simpa using h)
      simp only [List.take_succ_cons, hyL]
      omega
theorem box4t (w : World) (u0 u1 u2 u3 v0 v1 v2 v3 : Value) (t : TypeId) : ∃ R w0, (w.alloc (.cells #[u0, u1, u2, u3] t)).setRow w.heap.size #[v0, v1, v2, v3] = w0 ∧ w.heap.size = R ∧ (w0.cell? ⟨R, 3, none⟩ = some v3 ∧ R < w0.heap.size) ∧ Hid (Only (fun _ => False) w w0) := by
  have h := setRow_heap (w.alloc (.cells #[u0, u1, u2, u3] t)) w.heap.size _ #[v0, v1, v2, v3] _ _ (heap_alloc_new w _)
  exact ⟨_, _, rfl, rfl, ⟨by rw [cell_blk h]; rfl, (Array.getElem?_eq_some_iff.1 h).1⟩, ((Only.refl _ _).alloc _).setRowNew (Nat.le_refl _) _⟩
theorem ln_one (a b c d : Int) : (#[Value.int .i64 a, .int .i64 b, .int .i64 c, .int .u8 d].all fun x => x.oneCell') = true := by
  simp [Value.oneCell']
set_option maxRecDepth 100000 in
set_option maxHeartbeats 4000000 in
theorem count_any (L : List Ln) (n : Nat) (a0 : Option Addr) (c0 : Nat) (w : World) (hn : n = L.length) (hV : Vw w a0 (lnC L)) (h5 : n ≤ 100000) (h8 : ∀ x ∈ L, x.e < 256) :
    Calls Try.prog 21 #[.slice a0 n c0] w fun e w' => e = .returned (.int .i64 (hyL L : Int)) ∧ Only (fun _ => False) w w' := by
  have HN : Hid (n = L.length ∧ Vw w a0 (lnC L)) := ⟨hn, hV⟩
  have H8 : Hid (∀ x ∈ L, x.e < 256) := h8
  clear hn hV h8
  go_enter Try.func21, Try.ntmps21
  go_wp2_with fail
  go_loopg [3, 8] n (fun gh v3 v8 wr => ∃ (i q : Nat) (V : World), V = wr ∧ gh = n - i ∧ i ≤ n ∧ v3 = .int .i64 (q : Int) ∧ v8 = .int .i64 (i : Int) ∧ q = hyL (L.take i) ∧ Only (fun _ => False) w V)
  case atStart => exact ⟨0, 0, _, rfl, rfl, Nat.zero_le _, rfl, rfl, rfl, Only.refl _ _⟩
  case round =>
    obtain ⟨i, q, V, hV, rfl, hi, rfl, rfl, hq, hoV⟩ := hrel
    subst hV
    have hqi : q ≤ i := by rw [hq]; exact Nat.le_trans (hyL_le _) (by rw [List.length_take]; omega)
    have HG : Hid (q = hyL (L.take i) ∧ Only (fun _ => False) w V) := ⟨hq, hoV⟩
    clear hq hoV
    by_cases hlt : i < n
    · have t1 : (i : Int) < (n : Int) := by omega
      obtain ⟨x, hx⟩ : ∃ x, L[i]? = some x := ⟨_, List.getElem?_eq_getElem (by rw [← HN.out.1]; exact hlt)⟩
      have HST : Hid (hyL (L.take (i + 1)) = hyL (L.take i) + (if x.e = 3 then 1 else 0)) := hyL_step hx
      obtain ⟨g, off, rfl, hg, c0', c1', c2', c3'⟩ := (HN.out.2.keep HG.out.2).line hx
      have hx8 := H8.out x (List.mem_of_getElem? hx)
      obtain ⟨xa, xb, xw, xe⟩ := x
      simp only at c0' c1' c2' c3' hx8
      clear hx
      go_upto_region 5 with (refine wpList_store_row rfl 52 _ _ rfl V.heap.size #[.int .i64 (xa : Int), .int .i64 (xb : Int), .int .i64 (xw : Int), .int .u8 (xe : Int)] rfl rfl 52 _ (heap_alloc_new V _) (by kernel_rfl) rfl (ln_one _ _ _ _) ?_)
      obtain ⟨R, V1, hV1, hR, ⟨d3, lR⟩, HO⟩ := box4t V (.int .i64 0) (.int .i64 0) (.int .i64 0) (.int .u8 0) (.int .i64 (xa : Int)) (.int .i64 (xb : Int)) (.int .i64 (xw : Int)) (.int .u8 (xe : Int)) 52
      rw [hV1, hR]
      clear hV1 hR c0' c1' c2' c3' hg
      by_cases h3 : xe = 3
      · have t2 : ((xe : Int) == 3) = true := by rw [beq_iff_eq]; omega
        have HQ : Hid (q + 1 = hyL (L.take (i + 1))) := by rw [HST.out, if_pos h3, HG.out.1]; rfl
        clear h3 HST
        go_wp2_with fail
        go_roundg (n - (i + 1))
        case measure => omega
        case rel => exact ⟨i + 1, q + 1, _, rfl, rfl, by omega, by go_num, by go_num, HQ.out, HG.out.2.trans HO.out⟩
      · have t2 : ((xe : Int) == 3) = false := by rw [beq_eq_false_iff_ne]; omega
        have HQ : Hid (q = hyL (L.take (i + 1))) := by rw [HST.out, if_neg h3, HG.out.1]; rfl
        clear h3 HST
        go_wp2_with fail
        go_roundg (n - (i + 1))
        case measure => omega
        case rel => exact ⟨i + 1, q, _, rfl, rfl, by omega, rfl, by go_num, HQ.out, HG.out.2.trans HO.out⟩
    · have t1 : decide ((i : Int) < (n : Int)) = false := decide_eq_false (by omega)
      have HQ : Hid (q = hyL L) := by rw [HG.out.1, List.take_of_length_le (by rw [← HN.out.1]; omega)]; rfl
      go_wp2_with fail
      go_ret
      exact ⟨by rw [HQ.out]; rfl, HG.out.2⟩
end Go.Proofs.Ythckdomljfdmpaa

