/-
  Readings, and chapter 3's examples.
-/
import Derived.Test.YtahoepmnekconabP1x
namespace Go.Proofs.Ytahoepmnekconab
open Go.RowKit Go.Maps
set_option linter.unusedVariables false
set_option linter.unusedSimpArgs false
set_option linter.unusedVariables false
set_option linter.unusedSimpArgs false
/-- what is read of a text: too long, or its lines. -/
def rd (S : ByteArray) (F : Rl.R Rl.St) : Prop := (4096 < S.size ∧ F = .error (24, 4096)) ∨ (S.size ≤ 4096 ∧ ∃ ts, Rl.Strm S.data.toList 0 ts ∧ F = Rl.lines (ts.length + 1) ts Rl.st0)
theorem rd_some (S : ByteArray) : ∃ F, rd S F := by
  by_cases h : 4096 < S.size
  · exact ⟨_, Or.inl ⟨h, rfl⟩⟩
  · obtain ⟨ts, hs⟩ := Rl.strm_some S.data.toList (S.data.toList.length + 1) 0 (by omega) (Nat.zero_le _)
    exact ⟨_, Or.inr ⟨by omega, ts, hs, rfl⟩⟩
set_option maxRecDepth 100000 in
set_option maxHeartbeats 4000000 in
theorem parse_all (S : ByteArray) (F : Rl.R Rl.St) (w : World) (h : rd S F) : Calls Try.prog 6 #[.string S] w (parseP w F) := by
  rcases h with ⟨hS, rfl⟩ | ⟨hS, ts, hs, rfl⟩
  · have hSi : (4096 : Int) < (S.size : Int) := by omega
    go_enter_defers Try.func6, Try.ntmps6
    go_wp2_with fail
    refine ⟨.tuple #[noRules, .agg #[.int .i64 24, .int .i64 4096]], ?_, rfl, ((Only.refl (fun _ => False) w).alloc _).alloc _⟩
    exact results_row_row (fn := Try.f6) (p := 2) (q := 3) (ty := 30) (ty' := 33) rfl _ _ w.heap.size 30 _ (0, 0) _ rfl (heap_alloc2_old w (.cells #[.slice none 0 0, .int .u32 0, .int .u32 0, .slice none 0 0, .slice none 0 0] 30) _) Try.underlying30 rfl info37 (w.heap.size + 1) 33 _ (0, 0) _ rfl (heap_alloc2_new w _ (.cells #[.int .i64 24, .int .i64 4096] 33)) Try.underlying33 rfl info40
  · exact parse_any S ts _ w hs hS (by omega)
end Go.Proofs.Ytahoepmnekconab
namespace Go.Proofs.Ytahoepmnekconab
open Go.RowKit Go.Maps
set_option linter.unusedVariables false
set_option linter.unusedSimpArgs false
namespace Rl
def toks : Nat → Str → Nat → List Tk
  | 0, _, _ => []
  | n + 1, l, i => if (tk l i).text = [] then [tk l i] else tk l i :: toks n l ((tk l i).at' + (tk l i).text.length)
theorem strm_toks (l : Str) : ∀ (n i : Nat), l.length - i < n → i ≤ l.length → Strm l i (toks n l i)
  | 0, _, h, _ => absurd h (Nat.not_lt_zero _)
  | n + 1, i, h, hi => by
    unfold toks
    by_cases e : (tk l i).text = []
    · rw [if_pos e]
      exact ⟨rfl, by rw [if_pos e]⟩
    · rw [if_neg e]
      have h1 := tk_end l i hi
      have h2 : 0 < (tk l i).text.length := List.length_pos_iff.2 e
      have h3 : i ≤ (tk l i).at' := nx_ge l i
      exact ⟨rfl, by rw [if_neg e]; exact strm_toks l n _ (by omega) h1⟩
/-- a text's reading. -/
def plain (l : Str) : R St := lines ((toks (l.length + 1) l 0).length + 1) (toks (l.length + 1) l 0) st0
end Rl
theorem rd_plain {S : ByteArray} (h : S.size ≤ 4096) : rd S (Rl.plain S.data.toList) := Or.inr ⟨h, _, Rl.strm_toks _ _ 0 (by omega) (Nat.zero_le _), rfl⟩
def wit1 : Rl.Str := [99, 108, 97, 115, 115, 32, 65, 32, 66, 59, 32, 115, 101, 116, 32, 83, 32, 61, 32, 65, 32, 66, 59, 32, 107, 101, 101, 112, 32, 65, 32, 47, 32, 66, 32, 124, 32, 83, 42, 59, 32, 109, 97, 121, 32, 46, 32, 47, 32, 46, 59]
def wit2 : Rl.Str := [107, 101, 101, 112, 32, 65, 32, 47, 32, 65, 59]
def wit3 : Rl.Str := [99, 108, 97, 115, 115, 32, 65, 32, 65, 59]
def wit4 : Rl.Str := [107, 101, 101, 112, 32, 47]
def chk1 (F : Rl.R Rl.St) : Bool := match F with
  | .ok s => s.cls.length == 2 && s.list.length == 2 && (match s.list[1]? with | some r => (match r.left with | .mk _ st _ => st == 3) | none => false)
  | .error _ => false
def chkE (F : Rl.R Rl.St) (c i : Nat) : Bool := match F with
  | .ok _ => false
  | .error f => f.1 == c && f.2 == i
theorem chk_e {F : Rl.R Rl.St} {c i : Nat} (h : chkE F c i = true) : F = .error (c, i) := by
  cases F with
  | ok s => cases h
  | error f =>
    obtain ⟨a, b⟩ := f
    simp [chkE] at h
    rw [h.1, h.2]
theorem got2 : Rl.plain wit2 = .error (22, 5) := chk_e (by kernel_rfl)
theorem got3 : Rl.plain wit3 = .error (23, 8) := chk_e (by kernel_rfl)
theorem got4 : Rl.plain wit4 = .error (21, 6) := chk_e (by kernel_rfl)
theorem got1 : chk1 (Rl.plain wit1) = true := by kernel_rfl
theorem got1' : ∃ s, Rl.plain wit1 = .ok s ∧ s.cls.length = 2 ∧ s.list.length = 2 ∧ ∃ r op kids, s.list[1]? = some r ∧ r.left = .mk op 3 kids := by
  have h := got1
  cases hp : Rl.plain wit1 with
  | error f => rw [hp] at h; cases h
  | ok s =>
    rw [hp] at h
    simp only [chk1, Bool.and_eq_true, beq_iff_eq] at h
    obtain ⟨⟨h1, h2⟩, h3⟩ := h
    refine ⟨s, rfl, h1, h2, ?_⟩
    cases hr : s.list[1]? with
    | none => rw [hr] at h3; cases h3
    | some r =>
      rw [hr] at h3
      simp only at h3
      obtain ⟨d, l, q⟩ := r
      obtain ⟨op, st, kids⟩ := l
      simp at h3
      subst h3
      exact ⟨_, op, kids, rfl, rfl⟩
theorem rdw {l : Rl.Str} {F : Rl.R Rl.St} (h : Rl.plain l = F) (hl : l.length ≤ 4096) : rd ⟨l.toArray⟩ F := by
  have := rd_plain (S := ⟨l.toArray⟩) (by show l.toArray.size ≤ 4096; simpa using hl)
  rw [show (⟨l.toArray⟩ : ByteArray).data.toList = l from rfl, h] at this
  exact this
theorem parse_w1 (w : World) : Calls Try.prog 6 #[.string ⟨#[99, 108, 97, 115, 115, 32, 65, 32, 66, 59, 32, 115, 101, 116, 32, 83, 32, 61, 32, 65, 32, 66, 59, 32, 107, 101, 101, 112, 32, 65, 32, 47, 32, 66, 32, 124, 32, 83, 42, 59, 32, 109, 97, 121, 32, 46, 32, 47, 32, 46, 59]⟩] w fun e w' => ∃ aC cC aT nT cT g cL j a, e = .returned (.tuple #[.agg #[.slice aC 2 cC, .int .u32 j, .int .u32 a, .slice aT nT cT, .slice (some ⟨g, 0, none⟩) 2 cL], .agg #[.int .i64 0, .int .i64 0]]) ∧ w'.cell? ⟨g, 9, none⟩ = some (.int .u32 3) ∧ g < w'.heap.size ∧ Only (fun _ => False) w w' := by
  obtain ⟨s, hp1, hc2, hl2, r, op, kids, hr, hrl⟩ := got1'
  refine (parse_all _ _ w (rdw hp1 (by decide) : rd ⟨#[99, 108, 97, 115, 115, 32, 65, 32, 66, 59, 32, 115, 101, 116, 32, 83, 32, 61, 32, 65, 32, 66, 59, 32, 107, 101, 101, 112, 32, 65, 32, 47, 32, 66, 32, 124, 32, 83, 42, 59, 32, 109, 97, 121, 32, 46, 32, 47, 32, 46, 59]⟩ (.ok s))).mono ?_
  rintro e w1 ⟨⟨v1, B1, rfl, hB1, hV1⟩, ho1⟩
  obtain ⟨aC, aT, aL, cC, cT, cL, rfl, hr1, hr2, hr3, hr4, hr5, hr6⟩ := hV1
  obtain ⟨g, qo, qs, a1, n1, cp, qo', qs', a1', n1', cp', rfl, hgl, p0, p1, p2, p3, hTl, p4, p5, p6, hTr⟩ := Rls.get hr3 hr
  have hqs : qs = 3 := by
    rw [hrl] at hTl
    unfold Tr at hTl
    obtain ⟨_, _, hh, _⟩ := hTl
    simp at hh
    exact hh.2.1
  rw [hqs] at p2
  rw [hc2, hl2]
  exact ⟨aC, cC, aT, s.treat.length, cT, g, cL, s.join, s.after, rfl, p2, hgl, ho1⟩
theorem parse_w2 (w : World) : Calls Try.prog 6 #[.string ⟨#[107, 101, 101, 112, 32, 65, 32, 47, 32, 65, 59]⟩] w fun e w' => e = .returned (.tuple #[.agg #[.slice none 0 0, .int .u32 0, .int .u32 0, .slice none 0 0, .slice none 0 0], .agg #[.int .i64 22, .int .i64 5]]) ∧ Only (fun _ => False) w w' := by
  refine (parse_all _ _ w (rdw got2 (by decide) : rd ⟨#[107, 101, 101, 112, 32, 65, 32, 47, 32, 65, 59]⟩ (.error (22, 5)))).mono ?_
  rintro e w' ⟨h1, h2⟩
  exact ⟨h1, h2⟩
theorem parse_w3 (w : World) : Calls Try.prog 6 #[.string ⟨#[99, 108, 97, 115, 115, 32, 65, 32, 65, 59]⟩] w fun e w' => e = .returned (.tuple #[.agg #[.slice none 0 0, .int .u32 0, .int .u32 0, .slice none 0 0, .slice none 0 0], .agg #[.int .i64 23, .int .i64 8]]) ∧ Only (fun _ => False) w w' := by
  refine (parse_all _ _ w (rdw got3 (by decide) : rd ⟨#[99, 108, 97, 115, 115, 32, 65, 32, 65, 59]⟩ (.error (23, 8)))).mono ?_
  rintro e w' ⟨h1, h2⟩
  exact ⟨h1, h2⟩
theorem parse_w4 (w : World) : Calls Try.prog 6 #[.string ⟨#[107, 101, 101, 112, 32, 47]⟩] w fun e w' => e = .returned (.tuple #[.agg #[.slice none 0 0, .int .u32 0, .int .u32 0, .slice none 0 0, .slice none 0 0], .agg #[.int .i64 21, .int .i64 6]]) ∧ Only (fun _ => False) w w' := by
  refine (parse_all _ _ w (rdw got4 (by decide) : rd ⟨#[107, 101, 101, 112, 32, 47]⟩ (.error (21, 6)))).mono ?_
  rintro e w' ⟨h1, h2⟩
  exact ⟨h1, h2⟩
set_option maxRecDepth 100000 in
set_option maxHeartbeats 4000000 in
theorem awake_any (w : World) : Calls Try.prog 4 #[] w fun e w' => e = .returned (.bool true) ∧ Only (fun _ => False) w w' := by
  go_enter Try.func4, Try.ntmps4
  go_wp2_with (first | (go_at_call 6; have hgd := U3.out; refine (parse_w4 _).mono ?_; clear hgd; rintro e w4 ⟨rfl, ho4⟩; have ho34 : Only (fun _ => False) w3 w4 := (((Only.refl (fun _ => False) w3).alloc _).alloc _).trans ho4; have X4 : Hid (Xr w4 w1.heap.size (.slice aC 2 cC) (.int .u32 j) (.int .u32 a) (.slice aT nT cT) (.slice (some ⟨g, 0, none⟩) 2 cL)) := X3.out.only ho34 (fun h => h); have Y4 : Hid (w4.heap[w1.heap.size + 1]? = some (.cells #[.int .i64 0, .int .i64 0] 33 (0, 0))) := (ho34.block _ (Array.getElem?_eq_some_iff.1 Y3.out).1 (fun h => h)).trans Y3.out; have q4 : w4.cell? ⟨g, 9, none⟩ = some (.int .u32 3) := (World.cell?_of_block (a := ⟨g, 9, none⟩) (ho34.block g hlt3.out (fun h => h))).trans Q3.out; have hlt4 : g < w4.heap.size := Nat.lt_of_lt_of_le hlt3.out ho34.size; have HO4 : Hid (Only (fun _ => False) w w4) := HO3.out.trans ho34; have Z4 : Hid (w4.heap[w2.heap.size + 1]? = some (.cells #[.int .i64 22, .int .i64 5] 33 (0, 0))) := (ho34.block _ (Array.getElem?_eq_some_iff.1 Z3.out).1 (fun h => h)).trans Z3.out; have U4 : Hid (w4.heap[w3.heap.size + 1]? = some (.cells #[.int .i64 23, .int .i64 8] 33 (0, 0))) := (ho4.block _ (by simp) (fun h => h)).trans U3.out; clear ho4 ho34; have x0 := X4.out.c0; have x4 := X4.out.c4; have y0 : w4.cell? ⟨w1.heap.size + 1, 0, none⟩ = some (.int .i64 0) := (cell_of_row _ _ _ _ _ _ Y4.out).trans rfl; have z0 : w4.cell? ⟨w2.heap.size + 1, 0, none⟩ = some (.int .i64 22) := (cell_of_row _ _ _ _ _ _ Z4.out).trans rfl; have z1 : w4.cell? ⟨w2.heap.size + 1, 1, none⟩ = some (.int .i64 5) := (cell_of_row _ _ _ _ _ _ Z4.out).trans rfl; have v0 : w4.cell? ⟨w3.heap.size + 1, 0, none⟩ = some (.int .i64 23) := (cell_of_row _ _ _ _ _ _ U4.out).trans rfl; have v1 : w4.cell? ⟨w3.heap.size + 1, 1, none⟩ = some (.int .i64 8) := (cell_of_row _ _ _ _ _ _ U4.out).trans rfl; have k1 : w1.heap.size + 1 < w4.heap.size := (Array.getElem?_eq_some_iff.1 Y4.out).1; have k1' : w1.heap.size < w4.heap.size := (by omega); have k2 : w2.heap.size + 1 < w4.heap.size := (Array.getElem?_eq_some_iff.1 Z4.out).1; have k3 : w3.heap.size + 1 < w4.heap.size := (Array.getElem?_eq_some_iff.1 U4.out).1; have k2' : w2.heap.size < w4.heap.size := (by omega); have k3' : w3.heap.size < w4.heap.size := (by omega)) | (go_at_call 6; have hgd := Z2.out; refine (parse_w3 _).mono ?_; clear hgd; rintro e w3 ⟨rfl, ho3⟩; have ho23 : Only (fun _ => False) w2 w3 := (((Only.refl (fun _ => False) w2).alloc _).alloc _).trans ho3; have X3 : Hid (Xr w3 w1.heap.size (.slice aC 2 cC) (.int .u32 j) (.int .u32 a) (.slice aT nT cT) (.slice (some ⟨g, 0, none⟩) 2 cL)) := X2.out.only ho23 (fun h => h); have Y3 : Hid (w3.heap[w1.heap.size + 1]? = some (.cells #[.int .i64 0, .int .i64 0] 33 (0, 0))) := (ho23.block _ (Array.getElem?_eq_some_iff.1 Y2.out).1 (fun h => h)).trans Y2.out; have Q3 : Hid (w3.cell? ⟨g, 9, none⟩ = some (.int .u32 3)) := (World.cell?_of_block (a := ⟨g, 9, none⟩) (ho23.block g hlt2.out (fun h => h))).trans Q2.out; have hlt3 : Hid (g < w3.heap.size) := Nat.lt_of_lt_of_le hlt2.out ho23.size; have HO3 : Hid (Only (fun _ => False) w w3) := HO2.out.trans ho23; have Z3 : Hid (w3.heap[w2.heap.size + 1]? = some (.cells #[.int .i64 22, .int .i64 5] 33 (0, 0))) := (ho3.block _ (by simp) (fun h => h)).trans Z2.out; have U3 : Hid (((w3.alloc (.cells #[.slice none 0 0, .int .u32 0, .int .u32 0, .slice none 0 0, .slice none 0 0] 30)).alloc (.cells #[.int .i64 23, .int .i64 8] 33)).heap[w3.heap.size + 1]? = some (.cells #[.int .i64 23, .int .i64 8] 33 (0, 0))) := heap_alloc2_new _ _ _; clear ho3 ho23) | (go_at_call 6; have hgd := X1.out; refine (parse_w2 _).mono ?_; clear hgd; rintro e w2 ⟨rfl, ho2⟩; have X2 : Hid (Xr w2 w1.heap.size (.slice aC 2 cC) (.int .u32 j) (.int .u32 a) (.slice aT nT cT) (.slice (some ⟨g, 0, none⟩) 2 cL)) := X1.out.only ho2 (fun h => h); have Y2 : Hid (w2.heap[w1.heap.size + 1]? = some (.cells #[.int .i64 0, .int .i64 0] 33 (0, 0))) := (ho2.block _ (by simp) (fun h => h)).trans Y1.out; have Q2 : Hid (w2.cell? ⟨g, 9, none⟩ = some (.int .u32 3)) := (World.cell?_of_block (a := ⟨g, 9, none⟩) (ho2.block g hlt1.out (fun h => h))).trans Q1.out; have hlt2 : Hid (g < w2.heap.size) := Nat.lt_of_lt_of_le hlt1.out ho2.size; have HO2 : Hid (Only (fun _ => False) w w2) := HO1'.out.trans ho2; have Z2 : Hid (((w2.alloc (.cells #[.slice none 0 0, .int .u32 0, .int .u32 0, .slice none 0 0, .slice none 0 0] 30)).alloc (.cells #[.int .i64 22, .int .i64 5] 33)).heap[w2.heap.size + 1]? = some (.cells #[.int .i64 22, .int .i64 5] 33 (0, 0))) := heap_alloc2_new _ _ _; clear ho2) | (go_at_call 6; refine (parse_w1 _).mono ?_; rintro e w1 ⟨aC, cC, aT, nT, cT, g, cL, j, a, rfl, hg, hgl, ho1⟩; have P1 : Hid (w1.cell? ⟨g, 9, none⟩ = some (.int .u32 3)) := hg; have HO1 : Hid (Only (fun _ => False) w w1) := ho1; have X1 : Hid (Xr ((w1.alloc (.cells #[.slice aC 2 cC, .int .u32 j, .int .u32 a, .slice aT nT cT, .slice (some ⟨g, 0, none⟩) 2 cL] 30)).alloc (.cells #[.int .i64 0, .int .i64 0] 33)) w1.heap.size (.slice aC 2 cC) (.int .u32 j) (.int .u32 a) (.slice aT nT cT) (.slice (some ⟨g, 0, none⟩) 2 cL)) := (Xr.new w1 _ _ _ _ _).alloc _; have Y1 : Hid (((w1.alloc (.cells #[.slice aC 2 cC, .int .u32 j, .int .u32 a, .slice aT nT cT, .slice (some ⟨g, 0, none⟩) 2 cL] 30)).alloc (.cells #[.int .i64 0, .int .i64 0] 33)).heap[w1.heap.size + 1]? = some (.cells #[.int .i64 0, .int .i64 0] 33 (0, 0))) := heap_alloc2_new _ _ _; have hlt1 : Hid (g < ((w1.alloc (.cells #[.slice aC 2 cC, .int .u32 j, .int .u32 a, .slice aT nT cT, .slice (some ⟨g, 0, none⟩) 2 cL] 30)).alloc (.cells #[.int .i64 0, .int .i64 0] 33)).heap.size) := (by show g < ((w1.alloc (.cells #[.slice aC 2 cC, .int .u32 j, .int .u32 a, .slice aT nT cT, .slice (some ⟨g, 0, none⟩) 2 cL] 30)).alloc (.cells #[.int .i64 0, .int .i64 0] 33)).heap.size; simp; omega); have Q1 : Hid (((w1.alloc (.cells #[.slice aC 2 cC, .int .u32 j, .int .u32 a, .slice aT nT cT, .slice (some ⟨g, 0, none⟩) 2 cL] 30)).alloc (.cells #[.int .i64 0, .int .i64 0] 33)).cell? ⟨g, 9, none⟩ = some (.int .u32 3)) := (World.cell?_of_block (a := ⟨g, 9, none⟩) ((((Only.refl (fun _ => False) w1).alloc _).alloc _).block g hgl (fun h => h))).trans hg; have HO1' : Hid (Only (fun _ => False) w ((w1.alloc (.cells #[.slice aC 2 cC, .int .u32 j, .int .u32 a, .slice aT nT cT, .slice (some ⟨g, 0, none⟩) 2 cL] 30)).alloc (.cells #[.int .i64 0, .int .i64 0] 33))) := (ho1.alloc _).alloc _; clear hg ho1 hgl))
  go_ret
  exact ⟨rfl, (HO4.out.alloc _).alloc _⟩
end Go.Proofs.Ytahoepmnekconab
