/-
  told: of every text both parsers say the same.
-/
import Derived.Test.YtahoepmnekconaaS2
import Derived.Test.YtahoepmnekconaaP1
import Derived.Test.YtahoepmnekconaaR17
namespace Go.Proofs.Ytahoepmnekconaa
open Go.RowKit Go.Maps
set_option linter.unusedVariables false
set_option linter.unusedSimpArgs false
/-- what is read of a text: too long, or its lines. -/
def rd (S : ByteArray) (F : Rl.R Rl.St) : Prop := (4096 < S.size ∧ F = .error (24, 4096)) ∨ (S.size ≤ 4096 ∧ ∃ ts, Rl.Strm S.data.toList 0 ts ∧ F = Rl.lines (ts.length + 1) ts Rl.st0)
theorem rd_some (S : ByteArray) : ∃ F, rd S F := by
  by_cases h : 4096 < S.size
  · exact ⟨_, Or.inl ⟨h, rfl⟩⟩
  · obtain ⟨ts, hs⟩ := Rl.strm_some S.data.toList (S.data.toList.length + 1) 0 (by omega) (Nat.zero_le _)
    exact ⟨_, Or.inr ⟨by omega, ts, hs, rfl⟩⟩
theorem rd_small {S : ByteArray} {s : Rl.St} (h : rd S (.ok s)) : Rl.SmallS s := by
  rcases h with ⟨_, h⟩ | ⟨hS, ts, hs, h⟩
  · cases h
  · have := strm_len hs (Nat.zero_le _)
    rw [← Lib.size_eq] at this
    exact Rl.lines_small _ _ _ h.symm Rl.small_st0 (by omega)
set_option maxRecDepth 100000 in
set_option maxHeartbeats 4000000 in
theorem parse_all (S : ByteArray) (F : Rl.R Rl.St) (w : World) (h : rd S F) : Calls Try.prog 12 #[.string S] w (parseP w F) := by
  rcases h with ⟨hS, rfl⟩ | ⟨hS, ts, hs, rfl⟩
  · have hSi : (4096 : Int) < (S.size : Int) := by omega
    go_enter_defers Try.func12, Try.ntmps12
    go_wp2_with fail
    refine ⟨.tuple #[noRules, .agg #[.int .i64 24, .int .i64 4096]], ?_, rfl, ((Only.refl (fun _ => False) w).alloc _).alloc _⟩
    exact results_row_row (fn := Try.f12) (p := 2) (q := 3) (ty := 37) (ty' := 40) rfl _ _ w.heap.size 37 _ (0, 0) _ rfl (heap_alloc2_old w (.cells #[.slice none 0 0, .int .u32 0, .int .u32 0, .slice none 0 0, .slice none 0 0] 37) _) Try.underlying37 rfl info37 (w.heap.size + 1) 40 _ (0, 0) _ rfl (heap_alloc2_new w _ (.cells #[.int .i64 24, .int .i64 4096] 40)) Try.underlying40 rfl info40
  · exact parse_any S ts _ w hs hS (by omega)
set_option maxRecDepth 100000 in
set_option maxHeartbeats 4000000 in
theorem rparse_all (S : ByteArray) (F : Rl.R Rl.St) (w : World) (h : rd S F) : Calls Try.prog 15 #[.string S] w (rparseP w F) := by
  rcases h with ⟨hS, rfl⟩ | ⟨hS, ts, hs, rfl⟩
  · have hSi : (4096 : Int) < (S.size : Int) := by omega
    go_enter Try.func15, Try.ntmps15
    go_wp2_with fail
    refine bodyPost_ret (v := .tuple #[noRules, .int .i64 24, .int .i64 4096]) (results_row2 (fn := Try.f15) (p := 2) (u := 3) (v := 4) (ty := 37) rfl _ _ w.heap.size 37 _ (0, 0) _ rfl (heap_alloc_new w _) Try.underlying37 rfl info37) rfl ?_
    exact ⟨⟨rfl, (by decide : (24 : Nat) ≠ 0)⟩, (Only.refl (fun _ => False) w).alloc _⟩
  · exact rparse_any S ts _ w hs hS (by omega)
set_option maxRecDepth 100000 in
set_option maxHeartbeats 4000000 in
theorem told_any (S : ByteArray) (w : World) : Calls Try.prog 10 #[.string S] w fun e w' => e = .returned (.bool true) ∧ Only (fun _ => False) w w' := by
  obtain ⟨F, hrd⟩ := rd_some S
  have HR : Hid (rd S F) := hrd
  clear hrd
  cases F with
  | error f =>
    go_enter Try.func10, Try.ntmps10
    go_wp2_with (first | (go_at_call 12; refine (parse_all S _ _ HR.out).mono ?_; rintro e w1 ⟨rfl, ho1⟩; unfold noRules; have HO1 : Hid (Only (fun _ => False) w w1) := ho1; clear ho1; have HX1 : Hid (Xr ((w1.alloc (.cells #[.slice none 0 0, .int .u32 0, .int .u32 0, .slice none 0 0, .slice none 0 0] 37)).alloc (.cells #[.int .i64 (f.1 : Int), .int .i64 (f.2 : Int)] 40)) w1.heap.size (.slice none 0 0) (.int .u32 0) (.int .u32 0) (.slice none 0 0) (.slice none 0 0)) := (Xr.new w1 _ _ _ _ _).alloc _; have HP1 : Hid (((w1.alloc (.cells #[.slice none 0 0, .int .u32 0, .int .u32 0, .slice none 0 0, .slice none 0 0] 37)).alloc (.cells #[.int .i64 (f.1 : Int), .int .i64 (f.2 : Int)] 40)).heap[w1.heap.size + 1]? = some (.cells #[.int .i64 (f.1 : Int), .int .i64 (f.2 : Int)] 40 (0, 0))) := heap_alloc2_new _ _ _) | (go_at_call 15; refine (rparse_all S _ _ HR.out).mono ?_; rintro e w2 ⟨⟨rfl, _⟩, ho2⟩; unfold noRules; have HO2 : Hid (Only (fun _ => False) w w2) := ((HO1.out.alloc _).alloc _).trans ho2; have X2 : Hid (Xr w2 w1.heap.size (.slice none 0 0) (.int .u32 0) (.int .u32 0) (.slice none 0 0) (.slice none 0 0)) := HX1.out.only ho2 (fun h => h); have P2 : Hid (w2.heap[w1.heap.size + 1]? = some (.cells #[.int .i64 (f.1 : Int), .int .i64 (f.2 : Int)] 40 (0, 0))) := (ho2.block _ (by simp) (fun h => h)).trans HP1.out; have x0 := X2.out.c0; have x1 := X2.out.c1; have x2 := X2.out.c2; have x3 := X2.out.c3; have x4 := X2.out.c4; have p0 : w2.cell? ⟨w1.heap.size + 1, 0, none⟩ = some (.int .i64 (f.1 : Int)) := (cell_of_row _ _ _ _ _ _ P2.out).trans rfl; have p1 : w2.cell? ⟨w1.heap.size + 1, 1, none⟩ = some (.int .i64 (f.2 : Int)) := (cell_of_row _ _ _ _ _ _ P2.out).trans rfl; have hl2 : w1.heap.size + 1 < w2.heap.size := (Array.getElem?_eq_some_iff.1 P2.out).1; have hl2' : w1.heap.size < w2.heap.size := (by omega)) | (go_at_call 13; refine (sameRules_any Rl.st0 0 0 noRules noRules _ (noRules_rv _) (noRules_rv _) Rl.small_st0).mono ?_; rintro e w3 ⟨rfl, ho3⟩))
    go_ret
    exact ⟨rfl, (HO2.out.alloc _).trans ho3⟩
  | ok s =>
    go_enter Try.func10, Try.ntmps10
    go_wp2_with (first | (go_at_call 12; refine (parse_all S _ _ HR.out).mono ?_; rintro e w1 ⟨⟨v1, B1, rfl, hB1, hV1⟩, ho1⟩; have HV1 : Hid (Rv w1 B1 v1 s) := hV1; obtain ⟨aC, aT, aL, cC, cT, cL, rfl, hrest1⟩ := hV1; clear hrest1; have HO1 : Hid (Only (fun _ => False) w w1) := ho1; clear ho1; have HX1 : Hid (Xr ((w1.alloc (.cells #[.slice aC s.cls.length cC, .int .u32 s.join, .int .u32 s.after, .slice aT s.treat.length cT, .slice aL s.list.length cL] 37)).alloc (.cells #[.int .i64 0, .int .i64 0] 40)) w1.heap.size (.slice aC s.cls.length cC) (.int .u32 s.join) (.int .u32 s.after) (.slice aT s.treat.length cT) (.slice aL s.list.length cL)) := (Xr.new w1 _ _ _ _ _).alloc _; have HP1 : Hid (((w1.alloc (.cells #[.slice aC s.cls.length cC, .int .u32 s.join, .int .u32 s.after, .slice aT s.treat.length cT, .slice aL s.list.length cL] 37)).alloc (.cells #[.int .i64 0, .int .i64 0] 40)).heap[w1.heap.size + 1]? = some (.cells #[.int .i64 0, .int .i64 0] 40 (0, 0))) := heap_alloc2_new _ _ _) | (go_at_call 15; refine (rparse_all S _ _ HR.out).mono ?_; rintro e w2 ⟨⟨v2, B2, rfl, hB2, hV2⟩, ho2⟩; have HV2 : Hid (Rv w2 B2 v2 s) := hV2; obtain ⟨bC, bT, bL, dC, dT, dL, rfl, hrest2⟩ := hV2; clear hrest2; have HO2 : Hid (Only (fun _ => False) w w2) := ((HO1.out.alloc _).alloc _).trans ho2; have HW : Hid (Rv w2 B1 (.agg #[.slice aC s.cls.length cC, .int .u32 s.join, .int .u32 s.after, .slice aT s.treat.length cT, .slice aL s.list.length cL]) s) := ((HV1.out.only ((Only.refl (fun _ => False) w1).alloc _) (fun _ _ h => h)).only ((Only.refl (fun _ => False) _).alloc _) (fun _ _ h => h)).only ho2 (fun _ _ h => h); have X2 : Hid (Xr w2 w1.heap.size (.slice aC s.cls.length cC) (.int .u32 s.join) (.int .u32 s.after) (.slice aT s.treat.length cT) (.slice aL s.list.length cL)) := HX1.out.only ho2 (fun h => h); have P2 : Hid (w2.heap[w1.heap.size + 1]? = some (.cells #[.int .i64 0, .int .i64 0] 40 (0, 0))) := (ho2.block _ (by simp) (fun h => h)).trans HP1.out; have x0 := X2.out.c0; have x1 := X2.out.c1; have x2 := X2.out.c2; have x3 := X2.out.c3; have x4 := X2.out.c4; have p0 : w2.cell? ⟨w1.heap.size + 1, 0, none⟩ = some (.int .i64 0) := (cell_of_row _ _ _ _ _ _ P2.out).trans rfl; have p1 : w2.cell? ⟨w1.heap.size + 1, 1, none⟩ = some (.int .i64 0) := (cell_of_row _ _ _ _ _ _ P2.out).trans rfl; have hl2 : w1.heap.size + 1 < w2.heap.size := (Array.getElem?_eq_some_iff.1 P2.out).1; have hl2' : w1.heap.size < w2.heap.size := (by omega)) | (go_at_call 13; refine (sameRules_any s B1 B2 _ _ _ (HW.out.only ((Only.refl (fun _ => False) w2).alloc _) (fun _ _ h => h)) (HV2.out.only ((Only.refl (fun _ => False) w2).alloc _) (fun _ _ h => h)) (rd_small HR.out)).mono ?_; rintro e w3 ⟨rfl, ho3⟩))
    go_ret
    exact ⟨rfl, (HO2.out.alloc _).trans ho3⟩
end Go.Proofs.Ytahoepmnekconaa
