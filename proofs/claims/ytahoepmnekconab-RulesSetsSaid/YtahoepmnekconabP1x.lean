/-
  Parse of the program: it reads a text as the plain reading does.
-/
import Derived.Test.YtahoepmnekconabRvx
import Derived.Defers
namespace Go.Proofs.Ytahoepmnekconab
open Go.RowKit Go.Maps
set_option linter.unusedVariables false
set_option linter.unusedSimpArgs false
theorem results_row_row {P : Program} {fn : Func} {p q : Tmp} {ty ty' : TypeId} (h : fn.results = #[.cell p ty, .cell q ty']) (tmps : Array Value) (w : World) (g : Nat) (t : TypeId) (cs : Array Value) (fr : Nat × Nat) (d : TypeDesc)
    (hp : tmps.getD p undef = .pointer (some ⟨g, 0, none⟩)) (hg : w.heap[g]? = some (.cells cs t fr))
    (hu : P.underlying ty = some d) (hd : (match d with | .struct _ | .array _ _ => true | _ => false) = true) (hi : (P.info? ty).map (·.size) = some cs.size)
    (g' : Nat) (t' : TypeId) (cs' : Array Value) (fr' : Nat × Nat) (d' : TypeDesc)
    (hp2 : tmps.getD q undef = .pointer (some ⟨g', 0, none⟩)) (hg2 : w.heap[g']? = some (.cells cs' t' fr'))
    (hu2 : P.underlying ty' = some d') (hd2 : (match d' with | .struct _ | .array _ _ => true | _ => false) = true) (hi2 : (P.info? ty').map (·.size) = some cs'.size) :
    (results fn tmps).run P w = .ok (.tuple #[.agg cs, .agg cs']) w := by
  have hp' : tmps[p]?.getD undef = .pointer (some ⟨g, 0, none⟩) := by simpa using hp
  have hp2' : tmps[q]?.getD undef = .pointer (some ⟨g', 0, none⟩) := by simpa using hp2
  simp [results, h, hp', hp2', asAddr, run_loadVar_row w g t ty cs fr d hg hu hd hi, run_loadVar_row w g' t' ty' cs' fr' d' hg2 hu2 hd2 hi2]
theorem info40 : (Try.prog.info? 33).map (·.size) = some 2 := by kernel_rfl
/-- how the program's Parse ends. -/
def parseP (w : World) (F : Rl.R Rl.St) (e : Ending) (w' : World) : Prop :=
  (match F with
  | .error f => e = .returned (.tuple #[noRules, .agg #[.int .i64 (f.1 : Int), .int .i64 (f.2 : Int)]])
  | .ok s => ∃ v B, e = .returned (.tuple #[v, .agg #[.int .i64 0, .int .i64 0]]) ∧ w.heap.size ≤ B ∧ Rv w' B v s) ∧ Only (fun _ => False) w w'
def xd0 (mb : Nat) : Rd := ⟨.slice none 0 0, 0, 0, .slice none 0 0, .slice none 0 0, mb, 0, 0⟩
theorem Mp.made (w : World) : Mp (w.alloc (.map #[] 0)) w.heap.size [] := by
  refine ⟨.map [], World.ownsMap_made w Try.prog 9 (plainElem Try.prog 25), ?_, fun s => ⟨rfl, rfl⟩⟩
  exact World.ownsMap.isMap (World.ownsMap_made w Try.prog 9 (plainElem Try.prog 25))
theorem Stt.first {w : World} {rb mb : Nat} (hm : Mp w mb []) (hb : mb < rb) : Stt w rb (xd0 mb) Rl.st0 :=
  ⟨World.ownsRow_nil _ _ _ _, World.ownsRow_nil _ _ _ _, ⟨[], World.ownsRow_nil _ _ _ _, trivial⟩, hm, rfl, rfl, rfl, rfl, hb, by decide, by decide, by decide⟩
theorem Stt.rv {w : World} {rb : Nat} {x : Rd} {s : Rl.St} {aC aT aL : Option Addr} {cC cT cL : Nat} (h : Stt w rb x s) (h1 : x.vC = .slice aC s.cls.length cC) (h2 : x.vT = .slice aT s.treat.length cT) (h3 : x.vL = .slice aL s.list.length cL) : Rv w (rb + 1) (.agg #[.slice aC s.cls.length cC, .int .u32 x.j, .int .u32 x.a, .slice aT s.treat.length cT, .slice aL s.list.length cL]) s := by
  refine ⟨aC, aT, aL, cC, cT, cL, by rw [h.jn, h.af], by rw [← h1]; exact h.cls, by rw [← h2, h.tlen]; exact h.trt, by rw [← h3]; exact h.lst, h.tlen, h.c24, h.l24⟩
theorem alloc4 (w : World) (a b c d : Obj) : ((((w.alloc a).alloc b).alloc c).alloc d).heap[w.heap.size]? = some a ∧ ((((w.alloc a).alloc b).alloc c).alloc d).heap[w.heap.size + 1]? = some b ∧ ((((w.alloc a).alloc b).alloc c).alloc d).heap[w.heap.size + 1 + 1]? = some c ∧ ((((w.alloc a).alloc b).alloc c).alloc d).heap[w.heap.size + 1 + 1 + 1]? = some d := by
  have e1 : (w.alloc a).heap.size = w.heap.size + 1 := alloc_size _ _
  have e2 : ((w.alloc a).alloc b).heap.size = w.heap.size + 1 + 1 := by rw [alloc_size, e1]
  have e3 : (((w.alloc a).alloc b).alloc c).heap.size = w.heap.size + 1 + 1 + 1 := by rw [alloc_size, e2]
  refine ⟨?_, ?_, ?_, ?_⟩
  · rw [Below.heap_alloc _ _ _ (by omega), Below.heap_alloc _ _ _ (by omega), Below.heap_alloc _ _ _ (by omega)]
    exact heap_alloc_new w a
  · rw [Below.heap_alloc _ _ _ (by omega), Below.heap_alloc _ _ _ (by omega), ← e1]
    exact heap_alloc_new (w.alloc a) b
  · rw [Below.heap_alloc _ _ _ (by omega), ← e2]
    exact heap_alloc_new ((w.alloc a).alloc b) c
  · rw [← e3]
    exact heap_alloc_new (((w.alloc a).alloc b).alloc c) d
theorem Mp.alloc3 (w : World) (a b d : Obj) : Mp ((((w.alloc a).alloc b).alloc (Obj.map #[] 0)).alloc d) (w.heap.size + 1 + 1) [] := by
  have h := (Mp.made ((w.alloc a).alloc b)).alloc d
  rw [alloc_size, alloc_size] at h
  exact h
set_option maxRecDepth 100000 in
set_option maxHeartbeats 8000000 in
theorem parse_any (S : ByteArray) (ts : List Rl.Tk) (n : Nat) (w : World) (hs : Rl.Strm S.data.toList 0 ts) (hS : S.size ≤ 4096) (hn : ts.length < n) :
    Calls Try.prog 6 #[.string S] w (parseP w (Rl.lines n ts Rl.st0)) := by
  have hSi : ¬ (4096 : Int) < (S.size : Int) := by omega
  have hSd : decide ((4096 : Int) < (S.size : Int)) = false := decide_eq_false hSi
  have htl : ts.length ≤ 4097 := by have := strm_len hs (Nat.zero_le _); rw [← Lib.size_eq] at this; omega
  have hmm := @run_makeMap Try.prog
  have hmf : ∀ (fn : Fn) (first cap : Array Value) (w : World), (Instr.makeFunc fn first cap).run Try.prog w = .ok (.func fn first cap) w := fun _ _ _ _ => rfl
  obtain ⟨F, hF⟩ : ∃ F, F = Rl.lines n ts Rl.st0 := ⟨_, rfl⟩
  have HF : Hid (F = Rl.lines n ts Rl.st0) := hF
  rw [← hF]
  have Hs : Hid (Rl.Strm S.data.toList 0 ts) := hs
  clear hF hs
  obtain ⟨hA, hB, hM0, hR0⟩ := alloc4 w (Obj.cells #[.slice none 0 0, .int .u32 0, .int .u32 0, .slice none 0 0, .slice none 0 0] 30) (Obj.cells #[.int .i64 0, .int .i64 0] 33) (Obj.map #[] 0) (Obj.cells (rdC S 0 (xd0 (w.heap.size + 1 + 1))) 47)
  have hMp := Mp.alloc3 w (Obj.cells #[.slice none 0 0, .int .u32 0, .int .u32 0, .slice none 0 0, .slice none 0 0] 30) (Obj.cells #[.int .i64 0, .int .i64 0] 33) (Obj.cells (rdC S 0 (xd0 (w.heap.size + 1 + 1))) 47)
  have hO : Only (fun _ => False) w ((((w.alloc (Obj.cells #[.slice none 0 0, .int .u32 0, .int .u32 0, .slice none 0 0, .slice none 0 0] 30)).alloc (Obj.cells #[.int .i64 0, .int .i64 0] 33)).alloc (Obj.map #[] 0)).alloc (Obj.cells (rdC S 0 (xd0 (w.heap.size + 1 + 1))) 47)) := ((((Only.refl (fun _ => False) w).alloc _).alloc _).alloc _).alloc _
  have hL : Calls Try.prog 8 #[.pointer (some ⟨w.heap.size + 1 + 1 + 1, 0, none⟩)] ((((w.alloc (Obj.cells #[.slice none 0 0, .int .u32 0, .int .u32 0, .slice none 0 0, .slice none 0 0] 30)).alloc (Obj.cells #[.int .i64 0, .int .i64 0] 33)).alloc (Obj.map #[] 0)).alloc (Obj.cells (rdC S 0 (xd0 (w.heap.size + 1 + 1))) 47)) (linesP (w.heap.size + 1 + 1 + 1) S (w.heap.size + 1 + 1) ((((w.alloc (Obj.cells #[.slice none 0 0, .int .u32 0, .int .u32 0, .slice none 0 0, .slice none 0 0] 30)).alloc (Obj.cells #[.int .i64 0, .int .i64 0] 33)).alloc (Obj.map #[] 0)).alloc (Obj.cells (rdC S 0 (xd0 (w.heap.size + 1 + 1))) 47)) F) := by
    rw [HF.out]
    exact lines_any (w.heap.size + 1 + 1 + 1) S (xd0 (w.heap.size + 1 + 1)) Rl.st0 ts n ((((w.alloc (Obj.cells #[.slice none 0 0, .int .u32 0, .int .u32 0, .slice none 0 0, .slice none 0 0] 30)).alloc (Obj.cells #[.int .i64 0, .int .i64 0] 33)).alloc (Obj.map #[] 0)).alloc (Obj.cells (rdC S 0 (xd0 (w.heap.size + 1 + 1))) 47)) ⟨0, hR0, Hs.out, Nat.zero_le _⟩ hS (Stt.first hMp (by omega)) (by show 0 + ts.length ≤ 5000; omega) hn
  have HL : Hid (Calls Try.prog 8 #[.pointer (some ⟨w.heap.size + 1 + 1 + 1, 0, none⟩)] ((((w.alloc (Obj.cells #[.slice none 0 0, .int .u32 0, .int .u32 0, .slice none 0 0, .slice none 0 0] 30)).alloc (Obj.cells #[.int .i64 0, .int .i64 0] 33)).alloc (Obj.map #[] 0)).alloc (Obj.cells (rdC S 0 (xd0 (w.heap.size + 1 + 1))) 47)) (linesP (w.heap.size + 1 + 1 + 1) S (w.heap.size + 1 + 1) ((((w.alloc (Obj.cells #[.slice none 0 0, .int .u32 0, .int .u32 0, .slice none 0 0, .slice none 0 0] 30)).alloc (Obj.cells #[.int .i64 0, .int .i64 0] 33)).alloc (Obj.map #[] 0)).alloc (Obj.cells (rdC S 0 (xd0 (w.heap.size + 1 + 1))) 47)) F)) := hL
  have hsz : ((((w.alloc (Obj.cells #[.slice none 0 0, .int .u32 0, .int .u32 0, .slice none 0 0, .slice none 0 0] 30)).alloc (Obj.cells #[.int .i64 0, .int .i64 0] 33)).alloc (Obj.map #[] 0)).alloc (Obj.cells (rdC S 0 (xd0 (w.heap.size + 1 + 1))) 47)).heap.size = w.heap.size + 4 := by simp
  have Hk : Hid (∀ W, Fr (w.heap.size + 1 + 1 + 1) (w.heap.size + 1 + 1) ((((w.alloc (Obj.cells #[.slice none 0 0, .int .u32 0, .int .u32 0, .slice none 0 0, .slice none 0 0] 30)).alloc (Obj.cells #[.int .i64 0, .int .i64 0] 33)).alloc (Obj.map #[] 0)).alloc (Obj.cells (rdC S 0 (xd0 (w.heap.size + 1 + 1))) 47)) W → W.heap[w.heap.size]? = some (Obj.cells #[.slice none 0 0, .int .u32 0, .int .u32 0, .slice none 0 0, .slice none 0 0] 30) ∧ W.heap[w.heap.size + 1]? = some (Obj.cells #[.int .i64 0, .int .i64 0] 33) ∧ Only (fun _ => False) w W) := fun W hf => ⟨(hf.1.block _ (by rw [hsz]; omega) (by unfold Lo; omega)).trans hA, (hf.1.block _ (by rw [hsz]; omega) (by unfold Lo; omega)).trans hB, ⟨hf.1.os.trans hO.os, hf.1.tape.trans hO.tape, hf.1.output.trans hO.output, Nat.le_trans hO.size hf.1.size, fun g hg _ => (hf.1.block g (by rw [hsz]; omega) (by unfold Lo; omega)).trans (hO.block g hg (fun e => e))⟩⟩
  clear hA hB hM0 hR0 hMp hO hL hsz HF
  cases F with
  | error f =>
    go_enter_defers Try.func6, Try.ntmps6
    go_wp2_with (go_at_call 8; refine HL.out.mono ?_; rintro e w1 ⟨rfl, hf1⟩; have HK1 := Hk.out w1 hf1; clear hf1)
    obtain ⟨hA1, hB1, hO1⟩ := HK1
    refine leaves_cons (f := 7) (args := #[.pointer (some ⟨w.heap.size, 0, none⟩), .pointer (some ⟨w.heap.size + 1, 0, none⟩)]) (by simp) (by simp [go_sem]) ?_
    refine (catch_thrown w.heap.size (w.heap.size + 1) (f.1 : Int) (f.2 : Int) _ _ _ _ _ _ _ [] _ hA1 hB1 (by omega)).mono ?_
    rintro e u' w2 ⟨rfl, rfl, hA2, hB2, ho2⟩
    have hO2 : Only (fun _ => False) w w2 := ⟨ho2.os.trans hO1.os, ho2.tape.trans hO1.tape, ho2.output.trans hO1.output, Nat.le_trans hO1.size ho2.size, fun g hg _ => (ho2.block g (Nat.lt_of_lt_of_le hg hO1.size) (by omega)).trans (hO1.block g hg (fun e => e))⟩
    refine ⟨.tuple #[noRules, .agg #[.int .i64 (f.1 : Int), .int .i64 (f.2 : Int)]], ?_, rfl, hO2⟩
    exact results_row_row (fn := Try.f6) (p := 2) (q := 3) (ty := 30) (ty' := 33) rfl _ _ w.heap.size 30 _ (0, 0) _ rfl hA2 Try.underlying30 rfl info37 (w.heap.size + 1) 33 _ (0, 0) _ rfl hB2 Try.underlying33 rfl info40
  | ok s =>
    go_enter_defers Try.func6, Try.ntmps6
    go_wp2_with (go_at_call 8; refine HL.out.mono ?_; rintro e w1 ⟨rfl, x1, hx1, ⟨i1, hR1⟩, hS1, hf1⟩; obtain ⟨hA1, hB1, hO1⟩ := Hk.out w1 hf1; have HA1 : Hid _ := hA1; have HB1 : Hid _ := hB1; have HO1 : Hid (Only (fun _ => False) w w1) := hO1; obtain ⟨aC, cC, hvC⟩ := own_form hS1.cls; obtain ⟨aT, cT, hvT⟩ := own_form hS1.trt; obtain ⟨ys, hoL, _⟩ := hS1.lst; obtain ⟨aL, cL, hvL⟩ := own_form hoL; have htl2 := hS1.tlen; rw [← htl2] at hvT; have d2 := hR1.c2; rw [hvC] at d2; have d3 := hR1.c3; have d4 := hR1.c4; have d5 := hR1.c5; rw [hvT] at d5; have d6 := hR1.c6; rw [hvL] at d6; have HV : Hid (Rv w1 (w.heap.size + 1 + 1 + 1 + 1) (.agg #[.slice aC s.cls.length cC, .int .u32 x1.j, .int .u32 x1.a, .slice aT s.treat.length cT, .slice aL s.list.length cL]) s) := hS1.rv hvC hvT hvL; have hl1 := hR1.lt; clear hR1 hS1 hf1 hA1 hB1 hO1 hvC hvT hvL hoL htl2 hx1; have z0 : w1.cell? ⟨w.heap.size, 0, none⟩ = some (.slice none 0 0) := (cell_of_row _ _ _ _ _ _ HA1.out).trans rfl; have zf0 : w1.frozen? ⟨w.heap.size, 0, none⟩ = false := (by simp [World.frozen?, HA1.out]); have z1 : w1.cell? ⟨w.heap.size, 1, none⟩ = some (.int .u32 0) := (cell_of_row _ _ _ _ _ _ HA1.out).trans rfl; have zf1 : w1.frozen? ⟨w.heap.size, 1, none⟩ = false := (by simp [World.frozen?, HA1.out]); have z2 : w1.cell? ⟨w.heap.size, 2, none⟩ = some (.int .u32 0) := (cell_of_row _ _ _ _ _ _ HA1.out).trans rfl; have zf2 : w1.frozen? ⟨w.heap.size, 2, none⟩ = false := (by simp [World.frozen?, HA1.out]); have z3 : w1.cell? ⟨w.heap.size, 3, none⟩ = some (.slice none 0 0) := (cell_of_row _ _ _ _ _ _ HA1.out).trans rfl; have zf3 : w1.frozen? ⟨w.heap.size, 3, none⟩ = false := (by simp [World.frozen?, HA1.out]); have z4 : w1.cell? ⟨w.heap.size, 4, none⟩ = some (.slice none 0 0) := (cell_of_row _ _ _ _ _ _ HA1.out).trans rfl; have zf4 : w1.frozen? ⟨w.heap.size, 4, none⟩ = false := (by simp [World.frozen?, HA1.out]); have y0 : w1.cell? ⟨w.heap.size + 1, 0, none⟩ = some (.int .i64 0) := (cell_of_row _ _ _ _ _ _ HB1.out).trans rfl; have yf0 : w1.frozen? ⟨w.heap.size + 1, 0, none⟩ = false := (by simp [World.frozen?, HB1.out]); have y1 : w1.cell? ⟨w.heap.size + 1, 1, none⟩ = some (.int .i64 0) := (cell_of_row _ _ _ _ _ _ HB1.out).trans rfl; have yf1 : w1.frozen? ⟨w.heap.size + 1, 1, none⟩ = false := (by simp [World.frozen?, HB1.out]))
    have hA2 := set5_at HA1.out (.slice aC s.cls.length cC) (.int .u32 x1.j) (.int .u32 x1.a) (.slice aT s.treat.length cT) (.slice aL s.list.length cL)
    have hB2 : (set5 w1 w.heap.size (.slice aC s.cls.length cC) (.int .u32 x1.j) (.int .u32 x1.a) (.slice aT s.treat.length cT) (.slice aL s.list.length cL)).heap[w.heap.size + 1]? = some (.cells #[.int .i64 0, .int .i64 0] 33 (0, 0)) := ((set5_only _ _ _ _ _ _ _).block _ (by omega) (by omega)).trans HB1.out
    have hso := set5_only w1 w.heap.size (.slice aC s.cls.length cC) (.int .u32 x1.j) (.int .u32 x1.a) (.slice aT s.treat.length cT) (.slice aL s.list.length cL)
    refine leaves_cons (f := 7) (args := #[.pointer (some ⟨w.heap.size, 0, none⟩), .pointer (some ⟨w.heap.size + 1, 0, none⟩)]) (by simp) (by simp [go_sem]) ?_
    rw [show (((((((w1.setCell ⟨w.heap.size, 0, none⟩ (.slice aC s.cls.length cC)).setCell ⟨w.heap.size, 1, none⟩ (.int .u32 x1.j)).setCell ⟨w.heap.size, 2, none⟩ (.int .u32 x1.a)).setCell ⟨w.heap.size, 3, none⟩ (.slice aT s.treat.length cT)).setCell ⟨w.heap.size, 4, none⟩ (.slice aL s.list.length cL)).setCell ⟨w.heap.size + 1, 0, none⟩ (.int .i64 0)).setCell ⟨w.heap.size + 1, 1, none⟩ (.int .i64 0)) = ((set5 w1 w.heap.size (.slice aC s.cls.length cC) (.int .u32 x1.j) (.int .u32 x1.a) (.slice aT s.treat.length cT) (.slice aL s.list.length cL)).setCell ⟨w.heap.size + 1, 0, none⟩ (.int .i64 0)).setCell ⟨w.heap.size + 1, 1, none⟩ (.int .i64 0) from rfl]
    generalize set5 w1 w.heap.size (.slice aC s.cls.length cC) (.int .u32 x1.j) (.int .u32 x1.a) (.slice aT s.treat.length cT) (.slice aL s.list.length cL) = W2 at hA2 hB2 hso ⊢
    refine (catch_idle _ _ _).mono ?_
    rintro e u' w3 ⟨rfl, rfl, rfl⟩
    have hB3 : ((W2.setCell ⟨w.heap.size + 1, 0, none⟩ (.int .i64 0)).setCell ⟨w.heap.size + 1, 1, none⟩ (.int .i64 0)).heap[w.heap.size + 1]? = some (.cells #[.int .i64 0, .int .i64 0] 33 (0, 0)) := heap_setCell_at (heap_setCell_at hB2 _) _
    have hso3 : Only (fun b => b = w.heap.size ∨ b = w.heap.size + 1) w1 ((W2.setCell ⟨w.heap.size + 1, 0, none⟩ (.int .i64 0)).setCell ⟨w.heap.size + 1, 1, none⟩ (.int .i64 0)) := ((Only.mono (S' := fun b => b = w.heap.size ∨ b = w.heap.size + 1) hso (fun b e => Or.inl e)).setCell (p := ⟨w.heap.size + 1, 0, none⟩) (Or.inr rfl) _).setCell (p := ⟨w.heap.size + 1, 1, none⟩) (Or.inr rfl) _
    have hA3 : ((W2.setCell ⟨w.heap.size + 1, 0, none⟩ (.int .i64 0)).setCell ⟨w.heap.size + 1, 1, none⟩ (.int .i64 0)).heap[w.heap.size]? = some (.cells #[.slice aC s.cls.length cC, .int .u32 x1.j, .int .u32 x1.a, .slice aT s.treat.length cT, .slice aL s.list.length cL] 30 (0, 0)) := (Below.heap_setCell _ _ _ _ (by show ¬ w.heap.size = w.heap.size + 1; omega)).trans ((Below.heap_setCell _ _ _ _ (by show ¬ w.heap.size = w.heap.size + 1; omega)).trans hA2)
    generalize ((W2.setCell ⟨w.heap.size + 1, 0, none⟩ (.int .i64 0)).setCell ⟨w.heap.size + 1, 1, none⟩ (.int .i64 0)) = W3 at hB3 hso3 hA3 ⊢
    refine ⟨.tuple #[.agg #[.slice aC s.cls.length cC, .int .u32 x1.j, .int .u32 x1.a, .slice aT s.treat.length cT, .slice aL s.list.length cL], .agg #[.int .i64 0, .int .i64 0]], ?_, ⟨_, w.heap.size + 1 + 1 + 1 + 1, rfl, by omega, HV.out.only hso3 (fun g hg => by omega)⟩, ?_⟩
    · exact results_row_row (fn := Try.f6) (p := 2) (q := 3) (ty := 30) (ty' := 33) rfl _ _ w.heap.size 30 _ (0, 0) _ rfl hA3 Try.underlying30 rfl info37 (w.heap.size + 1) 33 _ (0, 0) _ rfl hB3 Try.underlying33 rfl info40
    · exact ⟨hso3.os.trans HO1.out.os, hso3.tape.trans HO1.out.tape, hso3.output.trans HO1.out.output, Nat.le_trans HO1.out.size hso3.size, fun g hg _ => (hso3.block g (Nat.lt_of_lt_of_le hg HO1.out.size) (by omega)).trans (HO1.out.block g hg (fun e => e))⟩
end Go.Proofs.Ytahoepmnekconab
