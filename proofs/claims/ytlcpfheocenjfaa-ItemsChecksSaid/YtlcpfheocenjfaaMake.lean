/-
  What prop.Make returns: no table and the fault, or a new table of the ranges; nothing that was there turns.
-/
import Derived.Test.YtlcpfheocenjfaaInv
import Derived.RegionTactic
import Derived.ChangeAlike
namespace Go.Proofs.Ytlcpfheocenjfaa
open Go.RowKit Go.Maps
set_option linter.unusedVariables false
set_option linter.unusedSimpArgs false

theorem wpList_store_new {P : Program} {ops : Array Oper} {rest : List Oper} {o : Oper} {a : Act} {w : World} {Q : Exit → Act → World → Prop} (hgd : o.guard = none) (ty : TypeId) (x y : Operand) (ho : o.op = .store ty x y)
    (hd : o.dst = none) (cells old : Array Value) (t : TypeId) (hx : a.eval x = .pointer (some ⟨w.heap.size, 0, none⟩)) (hy : a.eval y = .agg cells) (hi : (P.info? ty).map (·.size) = some cells.size)
    (hold : old.size = cells.size) (h1 : cells.all (·.oneCell') = true)
    (h : wpList P ops Q rest a (w.alloc (.cells cells t))) : wpList P ops Q (o :: rest) a (w.alloc (.cells old t)) := by
  refine wpList_store_rowTo hgd ty x y ho hd w.heap.size cells hx hy t old (heap_alloc_new _ _) hi hold h1 ?_
  rw [World.setRow_alloc_new]
  exact h

theorem info55 : (Try.prog.info? 82).map (fun i => (i.zero, i.size)) = some (some (.agg (tC noRows (.slice none 0 0))), 4353) := by kernel_rfl
theorem zero55 (w : World) : (zeroValue 82).run Try.prog w = .ok (.agg (tC noRows (.slice none 0 0))) w := (zero_of_info info55).1 w
theorem mid_start {P : Program} {L : List Rg} {w0 : World} :
    Mid P L w0.heap.size 0 (((w0.alloc (.cells (tC noRows (.slice none 0 0)) 82)).alloc (.map #[] 0)).alloc (.cells (bC Pr.zeros) 85)) noRows (.slice none 0 0) [] (.map []) Pr.zeros := by
  refine ⟨(heap_alloc_old _ _ (by simp <;> omega)).trans (heap_alloc2_old _ _ _), ?_, ?_, World.ownsRow_nil _ _ _ _, fun f _ => ⟨rfl, rfl⟩, inv_start L, zeros_byt, fun _ => rfl, fun h => by omega, by simp <;> omega⟩
  · have h := (World.ownsMap_made (H := Unit) (w0.alloc (.cells (tC noRows (.slice none 0 0)) 82)) P 85 (plainElem P 78)).alloc (.cells (bC Pr.zeros) 85)
    simpa using h
  · have h := heap_alloc_new ((w0.alloc (.cells (tC noRows (.slice none 0 0)) 82)).alloc (.map #[] 0)) (.cells (bC Pr.zeros) 85)
    simpa using h
theorem keep_apart {v : Value} {N G : Nat} (h : ∀ g, v.ownBlock = some g → N + 3 ≤ g ∧ g < G) (hG : N + 3 ≤ G) : ¬ (G = N ∨ G = N + 1 ∨ v.ownBlock = some G) := by
  rintro (e | e | e)
  · omega
  · omega
  · have := (h G e).2
    omega
theorem keep_apart2 {v : Value} {N G : Nat} (h : ∀ g, v.ownBlock = some g → N + 3 ≤ g ∧ g < G) : ¬ (N + 1 + 1 = N ∨ N + 1 + 1 = N + 1 ∨ v.ownBlock = some (N + 1 + 1)) := by
  rintro (e | e | e)
  · omega
  · omega
  · have := (h _ e).1
    omega
theorem wrap_small (a : Int) (h0 : -9223372036854775808 ≤ a) (h1 : a ≤ 9223372036854775807) : IntKind.i64.wrap a = a := by
  rw [IntKind.wrap_i64]
  omega
theorem drop_ok {most : Int} {L : List Rg} (h : Pr.okFrom most (-1) L = true) (j : Nat) : ∃ ah, Pr.okFrom most ah (L.drop j) = true := by
  obtain ⟨a, _, h'⟩ := Pr.ok_drop j h
  exact ⟨a, h'⟩
theorem drop_low {L : List Rg} {j i : Nat} {lo lo' : Int} (h : ∀ x ∈ L.take j, x.hi < lo) (h2 : ∀ x ∈ (L.drop j).take i, x.hi < lo') (hl : lo ≤ lo') : ∀ x ∈ L.take (j + i), x.hi < lo' := by
  intro x hx
  rw [List.take_add] at hx
  rcases List.mem_append.1 hx with hx | hx
  · have := h x hx; omega
  · exact h2 x hx

set_option maxRecDepth 100000 in
set_option maxHeartbeats 4000000 in
theorem make_any (L : List Rg) (most : Int) (a : Option Addr) (b off cap : Nat) (w : World) (hS : Sees w L a b off cap) (hn : L.length ≤ 1000000) :
    Calls Try.prog 15 #[.slice a L.length cap, .int .i64 most] w fun e w' => Below w.heap.size w w' ∧
      ((Pr.ok most L = false ∧ e = .returned (.tuple #[.pointer none, .int .i64 10])) ∨ (Pr.ok most L = true ∧ ∃ T, e = .returned (.tuple #[.pointer (some ⟨T, 0, none⟩), .int .i64 0]) ∧ Tab w' w.heap.size T L)) := by
  by_cases hok : Pr.ok most L = true
  · obtain ⟨n, hn'⟩ : ∃ n, n = L.length := ⟨_, rfl⟩
    have HN : Hid (n = L.length) := hn'
    have HO : Hid (Pr.ok most L = true) := hok
    have hok2 : Pr.okFrom most (-1) L = true := by unfold Pr.ok at hok; rw [Bool.and_eq_true] at hok; exact hok.2
    have HO2 : Hid (Pr.okFrom most (-1) L = true) := hok2
    have hc := check_any L most a b off cap w hS hn
    rw [hok, ← hn'] at hc
    rw [← hn'] at hn ⊢
    clear hn' hok hok2
    have hz58 := zero58
    have hz55 := zero55
    have hmm := @run_makeMap Try.prog
    go_enter Try.func15, Try.ntmps15
    go_wp2_with (first | (go_at_call 35; refine hc.mono ?_; rintro e w0 ⟨rfl, hb0⟩))
    have hs0 := hb0.size
    have hB0 : Hid (Below w.heap.size w w0) := hb0
    have hS0 : Hid (Sees w0 L a b off cap) := hS.kept hb0
    clear hb0 hc
    obtain ⟨N, hN⟩ : ∃ N, N = w0.heap.size := ⟨_, rfl⟩
    have HNN : Hid (N = w0.heap.size) := hN
    have hNw : w.heap.size ≤ N := by omega
    have hst : Hid (Mid Try.prog L N 0 (((w0.alloc (.cells (tC noRows (.slice none 0 0)) 82)).alloc (.map #[] 0)).alloc (.cells (bC Pr.zeros) 85)) noRows (.slice none 0 0) [] (.map []) Pr.zeros) := (by rw [hN]; exact mid_start : Mid Try.prog L N 0 _ noRows (.slice none 0 0) [] (.map []) Pr.zeros)
    rw [← hN]
    clear hN
    go_loopw [0, 19] (fun l i wr => ∃ (k j m off' cap' : Nat) (a' : Option Addr) (R : List Int) (v : Value) (B : List (List Int)) (D : DataW Unit) (fa : List Int) (W : World), W = wr ∧ k ≤ 4352 ∧ i = .int .i64 k ∧ l = .slice a' m cap' ∧ Hid (m = (L.drop j).length) ∧ Sees wr (L.drop j) a' b off' cap' ∧ Hid (∀ x ∈ L.take j, x.hi < 256 * (k : Int)) ∧ Hid (0 < (L.drop j).length → b < w0.heap.size) ∧ Mid Try.prog L N k wr R v B D fa ∧ Below w0.heap.size w0 wr) (fun _ i _ => 4352 - (intOf i).toNat)
    case atStart => exact ⟨0, 0, n, off, cap, a, noRows, .slice none 0 0, [], .map [], Pr.zeros, _, rfl, Nat.zero_le _, rfl, rfl, HN.out, hS0.out.kept ((((Below.refl _ _).alloc (Nat.le_refl _) _).alloc (by simp <;> omega) _).alloc (by simp <;> omega) _), fun x hx => by simp at hx, hS0.out.blk, hst.out, (((Below.refl _ _).alloc (Nat.le_refl _) _).alloc (by simp <;> omega) _).alloc (by simp <;> omega) _⟩
    case round =>
      obtain ⟨k, j, m, off', cap', a', R, v, B, D, fa, W, rfl, hk, rfl, rfl, hm, hS1, hd, hbw, hmid, hbel⟩ := hrel
      by_cases hlt : k < 4352
      · have hltI : (k : Int) < 4352 := by omega
        have hbH : Hid (Below w0.heap.size w0 W) := hbel
        have hmH : Hid (Mid Try.prog L N k W R v B D fa) := hmid
        have hml : m ≤ 1000000 := by rw [hm.out, List.length_drop, ← HN.out]; omega
        have hfr : Calls Try.prog 36 #[.slice a' m cap', .int .i32 ((k : Int) * 256)] W fun e w' => ∃ (i m2 off2 cap2 : Nat) (a2 : Option Addr), e = .returned (.slice a2 m2 cap2) ∧ Hid (m2 = (L.drop (j + i)).length) ∧ Sees W (L.drop (j + i)) a2 b off2 cap2 ∧ Hid (∀ x ∈ L.take (j + i), x.hi < 256 * (k : Int)) ∧ w' = W := by
          have h := from_any (L.drop j) ((k : Int) * 256) a' b off' cap' W hS1 (by rw [← hm.out]; exact hml)
          rw [← hm.out] at h
          refine h.mono ?_
          rintro e w1 ⟨i, a2, off2, cap2, rfl, h2, h3, _, rfl⟩
          rw [List.drop_drop] at h2
          refine ⟨i, _, off2, cap2, a2, rfl, by rw [List.drop_drop]; rfl, h2, drop_low hd.out (fun x hx => by have := h3 x hx; omega) (by omega), rfl⟩
        obtain ⟨f, hfe⟩ : ∃ f, f = Pr.blk L k := ⟨_, rfl⟩
        have HF : Hid (f = Pr.blk L k) := hfe
        have hfb : Hid (Byt f) := (by rw [hfe]; exact blk_byt HO2.out k : Byt f)
        have hlen : Hid (f.length = 256) := hfb.out.1
        clear hbel hmid hfe
        go_wp2_with (go_at_call 36; refine hfr.mono ?_; rintro e w1 ⟨i, m2, off2, cap2, a2, rfl, hm2, hS2, hd2, rfl⟩)
        have hml2 : m2 ≤ 1000000 := by rw [hm2.out, List.length_drop, ← HN.out]; omega
        have hcut : Calls Try.prog 37 #[.slice a2 m2 cap2, .int .i32 ((k : Int) * 256)] w1 fun e w' => e = .returned (.agg (bC f)) ∧ Below w1.heap.size w1 w' := by
          obtain ⟨ah, hah⟩ := drop_ok HO2.out (j + i)
          have h := cut_any most ah (L.drop (j + i)) ((k : Int) * 256) a2 b off2 cap2 w1 hS2 (by rw [← hm2.out]; exact hml2) hah (by omega) (by omega)
          rw [← hm2.out, Int.mul_comm, fO_blk (most := most) (a := ah) hd2.out, ← HF.out, Int.mul_comm] at h
          exact h
        refine hcut.mono ?_
        rintro e w2 ⟨rfl, hb2⟩
        have hmid2 := hmH.out.grown (grown_below hb2)
        have hmid3 : Hid (Mid Try.prog L N k (w2.alloc (.cells (bC f) 85)) R v B D fa) := hmid2.alloc _
        have hq3 : Hid ((w2.alloc (.cells (bC f) 85)).heap[w2.heap.size]? = some (.cells (bC f) 85 (0, 0))) := heap_alloc_new _ _
        have hsz1 := hb2.size
        have hszN := hmH.out.sz
        have hNN := HNN.out
        have hB3 : Hid (Below w0.heap.size w1 (w2.alloc (.cells (bC f) 85))) := (hb2.mono (by omega)).alloc (by omega) _
        have hbH2 : Hid (Below w1.heap.size w1 w2) := hb2
        have hfab : Hid (Byt fa) := hmH.out.fab
        have hbw2 : Hid (0 < (L.drop (j + i)).length → b < w0.heap.size) := fun h => hbw.out (by rw [List.length_drop] at h ⊢; omega)
        have hNNH : Hid (N = w0.heap.size) := hNN
        clear hcut hfr hb2 hmid2 hS1 hNN
        by_cases hz : f = Pr.zeros
        · have HZ : Hid (f = Pr.zeros) := hz
          have hq0 : ∀ w, (Op.equalIn 10000 85 (.agg (bC f)) (.agg (bC Pr.zeros))).run Try.prog w = .ok true w := fun w => by rw [eq58 hfb.out zeros_byt, decide_eq_true HZ.out]
          clear hz
          go_wp2_with (first | refine wpList_store_new rfl 85 _ _ rfl rfl (bC f) _ 85 rfl rfl (sz58 hlen.out) (by rw [bC_size, bC_size, hlen.out]; rfl) (bC_one _) ?_ | refine wpList_load_row rfl 85 _ rfl w2.heap.size rfl 85 _ (0, 0) _ hq3.out Try.underlying85 rfl (sz58 hlen.out) ?_ | refine wpList_store_rowTo rfl 85 _ _ rfl rfl (N + 1 + 1) (bC f) rfl rfl 85 _ hmid3.out.a (sz58 hlen.out) (by rw [bC_size, bC_size, hlen.out, hfab.out.1]) (bC_one _) ?_)
          go_roundw
          case rel =>
            have hB4 : Below w0.heap.size w1 ((w2.alloc (.cells (bC f) 85)).setRow (N + 1 + 1) (bC f)) := below_setRow hB3.out (by have := hNNH.out; omega) _
            exact ⟨k + 1, j + i, m2, off2, cap2, a2, R, v, B, D, f, _, rfl, by omega, by go_num, rfl, hm2.out, hS2.below hB4 hbw2.out, fun x hx => by have := hd2.out x hx; omega, hbw2.out, mid_zero hmid3.out hlt hfb.out HF.out HZ.out, hbH.out.trans hB4⟩
          case measure => simp [intOf]; omega
        · have HZ : Hid (f ≠ Pr.zeros) := hz
          have hq0 : ∀ w, (Op.equalIn 10000 85 (.agg (bC f)) (.agg (bC Pr.zeros))).run Try.prog w = .ok false w := fun w => by rw [eq58 hfb.out zeros_byt, decide_eq_false HZ.out]
          clear hz
          by_cases ha : f = fa
          · have HA : Hid (f = fa) := ha
            have hq1 : ∀ w, (Op.equalIn 10000 85 (.agg (bC f)) (.agg (bC fa))).run Try.prog w = .ok true w := fun w => by rw [eq58 hfb.out hfab.out, decide_eq_true HA.out]
            clear ha
            go_wp2_with (first | refine wpList_store_new rfl 85 _ _ rfl rfl (bC f) _ 85 rfl rfl (sz58 hlen.out) (by rw [bC_size, bC_size, hlen.out]; rfl) (bC_one _) ?_ | refine wpList_load_row rfl 85 _ rfl w2.heap.size rfl 85 _ (0, 0) _ hq3.out Try.underlying85 rfl (sz58 hlen.out) ?_ | refine wpList_load_row rfl 85 _ rfl (N + 1 + 1) rfl 85 _ (0, 0) _ hmid3.out.a Try.underlying85 rfl (sz58 hfab.out.1) ?_)
            have hk0 : 0 < k := by
              rcases Nat.eq_zero_or_pos k with h0 | h0
              · exact absurd (HA.out.trans (hmH.out.fa0 h0)) HZ.out
              · exact h0
            obtain ⟨r, hr⟩ : ∃ r, R[k - 1]? = some r := ⟨_, hmH.out.inv.rows (k - 1) (by omega)⟩
            have hrH : Hid (R[k - 1]? = some r) := hr
            have c0 : (w2.alloc (.cells (bC f) 85)).cell? ⟨N, k - 1, none⟩ = some (.int .u16 r) := (cell_of_row _ _ _ _ _ _ hmid3.out.t).trans (tC_at hr)
            have c1 : (w2.alloc (.cells (bC f) 85)).cell? ⟨N, k, none⟩ = some (.int .u16 0) := (cell_of_row _ _ _ _ _ _ hmid3.out.t).trans (tC_at (hmH.out.inv.rest k (Nat.le_refl _) hlt))
            have c2 : (w2.alloc (.cells (bC f) 85)).frozen? ⟨N, k, none⟩ = false := frozen_row _ _ _ _ _ hmid3.out.t
            have hk1 : (1 : Int) ≤ k := by omega
            have hk1n : 1 ≤ k := by omega
            have hi3 : (k : Int) < 4353 := by omega
            have hi4 : k - 1 < 4352 := by omega
            have hi5 : k < 4353 := by omega
            have hi0 : (0 : Int) ≤ (k : Int) - 1 := by omega
            have hi1 : (k : Int) - 1 < 4352 := by omega
            have c3 : ((w2.alloc (.cells (bC f) 85)).setCell ⟨N, k, none⟩ (.int .u16 r)).cell? ⟨N, k - 1, none⟩ = some (.int .u16 r) := (World.cell?_setCell_other _ _ _ _ (by intro e; injection e with e1 e2; omega)).trans c0
            clear hr
            refine wp_region_held_drew (S := fun w' => w'.cell? ⟨N, k - 1, none⟩ = some (.int .u16 r)) (by kernel_rfl) c0 (fun hHeld => ?_)
            refine wpAnyH_take (i := 0) (v := .pointer (some ⟨N, 0, none⟩)) rfl (by kernel_rfl) (by kernel_rfl) (by kernel_rfl) (fun _ _ _ h => h) (Or.inl ⟨by rfl, fun w hSw => by first | (go_simp; done) | (go_simp; exact wrap_small _ (by omega) (by omega)) | (simp only at hSw; go_simp)⟩) (by assumption) ?_
            simp only [Act.put, List.setIfInBounds_toArray, List.set_cons_zero, List.set_cons_succ]
            refine wpAnyH_take (i := 1) (v := .int .i64 (k : Int)) rfl (by kernel_rfl) (by kernel_rfl) (by kernel_rfl) (fun _ _ _ h => h) (Or.inl ⟨by rfl, fun w hSw => by first | (go_simp; done) | (go_simp; exact wrap_small _ (by omega) (by omega)) | (simp only at hSw; go_simp)⟩) (by assumption) ?_
            simp only [Act.put, List.setIfInBounds_toArray, List.set_cons_zero, List.set_cons_succ]
            refine wpAnyH_take (i := 2) (v := .pointer (some ⟨N, 0, none⟩)) rfl (by kernel_rfl) (by kernel_rfl) (by kernel_rfl) (fun _ _ _ h => h) (Or.inl ⟨by rfl, fun w hSw => by first | (go_simp; done) | (go_simp; exact wrap_small _ (by omega) (by omega)) | (simp only at hSw; go_simp)⟩) (by assumption) ?_
            simp only [Act.put, List.setIfInBounds_toArray, List.set_cons_zero, List.set_cons_succ]
            refine wpAnyH_take (i := 3) (v := .int .i64 (k : Int)) rfl (by kernel_rfl) (by kernel_rfl) (by kernel_rfl) (fun _ _ _ h => h) (Or.inl ⟨by rfl, fun w hSw => by first | (go_simp; done) | (go_simp; exact wrap_small _ (by omega) (by omega)) | (simp only at hSw; go_simp)⟩) (by assumption) ?_
            simp only [Act.put, List.setIfInBounds_toArray, List.set_cons_zero, List.set_cons_succ]
            refine wpAnyH_take (i := 4) (v := .int .i64 ((k : Int) - 1)) rfl (by kernel_rfl) (by kernel_rfl) (by kernel_rfl) (fun _ _ _ h => h) (Or.inl ⟨by rfl, fun w hSw => by first | (go_simp; done) | (go_simp; exact wrap_small _ (by omega) (by omega)) | (simp only at hSw; go_simp)⟩) (by assumption) ?_
            simp only [Act.put, List.setIfInBounds_toArray, List.set_cons_zero, List.set_cons_succ]
            refine wpAnyH_take (i := 5) (v := .pointer (some ⟨N, 0, none⟩)) rfl (by kernel_rfl) (by kernel_rfl) (by kernel_rfl) (fun _ _ _ h => h) (Or.inl ⟨by rfl, fun w hSw => by first | (go_simp; done) | (go_simp; exact wrap_small _ (by omega) (by omega)) | (simp only at hSw; go_simp)⟩) (by assumption) ?_
            simp only [Act.put, List.setIfInBounds_toArray, List.set_cons_zero, List.set_cons_succ]
            refine wpAnyH_take (i := 6) (v := .pointer (some ⟨N, 0, none⟩)) rfl (by kernel_rfl) (by kernel_rfl) (by kernel_rfl) (fun _ _ _ h => h) (Or.inl ⟨by rfl, fun w hSw => by first | (go_simp; done) | (go_simp; exact wrap_small _ (by omega) (by omega)) | (simp only at hSw; go_simp)⟩) (by assumption) ?_
            simp only [Act.put, List.setIfInBounds_toArray, List.set_cons_zero, List.set_cons_succ]
            refine wpAnyH_take (i := 7) (v := .pointer (some ⟨N, k - 1, none⟩)) rfl (by kernel_rfl) (by kernel_rfl) (by kernel_rfl) (fun _ _ _ h => h) (Or.inl ⟨by rfl, fun w hSw => by first | (go_simp; done) | (go_simp; exact wrap_small _ (by omega) (by omega)) | (simp only at hSw; go_simp)⟩) (by assumption) ?_
            simp only [Act.put, List.setIfInBounds_toArray, List.set_cons_zero, List.set_cons_succ]
            refine wpAnyH_take (i := 8) (v := .int .u16 r) rfl (by kernel_rfl) (by kernel_rfl) (by kernel_rfl) (fun _ _ _ h => h) (Or.inl ⟨by rfl, fun w hSw => by first | (go_simp; done) | (go_simp; exact wrap_small _ (by omega) (by omega)) | (simp only at hSw; go_simp)⟩) (by assumption) ?_
            simp only [Act.put, List.setIfInBounds_toArray, List.set_cons_zero, List.set_cons_succ]
            refine wpAnyH_take (i := 9) (v := .pointer (some ⟨N, 0, none⟩)) rfl (by kernel_rfl) (by kernel_rfl) (by kernel_rfl) (fun _ _ _ h => h) (Or.inl ⟨by rfl, fun w hSw => by first | (go_simp; done) | (go_simp; exact wrap_small _ (by omega) (by omega)) | (simp only at hSw; go_simp)⟩) (by assumption) ?_
            simp only [Act.put, List.setIfInBounds_toArray, List.set_cons_zero, List.set_cons_succ]
            refine wpAnyH_take (i := 10) (v := .pointer (some ⟨N, 0, none⟩)) rfl (by kernel_rfl) (by kernel_rfl) (by kernel_rfl) (fun _ _ _ h => h) (Or.inl ⟨by rfl, fun w hSw => by first | (go_simp; done) | (go_simp; exact wrap_small _ (by omega) (by omega)) | (simp only at hSw; go_simp)⟩) (by assumption) ?_
            simp only [Act.put, List.setIfInBounds_toArray, List.set_cons_zero, List.set_cons_succ]
            refine wpAnyH_take (i := 11) (v := .pointer (some ⟨N, k, none⟩)) rfl (by kernel_rfl) (by kernel_rfl) (by kernel_rfl) (fun _ _ _ h => h) (Or.inl ⟨by rfl, fun w hSw => by first | (go_simp; done) | (go_simp; exact wrap_small _ (by omega) (by omega)) | (simp only at hSw; go_simp)⟩) (by assumption) ?_
            simp only [Act.put, List.setIfInBounds_toArray, List.set_cons_zero, List.set_cons_succ]
            refine wpAnyH_ready (rs := [12]) (by kernel_rfl) (by simp) ?_
            refine AllReadyH.cons rfl (fun K hK => ?_) AllReadyH.nil
            rw [if_pos (by rfl)]
            go_simp
            refine hK.out _ _ c3 (fun hHeld => ?_)
            clear hK
            refine wpAnyH_done (by kernel_rfl) ?_ _
            clear hHeld
            have hg4 := grown_setCell (w2.alloc (.cells (bC f) 85)) ⟨N, k, none⟩ (.int .u16 r)
            have hq4 : Hid (((w2.alloc (.cells (bC f) 85)).setCell ⟨N, k, none⟩ (.int .u16 r)).heap[w2.heap.size]? = some (.cells (bC f) 85 (0, 0))) := (hg4.block _ (by simp) (by intro e; injection e with e; have : w2.heap.size = N := e; omega)).trans hq3.out
            have ha4 : Hid (((w2.alloc (.cells (bC f) 85)).setCell ⟨N, k, none⟩ (.int .u16 r)).heap[N + 1 + 1]? = some (.cells (bC fa) 85 (0, 0))) := (hg4.block _ (by simp <;> omega) (by intro e; injection e with e; have : N + 1 + 1 = N := e; omega)).trans hmid3.out.a
            clear hg4
            go_wp2_with (first | refine wpList_load_row rfl 85 _ rfl w2.heap.size rfl 85 _ (0, 0) _ hq4.out Try.underlying85 rfl (sz58 hlen.out) ?_ | refine wpList_store_rowTo rfl 85 _ _ rfl rfl (N + 1 + 1) (bC f) rfl rfl 85 _ ha4.out (sz58 hlen.out) (by rw [bC_size, bC_size, hlen.out, hfab.out.1]) (bC_one _) ?_)
            go_roundw
            case rel =>
              have hB4 : Below w0.heap.size w1 (((w2.alloc (.cells (bC f) 85)).setCell ⟨N, k, none⟩ (.int .u16 r)).drew.setRow (N + 1 + 1) (bC f)) := below_setRow (hB3.out.setCell (p := ⟨N, k, none⟩) (by show w0.heap.size ≤ N; have := hNNH.out; omega) _).drew (by have := hNNH.out; omega) _
              exact ⟨k + 1, j + i, m2, off2, cap2, a2, R.set k r, v, B, D, f, _, rfl, by omega, by go_num, rfl, hm2.out, hS2.below hB4 hbw2.out, fun x hx => by have := hd2.out x hx; omega, hbw2.out, (mid_same hmid3.out hlt hk0 hfb.out HF.out HA.out hrH.out).grown ⟨rfl, rfl, rfl, Nat.le_refl _, fun _ _ _ => rfl⟩, hbH.out.trans hB4⟩
            case measure => simp [intOf]; omega
          · have HA : Hid (f ≠ fa) := ha
            have hq1 : ∀ w, (Op.equalIn 10000 85 (.agg (bC f)) (.agg (bC fa))).run Try.prog w = .ok false w := fun w => by rw [eq58 hfb.out hfab.out, decide_eq_false HA.out]
            clear ha
            go_wp2_with (first | refine wpList_store_new rfl 85 _ _ rfl rfl (bC f) _ 85 rfl rfl (sz58 hlen.out) (by rw [bC_size, bC_size, hlen.out]; rfl) (bC_one _) ?_ | refine wpList_load_row rfl 85 _ rfl w2.heap.size rfl 85 _ (0, 0) _ hq3.out Try.underlying85 rfl (sz58 hlen.out) ?_ | refine wpList_load_row rfl 85 _ rfl (N + 1 + 1) rfl 85 _ (0, 0) _ hmid3.out.a Try.underlying85 rfl (sz58 hfab.out.1) ?_)
            have hd3 : Hid (Mid Try.prog L N k (w2.alloc (.cells (bC f) 85)).drew R v B D fa) := hmid3.out.grown ⟨rfl, rfl, rfl, Nat.le_refl _, fun _ _ _ => rfl⟩
            have hbl : B.length ≤ 5000 := by have := hmH.out.inv.bl; omega
            have hkp := keep_any N (N + 1) (N + 3) f R v B D (w2.alloc (.cells (bC f) 85)).drew hd3.out.t hd3.out.inv.len hd3.out.v hd3.out.m hd3.out.kd hfb.out (by omega) (by omega) (by omega) hd3.out.sz hbl
            have hown : Hid (∀ g, v.ownBlock = some g → N + 3 ≤ g ∧ g < w2.heap.size) := fun g hg => ⟨((hmH.out.grown (grown_below hbH2.out)).v.lt g hg).1, ((hmH.out.grown (grown_below hbH2.out)).v.lt g hg).2⟩
            have hu58 := Try.underlying85
            have hi58 : (Try.prog.info? 85).map (·.size) = some (f.map (Value.int .u8)).length := by rw [List.length_map, hlen.out]; exact (zero_of_info info58').2
            have hinv := hmH.out.inv
            have hIH : Hid (Inv L k R B) := hinv
            clear hinv
            go_region_held_law (fun w' => w'.rangeAt w2.heap.size 0 (f.map (Value.int .u8))) ((first | exact range_row hq3.out | exact range_row hqk.out | exact range_row hqs.out)) ((go_at_call 38; refine hkp.mono ?_; rintro e w4 ⟨v', D', rfl, hT4, hv4, hM4, hkd4, hO4⟩; have hqk : Hid (w4.heap[w2.heap.size]? = some (.cells (bC f) 85 (0, 0))) := (hO4.block w2.heap.size (by simp) (keep_apart hown.out (by omega))).trans hq3.out; have hT4H : Hid (w4.heap[N]? = some (.cells (tC R v') 82 (0, 0))) := hT4; have c1 : w4.cell? ⟨N, k, none⟩ = some (.int .u16 0) := (cell_of_row _ _ _ _ _ _ hT4).trans (tC_at (hIH.out.rest k (Nat.le_refl _) hlt)); have c2 : w4.frozen? ⟨N, k, none⟩ = false := frozen_row _ _ _ _ _ hT4; have hqs : Hid ((w4.setCell ⟨N, k, none⟩ (.int .u16 (idx f (add B f)))).heap[w2.heap.size]? = some (.cells (bC f) 85 (0, 0))) := (Below.heap_setCell _ _ _ _ (by show w2.heap.size ≠ N; omega)).trans hqk.out; clear hT4))
            have ha5 : Hid ((w4.setCell ⟨N, k, none⟩ (.int .u16 (idx f (add B f)))).heap[N + 1 + 1]? = some (.cells (bC fa) 85 (0, 0))) := (Below.heap_setCell _ _ _ _ (by show N + 1 + 1 ≠ N; omega)).trans ((hO4.block (N + 1 + 1) (by have := hd3.out.sz; omega) (keep_apart2 hown.out)).trans hd3.out.a)
            have hOH : Hid (Only (fun g => g = N ∨ g = N + 1 ∨ v.ownBlock = some g) (w2.alloc (.cells (bC f) 85)).drew w4) := hO4
            have hvH : Hid (w4.ownsRow (N + 3) 85 256 v' (add B f).length (flat (add B f))) := hv4
            have hMH : Hid (w4.ownsMap Try.prog 85 (plainElem Try.prog 78) (N + 1) (add B f).length D') := hM4
            have hkdH : Hid (KD Try.prog D' (add B f)) := hkd4
            clear hO4 hv4 hM4 hkd4 hkp c1 c2 hu58 hi58
            go_wp2_with (first | refine wpList_load_row rfl 85 _ rfl w2.heap.size rfl 85 _ (0, 0) _ hqs.out Try.underlying85 rfl (sz58 hlen.out) ?_ | refine wpList_store_rowTo rfl 85 _ _ rfl rfl (N + 1 + 1) (bC f) rfl rfl 85 _ ha5.out (sz58 hlen.out) (by rw [bC_size, bC_size, hlen.out, hfab.out.1]) (bC_one _) ?_)
            go_roundw
            case rel =>
              have hNN := hNNH.out
              have hB4 : Below w0.heap.size w1 ((w4.setCell ⟨N, k, none⟩ (.int .u16 (idx f (add B f)))).setRow (N + 1 + 1) (bC f)) := below_setRow ((hB3.out.drew.trans (hOH.out.below (by have := hd3.out.sz; omega) (fun g hg => by rcases hg with e | e | e; exact (by omega); exact (by omega); have := (hown.out g e).1; omega))).setCell (p := ⟨N, k, none⟩) (by show w0.heap.size ≤ N; omega) _) (by omega) _
              exact ⟨k + 1, j + i, m2, off2, cap2, a2, R.set k (idx f (add B f)), v', add B f, D', f, _, rfl, by omega, by go_num, rfl, hm2.out, hS2.below hB4 hbw2.out, fun x hx => by have := hd2.out x hx; omega, hbw2.out, mid_keep hd3.out hlt hfb.out HF.out HZ.out hT4H.out hvH.out hMH.out hkdH.out hOH.out, hbH.out.trans hB4⟩
            case measure => simp [intOf]; omega
      · have hk' : k = 4352 := by omega
        subst hk'
        have hb2 : Hid (Below w.heap.size w W) := hB0.out.trans (hbel.mono (by omega))
        have hT : Hid (Tab W w.heap.size N L) := ⟨R, v, B, hmid.t, by
          obtain ⟨hl, h' | ⟨g, cap, cur, hv, hb, hh⟩⟩ := hmid.v
          · exact ⟨hl, Or.inl h'⟩
          · exact ⟨hl, Or.inr ⟨g, cap, cur, hv, by omega, hh⟩⟩, hmid.inv, hNw⟩
        clear hbel hmid hS1
        go_wp2
        go_ret2
        exact ⟨hb2.out, Or.inr ⟨HO.out, N, rfl, hT.out⟩⟩
  · have hok' : Pr.ok most L = false := by cases h : Pr.ok most L <;> simp_all
    have hc := check_any L most a b off cap w hS hn
    rw [hok'] at hc
    obtain ⟨n, hn'⟩ : ∃ n, n = L.length := ⟨_, rfl⟩
    rw [← hn'] at hc hn ⊢
    clear hn' hok
    have HO : Hid (Pr.ok most L = false) := hok'
    clear hok'
    go_enter Try.func15, Try.ntmps15
    go_wp2_with (go_at_call 35; refine hc.mono ?_; rintro e w0 ⟨rfl, hb0⟩)
    go_ret2
    exact ⟨hb0, Or.inl ⟨HO.out, rfl⟩⟩
end Go.Proofs.Ytlcpfheocenjfaa
