/-
  What (*auto.places).mayCome and (*auto.places).out do.
-/
import Derived.Test.YtfbcijnacbfjpaaPrt2
namespace Go.Proofs.Ytfbcijnacbfjpaa
open Go.RowKit Go.Maps
set_option linter.unusedVariables false
set_option linter.unusedSimpArgs false
/-- which places may come behind a state, as far as k places. -/
def mayK (nx : Nat → Nat) (fs S k : Nat) : Nat := (List.range k).foldl (fun m i => if S.testBit i = true then m ||| nx i else m) fs
theorem mayK_succ (nx : Nat → Nat) (fs S k : Nat) : mayK nx fs S (k + 1) = if S.testBit k = true then mayK nx fs S k ||| nx k else mayK nx fs S k := by
  unfold mayK
  rw [List.range_succ, List.foldl_append]
  rfl
set_option maxRecDepth 100000 in
set_option maxHeartbeats 4000000 in
theorem mayc_any (g cl n : Nat) (b nx : Nat → Nat) (fs : Nat) (vL : Value) (em S : Nat) (w : World) (hP : Plb w g cl n b nx fs vL em) (hn : n ≤ 200) :
    Calls Try.prog 43 #[.pointer (some ⟨g, 0, none⟩), sV S] w fun e w' => e = .returned (sV (mayK nx fs S n)) ∧ Only (fun _ => False) w w' := by
  have hlt := hP.lt
  have hlt1 : g < w.heap.size + 1 := by omega
  have hlt2 : g < w.heap.size + 1 + 1 := by omega
  have HP : Hid (Plb w g cl n b nx fs vL em) := hP
  have hc1 := hP.c1
  have e0 : w.cell? ⟨g, 898, none⟩ = some (.int .u64 (wd fs 0 : Int)) := (cell_blk hP).trans (pC_first _ _ _ _ _ _ _ 0 (by decide))
  have e1 : w.cell? ⟨g, 899, none⟩ = some (.int .u64 (wd fs 1 : Int)) := (cell_blk hP).trans (pC_first _ _ _ _ _ _ _ 1 (by decide))
  have e2 : w.cell? ⟨g, 900, none⟩ = some (.int .u64 (wd fs 2 : Int)) := (cell_blk hP).trans (pC_first _ _ _ _ _ _ _ 2 (by decide))
  have e3 : w.cell? ⟨g, 901, none⟩ = some (.int .u64 (wd fs 3 : Int)) := (cell_blk hP).trans (pC_first _ _ _ _ _ _ _ 3 (by decide))
  clear hP
  have z4 : #[Value.int .u64 0, .int .u64 0, .int .u64 0, .int .u64 0] = sC 0 := by simp [sC, wd_zero]
  have S0 : Hid (Sb (((w.alloc (.cells (sC S) 73)).alloc (.cells #[.int .u64 0, .int .u64 0, .int .u64 0, .int .u64 0] 73)).alloc (.cells (sC fs) 73)) w.heap.size S) := ((Sb.new w S).alloc _).alloc _
  have S1 : Hid (Sb (((w.alloc (.cells (sC S) 73)).alloc (.cells #[.int .u64 0, .int .u64 0, .int .u64 0, .int .u64 0] 73)).alloc (.cells (sC fs) 73)) (w.heap.size + 1) 0) := by rw [z4]; exact Sb.alloc (heap_alloc2_new _ _ _) _
  have S2 : Hid (Sb (((w.alloc (.cells (sC S) 73)).alloc (.cells #[.int .u64 0, .int .u64 0, .int .u64 0, .int .u64 0] 73)).alloc (.cells (sC fs) 73)) (w.heap.size + 1 + 1) fs) := heap_alloc3_new _ _ _ _
  have O0 : Hid (Only (fun h => w.heap.size ≤ h) w (((w.alloc (.cells (sC S) 73)).alloc (.cells #[.int .u64 0, .int .u64 0, .int .u64 0, .int .u64 0] 73)).alloc (.cells (sC fs) 73))) := (((Only.refl _ _).alloc _).alloc _).alloc _
  clear z4
  unfold sV
  unfold sC at S0 S1 S2 O0 ⊢
  go_enter Try.func43, Try.ntmps43
  go_wp2_with fail
  go_loopg [15] n (fun gh v wr => ∃ (k : Nat) (W : World), W = wr ∧ gh = n - k ∧ k ≤ n ∧ v = .int .i64 (k : Int) ∧ Sb W w.heap.size S ∧ Sb W (w.heap.size + 1) 0 ∧ Sb W (w.heap.size + 1 + 1) (mayK nx fs S k) ∧ Only (fun h => w.heap.size ≤ h) w W)
  case atStart => exact ⟨0, _, rfl, rfl, Nat.zero_le _, rfl, S0.out, S1.out, S2.out, O0.out⟩
  case round =>
    obtain ⟨k, W, hW, rfl, hk, rfl, hA, hB, hC, hO⟩ := hrel
    subst hW
    have HA : Hid (Sb W w.heap.size S) := hA
    have HB : Hid (Sb W (w.heap.size + 1) 0) := hB
    have HC : Hid (Sb W (w.heap.size + 1 + 1) (mayK nx fs S k)) := hC
    have HO : Hid (Only (fun h => w.heap.size ≤ h) w W) := hO
    clear hA hB hC hO S0 S1 S2 O0 e0 e1 e2 e3 hc1
    by_cases hlt4 : k < n
    · have t1 : (k : Int) < (n : Int) := by omega
      have a0 := HA.out.c 0 (by decide)
      have a1 := HA.out.c 1 (by decide)
      have a2 := HA.out.c 2 (by decide)
      have a3 := HA.out.c 3 (by decide)
      by_cases hbit : S.testBit k = true
      · go_wp2_with (first | (go_at_call 59; refine (has_any S k (by omega) _).mono ?_; rintro e w1 ⟨rfl, ho1⟩; have HO1 : Hid (Only (fun _ => False) W w1) := ho1; have hp1 := HP.out.only (HO.out.trans (ho1.mono (fun _ h => h.elim))) (by omega); have b0 : w1.cell? ⟨g, 98 + k * 4, none⟩ = some (.int .u64 (wd (nx k) 0 : Int)) := (cell_blk hp1).trans (by rw [Nat.mul_comm]; exact pC_next _ _ _ _ _ _ _ k (by omega) 0 (by decide)); have b1 : w1.cell? ⟨g, 98 + k * 4 + 1, none⟩ = some (.int .u64 (wd (nx k) 1 : Int)) := (cell_blk hp1).trans (by rw [Nat.mul_comm]; exact pC_next _ _ _ _ _ _ _ k (by omega) 1 (by decide)); have b2 : w1.cell? ⟨g, 98 + k * 4 + 2, none⟩ = some (.int .u64 (wd (nx k) 2 : Int)) := (cell_blk hp1).trans (by rw [Nat.mul_comm]; exact pC_next _ _ _ _ _ _ _ k (by omega) 2 (by decide)); have b3 : w1.cell? ⟨g, 98 + k * 4 + 3, none⟩ = some (.int .u64 (wd (nx k) 3 : Int)) := (cell_blk hp1).trans (by rw [Nat.mul_comm]; exact pC_next _ _ _ _ _ _ _ k (by omega) 3 (by decide)); clear ho1 hp1) | (go_at_call 42; refine (add_any (w.heap.size + 1 + 1) 0 (mayK nx fs S k) (nx k) _ 73 _ (HC.out.only HO1.out (fun h => h)) (fun j hj => by rw [Nat.zero_add]; exact sC_at _ j hj)).mono ?_; rintro e w2 ⟨rfl, hp2, ho2⟩))
        go_roundg (n - (k + 1))
        case measure => omega
        case rel =>
          refine ⟨k + 1, _, rfl, rfl, by omega, by go_num, (HA.out.only HO1.out (fun h => h)).only ho2 (by omega), (HB.out.only HO1.out (fun h => h)).only ho2 (by omega), ?_, (HO.out.trans (HO1.out.mono (fun _ h => h.elim))).trans (ho2.mono (fun _ h => by omega))⟩
          rw [mayK_succ, if_pos hbit]
          rw [inC_all] at hp2
          exact hp2
      · have hbf : S.testBit k = false := by simpa using hbit
        go_wp2_with (go_at_call 59; refine (has_any S k (by omega) _).mono ?_; rintro e w1 ⟨rfl, ho1⟩)
        go_roundg (n - (k + 1))
        case measure => omega
        case rel => exact ⟨k + 1, _, rfl, rfl, by omega, by go_num, HA.out.only ho1 (fun h => h), HB.out.only ho1 (fun h => h), by rw [mayK_succ, if_neg hbit]; exact HC.out.only ho1 (fun h => h), HO.out.trans (ho1.mono (fun _ h => h.elim))⟩
    · have t2 : decide ((k : Int) < (n : Int)) = false := decide_eq_false (by omega)
      obtain rfl : k = n := by omega
      go_wp2_with (first | refine wpList_load_row rfl 73 _ rfl (w.heap.size + 1 + 1) rfl 73 _ (0, 0) _ HC.out Try.underlying73 rfl sz73 ?_ | (refine wpList_store_rowAny rfl 73 _ _ rfl rfl (w.heap.size + 1) (sC (mayK nx fs S k)) rfl rfl 73 _ HB.out sz73 rfl (sC_one _) ?_; intro w3 h3 o3; have H3 : Hid (w3.heap[w.heap.size + 1]? = some (.cells (sC (mayK nx fs S k)) 73 (0, 0))) := h3; have O3 : Hid (Only (· = w.heap.size + 1) W w3) := o3; clear h3 o3))
      refine bodyPost_ret (v := sV (mayK nx fs S k)) (results_s rfl _ rfl H3.out) rfl ⟨rfl, ?_⟩
      exact (HO.out.trans (O3.out.mono (fun _ h => by omega))).old (fun _ h => Or.inl h)
/-- the last places of each expression, as they lie. -/
def Lw (w : World) (F : Nat → Prop) (v : Value) (Ls : List Nat) : Prop := ∃ a c, v = .slice a Ls.length c ∧ Ls.length ≤ c ∧ ∀ i S, Ls[i]? = some S → ∃ lb, a = some ⟨lb, 0, none⟩ ∧ F lb ∧ lb < w.heap.size ∧ ∀ j, j < 4 → w.cell? ⟨lb, i * 4 + j, none⟩ = some (.int .u64 (wd S j : Int))
theorem Lw.only {w w' : World} {F P : Nat → Prop} {v : Value} {Ls : List Nat} (h : Lw w F v Ls) (ho : Only P w w') (hP : ∀ b, F b → ¬ P b) : Lw w' F v Ls := by
  obtain ⟨a, c, h1, h2, h3⟩ := h
  refine ⟨a, c, h1, h2, fun i S hS => ?_⟩
  obtain ⟨lb, k1, k2, k3, k4⟩ := h3 i S hS
  exact ⟨lb, k1, k2, Nat.lt_of_lt_of_le k3 ho.size, fun j hj => (World.cell?_of_block (a := ⟨lb, i * 4 + j, none⟩) (ho.block lb k3 (hP lb k2))).trans (k4 j hj)⟩
/-- the expressions whose last places meet a state, as far as k of them, as bits, with others. -/
def outK (Ls : List Nat) (S em k : Nat) : Nat := (List.range k).foldl (fun m i => if S &&& (Ls[i]?.getD 0) ≠ 0 then m ||| 2 ^ i else m) em
theorem outK_succ (Ls : List Nat) (S em k : Nat) : outK Ls S em (k + 1) = if S &&& (Ls[k]?.getD 0) ≠ 0 then outK Ls S em k ||| 2 ^ k else outK Ls S em k := by
  unfold outK
  rw [List.range_succ, List.foldl_append]
  rfl
theorem outK_lt (Ls : List Nat) (S em : Nat) (hem : em < 2 ^ 24) : ∀ k, k ≤ 24 → outK Ls S em k < 2 ^ 24
  | 0, _ => hem
  | k + 1, h => by
    rw [outK_succ]
    have ih := outK_lt Ls S em hem k (by omega)
    split
    · exact Nat.or_lt_two_pow ih (Nat.pow_lt_pow_right (by decide) (by omega))
    · exact ih
theorem or_shl {e k : Nat} (he : e < 2 ^ 24) (hk : k < 24) : bits .or .u32 (e : Int) (IntKind.u32.wrap (2 ^ k)) = ((e ||| 2 ^ k : Nat) : Int) := by
  have h : (2 : Nat) ^ k < 2 ^ 24 := Nat.pow_lt_pow_right (by decide) hk
  have e1 : IntKind.u32.wrap (2 ^ k) = ((2 ^ k : Nat) : Int) := by
    rw [IntKind.wrap_u32]
    have : ((2 : Int) ^ k) = ((2 ^ k : Nat) : Int) := by push_cast; rfl
    rw [this]
    generalize 2 ^ k = m at h
    omega
  rw [e1]
  exact u32_or_nat _ _ (Nat.lt_trans he (by decide)) (Nat.lt_trans h (by decide))
set_option maxRecDepth 100000 in
set_option maxHeartbeats 4000000 in
theorem out_any (F : Nat → Prop) (g cl n : Nat) (b nx : Nat → Nat) (fs : Nat) (vL : Value) (em S : Nat) (Ls : List Nat) (w : World) (hP : Plb w g cl n b nx fs vL em) (hL : Lw w F vL Ls) (hl : Ls.length ≤ 24) (hem : em < 2 ^ 24) (hS : S < 2 ^ 256) (hLs : ∀ x ∈ Ls, x < 2 ^ 256) :
    Calls Try.prog 45 #[.pointer (some ⟨g, 0, none⟩), sV S] w fun e w' => e = .returned (.int .u32 (outK Ls S em Ls.length : Int)) ∧ Only (fun _ => False) w w' := by
  have hlt := hP.lt
  have hlt1 : g < w.heap.size + 1 := by omega
  obtain ⟨a, c, rfl, hac, hcells⟩ := hL
  have e5 := hP.c902
  have e6 := hP.c903
  have HC : Hid (∀ i S, Ls[i]? = some S → ∃ lb, a = some ⟨lb, 0, none⟩ ∧ F lb ∧ lb < w.heap.size ∧ ∀ j, j < 4 → w.cell? ⟨lb, i * 4 + j, none⟩ = some (.int .u64 (wd S j : Int))) := hcells
  have HS : Hid (S < 2 ^ 256) := hS
  have HLs : Hid (∀ x ∈ Ls, x < 2 ^ 256) := hLs
  have HM : Hid (em < 2 ^ 24) := hem
  clear hP hcells hS hLs hem
  obtain ⟨n1, hn1⟩ : ∃ n1, n1 = Ls.length := ⟨_, rfl⟩
  have HN : Hid (n1 = Ls.length) := hn1
  rw [← hn1] at hl hac e5 ⊢
  clear hn1
  have S0 : Hid (Sb (w.alloc (.cells (sC S) 73)) w.heap.size S) := Sb.new w S
  have O0 : Hid (Only (fun h => w.heap.size ≤ h) w (w.alloc (.cells (sC S) 73))) := (Only.refl _ _).alloc _
  unfold sV
  unfold sC at S0 O0 ⊢
  go_enter Try.func45, Try.ntmps45
  go_wp2_with fail
  go_loopg [5, 17] n1 (fun gh v u wr => ∃ (k : Nat) (W : World), W = wr ∧ gh = n1 - k ∧ k ≤ n1 ∧ v = .int .u32 (outK Ls S em k : Int) ∧ u = .int .i64 (k : Int) ∧ Sb W w.heap.size S ∧ Only (fun h => w.heap.size ≤ h) w W)
  case atStart => exact ⟨0, _, rfl, rfl, Nat.zero_le _, rfl, rfl, S0.out, O0.out⟩
  case round =>
    obtain ⟨k, W, hW, rfl, hk, rfl, rfl, hA, hO⟩ := hrel
    subst hW
    have HA : Hid (Sb W w.heap.size S) := hA
    have HO : Hid (Only (fun h => w.heap.size ≤ h) w W) := hO
    have hwl : w.heap.size < W.heap.size := hA.lt
    clear hA hO S0 O0 e5 e6
    by_cases hlt4 : k < n1
    · have t1 : (k : Int) < (n1 : Int) := by omega
      obtain ⟨T, hT⟩ : ∃ T, Ls[k]? = some T := ⟨_, List.getElem?_eq_getElem (by rw [← HN.out]; exact hlt4)⟩
      obtain ⟨lb, rfl, _, hlb, hc4⟩ := HC.out k T hT
      have HT : Hid (T < 2 ^ 256) := HLs.out T (List.mem_of_getElem? hT)
      have hkp : ∀ j, j < 4 → W.cell? ⟨lb, k * 4 + j, none⟩ = some (.int .u64 (wd T j : Int)) := fun j hj => (World.cell?_of_block (a := ⟨lb, k * 4 + j, none⟩) (HO.out.block lb hlb (by omega))).trans (hc4 j hj)
      have b0 : W.cell? ⟨lb, k * 4, none⟩ = some (.int .u64 (wd T 0 : Int)) := hkp 0 (by decide)
      have b1 : W.cell? ⟨lb, k * 4 + 1, none⟩ = some (.int .u64 (wd T 1 : Int)) := hkp 1 (by decide)
      have b2 : W.cell? ⟨lb, k * 4 + 2, none⟩ = some (.int .u64 (wd T 2 : Int)) := hkp 2 (by decide)
      have b3 : W.cell? ⟨lb, k * 4 + 3, none⟩ = some (.int .u64 (wd T 3 : Int)) := hkp 3 (by decide)
      have a0 := HA.out.c 0 (by decide)
      have a1 := HA.out.c 1 (by decide)
      have a2 := HA.out.c 2 (by decide)
      have a3 := HA.out.c 3 (by decide)
      have hsu := outK_succ Ls S em k
      rw [hT, Option.getD_some] at hsu
      have HSU : Hid (outK Ls S em (k + 1) = if S &&& T ≠ 0 then outK Ls S em k ||| 2 ^ k else outK Ls S em k) := hsu
      have hor := or_shl (outK_lt Ls S em HM.out k (by omega)) (show k < 24 by omega)
      have hST : S &&& T < 2 ^ 256 := Nat.lt_of_le_of_lt Nat.and_le_left HS.out
      clear hkp hc4 hT hsu
      by_cases hz : S &&& T = 0
      · have hq : ∀ w, (Op.equalIn 10000 73 (.agg #[.int .u64 (wd (S &&& T) 0 : Int), .int .u64 (wd (S &&& T) 1 : Int), .int .u64 (wd (S &&& T) 2 : Int), .int .u64 (wd (S &&& T) 3 : Int)]) (.agg #[.int .u64 0, .int .u64 0, .int .u64 0, .int .u64 0])).run Try.prog w = .ok true w := fun w => by rw [eqz hST, decide_eq_true hz]
        have HZ : Hid (S &&& T = 0) := hz
        clear hz hST
        go_wp2_with (go_at_call 44; refine (both_any S T _).mono ?_; rintro e w1 ⟨rfl, ho1⟩; unfold sV sC)
        go_roundg (n1 - (k + 1))
        case measure => omega
        case rel => exact ⟨k + 1, _, rfl, rfl, by omega, by rw [HSU.out, if_neg (fun h => h HZ.out)], by go_num, (HA.out.alloc _).only ho1 (fun h => h), (HO.out.alloc _).trans (ho1.mono (fun _ h => h.elim))⟩
      · have hq : ∀ w, (Op.equalIn 10000 73 (.agg #[.int .u64 (wd (S &&& T) 0 : Int), .int .u64 (wd (S &&& T) 1 : Int), .int .u64 (wd (S &&& T) 2 : Int), .int .u64 (wd (S &&& T) 3 : Int)]) (.agg #[.int .u64 0, .int .u64 0, .int .u64 0, .int .u64 0])).run Try.prog w = .ok false w := fun w => by rw [eqz hST, decide_eq_false hz]
        have HZ : Hid (¬ S &&& T = 0) := hz
        clear hz hST
        go_wp2_with (go_at_call 44; refine (both_any S T _).mono ?_; rintro e w1 ⟨rfl, ho1⟩; unfold sV sC)
        go_roundg (n1 - (k + 1))
        case measure => omega
        case rel => exact ⟨k + 1, _, rfl, rfl, by omega, by rw [HSU.out, if_pos HZ.out, ← hor, IntKind.wrap_u32], by go_num, (HA.out.alloc _).only ho1 (fun h => h), (HO.out.alloc _).trans (ho1.mono (fun _ h => h.elim))⟩
    · have t2 : decide ((k : Int) < (n1 : Int)) = false := decide_eq_false (by omega)
      obtain rfl : k = n1 := by omega
      go_wp2_with fail
      go_ret
      exact ⟨rfl, HO.out.old (fun _ h => Or.inl h)⟩
end Go.Proofs.Ytfbcijnacbfjpaa
