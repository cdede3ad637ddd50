/-
  What (*auto.places).place, auto.firstKid and (*auto.places).end do.
-/
import Derived.Test.YtfbcijnacbfjpaaChn
import Derived.Great.Walk
import Derived.Deep.WholeRow
namespace Go.Proofs.Ytfbcijnacbfjpaa
open Go.RowKit Go.Maps
set_option linter.unusedVariables false
set_option linter.unusedSimpArgs false
/-- what is known of an expression, as cells, as a value. -/
def ptC (x : Au.Nd) : Array Value := #[.bool x.none, .int .u64 (wd x.first 0 : Int), .int .u64 (wd x.first 1 : Int), .int .u64 (wd x.first 2 : Int), .int .u64 (wd x.first 3 : Int), .int .u64 (wd x.last 0 : Int), .int .u64 (wd x.last 1 : Int), .int .u64 (wd x.last 2 : Int), .int .u64 (wd x.last 3 : Int)]
def ptV (x : Au.Nd) : Value := .agg (ptC x)
/-- a frame as cells, as a value. -/
def fmC (op : Int) (a : Option Addr) (n c : Nat) (x : Au.Nd) : Array Value := #[.int .u8 op, .slice a n c, .bool x.none, .int .u64 (wd x.first 0 : Int), .int .u64 (wd x.first 1 : Int), .int .u64 (wd x.first 2 : Int), .int .u64 (wd x.first 3 : Int), .int .u64 (wd x.last 0 : Int), .int .u64 (wd x.last 1 : Int), .int .u64 (wd x.last 2 : Int), .int .u64 (wd x.last 3 : Int)]
def fmV (op : Int) (a : Option Addr) (n c : Nat) (x : Au.Nd) : Value := .agg (fmC op a n c x)
theorem one_list : ∀ (l : List Value), (∀ v ∈ l, v.oneCell' = true) → l.toArray.all (·.oneCell') = true := by
  intro l h
  rw [Array.all_eq_true_iff_forall_mem]
  intro v hv
  exact h v (by simpa using hv)
theorem ptC_one (x : Au.Nd) : (ptC x).all (·.oneCell') = true := one_list _ (by intro v hv; simp at hv; rcases hv with rfl | rfl | rfl | rfl | rfl | rfl | rfl | rfl | rfl <;> rfl)
theorem fmC_one (op : Int) (a : Option Addr) (n c : Nat) (x : Au.Nd) : (fmC op a n c x).all (·.oneCell') = true := one_list _ (by intro v hv; simp at hv; rcases hv with rfl | rfl | rfl | rfl | rfl | rfl | rfl | rfl | rfl | rfl | rfl <;> rfl)
theorem sC_one (S : Nat) : (sC S).all (·.oneCell') = true := one_list _ (by intro v hv; simp at hv; rcases hv with rfl | rfl | rfl | rfl <;> rfl)
theorem sz109 : (Try.prog.info? 109).map (·.size) = some 9 := by kernel_rfl
theorem sz136 : (Try.prog.info? 136).map (·.size) = some 11 := by kernel_rfl
theorem heap_setRow (w : World) (g : Nat) (t : TypeId) (c c' : Array Value) (fr : Nat × Nat) (h : w.heap[g]? = some (.cells c t fr)) : (w.setRow g c').heap[g]? = some (.cells c' t fr) := by
  obtain ⟨hb, e⟩ := Array.getElem?_eq_some_iff.1 h
  simp [World.setRow, hb, Array.getElem_modify, e]
theorem setRow_other (w : World) {g h : Nat} (c : Array Value) (hn : h ≠ g) : (w.setRow g c).heap[h]? = w.heap[h]? := by
  simp only [World.setRow, Array.getElem?_modify]
  rw [if_neg (fun e => hn e.symm)]
theorem Only.setRow {S : Nat → Prop} {a w : World} (h : Only S a w) {g : Nat} (hg : S g) (c : Array Value) : Only S a (w.setRow g c) :=
  h.trans ⟨rfl, rfl, rfl, by simp [World.setRow], fun k hk hS => setRow_other w c (fun e => hS (e ▸ hg))⟩
/-- by which classes, with one more place, as far as k classes. -/
def byk (b : Nat → Nat) (s : Int) (n k : Nat) : Nat → Nat := fun c => if c < k ∧ s / 2 ^ c % 2 = 1 then b c ||| 2 ^ n else b c
theorem byk_zero (b : Nat → Nat) (s : Int) (n : Nat) : byk b s n 0 = b := funext fun i => if_neg (by omega)
theorem byk_in (b : Nat → Nat) (s : Int) (n k : Nat) (h : s / 2 ^ k % 2 = 1) : byk b s n (k + 1) = upd (byk b s n k) k (byk b s n k k ||| 2 ^ n) := funext fun i => by
  unfold upd byk
  by_cases e : i = k
  · subst e
    rw [if_pos ⟨by omega, h⟩, if_pos rfl, if_neg (by omega)]
  · rw [if_neg e]
    by_cases h1 : i < k ∧ s / 2 ^ i % 2 = 1
    · rw [if_pos h1, if_pos ⟨by omega, h1.2⟩]
    · rw [if_neg h1, if_neg (fun h2 => h1 ⟨by omega, h2.2⟩)]
theorem byk_out (b : Nat → Nat) (s : Int) (n k : Nat) (h : ¬ s / 2 ^ k % 2 = 1) : byk b s n (k + 1) = byk b s n k := funext fun i => by
  unfold byk
  by_cases e : i = k
  · subst e
    rw [if_neg (fun h2 => h h2.2), if_neg (by omega)]
  · by_cases h1 : i < k ∧ s / 2 ^ i % 2 = 1
    · rw [if_pos h1, if_pos ⟨by omega, h1.2⟩]
    · rw [if_neg h1, if_neg (fun h2 => h1 ⟨by omega, h2.2⟩)]
theorem and1u {s : Int} (h0 : 0 ≤ s) (h1 : s < 4294967296) (k : Nat) : (bits .and .u32 (s / 2 ^ k) 1 == 1) = decide (s / 2 ^ k % 2 = 1) := by
  obtain ⟨m, rfl⟩ : ∃ m : Nat, s = (m : Int) := ⟨s.toNat, by omega⟩
  have e : ((m : Int) / 2 ^ k) = ((m / 2 ^ k : Nat) : Int) := by push_cast; rfl
  have hl : m / 2 ^ k < 4294967296 := Nat.lt_of_le_of_lt (Nat.div_le_self _ _) (by omega)
  rw [e, show (1 : Int) = ((1 : Nat) : Int) from rfl, u32_and_nat _ _ hl (by decide), nat_mask1]
  by_cases h : (m / 2 ^ k) % 2 = 1
  · rw [h, decide_eq_true (by omega)]; rfl
  · have : m / 2 ^ k % 2 = 0 := by omega
    rw [this, decide_eq_false (by omega)]; rfl
set_option maxRecDepth 100000 in
set_option maxHeartbeats 4000000 in
theorem plc_any (g cl n : Nat) (b nx : Nat → Nat) (fs : Nat) (vL : Value) (em : Nat) (s : Int) (w : World) (hP : Plb w g cl n b nx fs vL em) (hn : n < 200) (hcl : cl ≤ 24) (hs0 : 0 ≤ s) (hs1 : s < 4294967296) :
    Calls Try.prog 72 #[.pointer (some ⟨g, 0, none⟩), .int .u32 s] w fun e w' => e = .returned (ptV ⟨false, 2 ^ n, 2 ^ n⟩) ∧ Plb w' g cl (n + 1) (byk b s n cl) nx fs vL em ∧ Only (· = g) w w' := by
  have hlt := hP.lt
  have hc0 := hP.c0
  have hc1 := hP.c1
  have HP : Hid (Plb w g cl n b nx fs vL em) := hP
  clear hP
  have HQ0 : Hid ((((w.alloc (.cells #[.bool false, .int .u64 0, .int .u64 0, .int .u64 0, .int .u64 0, .int .u64 0, .int .u64 0, .int .u64 0, .int .u64 0] 109)).alloc (.cells #[.int .u64 0, .int .u64 0, .int .u64 0, .int .u64 0] 73))).heap[w.heap.size]? = some (.cells #[.bool false, .int .u64 0, .int .u64 0, .int .u64 0, .int .u64 0, .int .u64 0, .int .u64 0, .int .u64 0, .int .u64 0] 109 (0, 0))) := (Below.heap_alloc _ _ _ (by simp)).trans (heap_alloc_new _ _)
  have HS0 : Hid ((((w.alloc (.cells #[.bool false, .int .u64 0, .int .u64 0, .int .u64 0, .int .u64 0, .int .u64 0, .int .u64 0, .int .u64 0, .int .u64 0] 109)).alloc (.cells #[.int .u64 0, .int .u64 0, .int .u64 0, .int .u64 0] 73))).heap[w.heap.size + 1]? = some (.cells (sC 0) 73 (0, 0))) := heap_alloc2_new _ _ _
  have HO0 : Hid (Only (fun _ => False) w ((w.alloc (.cells #[.bool false, .int .u64 0, .int .u64 0, .int .u64 0, .int .u64 0, .int .u64 0, .int .u64 0, .int .u64 0, .int .u64 0] 109)).alloc (.cells #[.int .u64 0, .int .u64 0, .int .u64 0, .int .u64 0] 73))) := ((Only.refl _ _).alloc _).alloc _
  go_enter Try.func72, Try.ntmps72
  go_wp2_with (go_at_call 83; refine (put_new (w.heap.size + 1) n (by omega) _ HS0.out).mono ?_; rintro e w1 ⟨rfl, hs1, ho1⟩; have HS1 : Hid (Sb w1 (w.heap.size + 1) (2 ^ n)) := hs1; have HO1 : Hid (Only (fun g => w.heap.size ≤ g) w w1) := (HO0.out.mono (fun _ h => h.elim)).trans (ho1.mono (fun _ h => by omega)); have HP1 : Hid (Plb w1 g cl n b nx fs vL em) := HP.out.only HO1.out (by omega); have HQ1 : Hid (w1.heap[w.heap.size]? = some (.cells #[.bool false, .int .u64 0, .int .u64 0, .int .u64 0, .int .u64 0, .int .u64 0, .int .u64 0, .int .u64 0, .int .u64 0] 109 (0, 0))) := (ho1.block _ (Array.getElem?_eq_some_iff.1 HQ0.out).1 (by omega)).trans HQ0.out; have k0 := HP1.out.c0; have k1 := HP1.out.c1; have kf := HP1.out.fz 1; clear hs1 ho1)
  have HP2 : Hid (Plb (w1.setCell ⟨g, 1, none⟩ (.int .i64 ((n : Int) + 1))) g cl (n + 1) b nx fs vL em) := by
    have h := heap_setCell_at (k := 1) HP1.out (.int .i64 ((n + 1 : Nat) : Int))
    rw [pC_setN] at h
    exact h
  have HO2 : Hid (Only (fun g => w.heap.size ≤ g) w1 w1) := Only.refl _ _
  have HO3 : Hid (Only (fun h => h = g ∨ w.heap.size ≤ h) w (w1.setCell ⟨g, 1, none⟩ (.int .i64 ((n : Int) + 1)))) := Only.setCell (S := fun h => h = g ∨ w.heap.size ≤ h) (HO1.out.mono (fun _ h => Or.inr h)) (p := ⟨g, 1, none⟩) (Or.inl rfl) _
  have HS3 : Hid (Sb (w1.setCell ⟨g, 1, none⟩ (.int .i64 ((n : Int) + 1))) (w.heap.size + 1) (2 ^ n)) := (Below.heap_setCell _ _ _ _ (by show w.heap.size + 1 ≠ g; omega)).trans HS1.out
  have HQ3 : Hid ((w1.setCell ⟨g, 1, none⟩ (.int .i64 ((n : Int) + 1))).heap[w.heap.size]? = some (.cells #[.bool false, .int .u64 0, .int .u64 0, .int .u64 0, .int .u64 0, .int .u64 0, .int .u64 0, .int .u64 0, .int .u64 0] 109 (0, 0))) := (Below.heap_setCell _ _ _ _ (by show w.heap.size ≠ g; omega)).trans HQ1.out
  go_loopg [23] cl (fun gh v wr => ∃ (k : Nat) (W : World), W = wr ∧ gh = cl - k ∧ k ≤ cl ∧ v = .int .i64 (k : Int) ∧ Plb W g cl (n + 1) (byk b s n k) nx fs vL em ∧ Sb W (w.heap.size + 1) (2 ^ n) ∧ W.heap[w.heap.size]? = some (.cells #[.bool false, .int .u64 0, .int .u64 0, .int .u64 0, .int .u64 0, .int .u64 0, .int .u64 0, .int .u64 0, .int .u64 0] 109 (0, 0)) ∧ Only (fun h => h = g ∨ w.heap.size ≤ h) w W)
  case atStart => exact ⟨0, _, rfl, rfl, Nat.zero_le _, rfl, by rw [byk_zero]; exact HP2.out, HS3.out, HQ3.out, HO3.out⟩
  case round =>
    obtain ⟨k, W, hW, rfl, hk, rfl, hPk, hS, hQ, hO⟩ := hrel
    subst hW
    have HPK : Hid (Plb W g cl (n + 1) (byk b s n k) nx fs vL em) := hPk
    have HS : Hid (Sb W (w.heap.size + 1) (2 ^ n)) := hS
    have HQ : Hid (W.heap[w.heap.size]? = some (.cells #[.bool false, .int .u64 0, .int .u64 0, .int .u64 0, .int .u64 0, .int .u64 0, .int .u64 0, .int .u64 0, .int .u64 0] 109 (0, 0))) := hQ
    have HO : Hid (Only (fun h => h = g ∨ w.heap.size ≤ h) w W) := hO
    have b0 := hS.c 0 (by decide)
    have b1 := hS.c 1 (by decide)
    have b2 := hS.c 2 (by decide)
    have b3 := hS.c 3 (by decide)
    clear hPk hS hQ hO k0 k1 kf hc0 hc1
    by_cases hlt4 : k < cl
    · have t1 : (k : Int) < (cl : Int) := by omega
      by_cases hbit : s / 2 ^ k % 2 = 1
      · have hq : (bits .and .u32 (s / 2 ^ k) 1 == 1) = true := by rw [and1u hs0 hs1, decide_eq_true hbit]
        have HB : Hid (s / 2 ^ k % 2 = 1) := hbit
        clear hbit
        go_wp2_with fail
        go_region_with (go_at_call 42; refine (add_any g (2 + k * 4) (byk b s n k k) (2 ^ n) _ 78 _ (HPK.out.only ((Only.refl (fun _ => False) W).drew) (fun h => h)) (by rw [Nat.mul_comm]; exact pC_by _ _ _ _ _ _ _ k (by omega))).mono ?_; rintro e w2 ⟨rfl, hp2, ho2⟩)
        all_goals
          go_wp2_with fail
          go_roundg (cl - (k + 1))
          case measure => omega
          case rel => exact ⟨k + 1, _, rfl, rfl, by omega, by go_num, by rw [Nat.mul_comm, pC_putBy _ _ _ _ _ _ _ k _ (by omega), ← byk_in _ _ _ _ HB.out] at hp2; exact hp2, (HS.out.only ((Only.refl (fun _ => False) W).drew) (fun h => h)).only ho2 (by omega), ((ho2.block _ (Array.getElem?_eq_some_iff.1 HQ.out).1 (by omega)).trans HQ.out), HO.out.drew.trans (ho2.mono (fun _ h => Or.inl h))⟩
      · have hq : (bits .and .u32 (s / 2 ^ k) 1 == 1) = false := by rw [and1u hs0 hs1, decide_eq_false hbit]
        have HB : Hid (¬ s / 2 ^ k % 2 = 1) := hbit
        clear hbit
        go_wp2_with fail
        go_roundg (cl - (k + 1))
        case measure => omega
        case rel => exact ⟨k + 1, _, rfl, rfl, by omega, by go_num, by rw [byk_out _ _ _ _ HB.out]; exact HPK.out, HS.out, HQ.out, HO.out⟩
    · have t2 : decide ((k : Int) < (cl : Int)) = false := decide_eq_false (by omega)
      obtain rfl : k = cl := by omega
      go_wp2_with (refine wpList_store_rowTo rfl 109 _ _ rfl rfl w.heap.size (ptC ⟨false, 2 ^ n, 2 ^ n⟩) rfl rfl 109 _ HQ.out sz109 rfl (ptC_one _) ?_)
      refine bodyPost_ret (v := ptV ⟨false, 2 ^ n, 2 ^ n⟩) (results_cell_row rfl _ _ w.heap.size 109 (ptC ⟨false, 2 ^ n, 2 ^ n⟩) (0, 0) _ rfl (heap_setRow _ _ _ _ _ _ HQ.out) Try.underlying109 rfl sz109) rfl ⟨rfl, ?_, ?_⟩
      · exact (setRow_other _ _ (by omega)).trans HPK.out
      · exact (HO.out.setRow (Or.inr (Nat.le_refl _)) _).old (fun _ h => h.symm)
set_option maxRecDepth 100000 in
set_option maxHeartbeats 4000000 in
theorem firstKid_any (o s : Int) (a : Option Addr) (n c : Nat) (w : World) (hnc : n ≤ c) (hn : n ≤ maxLen) (ha : 0 < n → ∃ b off, a = some ⟨b, off, none⟩) :
    Calls Try.prog 73 #[.agg #[.int .u8 o, .int .u32 s, .slice a n c]] w fun e w' => e = .returned (.slice a (min 1 n) c) ∧ Only (fun _ => False) w w' := by
  unfold maxLen at hn
  by_cases h0 : n = 0
  · subst h0
    go_enter Try.func73, Try.ntmps73
    go_wp2_with fail
    go_ret
    exact ⟨rfl, (Only.refl _ _).alloc _⟩
  · obtain ⟨b, off, rfl⟩ := ha (by omega)
    have e1 : min 1 n = 1 := by omega
    have e2 : (min 1 (n : Int)) = 1 := by omega
    have e3 : (1 : Int) ≤ (c : Int) := by omega
    rw [e1]
    go_enter Try.func73, Try.ntmps73
    go_wp2_with fail
    go_ret
    exact ⟨rfl, (Only.refl _ _).alloc _⟩
end Go.Proofs.Ytfbcijnacbfjpaa
