/-
  Lines appended to a row of one's own that may be nil, from a slice that can be read (it may be nil).
-/
import Derived.Test.YtdepjmneoplicaaAi
import Derived.Test.YtdepjmneoplicaaLv
import Derived.Test.YtdepjmneoplicaaFd
import Derived.Test.YtdepjmneoplicaaBp
import Derived.Test.YtdepjmneoplicaaPb
import Derived.Test.YtdepjmneoplicaaVg
import Derived.Deep.Upon
import Derived.Test.YtdepjmneoplicaaPa
import Derived.Test.YtdepjmneoplicaaRb
import Derived.Test.YtdepjmneoplicaaDt
import Derived.Test.YtdepjmneoplicaaCf
import Derived.Test.YtdepjmneoplicaaKb
import Derived.Test.YtdepjmneoplicaaPc
namespace Go.Proofs.Ytdepjmneoplicaa
open Go.RowKit Go.Maps
set_option linter.unusedVariables false
set_option linter.unusedSimpArgs false
theorem src_noneL (w : World) (a : Option Addr) (c : Nat) {i : TypeInfo} (hs : i.size = 4) : Src Try.prog i.size 37 (.slice a 0 c) 0 [] w := by
  refine ⟨Or.inl ⟨54, Try.underlying37⟩, fun w' => ?_, ?_, ?_, by simp, fun u h => by cases h⟩
  · simp [Builtin.lenOf]
  · cases a <;> simp [Builtin.firstCells, loadCells, loadCellsFrom]
  · cases a <;> simp [Builtin.firstCells, loadCells, loadCellsFrom]
theorem lnC_one (L : List Ln) : ∀ u ∈ lnC L, u.oneCell' = true := fun u hu => by
  unfold lnC at hu
  obtain ⟨b, _, hb⟩ := List.mem_flatMap.1 hu
  unfold lnV at hb
  simp at hb
  rcases hb with rfl | rfl | rfl | rfl <;> rfl
theorem run_appLs (w : World) (base : Nat) (al : Option Addr) (n c : Nat) (D : List Ln) (hown : w.ownsRow base 54 4 (.slice al n c) n (lnC D))
    (aX : Option Addr) (m cX : Nat) (M : List Ln) (hM : m = M.length) (hV : Vw w aX (lnC M)) (hsz : n + m ≤ 1000000) (hbase : base ≤ w.heap.size) (ty : TypeId) :
    ∃ al' cap w', (Builtin.append_ #[37, 37] ty #[.slice al n c, .slice aX m cX]).run Try.prog w = .ok (.slice al' (n + m) cap) w' ∧ w'.ownsRow base 54 4 (.slice al' (n + m) cap) (n + m) (lnC (D ++ M)) ∧ Only (fun q => (Value.slice al n c).ownBlock = some q) w w' := by
  obtain ⟨i3, g3, g30, g31, g32⟩ := info_parts infoLn
  by_cases hm : m = 0
  · subst hm
    obtain rfl : M = [] := List.eq_nil_of_length_eq_zero hM.symm
    have hr := run_append_nothing (P := Try.prog) w 37 37 ty 54 i3 Try.underlying37 g3 al n c (own_le hown) (.slice aX 0 cX) (src_noneL w aX cX g31)
    exact ⟨al, c, w, hr, by rw [List.append_nil]; exact hown, Only.refl _ _⟩
  · obtain ⟨b, off, rfl, hb, hcc⟩ := hV.cells (by rw [lnC_len, ← hM]; omega)
    obtain ⟨v', w', hr, h2, h3, h4, h5⟩ := run_append_own_at (P := Try.prog) (w := w) base 37 ty 54 i3 _ 4 32 Try.underlying37 g3 g30 g31 g32 rfl (by decide) (.slice al n c) n (lnC D) hown ⟨b, off, none⟩ m cX (lnC M) (by rw [lnC_len, hM]) (fun j u hj => by rw [Addr.add_mid]; exact hcc j u hj) (lnC_one M) (by unfold maxLen; omega) (by omega) hbase
    obtain ⟨g, cap, rfl, hg1, hg2, hg3⟩ := own_addr h2 (fun e => by have := (h4.1 e).2; omega)
    exact ⟨_, cap, w', hr, by rw [lnC_append]; exact h2, (Only.refl (fun q => (Value.slice al n c).ownBlock = some q) w).grown h3 (fun k hk => hk)⟩
theorem wp_appLs {o : Oper} {a : Act} {w : World} {K : Act → World → Prop} {Q : Exit → Act → World → Prop} (s x : Operand)
    (hop : o.op = .call { callee := .builtin .append, args := #[s, x], argTypes := #[37, 37] }) (base : Nat) (al : Option Addr) (n c : Nat) (D : List Ln) (hs : a.eval s = .slice al n c) (hown : w.ownsRow base 54 4 (.slice al n c) n (lnC D))
    (aX : Option Addr) (m cX : Nat) (M : List Ln) (hx : a.eval x = .slice aX m cX) (hM : m = M.length) (hV : Vw w aX (lnC M)) (N : Nat) (hN : n + m = N) (hsz : N ≤ 1000000) (hbase : base ≤ w.heap.size)
    (h : ∀ al' cap w', w'.ownsRow base 54 4 (.slice al' N cap) N (lnC (D ++ M)) → Only (fun q => (Value.slice al n c).ownBlock = some q) w w' → K (a.put o.dst (.slice al' N cap)) w') :
    Oper.wp Try.prog o a w K Q := by
  subst hN
  obtain ⟨al', cap, w', hr, h2, h3⟩ := run_appLs w base al n c D hown aX m cX M hM hV hsz hbase o.type
  unfold Oper.wp execOp
  simp only [hop, resolve, invoke, builtin, Sem.run_bind, Sem.run_pure, Result.andThen_ok, List.map_toArray, List.map_cons, List.map_nil, hs, hx, hr]
  exact h al' cap w' h2 h3
theorem wpList_appLs {ops : Array Oper} {rest : List Oper} {o : Oper} {a : Act} {w : World} {Q : Exit → Act → World → Prop} (hgd : o.guard = none) (s x : Operand)
    (hop : o.op = .call { callee := .builtin .append, args := #[s, x], argTypes := #[37, 37] }) (base : Nat) (al : Option Addr) (n c : Nat) (D : List Ln) (hs : a.eval s = .slice al n c) (hown : w.ownsRow base 54 4 (.slice al n c) n (lnC D))
    (aX : Option Addr) (m cX : Nat) (M : List Ln) (hx : a.eval x = .slice aX m cX) (hM : m = M.length) (hV : Vw w aX (lnC M)) (N : Nat) (hN : n + m = N) (hsz : N ≤ 1000000) (hbase : base ≤ w.heap.size)
    (h : ∀ al' cap w', w'.ownsRow base 54 4 (.slice al' N cap) N (lnC (D ++ M)) → Only (fun q => (Value.slice al n c).ownBlock = some q) w w' → wpList Try.prog ops Q rest (a.put o.dst (.slice al' N cap)) w') :
    wpList Try.prog ops Q (o :: rest) a w :=
  wpList_plain hgd fun _ hK => wp_appLs s x hop base al n c D hs hown aX m cX M hx hM hV N hN hsz hbase (fun al' cap w' h1 h2 => hK _ _ (h al' cap w' h1 h2))
theorem appLs_only {W w w' : World} {al : Option Addr} {n c : Nat} {D : List Ln} (hown : w.ownsRow W.heap.size 54 4 (.slice al n c) n (lnC D)) (h : Only (fun q => (Value.slice al n c).ownBlock = some q) w w') (ho : Only (fun g => W.heap.size ≤ g) W w) : Only (fun g => W.heap.size ≤ g) W w' := ho.trans (h.mono (fun g hg => (own_own hown hg).1))
end Go.Proofs.Ytdepjmneoplicaa
/-
  lines.Part and the document's: a part in lines.
-/
namespace Go.Proofs.Ytdepjmneoplicaa
open Go.RowKit Go.Maps
set_option linter.unusedVariables false
set_option linter.unusedSimpArgs false
def ptL (x : List Ln × Bool) (w : World) (e : Ending) (w' : World) : Prop := ∃ (n : Nat) (al : Option Addr) (c : Nat), n = x.1.length ∧ e = .returned (.tuple #[.slice al n c, .bool x.2]) ∧ w'.ownsRow w.heap.size 54 4 (.slice al n c) n (lnC x.1) ∧ Only (fun _ => False) w w'
set_option maxRecDepth 100000 in
set_option maxHeartbeats 8000000 in
theorem lpart_any (C : List Ct) (O : List Nat) (n m : Nat) (aC aO : Option Addr) (cC cO a b wi t mo hy pr lo : Nat) (w : World) (hP : Pv w C O n m aC aO cC cO) (hm : n < m) (hab : a ≤ b) (hb : b ≤ n) (hw : wi ≤ 1048576) (h0 : 0 < t) (ht : t ≤ 1000) (hhy : hy ≤ 2097152) (hpr : pr ≤ 1048576) (hmo : mo ≤ 1) :
    Calls Try.prog 19 #[.agg #[.slice aC n cC, .slice aO m cO], .int .i64 (a : Int), .int .i64 (b : Int), .agg #[.int .i64 (wi : Int), .int .i64 (t : Int), .int .u8 (mo : Int), .int .i64 (hy : Int), .int .i64 (pr : Int), .float .f64 lo]] w (ptL (Lv.prt C O t wi hy pr lo mo a b) w) := by
  have HBR : Hid (∀ W', Only (fun _ => False) w W' → Calls Try.prog 20 #[.agg #[.slice aC n cC, .slice aO m cO], .int .i64 (a : Int), .int .i64 (b : Int), .agg #[.int .i64 (wi : Int), .int .i64 (t : Int), .int .u8 (mo : Int), .int .i64 (hy : Int), .int .i64 (pr : Int), .float .f64 lo]] W' (lnP (Sp.lines C O t wi a b) W')) := fun W' ho => break_any C O n m aC aO cC cO a b wi t mo hy pr lo W' (hP.keep ho) hm hab hb hw h0 ht
  have HBB : Hid (∀ W', Only (fun _ => False) w W' → Calls Try.prog 21 #[.agg #[.slice aC n cC, .slice aO m cO], .int .i64 (a : Int), .int .i64 (b : Int), .agg #[.int .i64 (wi : Int), .int .i64 (t : Int), .int .u8 (mo : Int), .int .i64 (hy : Int), .int .i64 (pr : Int), .float .f64 lo]] W' (bsP (bsF C O t wi hy pr lo b) C O t b a W')) := fun W' ho => bbreak_any C O n m aC aO cC cO a b wi t mo hy pr lo W' (hP.keep ho) hm hab hb hw h0 ht hhy hpr
  obtain ⟨ps, hps⟩ : ∃ x, x = Lv.prt C O t wi hy pr lo mo a b := ⟨_, rfl⟩
  have HF : Hid (mo ≠ 1 → ps = (Sp.lines C O t wi a b, false)) := fun h => by rw [hps]; exact Lv.prt_first h
  have HB : Hid (∀ E s, mo = 1 → Ds.Best (bsF C O t wi hy pr lo b) b a E s → ps = (mkL C O t a E, false)) := fun E s h hB => by rw [hps]; exact Lv.prt_best h hB
  have HN : Hid (mo = 1 → Ds.No (bsF C O t wi hy pr lo b) b a → ps = (Sp.lines C O t wi a b, true)) := fun h hB => by rw [hps]; exact Lv.prt_no h hab hB
  rw [← hps]
  clear hps hP
  unfold lnP at HBR
  unfold bsP at HBB
  go_enter Try.func19, Try.ntmps19
  go_upto_region 1 with fail
  obtain ⟨R, B, w0, hw0, hB, hR, H0, lRB, lB, lB0⟩ := box26 w (.slice aC n cC) (.slice aO m cO) (.int .i64 (wi : Int)) (.int .i64 (t : Int)) (.int .u8 (mo : Int)) (.int .i64 (hy : Int)) (.int .i64 (pr : Int)) (.float .f64 lo) 31 35
  rw [hw0, hB, hR]
  clear hw0 hB hR
  have HS : Hid (∀ W', Only (fun _ => False) w0 W' → (W'.cell? ⟨R, 0, none⟩ = some (.slice aC n cC) ∧ W'.cell? ⟨R, 1, none⟩ = some (.slice aO m cO)) ∧ (W'.cell? ⟨B, 0, none⟩ = some (.int .i64 (wi : Int)) ∧ W'.cell? ⟨B, 1, none⟩ = some (.int .i64 (t : Int)) ∧ W'.cell? ⟨B, 2, none⟩ = some (.int .u8 (mo : Int)) ∧ W'.cell? ⟨B, 3, none⟩ = some (.int .i64 (hy : Int)) ∧ W'.cell? ⟨B, 4, none⟩ = some (.int .i64 (pr : Int)) ∧ W'.cell? ⟨B, 5, none⟩ = some (.float .f64 lo)) ∧ R < W'.heap.size ∧ B < W'.heap.size) := fun W' ho => by
    have e1 := blk_keep ho H0.out.1
    have e2 := blk_keep ho H0.out.2.1
    exact ⟨⟨(blk_two e1).1, (blk_two e1).2.1⟩, blk_six e2, (blk_two e1).2.2, (Array.getElem?_eq_some_iff.1 e2).1⟩
  have HW0 : Hid (Only (fun _ => False) w w0) := H0.out.2.2
  obtain ⟨⟨r0, r1⟩, ⟨k0, k1, k2, k3, k4, k5⟩, lR0, lB1⟩ := HS.out w0 (Only.refl _ _)
  by_cases hmd : mo = 1
  · have t1 : ((mo : Int) == 1) = true := by rw [beq_iff_eq]; omega
    have t2 : ((mo : Int) == 0) = false := by rw [beq_eq_false_iff_ne]; omega
    have HM : Hid (mo = 1) := hmd
    clear hmd
    go_wp2_with fail
    refine Calls.mono (HBB.out _ HW0.out) ?_
    rintro e w5 (⟨E, s, a5, n5, c5, hB5, hn5, rfl, hown5, ho5⟩ | ⟨hN5, rfl, ho5⟩)
    · have H5 : Hid (ps = (mkL C O t a E, false) ∧ n5 = (mkL C O t a E).length ∧ w5.ownsRow w0.heap.size 54 4 (.slice a5 n5 c5) n5 (lnC (mkL C O t a E)) ∧ Only (fun _ => False) w0 w5) := ⟨HB.out E s HM.out hB5, by rw [mkL_len]; exact hn5, hown5, ho5⟩
      clear hB5 hn5 hown5 ho5 r0 r1 k0 k1 k2 k3 k4 k5 lR0 lB1
      go_wp2_with fail
      go_ret2
      exact ⟨n5, a5, c5, by rw [H5.out.1]; exact H5.out.2.1, by rw [H5.out.1]; rfl, by rw [H5.out.1]; exact own_base2 H5.out.2.2.1 HW0.out.size, HW0.out.trans H5.out.2.2.2⟩
    · have H5 : Hid (ps = (Sp.lines C O t wi a b, true) ∧ Only (fun _ => False) w0 w5) := ⟨HN.out HM.out hN5, ho5⟩
      clear hN5 ho5 r0 r1 k0 k1 k2 k3 k4 k5 lR0 lB1
      obtain ⟨⟨r0, r1⟩, ⟨k0, k1, k2, k3, k4, k5⟩, lR0, lB1⟩ := HS.out w5 H5.out.2
      go_wp2_with fail
      refine Calls.mono (HBR.out _ (HW0.out.trans H5.out.2)) ?_
      rintro e w6 ⟨n6, a6, c6, hn6, rfl, hown6, ho6⟩
      have H6 : Hid (n6 = (Sp.lines C O t wi a b).length ∧ w6.ownsRow w5.heap.size 54 4 (.slice a6 n6 c6) n6 (lnC (Sp.lines C O t wi a b)) ∧ Only (fun _ => False) w5 w6) := ⟨hn6, hown6, ho6⟩
      clear hn6 hown6 ho6 r0 r1 k0 k1 k2 k3 k4 k5 lR0 lB1
      go_wp2_with fail
      go_ret2
      exact ⟨n6, a6, c6, by rw [H5.out.1]; exact H6.out.1, by rw [H5.out.1]; rfl, by rw [H5.out.1]; exact own_base2 H6.out.2.1 (HW0.out.trans H5.out.2).size, (HW0.out.trans H5.out.2).trans H6.out.2.2⟩
  · have t1 : ((mo : Int) == 1) = false := by rw [beq_eq_false_iff_ne]; omega
    have t2 : ((mo : Int) == 0) = true := by rw [beq_iff_eq]; omega
    have HM : Hid (ps = (Sp.lines C O t wi a b, false)) := HF.out hmd
    clear hmd
    go_wp2_with fail
    refine Calls.mono (HBR.out _ HW0.out) ?_
    rintro e w6 ⟨n6, a6, c6, hn6, rfl, hown6, ho6⟩
    have H6 : Hid (n6 = (Sp.lines C O t wi a b).length ∧ w6.ownsRow w0.heap.size 54 4 (.slice a6 n6 c6) n6 (lnC (Sp.lines C O t wi a b)) ∧ Only (fun _ => False) w0 w6) := ⟨hn6, hown6, ho6⟩
    clear hn6 hown6 ho6 r0 r1 k0 k1 k2 k3 k4 k5 lR0 lB1
    go_wp2_with fail
    go_ret2
    exact ⟨n6, a6, c6, by rw [HM.out]; exact H6.out.1, by rw [HM.out]; rfl, by rw [HM.out]; exact own_base2 H6.out.2.1 HW0.out.size, HW0.out.trans H6.out.2.2⟩
set_option maxRecDepth 100000 in
set_option maxHeartbeats 8000000 in
theorem refPart_any (C : List Ct) (O : List Nat) (n m : Nat) (aC aO : Option Addr) (cC cO a b wi t mo hy pr lo : Nat) (w : World) (hP : Pv w C O n m aC aO cC cO) (hm : n < m) (hab : a ≤ b) (hb : b ≤ n) (hw : wi ≤ 1048576) (h0 : 0 < t) (ht : t ≤ 1000) (hhy : hy ≤ 2097152) (hpr : pr ≤ 1048576) (hmo : mo ≤ 1) :
    Calls Try.prog 27 #[.agg #[.slice aC n cC, .slice aO m cO], .int .i64 (a : Int), .int .i64 (b : Int), .agg #[.int .i64 (wi : Int), .int .i64 (t : Int), .int .u8 (mo : Int), .int .i64 (hy : Int), .int .i64 (pr : Int), .float .f64 lo]] w (ptL (Lv.prt C O t wi hy pr lo mo a b) w) := by
  have HBR : Hid (∀ W', Only (fun _ => False) w W' → Calls Try.prog 38 #[.agg #[.slice aC n cC, .slice aO m cO], .int .i64 (a : Int), .int .i64 (b : Int), .agg #[.int .i64 (wi : Int), .int .i64 (t : Int), .int .u8 (mo : Int), .int .i64 (hy : Int), .int .i64 (pr : Int), .float .f64 lo]] W' (lnP (Sp.lines C O t wi a b) W')) := fun W' ho => refFirst_any C O n m aC aO cC cO a b wi t mo hy pr lo W' (hP.keep ho) hm hab hb hw h0 ht
  have HBB : Hid (∀ W', Only (fun _ => False) w W' → Calls Try.prog 39 #[.agg #[.slice aC n cC, .slice aO m cO], .int .i64 (a : Int), .int .i64 (b : Int), .agg #[.int .i64 (wi : Int), .int .i64 (t : Int), .int .u8 (mo : Int), .int .i64 (hy : Int), .int .i64 (pr : Int), .float .f64 lo]] W' (bsP (bsF C O t wi hy pr lo b) C O t b a W')) := fun W' ho => refBest_any C O n m aC aO cC cO a b wi t mo hy pr lo W' (hP.keep ho) hm hab hb hw h0 ht hhy hpr
  obtain ⟨ps, hps⟩ : ∃ x, x = Lv.prt C O t wi hy pr lo mo a b := ⟨_, rfl⟩
  have HF : Hid (mo ≠ 1 → ps = (Sp.lines C O t wi a b, false)) := fun h => by rw [hps]; exact Lv.prt_first h
  have HB : Hid (∀ E s, mo = 1 → Ds.Best (bsF C O t wi hy pr lo b) b a E s → ps = (mkL C O t a E, false)) := fun E s h hB => by rw [hps]; exact Lv.prt_best h hB
  have HN : Hid (mo = 1 → Ds.No (bsF C O t wi hy pr lo b) b a → ps = (Sp.lines C O t wi a b, true)) := fun h hB => by rw [hps]; exact Lv.prt_no h hab hB
  rw [← hps]
  clear hps hP
  unfold lnP at HBR
  unfold bsP at HBB
  go_enter Try.func27, Try.ntmps27
  go_upto_region 1 with fail
  obtain ⟨R, B, w0, hw0, hB, hR, H0, lRB, lB, lB0⟩ := box26 w (.slice aC n cC) (.slice aO m cO) (.int .i64 (wi : Int)) (.int .i64 (t : Int)) (.int .u8 (mo : Int)) (.int .i64 (hy : Int)) (.int .i64 (pr : Int)) (.float .f64 lo) 31 35
  rw [hw0, hB, hR]
  clear hw0 hB hR
  have HS : Hid (∀ W', Only (fun _ => False) w0 W' → (W'.cell? ⟨R, 0, none⟩ = some (.slice aC n cC) ∧ W'.cell? ⟨R, 1, none⟩ = some (.slice aO m cO)) ∧ (W'.cell? ⟨B, 0, none⟩ = some (.int .i64 (wi : Int)) ∧ W'.cell? ⟨B, 1, none⟩ = some (.int .i64 (t : Int)) ∧ W'.cell? ⟨B, 2, none⟩ = some (.int .u8 (mo : Int)) ∧ W'.cell? ⟨B, 3, none⟩ = some (.int .i64 (hy : Int)) ∧ W'.cell? ⟨B, 4, none⟩ = some (.int .i64 (pr : Int)) ∧ W'.cell? ⟨B, 5, none⟩ = some (.float .f64 lo)) ∧ R < W'.heap.size ∧ B < W'.heap.size) := fun W' ho => by
    have e1 := blk_keep ho H0.out.1
    have e2 := blk_keep ho H0.out.2.1
    exact ⟨⟨(blk_two e1).1, (blk_two e1).2.1⟩, blk_six e2, (blk_two e1).2.2, (Array.getElem?_eq_some_iff.1 e2).1⟩
  have HW0 : Hid (Only (fun _ => False) w w0) := H0.out.2.2
  obtain ⟨⟨r0, r1⟩, ⟨k0, k1, k2, k3, k4, k5⟩, lR0, lB1⟩ := HS.out w0 (Only.refl _ _)
  by_cases hmd : mo = 1
  · have t1 : ((mo : Int) == 1) = true := by rw [beq_iff_eq]; omega
    have t2 : ((mo : Int) == 0) = false := by rw [beq_eq_false_iff_ne]; omega
    have HM : Hid (mo = 1) := hmd
    clear hmd
    go_wp2_with fail
    refine Calls.mono (HBB.out _ HW0.out) ?_
    rintro e w5 (⟨E, s, a5, n5, c5, hB5, hn5, rfl, hown5, ho5⟩ | ⟨hN5, rfl, ho5⟩)
    · have H5 : Hid (ps = (mkL C O t a E, false) ∧ n5 = (mkL C O t a E).length ∧ w5.ownsRow w0.heap.size 54 4 (.slice a5 n5 c5) n5 (lnC (mkL C O t a E)) ∧ Only (fun _ => False) w0 w5) := ⟨HB.out E s HM.out hB5, by rw [mkL_len]; exact hn5, hown5, ho5⟩
      clear hB5 hn5 hown5 ho5 r0 r1 k0 k1 k2 k3 k4 k5 lR0 lB1
      go_wp2_with fail
      go_ret2
      exact ⟨n5, a5, c5, by rw [H5.out.1]; exact H5.out.2.1, by rw [H5.out.1]; rfl, by rw [H5.out.1]; exact own_base2 H5.out.2.2.1 HW0.out.size, HW0.out.trans H5.out.2.2.2⟩
    · have H5 : Hid (ps = (Sp.lines C O t wi a b, true) ∧ Only (fun _ => False) w0 w5) := ⟨HN.out HM.out hN5, ho5⟩
      clear hN5 ho5 r0 r1 k0 k1 k2 k3 k4 k5 lR0 lB1
      obtain ⟨⟨r0, r1⟩, ⟨k0, k1, k2, k3, k4, k5⟩, lR0, lB1⟩ := HS.out w5 H5.out.2
      go_wp2_with fail
      refine Calls.mono (HBR.out _ (HW0.out.trans H5.out.2)) ?_
      rintro e w6 ⟨n6, a6, c6, hn6, rfl, hown6, ho6⟩
      have H6 : Hid (n6 = (Sp.lines C O t wi a b).length ∧ w6.ownsRow w5.heap.size 54 4 (.slice a6 n6 c6) n6 (lnC (Sp.lines C O t wi a b)) ∧ Only (fun _ => False) w5 w6) := ⟨hn6, hown6, ho6⟩
      clear hn6 hown6 ho6 r0 r1 k0 k1 k2 k3 k4 k5 lR0 lB1
      go_wp2_with fail
      go_ret2
      exact ⟨n6, a6, c6, by rw [H5.out.1]; exact H6.out.1, by rw [H5.out.1]; rfl, by rw [H5.out.1]; exact own_base2 H6.out.2.1 (HW0.out.trans H5.out.2).size, (HW0.out.trans H5.out.2).trans H6.out.2.2⟩
  · have t1 : ((mo : Int) == 1) = false := by rw [beq_eq_false_iff_ne]; omega
    have t2 : ((mo : Int) == 0) = true := by rw [beq_iff_eq]; omega
    have HM : Hid (ps = (Sp.lines C O t wi a b, false)) := HF.out hmd
    clear hmd
    go_wp2_with fail
    refine Calls.mono (HBR.out _ HW0.out) ?_
    rintro e w6 ⟨n6, a6, c6, hn6, rfl, hown6, ho6⟩
    have H6 : Hid (n6 = (Sp.lines C O t wi a b).length ∧ w6.ownsRow w0.heap.size 54 4 (.slice a6 n6 c6) n6 (lnC (Sp.lines C O t wi a b)) ∧ Only (fun _ => False) w0 w6) := ⟨hn6, hown6, ho6⟩
    clear hn6 hown6 ho6 r0 r1 k0 k1 k2 k3 k4 k5 lR0 lB1
    go_wp2_with fail
    go_ret2
    exact ⟨n6, a6, c6, by rw [HM.out]; exact H6.out.1, by rw [HM.out]; rfl, by rw [HM.out]; exact own_base2 H6.out.2.1 HW0.out.size, HW0.out.trans H6.out.2.2⟩
end Go.Proofs.Ytdepjmneoplicaa
/-
  lines.Break and the document's: all parts in lines.
-/
namespace Go.Proofs.Ytdepjmneoplicaa
open Go.RowKit Go.Maps
set_option linter.unusedVariables false
set_option linter.unusedSimpArgs false
theorem parts_fr {O : List Nat} {m n i x : Nat} (hm : m = n + 1) (h : (It.parts O m)[i]? = some x) : It.fr (It.parts O m) i ≤ x ∧ x ≤ n := ⟨(It.fr_le h).1, by have := (It.parts_at h).1; omega⟩
theorem sof_len {C : List Ct} {O : List Nat} {t wi hy pr lo mo m : Nat} : ∀ i, i ≤ (It.parts O m).length → (Lv.sof C O t wi hy pr lo mo (It.parts O m) i).1.length ≤ It.fr (It.parts O m) i
  | 0, _ => Nat.zero_le _
  | i + 1, h => by
    obtain ⟨x, hx⟩ : ∃ x, (It.parts O m)[i]? = some x := ⟨_, List.getElem?_eq_getElem (by omega)⟩
    have h1 := sof_len (C := C) (O := O) (m := m) (t := t) (wi := wi) (hy := hy) (pr := pr) (lo := lo) (mo := mo) i (by omega)
    have h2 := (It.fr_le hx).1
    rw [It.fr_succ _ hx]
    show ((Lv.sof C O t wi hy pr lo mo (It.parts O m) i).1 ++ (Lv.prt C O t wi hy pr lo mo (It.fr (It.parts O m) i) ((It.parts O m).getD i 0)).1).length ≤ x
    have e : (It.parts O m).getD i 0 = x := by rw [List.getD_eq_getElem?_getD, hx]; rfl
    rw [List.length_append, e]
    have h3 := Lv.prt_len (hy := hy) (pr := pr) (lo := lo) (mo := mo) h2 (lines_len C O t wi x (It.fr (It.parts O m) i))
    omega
theorem sof_next {C : List Ct} {O : List Nat} {t wi hy pr lo mo i x f : Nat} {P : List Nat} {D : List Ln} {q : Bool} (h : Lv.sof C O t wi hy pr lo mo P i = (D, q)) (hx : P[i]? = some x) (hf : It.fr P i = f) : Lv.sof C O t wi hy pr lo mo P (i + 1) = (D ++ (Lv.prt C O t wi hy pr lo mo f x).1, q || (Lv.prt C O t wi hy pr lo mo f x).2) := by
  have e : P.getD i 0 = x := by rw [List.getD_eq_getElem?_getD, hx]; rfl
  show ((Lv.sof C O t wi hy pr lo mo P i).1 ++ _, (Lv.sof C O t wi hy pr lo mo P i).2 || _) = _
  rw [h, hf, e]
set_option maxRecDepth 100000 in
set_option maxHeartbeats 8000000 in
theorem lbreak_any (C : List Ct) (O : List Nat) (n m : Nat) (aC aO : Option Addr) (cC cO wi t mo hy pr lo : Nat) (w : World) (hP : Pv w C O n m aC aO cC cO) (hm : m = n + 1) (hn : n ≤ 10000) (hw : wi ≤ 1048576) (h0 : 0 < t) (ht : t ≤ 1000) (hhy : hy ≤ 2097152) (hpr : pr ≤ 1048576) (hmo : mo ≤ 1) :
    Calls Try.prog 12 #[.agg #[.slice aC n cC, .slice aO m cO], .agg #[.int .i64 (wi : Int), .int .i64 (t : Int), .int .u8 (mo : Int), .int .i64 (hy : Int), .int .i64 (pr : Int), .float .f64 lo]] w (ptL (Lv.sof C O t wi hy pr lo mo (It.parts O m) (It.parts O m).length) w) := by
  have HPA : Hid (∀ W', Only (fun _ => False) w W' → Calls Try.prog 18 #[.agg #[.slice aC n cC, .slice aO m cO]] W' (ptP (It.parts O m) W')) := fun W' ho => by
    have h := parts_any n aC cC O aO cO W' (hP.keep ho).vO hP.oO (by rw [← hP.hm]; omega)
    rw [← hP.hm] at h
    exact h
  have HPT0 : Hid (∀ W' i x f, Only (fun _ => False) w W' → (It.parts O m)[i]? = some x → It.fr (It.parts O m) i = f → Calls Try.prog 19 #[.agg #[.slice aC n cC, .slice aO m cO], .int .i64 ((f : Nat) : Int), .int .i64 ((x : Nat) : Int), .agg #[.int .i64 (wi : Int), .int .i64 (t : Int), .int .u8 (mo : Int), .int .i64 (hy : Int), .int .i64 (pr : Int), .float .f64 lo]] W' (ptL (Lv.prt C O t wi hy pr lo mo f x) W')) := fun W' i x f ho hx hf => by
    have h := parts_fr hm hx
    rw [hf] at h
    exact lpart_any C O n m aC aO cC cO f x wi t mo hy pr lo W' (hP.keep ho) (by omega) h.1 h.2 hw h0 ht hhy hpr hmo
  have HX0 : Hid (∀ i x, (It.parts O m)[i]? = some x → It.fr (It.parts O m) i ≤ x ∧ x ≤ n) := fun i x h => parts_fr hm h
  have HL0 : Hid (∀ i, i ≤ (It.parts O m).length → (Lv.sof C O t wi hy pr lo mo (It.parts O m) i).1.length ≤ It.fr (It.parts O m) i) := sof_len
  have HPL : Hid ((It.parts O m).length ≤ m) := It.parts_len O m
  obtain ⟨P, hPp⟩ : ∃ x, x = It.parts O m := ⟨_, rfl⟩
  rw [← hPp] at HPA HPT0 HX0 HL0 HPL ⊢
  obtain ⟨np, hnp⟩ : ∃ x, x = P.length := ⟨_, rfl⟩
  have HNP : Hid (np = P.length) := hnp
  have hnpl : np ≤ 100000 := by have := HPL.out; omega
  rw [← hnp] at HL0 ⊢
  have hml : m ≤ 10001 := by omega
  clear hP hPp hnp HPL hm
  unfold ptP at HPA
  unfold ptL at HPT0
  go_enter Try.func12, Try.ntmps12
  go_upto_region 1 with fail
  obtain ⟨R, B, w0, hw0, hB, hR, H0, lRB, lB, lB0⟩ := box26 w (.slice aC n cC) (.slice aO m cO) (.int .i64 (wi : Int)) (.int .i64 (t : Int)) (.int .u8 (mo : Int)) (.int .i64 (hy : Int)) (.int .i64 (pr : Int)) (.float .f64 lo) 31 35
  rw [hw0, hB, hR]
  clear hw0 hB hR
  have HS : Hid (∀ W', Only (fun _ => False) w0 W' → ((W'.cell? ⟨R, 0, none⟩ = some (.slice aC n cC) ∧ W'.cell? ⟨R, 1, none⟩ = some (.slice aO m cO)) ∧ (W'.cell? ⟨B, 0, none⟩ = some (.int .i64 (wi : Int)) ∧ W'.cell? ⟨B, 1, none⟩ = some (.int .i64 (t : Int)) ∧ W'.cell? ⟨B, 2, none⟩ = some (.int .u8 (mo : Int)) ∧ W'.cell? ⟨B, 3, none⟩ = some (.int .i64 (hy : Int)) ∧ W'.cell? ⟨B, 4, none⟩ = some (.int .i64 (pr : Int)) ∧ W'.cell? ⟨B, 5, none⟩ = some (.float .f64 lo)))) := fun W' ho => by
    have e1 := blk_keep ho H0.out.1
    have e2 := blk_keep ho H0.out.2.1
    exact ⟨⟨(blk_two e1).1, (blk_two e1).2.1⟩, blk_six e2⟩
  have HSL : Hid (∀ W', Only (fun _ => False) w0 W' → R < W'.heap.size ∧ B < W'.heap.size) := fun W' ho => ⟨(Array.getElem?_eq_some_iff.1 (blk_keep ho H0.out.1)).1, (Array.getElem?_eq_some_iff.1 (blk_keep ho H0.out.2.1)).1⟩
  have HW0 : Hid (Only (fun _ => False) w w0) := H0.out.2.2
  obtain ⟨⟨r0, r1⟩, k0, k1, k2, k3, k4, k5⟩ := HS.out w0 (Only.refl _ _)
  obtain ⟨lR0, lB1⟩ := HSL.out w0 (Only.refl _ _)
  go_wp2_with fail
  refine Calls.mono (HPA.out _ HW0.out) ?_
  rintro e Z ⟨aP, cP, rfl, hownP, hoZ⟩
  rw [← HNP.out] at hownP ⊢
  have HZ : Hid (Vw Z aP (natI P) ∧ Only (fun _ => False) w Z ∧ Only (fun _ => False) w0 Z) := ⟨own_vw hownP, HW0.out.trans hoZ, hoZ⟩
  clear hownP hoZ r0 r1 k0 k1 k2 k3 k4 k5 lR0 lB1 lRB lB lB0
  have HSZ : Hid (∀ W', Only (fun g => Z.heap.size ≤ g) Z W' → Only (fun _ => False) Z W' ∧ Only (fun _ => False) w W' ∧ Only (fun _ => False) w0 W' ∧ Vw W' aP (natI P)) := fun W' ho => by
    have h2 : Only (fun _ => False) Z W' := ho.old (fun b hb => Or.inl hb)
    exact ⟨h2, HZ.out.2.1.trans h2, HZ.out.2.2.trans h2, HZ.out.1.keep h2⟩
  go_wp2_with fail
  have hsZ := HZ.out.2.1.size
  go_loopg [6, 7, 8, 16] np (fun gh v6 v7 v8 v16 wr => ∃ (i k : Nat) (D : List Ln) (q : Bool) (f : Nat) (al : Option Addr) (c : Nat) (W : World), W = wr ∧ gh = np - i ∧ i ≤ np ∧ v6 = .slice al k c ∧ v7 = .int .i64 (f : Int) ∧ v8 = .bool q ∧ v16 = .int .i64 (i : Int) ∧ Lv.sof C O t wi hy pr lo mo P i = (D, q) ∧ It.fr P i = f ∧ k = D.length ∧ W.ownsRow Z.heap.size 54 4 (.slice al k c) k (lnC D) ∧ Only (fun g => Z.heap.size ≤ g) Z W)
  case atStart => exact ⟨0, 0, [], false, 0, none, 0, _, rfl, rfl, Nat.zero_le _, rfl, rfl, rfl, rfl, rfl, rfl, rfl, ⟨rfl, Or.inl ⟨rfl, rfl⟩⟩, Only.refl _ _⟩
  case round =>
    obtain ⟨i, k, D, q, f, al, c, W, hW, rfl, hi, rfl, rfl, rfl, rfl, hsof, hfr, hkD, hown, hoW⟩ := hrel
    subst hW
    have HG : Hid (Lv.sof C O t wi hy pr lo mo P i = (D, q) ∧ It.fr P i = f ∧ k = D.length ∧ W.ownsRow Z.heap.size 54 4 (.slice al k c) k (lnC D) ∧ Only (fun g => Z.heap.size ≤ g) Z W) := ⟨hsof, hfr, hkD, hown, hoW⟩
    have hkf : k ≤ f := by have h := HL0.out i hi; rw [hsof, hfr] at h; rw [hkD]; exact h
    have hsz := hoW.size
    clear hsof hfr hkD hown hoW
    by_cases hlt : i < np
    · have t1 : (i : Int) < (np : Int) := by omega
      obtain ⟨x, hx⟩ : ∃ x, P[i]? = some x := ⟨_, List.getElem?_eq_getElem (by rw [← HNP.out]; exact hlt)⟩
      obtain ⟨hfx, hxn⟩ := HX0.out i x hx
      rw [HG.out.2.1] at hfx
      have HPT : Hid (∀ W', Only (fun _ => False) w W' → Calls Try.prog 19 #[.agg #[.slice aC n cC, .slice aO m cO], .int .i64 (f : Int), .int .i64 (x : Int), .agg #[.int .i64 (wi : Int), .int .i64 (t : Int), .int .u8 (mo : Int), .int .i64 (hy : Int), .int .i64 (pr : Int), .float .f64 lo]] W' fun e w' => ∃ (al : Option Addr) (c : Nat), e = .returned (.tuple #[.slice al (Lv.prt C O t wi hy pr lo mo f x).1.length c, .bool (Lv.prt C O t wi hy pr lo mo f x).2]) ∧ w'.ownsRow W'.heap.size 54 4 (.slice al (Lv.prt C O t wi hy pr lo mo f x).1.length c) (Lv.prt C O t wi hy pr lo mo f x).1.length (lnC (Lv.prt C O t wi hy pr lo mo f x).1) ∧ Only (fun _ => False) W' w') := fun W' ho => by
        refine (HPT0.out W' i x f ho hx HG.out.2.1).mono ?_
        rintro e w' ⟨n3, al, c, hn3, he, h1, h2⟩
        subst hn3
        exact ⟨al, c, he, h1, h2⟩
      have HNX : Hid (Lv.sof C O t wi hy pr lo mo P (i + 1) = (D ++ (Lv.prt C O t wi hy pr lo mo f x).1, q || (Lv.prt C O t wi hy pr lo mo f x).2) ∧ It.fr P (i + 1) = x) := ⟨sof_next HG.out.1 hx HG.out.2.1, It.fr_succ _ hx⟩
      have hlen := HL0.out (i + 1) (by omega)
      rw [HNX.out.1, HNX.out.2] at hlen
      obtain ⟨M, hM⟩ : ∃ z, z = (Lv.prt C O t wi hy pr lo mo f x).1 := ⟨_, rfl⟩
      obtain ⟨q2, hq2⟩ : ∃ z, z = (Lv.prt C O t wi hy pr lo mo f x).2 := ⟨_, rfl⟩
      rw [← hM, ← hq2] at HPT HNX
      rw [← hM] at hlen
      clear hM hq2
      obtain ⟨n2, hn2⟩ : ∃ z, z = M.length := ⟨_, rfl⟩
      have hkn : k + n2 ≤ x := by
        have h : (D ++ M).length ≤ x := hlen
        rw [List.length_append, ← HG.out.2.2.1, ← hn2] at h
        exact h
      have HM : Hid (n2 = M.length) := hn2
      rw [← hn2] at HPT
      clear hlen hn2
      have hcx := natI_get hx
      obtain ⟨b0, off, e0, hb0, hc⟩ := (HSZ.out W HG.out.2.2.2.2).2.2.2.cells (by rw [natI_len, ← HNP.out]; omega)
      subst e0
      have c1 := hc i _ hcx
      clear hcx hx
      obtain ⟨⟨r0, r1⟩, k0, k1, k2, k3, k4, k5⟩ := HS.out W (HSZ.out W HG.out.2.2.2.2).2.2.1
      obtain ⟨lR0, lB1⟩ := HSL.out W (HSZ.out W HG.out.2.2.2.2).2.2.1
      go_wp2_with fail
      refine Calls.mono (HPT.out _ (HSZ.out W HG.out.2.2.2.2).2.1) ?_
      rintro e W2 ⟨a2, c2, rfl, hown2, ho2⟩
      have H2 : Hid (n2 = M.length ∧ W2.ownsRow W.heap.size 54 4 (.slice a2 n2 c2) n2 (lnC M) ∧ Only (fun _ => False) W W2 ∧ Only (fun g => Z.heap.size ≤ g) Z W2 ∧ W2.ownsRow Z.heap.size 54 4 (.slice al k c) k (lnC D)) := ⟨HM.out, hown2, ho2, HG.out.2.2.2.2.trans (ho2.mono (fun _ h => h.elim)), own_only HG.out.2.2.2.1 ho2 (fun _ _ h => h)⟩
      clear hown2 ho2 hc c1 hb0 r0 r1 k0 k1 k2 k3 k4 k5 lR0 lB1
      have hsz2 := H2.out.2.2.2.1.size
      have hW2 := H2.out.2.2.1.size
      cases q with
      | false =>
        go_wp2_with (at_builtin; (refine wpList_appLs rfl _ _ rfl Z.heap.size al k c D rfl H2.out.2.2.2.2 a2 n2 c2 M rfl HM.out (own_vw H2.out.2.1) (k + n2) rfl (by omega) hsz2 ?_; intro al' cap w3 hown3 ho3; have H3 : Hid (w3.ownsRow Z.heap.size 54 4 (.slice al' (k + n2) cap) (k + n2) (lnC (D ++ M)) ∧ Only (fun g => Z.heap.size ≤ g) Z w3) := ⟨hown3, appLs_only H2.out.2.2.2.2 ho3 H2.out.2.2.2.1⟩; clear hown3 ho3))
        go_roundg (np - (i + 1))
        case measure => omega
        case rel => exact ⟨i + 1, k + n2, D ++ M, q2, x, al', cap, _, rfl, rfl, by omega, by go_num, rfl, rfl, by go_num, HNX.out.1, HNX.out.2, by rw [List.length_append, ← HG.out.2.2.1, ← HM.out], H3.out.1, H3.out.2⟩
      | true =>
        go_wp2_with (at_builtin; (refine wpList_appLs rfl _ _ rfl Z.heap.size al k c D rfl H2.out.2.2.2.2 a2 n2 c2 M rfl HM.out (own_vw H2.out.2.1) (k + n2) rfl (by omega) hsz2 ?_; intro al' cap w3 hown3 ho3; have H3 : Hid (w3.ownsRow Z.heap.size 54 4 (.slice al' (k + n2) cap) (k + n2) (lnC (D ++ M)) ∧ Only (fun g => Z.heap.size ≤ g) Z w3) := ⟨hown3, appLs_only H2.out.2.2.2.2 ho3 H2.out.2.2.2.1⟩; clear hown3 ho3))
        go_roundg (np - (i + 1))
        case measure => omega
        case rel => exact ⟨i + 1, k + n2, D ++ M, true, x, al', cap, _, rfl, rfl, by omega, by go_num, rfl, rfl, by go_num, HNX.out.1, HNX.out.2, by rw [List.length_append, ← HG.out.2.2.1, ← HM.out], H3.out.1, H3.out.2⟩
    · have t1 : decide ((i : Int) < (np : Int)) = false := decide_eq_false (by omega)
      have hin : i = np := by omega
      subst hin
      go_wp2_with fail
      go_ret2
      exact ⟨k, al, c, by rw [HG.out.1]; exact HG.out.2.2.1, by rw [HG.out.1]; rfl, by rw [HG.out.1]; exact own_base2 HG.out.2.2.2.1 hsZ, (HSZ.out W HG.out.2.2.2.2).2.1⟩
set_option maxRecDepth 100000 in
set_option maxHeartbeats 8000000 in
theorem refBreak_any (C : List Ct) (O : List Nat) (n m : Nat) (aC aO : Option Addr) (cC cO wi t mo hy pr lo : Nat) (w : World) (hP : Pv w C O n m aC aO cC cO) (hm : m = n + 1) (hn : n ≤ 10000) (hw : wi ≤ 1048576) (h0 : 0 < t) (ht : t ≤ 1000) (hhy : hy ≤ 2097152) (hpr : pr ≤ 1048576) (hmo : mo ≤ 1) :
    Calls Try.prog 13 #[.agg #[.slice aC n cC, .slice aO m cO], .agg #[.int .i64 (wi : Int), .int .i64 (t : Int), .int .u8 (mo : Int), .int .i64 (hy : Int), .int .i64 (pr : Int), .float .f64 lo]] w (ptL (Lv.sof C O t wi hy pr lo mo (It.parts O m) (It.parts O m).length) w) := by
  have HPA : Hid (∀ W', Only (fun _ => False) w W' → Calls Try.prog 26 #[.agg #[.slice aC n cC, .slice aO m cO]] W' (ptP (It.parts O m) W')) := fun W' ho => by
    have h := refParts_any n aC cC O aO cO W' (hP.keep ho).vO hP.oO (by rw [← hP.hm]; omega)
    rw [← hP.hm] at h
    exact h
  have HPT0 : Hid (∀ W' i x f, Only (fun _ => False) w W' → (It.parts O m)[i]? = some x → It.fr (It.parts O m) i = f → Calls Try.prog 27 #[.agg #[.slice aC n cC, .slice aO m cO], .int .i64 ((f : Nat) : Int), .int .i64 ((x : Nat) : Int), .agg #[.int .i64 (wi : Int), .int .i64 (t : Int), .int .u8 (mo : Int), .int .i64 (hy : Int), .int .i64 (pr : Int), .float .f64 lo]] W' (ptL (Lv.prt C O t wi hy pr lo mo f x) W')) := fun W' i x f ho hx hf => by
    have h := parts_fr hm hx
    rw [hf] at h
    exact refPart_any C O n m aC aO cC cO f x wi t mo hy pr lo W' (hP.keep ho) (by omega) h.1 h.2 hw h0 ht hhy hpr hmo
  have HX0 : Hid (∀ i x, (It.parts O m)[i]? = some x → It.fr (It.parts O m) i ≤ x ∧ x ≤ n) := fun i x h => parts_fr hm h
  have HL0 : Hid (∀ i, i ≤ (It.parts O m).length → (Lv.sof C O t wi hy pr lo mo (It.parts O m) i).1.length ≤ It.fr (It.parts O m) i) := sof_len
  have HPL : Hid ((It.parts O m).length ≤ m) := It.parts_len O m
  obtain ⟨P, hPp⟩ : ∃ x, x = It.parts O m := ⟨_, rfl⟩
  rw [← hPp] at HPA HPT0 HX0 HL0 HPL ⊢
  obtain ⟨np, hnp⟩ : ∃ x, x = P.length := ⟨_, rfl⟩
  have HNP : Hid (np = P.length) := hnp
  have hnpl : np ≤ 100000 := by have := HPL.out; omega
  rw [← hnp] at HL0 ⊢
  have hml : m ≤ 10001 := by omega
  clear hP hPp hnp HPL hm
  unfold ptP at HPA
  unfold ptL at HPT0
  go_enter Try.func13, Try.ntmps13
  go_upto_region 1 with fail
  obtain ⟨R, B, w0, hw0, hB, hR, H0, lRB, lB, lB0⟩ := box26 w (.slice aC n cC) (.slice aO m cO) (.int .i64 (wi : Int)) (.int .i64 (t : Int)) (.int .u8 (mo : Int)) (.int .i64 (hy : Int)) (.int .i64 (pr : Int)) (.float .f64 lo) 31 35
  rw [hw0, hB, hR]
  clear hw0 hB hR
  have HS : Hid (∀ W', Only (fun _ => False) w0 W' → ((W'.cell? ⟨R, 0, none⟩ = some (.slice aC n cC) ∧ W'.cell? ⟨R, 1, none⟩ = some (.slice aO m cO)) ∧ (W'.cell? ⟨B, 0, none⟩ = some (.int .i64 (wi : Int)) ∧ W'.cell? ⟨B, 1, none⟩ = some (.int .i64 (t : Int)) ∧ W'.cell? ⟨B, 2, none⟩ = some (.int .u8 (mo : Int)) ∧ W'.cell? ⟨B, 3, none⟩ = some (.int .i64 (hy : Int)) ∧ W'.cell? ⟨B, 4, none⟩ = some (.int .i64 (pr : Int)) ∧ W'.cell? ⟨B, 5, none⟩ = some (.float .f64 lo)))) := fun W' ho => by
    have e1 := blk_keep ho H0.out.1
    have e2 := blk_keep ho H0.out.2.1
    exact ⟨⟨(blk_two e1).1, (blk_two e1).2.1⟩, blk_six e2⟩
  have HSL : Hid (∀ W', Only (fun _ => False) w0 W' → R < W'.heap.size ∧ B < W'.heap.size) := fun W' ho => ⟨(Array.getElem?_eq_some_iff.1 (blk_keep ho H0.out.1)).1, (Array.getElem?_eq_some_iff.1 (blk_keep ho H0.out.2.1)).1⟩
  have HW0 : Hid (Only (fun _ => False) w w0) := H0.out.2.2
  obtain ⟨⟨r0, r1⟩, k0, k1, k2, k3, k4, k5⟩ := HS.out w0 (Only.refl _ _)
  obtain ⟨lR0, lB1⟩ := HSL.out w0 (Only.refl _ _)
  go_wp2_with fail
  refine Calls.mono (HPA.out _ HW0.out) ?_
  rintro e Z ⟨aP, cP, rfl, hownP, hoZ⟩
  rw [← HNP.out] at hownP ⊢
  have HZ : Hid (Vw Z aP (natI P) ∧ Only (fun _ => False) w Z ∧ Only (fun _ => False) w0 Z) := ⟨own_vw hownP, HW0.out.trans hoZ, hoZ⟩
  clear hownP hoZ r0 r1 k0 k1 k2 k3 k4 k5 lR0 lB1 lRB lB lB0
  have HSZ : Hid (∀ W', Only (fun g => Z.heap.size ≤ g) Z W' → Only (fun _ => False) Z W' ∧ Only (fun _ => False) w W' ∧ Only (fun _ => False) w0 W' ∧ Vw W' aP (natI P)) := fun W' ho => by
    have h2 : Only (fun _ => False) Z W' := ho.old (fun b hb => Or.inl hb)
    exact ⟨h2, HZ.out.2.1.trans h2, HZ.out.2.2.trans h2, HZ.out.1.keep h2⟩
  go_wp2_with fail
  have hsZ := HZ.out.2.1.size
  go_loopg [6, 8, 7, 10] np (fun gh v6 v7 v8 v16 wr => ∃ (i k : Nat) (D : List Ln) (q : Bool) (f : Nat) (al : Option Addr) (c : Nat) (W : World), W = wr ∧ gh = np - i ∧ i ≤ np ∧ v6 = .slice al k c ∧ v7 = .int .i64 (f : Int) ∧ v8 = .bool q ∧ v16 = .int .i64 (i : Int) ∧ Lv.sof C O t wi hy pr lo mo P i = (D, q) ∧ It.fr P i = f ∧ k = D.length ∧ W.ownsRow Z.heap.size 54 4 (.slice al k c) k (lnC D) ∧ Only (fun g => Z.heap.size ≤ g) Z W)
  case atStart => exact ⟨0, 0, [], false, 0, none, 0, _, rfl, rfl, Nat.zero_le _, rfl, rfl, rfl, rfl, rfl, rfl, rfl, ⟨rfl, Or.inl ⟨rfl, rfl⟩⟩, Only.refl _ _⟩
  case round =>
    obtain ⟨i, k, D, q, f, al, c, W, hW, rfl, hi, rfl, rfl, rfl, rfl, hsof, hfr, hkD, hown, hoW⟩ := hrel
    subst hW
    have HG : Hid (Lv.sof C O t wi hy pr lo mo P i = (D, q) ∧ It.fr P i = f ∧ k = D.length ∧ W.ownsRow Z.heap.size 54 4 (.slice al k c) k (lnC D) ∧ Only (fun g => Z.heap.size ≤ g) Z W) := ⟨hsof, hfr, hkD, hown, hoW⟩
    have hkf : k ≤ f := by have h := HL0.out i hi; rw [hsof, hfr] at h; rw [hkD]; exact h
    have hsz := hoW.size
    clear hsof hfr hkD hown hoW
    by_cases hlt : i < np
    · have t1 : (i : Int) < (np : Int) := by omega
      obtain ⟨x, hx⟩ : ∃ x, P[i]? = some x := ⟨_, List.getElem?_eq_getElem (by rw [← HNP.out]; exact hlt)⟩
      obtain ⟨hfx, hxn⟩ := HX0.out i x hx
      rw [HG.out.2.1] at hfx
      have HPT : Hid (∀ W', Only (fun _ => False) w W' → Calls Try.prog 27 #[.agg #[.slice aC n cC, .slice aO m cO], .int .i64 (f : Int), .int .i64 (x : Int), .agg #[.int .i64 (wi : Int), .int .i64 (t : Int), .int .u8 (mo : Int), .int .i64 (hy : Int), .int .i64 (pr : Int), .float .f64 lo]] W' fun e w' => ∃ (al : Option Addr) (c : Nat), e = .returned (.tuple #[.slice al (Lv.prt C O t wi hy pr lo mo f x).1.length c, .bool (Lv.prt C O t wi hy pr lo mo f x).2]) ∧ w'.ownsRow W'.heap.size 54 4 (.slice al (Lv.prt C O t wi hy pr lo mo f x).1.length c) (Lv.prt C O t wi hy pr lo mo f x).1.length (lnC (Lv.prt C O t wi hy pr lo mo f x).1) ∧ Only (fun _ => False) W' w') := fun W' ho => by
        refine (HPT0.out W' i x f ho hx HG.out.2.1).mono ?_
        rintro e w' ⟨n3, al, c, hn3, he, h1, h2⟩
        subst hn3
        exact ⟨al, c, he, h1, h2⟩
      have HNX : Hid (Lv.sof C O t wi hy pr lo mo P (i + 1) = (D ++ (Lv.prt C O t wi hy pr lo mo f x).1, q || (Lv.prt C O t wi hy pr lo mo f x).2) ∧ It.fr P (i + 1) = x) := ⟨sof_next HG.out.1 hx HG.out.2.1, It.fr_succ _ hx⟩
      have hlen := HL0.out (i + 1) (by omega)
      rw [HNX.out.1, HNX.out.2] at hlen
      obtain ⟨M, hM⟩ : ∃ z, z = (Lv.prt C O t wi hy pr lo mo f x).1 := ⟨_, rfl⟩
      obtain ⟨q2, hq2⟩ : ∃ z, z = (Lv.prt C O t wi hy pr lo mo f x).2 := ⟨_, rfl⟩
      rw [← hM, ← hq2] at HPT HNX
      rw [← hM] at hlen
      clear hM hq2
      obtain ⟨n2, hn2⟩ : ∃ z, z = M.length := ⟨_, rfl⟩
      have hkn : k + n2 ≤ x := by
        have h : (D ++ M).length ≤ x := hlen
        rw [List.length_append, ← HG.out.2.2.1, ← hn2] at h
        exact h
      have HM : Hid (n2 = M.length) := hn2
      rw [← hn2] at HPT
      clear hlen hn2
      have hcx := natI_get hx
      obtain ⟨b0, off, e0, hb0, hc⟩ := (HSZ.out W HG.out.2.2.2.2).2.2.2.cells (by rw [natI_len, ← HNP.out]; omega)
      subst e0
      have c1 := hc i _ hcx
      have HCX : Hid ((natI P)[i]? = some (.int .i64 (x : Int))) := hcx
      clear hcx hx
      obtain ⟨⟨r0, r1⟩, k0, k1, k2, k3, k4, k5⟩ := HS.out W (HSZ.out W HG.out.2.2.2.2).2.2.1
      obtain ⟨lR0, lB1⟩ := HSL.out W (HSZ.out W HG.out.2.2.2.2).2.2.1
      go_wp2_with fail
      go_region_held3 (fun W' => (((W'.cell? ⟨R, 0, none⟩ = some (.slice aC n cC) ∧ W'.cell? ⟨R, 1, none⟩ = some (.slice aO m cO)) ∧ (W'.cell? ⟨B, 0, none⟩ = some (.int .i64 (wi : Int)) ∧ W'.cell? ⟨B, 1, none⟩ = some (.int .i64 (t : Int)) ∧ W'.cell? ⟨B, 2, none⟩ = some (.int .u8 (mo : Int)) ∧ W'.cell? ⟨B, 3, none⟩ = some (.int .i64 (hy : Int)) ∧ W'.cell? ⟨B, 4, none⟩ = some (.int .i64 (pr : Int)) ∧ W'.cell? ⟨B, 5, none⟩ = some (.float .f64 lo))) ∧ W'.cell? ⟨b0, off + i, none⟩ = some (.int .i64 (x : Int)))) ((first | exact ⟨HS.out _ (HSZ.out W HG.out.2.2.2.2).2.2.1.drew, keep0 (Only.refl _ _).drew c1⟩ | exact ⟨HS.out _ (HSZ.out _ H2.out.2.2.2.1).2.2.1, keep0 H2.out.2.2.1 c1⟩)) ((go_at_call 27; refine Calls.mono (HPT.out _ (HSZ.out W HG.out.2.2.2.2).2.1.drew) ?_; rintro e W2 ⟨a2, c2, rfl, hown2, ho2'⟩; have ho2 : Only (fun _ => False) W W2 := (Only.refl _ _).drew.trans ho2'; clear ho2'; have H2 : Hid (n2 = M.length ∧ W2.ownsRow W.heap.size 54 4 (.slice a2 n2 c2) n2 (lnC M) ∧ Only (fun _ => False) W W2 ∧ Only (fun g => Z.heap.size ≤ g) Z W2 ∧ W2.ownsRow Z.heap.size 54 4 (.slice al k c) k (lnC D)) := ⟨HM.out, hown2, ho2, HG.out.2.2.2.2.trans (ho2.mono (fun _ h => h.elim)), own_only HG.out.2.2.2.1 ho2 (fun _ _ h => h)⟩; clear hown2 ho2))
      have c1' := keep0 H2.out.2.2.1 c1
      have hb0' : b0 < W2.heap.size := World.block_lt_of_cell? W2 _ c1'
      clear hc c1 hb0 r0 r1 k0 k1 k2 k3 k4 k5 lR0 lB1
      have hsz2 := H2.out.2.2.2.1.size
      have hW2 := H2.out.2.2.1.size
      have C3 : Hid (∀ W', Only (fun g => Z.heap.size ≤ g) Z W' → W'.cell? ⟨b0, off + i, none⟩ = some (.int .i64 (x : Int))) := fun W' ho => by
        obtain ⟨b1, off1, e1, hb1, hc1⟩ := (HSZ.out W' ho).2.2.2.cells (by rw [natI_len, ← HNP.out]; omega)
        injection e1 with e1
        injection e1 with e2 e3
        subst e2 e3
        exact hc1 i _ HCX.out
      cases q with
      | false =>
        go_wp2_with (at_builtin; (refine wpList_appLs rfl _ _ rfl Z.heap.size al k c D rfl H2.out.2.2.2.2 a2 n2 c2 M rfl HM.out (own_vw H2.out.2.1) (k + n2) rfl (by omega) hsz2 ?_; intro al' cap w3 hown3 ho3; have H3 : Hid (w3.ownsRow Z.heap.size 54 4 (.slice al' (k + n2) cap) (k + n2) (lnC (D ++ M)) ∧ Only (fun g => Z.heap.size ≤ g) Z w3) := ⟨hown3, appLs_only H2.out.2.2.2.2 ho3 H2.out.2.2.2.1⟩; have c3' : w3.cell? ⟨b0, off + i, none⟩ = some (.int .i64 (x : Int)) := C3.out _ H3.out.2; have hb3 : b0 < w3.heap.size := World.block_lt_of_cell? w3 _ c3'; clear hown3 ho3))
        go_roundg (np - (i + 1))
        case measure => omega
        case rel => exact ⟨i + 1, k + n2, D ++ M, q2, x, al', cap, _, rfl, rfl, by omega, by go_num, rfl, rfl, by go_num, HNX.out.1, HNX.out.2, by rw [List.length_append, ← HG.out.2.2.1, ← HM.out], H3.out.1, H3.out.2⟩
      | true =>
        go_wp2_with (at_builtin; (refine wpList_appLs rfl _ _ rfl Z.heap.size al k c D rfl H2.out.2.2.2.2 a2 n2 c2 M rfl HM.out (own_vw H2.out.2.1) (k + n2) rfl (by omega) hsz2 ?_; intro al' cap w3 hown3 ho3; have H3 : Hid (w3.ownsRow Z.heap.size 54 4 (.slice al' (k + n2) cap) (k + n2) (lnC (D ++ M)) ∧ Only (fun g => Z.heap.size ≤ g) Z w3) := ⟨hown3, appLs_only H2.out.2.2.2.2 ho3 H2.out.2.2.2.1⟩; have c3' : w3.cell? ⟨b0, off + i, none⟩ = some (.int .i64 (x : Int)) := C3.out _ H3.out.2; have hb3 : b0 < w3.heap.size := World.block_lt_of_cell? w3 _ c3'; clear hown3 ho3))
        go_roundg (np - (i + 1))
        case measure => omega
        case rel => exact ⟨i + 1, k + n2, D ++ M, true, x, al', cap, _, rfl, rfl, by omega, by go_num, rfl, rfl, by go_num, HNX.out.1, HNX.out.2, by rw [List.length_append, ← HG.out.2.2.1, ← HM.out], H3.out.1, H3.out.2⟩
    · have t1 : decide ((i : Int) < (np : Int)) = false := decide_eq_false (by omega)
      have hin : i = np := by omega
      subst hin
      go_wp2_with fail
      go_ret2
      exact ⟨k, al, c, by rw [HG.out.1]; exact HG.out.2.2.1, by rw [HG.out.1]; rfl, by rw [HG.out.1]; exact own_base2 HG.out.2.2.2.1 hsZ, (HSZ.out W HG.out.2.2.2.2).2.1⟩
end Go.Proofs.Ytdepjmneoplicaa
/-
  Lines one behind the other; how many end by Must; what they cost; in one line what fits; rows in bytes: in plain words; no walk in it. (For layers 16, 17, 20.)
-/
namespace Go.Proofs.Ytdepjmneoplicaa
set_option linter.unusedVariables false
set_option linter.unusedSimpArgs false
namespace Lv
/-- lines one behind the other, from a boundary up to another one. -/
def Chn : Nat → Nat → List Ln → Prop
  | a, b, [] => a = b
  | a, b, l :: L => l.a = a ∧ a < l.b ∧ Chn l.b b L
theorem Chn.le : ∀ {a b : Nat} {L : List Ln}, Chn a b L → a ≤ b
  | a, b, [], h => Nat.le_of_eq h
  | a, b, l :: L, h => Nat.le_trans (Nat.le_of_lt h.2.1) (Chn.le h.2.2)
theorem Chn.app {m b : Nat} {M : List Ln} (h2 : Chn m b M) : ∀ {a : Nat} {L : List Ln}, Chn a m L → Chn a b (L ++ M)
  | a, [], h => by have e : a = m := h; subst e; exact h2
  | a, l :: L, h => ⟨h.1, h.2.1, Chn.app h2 h.2.2⟩
theorem Chn.row : ∀ {a b : Nat} {L : List Ln}, Chn a b L → Ds.Row b a (L.map (·.b))
  | a, b, [], h => h
  | a, b, l :: L, h => ⟨h.2.1, Chn.row h.2.2⟩
theorem Chn.len : ∀ {a b : Nat} {L : List Ln}, Chn a b L → a + L.length ≤ b
  | a, b, [], h => Nat.le_of_eq h
  | a, b, l :: L, h => by
    have := Chn.len h.2.2
    have := h.2.1
    rw [List.length_cons]
    omega
theorem Chn.nil_iff {a b : Nat} {L : List Ln} (h : Chn a b L) : L = [] ↔ a = b := by
  cases L with
  | nil => exact ⟨fun _ => h, fun _ => rfl⟩
  | cons l L => exact ⟨fun e => (by cases e), fun e => absurd h.2.2.le (by have := h.2.1; omega)⟩
theorem chn_mkL (C : List Ct) (O : List Nat) (t b : Nat) : ∀ {a : Nat} {E : List Nat}, Ds.Row b a E → Chn a b (mkL C O t a E)
  | a, [], h => h
  | a, k :: E, h => ⟨rfl, h.1, chn_mkL C O t b h.2⟩
theorem chn_lines (C : List Ct) (O : List Nat) (t wi b : Nat) : ∀ (n a : Nat), b - a ≤ n → a ≤ b → Chn a b (Sp.lines C O t wi a b)
  | 0, a, h, hab => by
    have e : a = b := by omega
    rw [Sp.lines_nil (by omega)]
    exact e
  | n + 1, a, h, hab => by
    by_cases e : a < b
    · have hn := Sp.nxt_in (C := C) (O := O) (t := t) (W := wi) e
      rw [Sp.lines_cons e]
      have h2 := hn.1
      exact ⟨rfl, hn.1, chn_lines C O t wi b n (Sp.nxt C O t wi a b).1 (by omega) hn.2⟩
    · rw [Sp.lines_nil (by omega)]
      show a = b
      omega
theorem opt_cases {C : List Ct} {O : List Nat} {t wi hy pr lo mo a b : Nat} (hab : a ≤ b) : (∃ E s, mo = 1 ∧ Ds.Best (bsF C O t wi hy pr lo b) b a E s ∧ prt C O t wi hy pr lo mo a b = (mkL C O t a E, false)) ∨ (mo = 1 ∧ Ds.No (bsF C O t wi hy pr lo b) b a ∧ prt C O t wi hy pr lo mo a b = (Sp.lines C O t wi a b, true)) ∨ (mo ≠ 1 ∧ prt C O t wi hy pr lo mo a b = (Sp.lines C O t wi a b, false)) := by
  by_cases h : mo = 1
  · have h1 := Ds.opt_ok (f := bsF C O t wi hy pr lo b) hab
    cases e : Ds.opt (bsF C O t wi hy pr lo b) a b with
    | none => rw [e] at h1; exact Or.inr (Or.inl ⟨h, h1, prt_no h hab h1⟩)
    | some x =>
      obtain ⟨E, s⟩ := x
      rw [e] at h1
      exact Or.inl ⟨E, s, h, h1, prt_best h h1⟩
  · exact Or.inr (Or.inr ⟨h, prt_first h⟩)
theorem chn_prt {C : List Ct} {O : List Nat} {t wi hy pr lo mo a b : Nat} (hab : a ≤ b) : Chn a b (prt C O t wi hy pr lo mo a b).1 := by
  rcases opt_cases (C := C) (O := O) (t := t) (wi := wi) (hy := hy) (pr := pr) (lo := lo) (mo := mo) hab with ⟨E, s, _, h, e⟩ | ⟨_, _, e⟩ | ⟨_, e⟩
  · rw [e]; exact chn_mkL C O t b h.row
  · rw [e]; exact chn_lines C O t wi b (b - a) a (Nat.le_refl _) hab
  · rw [e]; exact chn_lines C O t wi b (b - a) a (Nat.le_refl _) hab
/-- a line ends by Must just where Must is. -/
def Eds (O : List Nat) (L : List Ln) : Prop := ∀ l ∈ L, (l.e = 2 ↔ O.getD l.b 0 = 2)
theorem Eds.app {O : List Nat} {L M : List Ln} (h1 : Eds O L) (h2 : Eds O M) : Eds O (L ++ M) := fun l hl => by
  rcases List.mem_append.1 hl with h | h
  · exact h1 l h
  · exact h2 l h
theorem eds_mkL (C : List Ct) (O : List Nat) (t : Nat) : ∀ (a : Nat) (E : List Nat), Eds O (mkL C O t a E)
  | a, [], l, hl => by cases hl
  | a, k :: E, l, hl => by
    rcases List.mem_cons.1 hl with h | h
    · rw [h]
    · exact eds_mkL C O t k E l h
theorem nxt_two (C : List Ct) (O : List Nat) (t W a b : Nat) : ((Sp.nxt C O t W a b).2 = 2 ↔ O.getD (Sp.nxt C O t W a b).1 0 = 2) := by
  unfold Sp.nxt
  cases Sp.bst C O t W a (b - a) with
  | some k => exact Iff.rfl
  | none =>
    show ((if O.getD _ 0 = 1 ∨ O.getD _ 0 = 2 then O.getD _ 0 else 4) = 2 ↔ O.getD _ 0 = 2)
    generalize O.getD ((Sp.fit C t W a (b - a)).getD (a + 1)) 0 = z
    by_cases h : z = 1 ∨ z = 2
    · rw [if_pos h]
    · rw [if_neg h]; exact ⟨fun e => by omega, fun e => absurd (Or.inr e) h⟩
theorem eds_lines (C : List Ct) (O : List Nat) (t wi b : Nat) : ∀ (n a : Nat), b - a ≤ n → Eds O (Sp.lines C O t wi a b)
  | 0, a, h => by
    rw [Sp.lines_nil (by omega)]
    intro l hl
    cases hl
  | n + 1, a, h => by
    by_cases e : a < b
    · have hn := Sp.nxt_in (C := C) (O := O) (t := t) (W := wi) e
      rw [Sp.lines_cons e]
      intro l hl
      rcases List.mem_cons.1 hl with q | q
      · rw [q]; exact nxt_two C O t wi a b
      · have h2 := hn.1
        exact eds_lines C O t wi b n (Sp.nxt C O t wi a b).1 (by omega) l q
    · rw [Sp.lines_nil (by omega)]
      intro l hl
      cases hl
theorem eds_prt {C : List Ct} {O : List Nat} {t wi hy pr lo mo a b : Nat} (hab : a ≤ b) : Eds O (prt C O t wi hy pr lo mo a b).1 := by
  rcases opt_cases (C := C) (O := O) (t := t) (wi := wi) (hy := hy) (pr := pr) (lo := lo) (mo := mo) hab with ⟨E, s, _, h, e⟩ | ⟨_, _, e⟩ | ⟨_, e⟩
  · rw [e]; exact eds_mkL C O t a E
  · rw [e]; exact eds_lines C O t wi b (b - a) a (Nat.le_refl _)
  · rw [e]; exact eds_lines C O t wi b (b - a) a (Nat.le_refl _)
/-- how many lines end by Must. -/
def mus (L : List Ln) : Nat := (L.filter (fun l => l.e == 2)).length
theorem mus_app (L M : List Ln) : mus (L ++ M) = mus L + mus M := by unfold mus; rw [List.filter_append, List.length_append]
theorem mus_cons (l : Ln) (L : List Ln) : mus (l :: L) = (if l.e = 2 then 1 else 0) + mus L := by
  unfold mus
  rw [List.filter_cons]
  by_cases h : l.e = 2
  · rw [if_pos (by rw [beq_iff_eq]; exact h), if_pos h, List.length_cons]; omega
  · rw [if_neg (by rw [beq_iff_eq]; exact h), if_neg h]; omega
/-- a part has one, its last. -/
theorem mus_part {O : List Nat} {b : Nat} (hb : O.getD b 0 = 2) : ∀ {a : Nat} {L : List Ln}, Chn a b L → Eds O L → (∀ y, a < y → y < b → O.getD y 0 ≠ 2) → a < b → mus L = 1 ∧ ∃ l, L.getLast? = some l ∧ l.e = 2 ∧ l.b = b
  | a, [], h, _, _, ha => absurd (show a = b from h) (by omega)
  | a, l :: L, h, he, hn, ha => by
    have h1 := he l (List.mem_cons_self)
    rw [mus_cons]
    cases L with
    | nil =>
      have e : l.b = b := h.2.2
      have e2 : l.e = 2 := h1.2 (by rw [e]; exact hb)
      rw [if_pos e2]
      exact ⟨rfl, l, rfl, e2, e⟩
    | cons m M =>
      have hl : l.b < b := Nat.lt_of_lt_of_le h.2.2.2.1 h.2.2.2.2.le
      have e2 : ¬ l.e = 2 := fun q => hn l.b h.2.1 hl (h1.1 q)
      obtain ⟨q1, x, q2, q3, q4⟩ := mus_part hb h.2.2 (fun x hx => he x (List.mem_cons_of_mem _ hx)) (fun y y1 y2 => hn y (by have := h.2.1; omega) y2) hl
      rw [if_neg e2, q1]
      exact ⟨rfl, x, by rw [List.getLast?_cons_cons]; exact q2, q3, q4⟩
/-- what lines cost. -/
def lco (C : List Ct) (O : List Nat) (t wi hy pr lo : Nat) : List Ln → Option Nat
  | [] => some 0
  | l :: L => match Sp.cos C O t wi hy pr lo (decide (O.getD l.b 0 = 2)) l.a l.b, lco C O t wi hy pr lo L with
    | some x, some y => some (x + y)
    | _, _ => none
theorem lco_app {C : List Ct} {O : List Nat} {t wi hy pr lo : Nat} : ∀ (L M : List Ln), lco C O t wi hy pr lo (L ++ M) = match lco C O t wi hy pr lo L, lco C O t wi hy pr lo M with
    | some x, some y => some (x + y)
    | _, _ => none
  | [], M => by
    show lco C O t wi hy pr lo M = match some 0, lco C O t wi hy pr lo M with
      | some x, some y => some (x + y)
      | _, _ => none
    cases lco C O t wi hy pr lo M with
    | none => rfl
    | some y => show some y = some (0 + y); rw [Nat.zero_add]
  | l :: L, M => by
    show (match Sp.cos C O t wi hy pr lo (decide (O.getD l.b 0 = 2)) l.a l.b, lco C O t wi hy pr lo (L ++ M) with
      | some x, some y => some (x + y)
      | _, _ => none) = match (match Sp.cos C O t wi hy pr lo (decide (O.getD l.b 0 = 2)) l.a l.b, lco C O t wi hy pr lo L with
        | some x, some y => some (x + y)
        | _, _ => none), lco C O t wi hy pr lo M with
      | some x, some y => some (x + y)
      | _, _ => none
    rw [lco_app L M]
    cases Sp.cos C O t wi hy pr lo (decide (O.getD l.b 0 = 2)) l.a l.b with
    | none => rfl
    | some x =>
      cases lco C O t wi hy pr lo L with
      | none => rfl
      | some y =>
        cases lco C O t wi hy pr lo M with
        | none => rfl
        | some z => show some (x + (y + z)) = some (x + y + z); rw [Nat.add_assoc]
theorem lco_part {C : List Ct} {O : List Nat} {t wi hy pr lo b : Nat} (hb : O.getD b 0 = 2) : ∀ {a : Nat} {L : List Ln}, Chn a b L → (∀ y, a < y → y < b → O.getD y 0 ≠ 2) → lco C O t wi hy pr lo L = Ds.cst (bsF C O t wi hy pr lo b) a (L.map (·.b))
  | a, [], h, _ => rfl
  | a, l :: L, h, hn => by
    have hl := h.2.2.le
    have e : decide (O.getD l.b 0 = 2) = decide (l.b = b) := by
      by_cases q : l.b = b
      · rw [decide_eq_true q, decide_eq_true (by rw [q]; exact hb)]
      · rw [decide_eq_false q, decide_eq_false (hn l.b h.2.1 (by omega))]
    have ih := lco_part hb h.2.2 (C := C) (t := t) (wi := wi) (hy := hy) (pr := pr) (lo := lo) (fun y y1 y2 => hn y (by have := h.2.1; omega) y2)
    show (match Sp.cos C O t wi hy pr lo (decide (O.getD l.b 0 = 2)) l.a l.b, lco C O t wi hy pr lo L with
      | some x, some y => some (x + y)
      | _, _ => none) = match Sp.cos C O t wi hy pr lo (decide (l.b = b)) a l.b, Ds.cst (bsF C O t wi hy pr lo b) l.b (L.map (·.b)) with
      | some x, some y => some (x + y)
      | _, _ => none
    rw [e, ih, h.1]
end Lv
end Go.Proofs.Ytdepjmneoplicaa
/-
  All parts together: lines from the first boundary to the last one, as many Musts as parts, what they cost in both modes, one line for each part that fits; rows in bytes: in plain words; no walk in it. (For layers 16, 20.)
-/
namespace Go.Proofs.Ytdepjmneoplicaa
set_option linter.unusedVariables false
set_option linter.unusedSimpArgs false
theorem mkL_ends (C : List Ct) (O : List Nat) (t : Nat) : ∀ (E : List Nat) (a : Nat), (mkL C O t a E).map (·.b) = E
  | [], _ => rfl
  | k :: E, a => by
    show k :: (mkL C O t k E).map (·.b) = _
    rw [mkL_ends C O t E k]
theorem cos_low {C : List Ct} {O : List Nat} {t wi hy pr lo i k y : Nat} {la : Bool} (h : Sp.cos C O t wi hy pr lo la i k = some y) : 100 ≤ y := by
  cases hc : Sp.can C O t wi i k with
  | false => rw [Sp.cos_no hc] at h; cases h
  | true =>
    cases la with
    | true =>
      rw [Sp.cos_last hc] at h
      injection h with h
      omega
    | false =>
      cases hl : Fl.loose lo (Sp.rat C O t wi i k) with
      | true => rw [Sp.cos_loose hc hl] at h; cases h
      | false =>
        rw [Sp.cos_fit hc hl] at h
        injection h with h
        omega
namespace Lv
/-- what may be done in a text of k clusters. -/
structure Opk (O : List Nat) (k : Nat) : Prop where
  len : O.length = k + 1
  last : O.getD k 0 = 2
  first : 0 < k → O.getD 0 0 ≠ 2
theorem parts_snoc {O : List Nat} {k : Nat} (h : Opk O k) : It.parts O (k + 1) = It.parts O k ++ [k] := It.parts_yes h.last
theorem parts_pos {O : List Nat} {k : Nat} (h : Opk O k) : 0 < (It.parts O (k + 1)).length := by rw [parts_snoc h, List.length_append]; exact Nat.succ_pos _
theorem fr_last {O : List Nat} {k : Nat} (h : Opk O k) : It.fr (It.parts O (k + 1)) (It.parts O (k + 1)).length = k := by
  have e : (It.parts O (k + 1)).length = (It.parts O k).length + 1 := by rw [parts_snoc h, List.length_append]; rfl
  rw [e]
  refine It.fr_succ _ ?_
  rw [parts_snoc h, List.getElem?_append_right (Nat.le_refl _), Nat.sub_self]
  rfl
/-- part i: from where, up to where. -/
theorem part_at {O : List Nat} {k i : Nat} (h : Opk O k) (hi : i < (It.parts O (k + 1)).length) : ∃ x, (It.parts O (k + 1))[i]? = some x ∧ (It.parts O (k + 1)).getD i 0 = x ∧ It.fr (It.parts O (k + 1)) (i + 1) = x ∧ It.fr (It.parts O (k + 1)) i ≤ x ∧ x ≤ k ∧ O.getD x 0 = 2 ∧ (0 < k → It.fr (It.parts O (k + 1)) i < x) ∧ ∀ y, It.fr (It.parts O (k + 1)) i < y → y < x → O.getD y 0 ≠ 2 := by
  obtain ⟨x, hx⟩ : ∃ x, (It.parts O (k + 1))[i]? = some x := ⟨_, List.getElem?_eq_getElem hi⟩
  have h1 := It.parts_at hx
  have h2 := It.fr_le hx
  refine ⟨x, hx, by rw [List.getD_eq_getElem?_getD, hx]; rfl, It.fr_succ _ hx, h2.1, by omega, h1.2, fun hk => ?_, fun y y1 y2 => It.parts_none hx y1 y2⟩
  by_cases e : 0 < i
  · exact h2.2 e
  · have e0 : i = 0 := by omega
    subst e0
    rw [It.fr_zero]
    rcases Nat.eq_zero_or_pos x with g | g
    · subst g
      exact absurd h1.2 (h.first hk)
    · exact g
section
variable {C : List Ct} {O : List Nat} {t wi hy pr lo k : Nat}
theorem sof_chn {mo : Nat} (h : Opk O k) : ∀ i, i ≤ (It.parts O (k + 1)).length → Chn 0 (It.fr (It.parts O (k + 1)) i) (sof C O t wi hy pr lo mo (It.parts O (k + 1)) i).1 ∧ Eds O (sof C O t wi hy pr lo mo (It.parts O (k + 1)) i).1
  | 0, _ => ⟨rfl, fun l hl => by cases hl⟩
  | i + 1, hi => by
    obtain ⟨x, hx, e1, e2, e3, e4, -⟩ := part_at h (show i < _ by omega)
    obtain ⟨q1, q2⟩ := sof_chn (mo := mo) h i (by omega)
    rw [e2]
    show Chn 0 x ((sof C O t wi hy pr lo mo (It.parts O (k + 1)) i).1 ++ (prt C O t wi hy pr lo mo (It.fr (It.parts O (k + 1)) i) ((It.parts O (k + 1)).getD i 0)).1) ∧ Eds O ((sof C O t wi hy pr lo mo (It.parts O (k + 1)) i).1 ++ (prt C O t wi hy pr lo mo (It.fr (It.parts O (k + 1)) i) ((It.parts O (k + 1)).getD i 0)).1)
    rw [e1]
    exact ⟨Chn.app (chn_prt e3) q1, q2.app (eds_prt e3)⟩
/-- all lines: from the first boundary to the last one. -/
theorem all_chn {mo : Nat} (h : Opk O k) : Chn 0 k (sof C O t wi hy pr lo mo (It.parts O (k + 1)) (It.parts O (k + 1)).length).1 := by
  have := (sof_chn (C := C) (t := t) (wi := wi) (hy := hy) (pr := pr) (lo := lo) (mo := mo) h _ (Nat.le_refl _)).1
  rw [fr_last h] at this
  exact this
theorem sof_mus {mo : Nat} (h : Opk O k) (hk : 0 < k) : ∀ i, i ≤ (It.parts O (k + 1)).length → mus (sof C O t wi hy pr lo mo (It.parts O (k + 1)) i).1 = i ∧ (0 < i → ∃ l, (sof C O t wi hy pr lo mo (It.parts O (k + 1)) i).1.getLast? = some l ∧ l.e = 2)
  | 0, _ => ⟨rfl, fun e => by omega⟩
  | i + 1, hi => by
    obtain ⟨x, hx, e1, e2, e3, e4, e5, e6, e7⟩ := part_at h (show i < _ by omega)
    obtain ⟨q1, -⟩ := sof_mus (mo := mo) h hk i (by omega)
    show mus ((sof C O t wi hy pr lo mo (It.parts O (k + 1)) i).1 ++ (prt C O t wi hy pr lo mo (It.fr (It.parts O (k + 1)) i) ((It.parts O (k + 1)).getD i 0)).1) = i + 1 ∧ (0 < i + 1 → ∃ l, ((sof C O t wi hy pr lo mo (It.parts O (k + 1)) i).1 ++ (prt C O t wi hy pr lo mo (It.fr (It.parts O (k + 1)) i) ((It.parts O (k + 1)).getD i 0)).1).getLast? = some l ∧ l.e = 2)
    rw [e1]
    obtain ⟨p1, l, p2, p3, -⟩ := mus_part e5 (chn_prt (C := C) (t := t) (wi := wi) (hy := hy) (pr := pr) (lo := lo) (mo := mo) e3) (eds_prt e3) e7 (e6 hk)
    rw [mus_app, q1, p1]
    refine ⟨rfl, fun _ => ⟨l, ?_, p3⟩⟩
    rw [List.getLast?_append, p2]
    rfl
/-- what both modes' lines cost. -/
theorem sof_cost (h : Opk O k) : ∀ i, i ≤ (It.parts O (k + 1)).length →
    ((sof C O t wi hy pr lo 1 (It.parts O (k + 1)) i).2 = false → ∃ m, lco C O t wi hy pr lo (sof C O t wi hy pr lo 1 (It.parts O (k + 1)) i).1 = some m ∧ ∀ n, lco C O t wi hy pr lo (sof C O t wi hy pr lo 0 (It.parts O (k + 1)) i).1 = some n → m ≤ n) ∧
    ((sof C O t wi hy pr lo 1 (It.parts O (k + 1)) i).2 = true → lco C O t wi hy pr lo (sof C O t wi hy pr lo 1 (It.parts O (k + 1)) i).1 = none ∧ lco C O t wi hy pr lo (sof C O t wi hy pr lo 0 (It.parts O (k + 1)) i).1 = none)
  | 0, _ => ⟨fun _ => ⟨0, rfl, fun n _ => Nat.zero_le _⟩, fun e => by cases e⟩
  | i + 1, hi => by
    obtain ⟨x, hx, e1, e2, e3, e4, e5, e6, e7⟩ := part_at h (show i < _ by omega)
    obtain ⟨ih1, ih2⟩ := sof_cost h i (by omega)
    have F0 : prt C O t wi hy pr lo 0 (It.fr (It.parts O (k + 1)) i) x = (Sp.lines C O t wi (It.fr (It.parts O (k + 1)) i) x, false) := prt_first (by decide)
    have cl := lco_part (C := C) (t := t) (wi := wi) (hy := hy) (pr := pr) (lo := lo) e5 (chn_lines C O t wi x (x - It.fr (It.parts O (k + 1)) i) _ (Nat.le_refl _) e3) e7
    have rl := (chn_lines C O t wi x (x - It.fr (It.parts O (k + 1)) i) _ (Nat.le_refl _) e3).row
    obtain ⟨S1, hS1⟩ : ∃ z, z = sof C O t wi hy pr lo 1 (It.parts O (k + 1)) i := ⟨_, rfl⟩
    obtain ⟨S0, hS0⟩ : ∃ z, z = sof C O t wi hy pr lo 0 (It.parts O (k + 1)) i := ⟨_, rfl⟩
    rw [← hS1] at ih1 ih2
    rw [← hS0] at ih1 ih2
    have G1 : sof C O t wi hy pr lo 1 (It.parts O (k + 1)) (i + 1) = (S1.1 ++ (prt C O t wi hy pr lo 1 (It.fr (It.parts O (k + 1)) i) x).1, S1.2 || (prt C O t wi hy pr lo 1 (It.fr (It.parts O (k + 1)) i) x).2) := by rw [hS1, ← e1]; rfl
    have G0 : sof C O t wi hy pr lo 0 (It.parts O (k + 1)) (i + 1) = (S0.1 ++ Sp.lines C O t wi (It.fr (It.parts O (k + 1)) i) x, S0.2 || false) := by
      have : sof C O t wi hy pr lo 0 (It.parts O (k + 1)) (i + 1) = (S0.1 ++ (prt C O t wi hy pr lo 0 (It.fr (It.parts O (k + 1)) i) x).1, S0.2 || (prt C O t wi hy pr lo 0 (It.fr (It.parts O (k + 1)) i) x).2) := by rw [hS0, ← e1]; rfl
      rw [this, F0]
    rw [G1, G0]
    clear G1 G0 hS1 hS0
    rcases opt_cases (C := C) (O := O) (t := t) (wi := wi) (hy := hy) (pr := pr) (lo := lo) (mo := 1) e3 with ⟨E, s, _, hB, e⟩ | ⟨_, hN, e⟩ | ⟨ne, _⟩
    · rw [e]
      have cb := lco_part (C := C) (t := t) (wi := wi) (hy := hy) (pr := pr) (lo := lo) e5 (chn_mkL C O t x hB.row) e7
      have em : (mkL C O t (It.fr (It.parts O (k + 1)) i) E).map (·.b) = E := mkL_ends C O t E _
      rw [em, hB.cost] at cb
      constructor
      · intro hf
        have hf1 : S1.2 = false := by cases hq : S1.2 with
          | false => rfl
          | true => rw [hq] at hf; cases hf
        obtain ⟨m, q1, q2⟩ := ih1 hf1
        refine ⟨m + s, ?_, fun n hn => ?_⟩
        · show lco C O t wi hy pr lo (S1.1 ++ mkL C O t _ E) = _
          rw [lco_app, q1, cb]
        · replace hn : lco C O t wi hy pr lo (S0.1 ++ Sp.lines C O t wi (It.fr (It.parts O (k + 1)) i) x) = some n := hn
          rw [lco_app, cl] at hn
          cases u1 : lco C O t wi hy pr lo S0.1 with
          | none => rw [u1] at hn; cases hn
          | some n0 =>
            cases u2 : Ds.cst (bsF C O t wi hy pr lo x) (It.fr (It.parts O (k + 1)) i) ((Sp.lines C O t wi (It.fr (It.parts O (k + 1)) i) x).map (·.b)) with
            | none => rw [u1, u2] at hn; cases hn
            | some s' =>
              rw [u1, u2] at hn
              injection hn with hn
              have := q2 n0 u1
              have := (hB.least _ _ rl u2).1
              omega
      · intro hf
        have hf1 : S1.2 = true := by cases hq : S1.2 with
          | true => rfl
          | false => rw [hq] at hf; cases hf
        obtain ⟨q1, q2⟩ := ih2 hf1
        refine ⟨?_, ?_⟩
        · show lco C O t wi hy pr lo (S1.1 ++ mkL C O t _ E) = _
          rw [lco_app, q1]
        · show lco C O t wi hy pr lo (S0.1 ++ _) = _
          rw [lco_app, q2]
    · rw [e]
      have cn := hN _ rl
      rw [cn] at cl
      constructor
      · intro hf
        have : (S1.2 || true) = false := hf
        rw [Bool.or_true] at this
        cases this
      · intro _
        refine ⟨?_, ?_⟩
        · show lco C O t wi hy pr lo (S1.1 ++ Sp.lines C O t wi (It.fr (It.parts O (k + 1)) i) x) = _
          rw [lco_app, cl]
          cases lco C O t wi hy pr lo S1.1 <;> rfl
        · show lco C O t wi hy pr lo (S0.1 ++ Sp.lines C O t wi (It.fr (It.parts O (k + 1)) i) x) = _
          rw [lco_app, cl]
          cases lco C O t wi hy pr lo S0.1 <;> rfl
    · exact absurd rfl ne
/-- where each part fits in one line both modes have one line for each. -/
theorem sof_whole (h : Opk O k) (hw : ∀ a b, b ≤ k → Sp.wde C t a b 2 ≤ wi) : ∀ i, i ≤ (It.parts O (k + 1)).length →
    (sof C O t wi hy pr lo 0 (It.parts O (k + 1)) i).2 = false ∧ sof C O t wi hy pr lo 1 (It.parts O (k + 1)) i = sof C O t wi hy pr lo 0 (It.parts O (k + 1)) i ∧ (0 < k → (sof C O t wi hy pr lo 0 (It.parts O (k + 1)) i).1.length = i)
  | 0, _ => ⟨rfl, rfl, fun _ => rfl⟩
  | i + 1, hi => by
    obtain ⟨x, hx, e1, e2, e3, e4, e5, e6, e7⟩ := part_at h (show i < _ by omega)
    obtain ⟨q1, q2, q3⟩ := sof_whole h hw i (by omega)
    have F0 : prt C O t wi hy pr lo 0 (It.fr (It.parts O (k + 1)) i) x = (Sp.lines C O t wi (It.fr (It.parts O (k + 1)) i) x, false) := prt_first (by decide)
    have key : prt C O t wi hy pr lo 1 (It.fr (It.parts O (k + 1)) i) x = prt C O t wi hy pr lo 0 (It.fr (It.parts O (k + 1)) i) x ∧ (0 < k → (Sp.lines C O t wi (It.fr (It.parts O (k + 1)) i) x).length = 1) := by
      rw [F0]
      by_cases g : It.fr (It.parts O (k + 1)) i < x
      · have ok : Sp.ok C O t wi (It.fr (It.parts O (k + 1)) i) x = true := by
          unfold Sp.ok
          rw [e5, decide_eq_true (hw _ x e4)]
          rfl
        have l1 : Sp.lines C O t wi (It.fr (It.parts O (k + 1)) i) x = [⟨It.fr (It.parts O (k + 1)) i, x, Sp.wde C t (It.fr (It.parts O (k + 1)) i) x (O.getD x 0), O.getD x 0⟩] := by
          rw [Sp.lines_cons g]
          have e := Sp.nxt_whole g ok
          have e1 : Sp.ln C O t wi (It.fr (It.parts O (k + 1)) i) x = ⟨It.fr (It.parts O (k + 1)) i, x, Sp.wde C t (It.fr (It.parts O (k + 1)) i) x (O.getD x 0), O.getD x 0⟩ := by unfold Sp.ln; rw [e]
          rw [e1, e]
          show _ :: Sp.lines C O t wi x x = _
          rw [Sp.lines_nil (Nat.le_refl x)]
        have f1 : bsF C O t wi hy pr lo x (It.fr (It.parts O (k + 1)) i) x = some 100 := by
          unfold bsF
          rw [decide_eq_true rfl, Sp.cos_last (Sp.can_yes g (by rw [e5]; decide) (by rw [e5]; exact hw _ x e4))]
          unfold Sp.ext
          rw [if_neg (by rw [e5]; decide)]
        have hB := Ds.best_single (f := bsF C O t wi hy pr lo x) (by decide : 0 < 100) g f1 (fun i j y hy' => cos_low hy')
        rw [prt_best rfl hB, l1]
        exact ⟨rfl, fun _ => rfl⟩
      · have e : It.fr (It.parts O (k + 1)) i = x := by omega
        have hB : Ds.Best (bsF C O t wi hy pr lo x) x (It.fr (It.parts O (k + 1)) i) [] 0 := by rw [e]; exact Ds.best_end _ x
        rw [prt_best rfl hB, Sp.lines_nil (by omega)]
        exact ⟨rfl, fun hk => absurd (e6 hk) g⟩
    obtain ⟨S0, hS0⟩ : ∃ z, z = sof C O t wi hy pr lo 0 (It.parts O (k + 1)) i := ⟨_, rfl⟩
    rw [← hS0] at q1 q2 q3
    have G1 : sof C O t wi hy pr lo 1 (It.parts O (k + 1)) (i + 1) = (S0.1 ++ (prt C O t wi hy pr lo 1 (It.fr (It.parts O (k + 1)) i) x).1, S0.2 || (prt C O t wi hy pr lo 1 (It.fr (It.parts O (k + 1)) i) x).2) := by rw [← q2, ← e1]; rfl
    have G0 : sof C O t wi hy pr lo 0 (It.parts O (k + 1)) (i + 1) = (S0.1 ++ (prt C O t wi hy pr lo 0 (It.fr (It.parts O (k + 1)) i) x).1, S0.2 || (prt C O t wi hy pr lo 0 (It.fr (It.parts O (k + 1)) i) x).2) := by rw [hS0, ← e1]; rfl
    rw [G1, G0, key.1]
    rw [F0]
    refine ⟨by show (S0.2 || false) = false; rw [q1]; rfl, rfl, fun hk => ?_⟩
    show (S0.1 ++ Sp.lines C O t wi _ x).length = i + 1
    rw [List.length_append, q3 hk, key.2 hk]
end
/-- a line in bytes. -/
def row (C : List Ct) (l : Ln) : Ln := ⟨(Sp.at' C l.a).pl, (Sp.at' C (l.b - 1)).pl + (Sp.at' C (l.b - 1)).len, l.w, l.e⟩
/-- clusters one behind the other, none without bytes. -/
def Ctg (C : List Ct) : Prop := ∀ i, i < C.length → (Sp.at' C i).pl = It.sum (C.take i) ∧ 1 ≤ (Sp.at' C i).len
theorem cts_ctg : ∀ (S : List Bt) (p i : Nat), i < (Pa.cts S p).length → (Sp.at' (Pa.cts S p) i).pl = p + It.sum ((Pa.cts S p).take i) ∧ 1 ≤ (Sp.at' (Pa.cts S p) i).len
  | [], p, i, h => by simp [Pa.cts] at h
  | b :: S, p, 0, h => ⟨rfl, by show 1 ≤ 1 + b.len % 4; omega⟩
  | b :: S, p, i + 1, h => by
    have h' : i < (Pa.cts S (p + (1 + b.len % 4))).length := by simpa [Pa.cts] using h
    have ih := cts_ctg S (p + (1 + b.len % 4)) i h'
    have e : Sp.at' (Pa.cts (b :: S) p) (i + 1) = Sp.at' (Pa.cts S (p + (1 + b.len % 4))) i := rfl
    rw [e]
    refine ⟨?_, ih.2⟩
    rw [ih.1]
    show _ = p + ((1 + b.len % 4) + It.sum ((Pa.cts S (p + (1 + b.len % 4))).take i))
    omega
theorem ctg_pa (S : List Bt) : Ctg (Pa.cts S 0) := fun i hi => by
  have := cts_ctg S 0 i hi
  exact ⟨by rw [this.1, Nat.zero_add], this.2⟩
theorem sum_next {C : List Ct} {i : Nat} (h : i < C.length) : It.sum (C.take (i + 1)) = It.sum (C.take i) + (Sp.at' C i).len := by
  have e : C[i]? = some C[i] := List.getElem?_eq_getElem h
  rw [List.take_add_one, e, It.sum_append]
  show _ + (C[i].len + 0) = _
  unfold Sp.at'
  rw [List.getD_eq_getElem?_getD, e]
  rfl
theorem sum_rise {C : List Ct} (hC : Ctg C) {a : Nat} : ∀ {b : Nat}, a < b → b ≤ C.length → It.sum (C.take a) < It.sum (C.take b)
  | 0, h, _ => by omega
  | b + 1, h, hb => by
    have h1 := sum_next (C := C) (i := b) (by omega)
    have h2 := (hC b (by omega)).2
    by_cases e : a < b
    · have := sum_rise hC e (by omega)
      omega
    · have e2 : a = b := by omega
      subst e2
      omega
/-- rows go from the bytes ahead of a line to those behind it. -/
theorem row_at {C : List Ct} (hC : Ctg C) {l : Ln} (h : l.a < l.b) (hb : l.b ≤ C.length) : (row C l).a = It.sum (C.take l.a) ∧ (row C l).b = It.sum (C.take l.b) ∧ (row C l).a < (row C l).b := by
  have h1 := hC l.a (by omega)
  have h2 := hC (l.b - 1) (by omega)
  have h3 := sum_next (C := C) (i := l.b - 1) (by omega)
  rw [show l.b - 1 + 1 = l.b by omega] at h3
  have e2 : (row C l).b = It.sum (C.take l.b) := by
    show (Sp.at' C (l.b - 1)).pl + (Sp.at' C (l.b - 1)).len = _
    rw [h2.1, h3]
  refine ⟨h1.1, e2, ?_⟩
  rw [e2]
  show (Sp.at' C l.a).pl < _
  rw [h1.1]
  exact sum_rise hC h hb
end Lv
end Go.Proofs.Ytdepjmneoplicaa
/-
  Bits appended to a row of one's own, from a slice that can be read (it may be nil).
-/
namespace Go.Proofs.Ytdepjmneoplicaa
open Go.RowKit Go.Maps
set_option linter.unusedVariables false
set_option linter.unusedSimpArgs false
theorem infoBt : (Try.prog.info? 63).map (fun i => (i.zero, i.size, i.bytes)) = some (some (.agg #[.int .u8 0, .int .u8 0, .int .u8 0, .int .u8 0]), 4, 4) := by kernel_rfl
theorem src_noneB (w : World) (a : Option Addr) (c : Nat) {i : TypeInfo} (hs : i.size = 4) : Src Try.prog i.size 22 (.slice a 0 c) 0 [] w := by
  refine ⟨Or.inl ⟨63, Try.underlying22⟩, fun w' => ?_, ?_, ?_, by simp, fun u h => by cases h⟩
  · simp [Builtin.lenOf]
  · cases a <;> simp [Builtin.firstCells, loadCells, loadCellsFrom]
  · cases a <;> simp [Builtin.firstCells, loadCells, loadCellsFrom]
theorem btC_len : ∀ L : List Bt, (btC L).length = L.length * 4
  | [] => rfl
  | x :: L => by
    show (btV x ++ btC L).length = _
    rw [List.length_append, btC_len L]
    simp [btV]
    omega
theorem btC_one (L : List Bt) : ∀ u ∈ btC L, u.oneCell' = true := fun u hu => by
  unfold btC at hu
  obtain ⟨b, _, hb⟩ := List.mem_flatMap.1 hu
  unfold btV at hb
  simp at hb
  rcases hb with rfl | rfl | rfl | rfl <;> rfl
theorem btC_app (L M : List Bt) : btC (L ++ M) = btC L ++ btC M := by unfold btC; rw [List.flatMap_append]
theorem btC_drop : ∀ (S : List Bt) (x : Nat), btC (S.drop x) = (btC S).drop (x * 4)
  | [], x => by simp [btC]
  | c :: S, 0 => by simp
  | c :: S, x + 1 => by
    rw [List.drop_succ_cons, btC_drop S x, show (x + 1) * 4 = x * 4 + 4 by omega]
    rfl
theorem btC_take : ∀ (S : List Bt) (x : Nat), btC (S.take x) = (btC S).take (x * 4)
  | [], x => by simp [btC]
  | c :: S, 0 => by simp [btC]
  | c :: S, x + 1 => by
    rw [List.take_succ_cons, show (x + 1) * 4 = x * 4 + 4 by omega]
    show btV c ++ btC (S.take x) = _
    rw [btC_take S x]
    rfl
theorem Vw.btTake {w : World} {a : Option Addr} {S : List Bt} (h : Vw w a (btC S)) (x : Nat) : Vw w a (btC (S.take x)) := by
  rw [btC_take]
  rcases h with h | ⟨b, off, e, hc⟩
  · exact Or.inl (by rw [h]; simp)
  · refine Or.inr ⟨b, off, e, fun j u hj => ?_⟩
    rw [List.getElem?_take] at hj
    split at hj
    · exact hc _ _ hj
    · cases hj
theorem Vw.btDrop {w : World} {b off : Nat} {S : List Bt} (h : Vw w (some ⟨b, off, none⟩) (btC S)) (x : Nat) : Vw w (some ⟨b, off + x * 4, none⟩) (btC (S.drop x)) := by
  rw [btC_drop]
  rcases h with h | ⟨b', off', e, hc⟩
  · exact Or.inl (by rw [h]; simp)
  · injection e with e
    injection e with e1 e2
    subst e1 e2
    refine Or.inr ⟨b, off + x * 4, rfl, fun j u hj => ?_⟩
    rw [List.getElem?_drop] at hj
    rw [Nat.add_assoc]
    exact hc _ _ hj
/-- append(a row of one's own, what can be read..). -/
theorem run_appB (w W0 : World) (ho : Only (fun _ => False) W0 w) (g0 n c0 : Nat) (L : List Bt) (hown : w.ownsRow W0.heap.size 63 4 (.slice (some ⟨g0, 0, none⟩) n c0) n (btC L))
    (aX : Option Addr) (m c : Nat) (M : List Bt) (hM : m = M.length) (hV : Vw w aX (btC M)) (hsz : n + m ≤ 1000000) (ty : TypeId) :
    ∃ g cap w', (Builtin.append_ #[22, 22] ty #[.slice (some ⟨g0, 0, none⟩) n c0, .slice aX m c]).run Try.prog w = .ok (.slice (some ⟨g, 0, none⟩) (n + m) cap) w' ∧ w'.ownsRow W0.heap.size 63 4 (.slice (some ⟨g, 0, none⟩) (n + m) cap) (n + m) (btC (L ++ M)) ∧ Only (fun _ => False) W0 w' := by
  obtain ⟨i3, g3, g30, g31, g32⟩ := info_parts infoBt
  by_cases hm : m = 0
  · subst hm
    obtain rfl : M = [] := List.eq_nil_of_length_eq_zero hM.symm
    have hr := run_append_nothing (P := Try.prog) w 22 22 ty 63 i3 Try.underlying22 g3 (some ⟨g0, 0, none⟩) n c0 (own_le hown) (.slice aX 0 c) (src_noneB w aX c g31)
    exact ⟨g0, c0, w, hr, by rw [List.append_nil]; exact hown, ho⟩
  · obtain ⟨b, off, rfl, hb, hcc⟩ := hV.cells (by rw [btC_len, ← hM]; omega)
    obtain ⟨v', w', hr, h2, h3, h4, h5⟩ := run_append_own_at (P := Try.prog) (w := w) W0.heap.size 22 ty 63 i3 _ 4 4 Try.underlying22 g3 g30 g31 g32 rfl (by decide) _ n (btC L) hown ⟨b, off, none⟩ m c (btC M) (by rw [btC_len, hM]) (fun j u hj => by rw [Addr.add_mid]; exact hcc j u hj) (btC_one M) (by unfold maxLen; omega) (by omega) ho.size
    obtain ⟨g, cap, rfl, hg1, hg2, hg3⟩ := own_addr h2 (fun e => by have := (h4.1 e).1; cases this)
    refine ⟨g, cap, w', hr, by rw [btC_app]; exact h2, ?_⟩
    obtain ⟨g0', _, hv0, hb0, _⟩ := own_addr hown (fun e => by cases e)
    injection hv0 with hv0
    injection hv0 with hv0
    injection hv0 with hv0
    exact grow_only ho (by rw [hv0]; exact hb0) h3
theorem wp_appB {o : Oper} {a : Act} {w : World} {K : Act → World → Prop} {Q : Exit → Act → World → Prop} (s x : Operand)
    (hop : o.op = .call { callee := .builtin .append, args := #[s, x], argTypes := #[22, 22] }) (W0 : World) (ho : Only (fun _ => False) W0 w) (g0 n c0 : Nat) (L : List Bt) (hs : a.eval s = .slice (some ⟨g0, 0, none⟩) n c0) (hown : w.ownsRow W0.heap.size 63 4 (.slice (some ⟨g0, 0, none⟩) n c0) n (btC L))
    (aX : Option Addr) (m c : Nat) (M : List Bt) (hx : a.eval x = .slice aX m c) (hM : m = M.length) (hV : Vw w aX (btC M)) (N : Nat) (hN : n + m = N) (hsz : N ≤ 1000000)
    (h : ∀ g cap w', w'.ownsRow W0.heap.size 63 4 (.slice (some ⟨g, 0, none⟩) N cap) N (btC (L ++ M)) → Only (fun _ => False) W0 w' → K (a.put o.dst (.slice (some ⟨g, 0, none⟩) N cap)) w') :
    Oper.wp Try.prog o a w K Q := by
  subst hN
  obtain ⟨g, cap, w', hr, h2, h3⟩ := run_appB w W0 ho g0 n c0 L hown aX m c M hM hV hsz o.type
  unfold Oper.wp execOp
  simp only [hop, resolve, invoke, builtin, Sem.run_bind, Sem.run_pure, Result.andThen_ok, List.map_toArray, List.map_cons, List.map_nil, hs, hx, hr]
  exact h g cap w' h2 h3
theorem own_e0B {w : World} {base g : Nat} (h : w.heap[g]? = some (.cells #[] 63 (0, 0))) (hb : base ≤ g) : w.ownsRow base 63 4 (.slice (some ⟨g, 0, none⟩) 0 0) 0 (btC []) :=
  ⟨rfl, Or.inr ⟨g, 0, #[], rfl, hb, h, Nat.le_refl _, Nat.zero_le _, rfl, rfl⟩⟩
end Go.Proofs.Ytdepjmneoplicaa

/-
  Bits copied, and some of them turned (l = append([]Bit{}, l[:k]...); l[i].Opp = v).
-/
namespace Go.Proofs.Ytdepjmneoplicaa
open Go.RowKit Go.Maps
set_option linter.unusedVariables false
set_option linter.unusedSimpArgs false
/-- a cell of a row of one's own turned. -/
theorem own_set {w : World} {base e size n g c : Nat} {xs : List Value} (h : w.ownsRow base e size (.slice (some ⟨g, 0, none⟩) n c) n xs) (i : Nat) (hi : i < n * size) (u : Value) : (w.setCell ⟨g, i, none⟩ u).ownsRow base e size (.slice (some ⟨g, 0, none⟩) n c) n (xs.set i u) := by
  obtain ⟨hl, ⟨hv, h0⟩ | ⟨g', cap, cur, hv, h1, h2, h3, h4, h5, h6⟩⟩ := h
  · cases hv
  · injection hv with e1 e2 e3
    injection e1 with e1
    injection e1 with e1
    subst e1 e3
    refine ⟨by rw [List.length_set]; exact hl, Or.inr ⟨g, c, cur.setIfInBounds i u, rfl, h1, heap_setCell_at h2 u, h3, h4, by simp [h5], ?_⟩⟩
    rw [Array.toList_setIfInBounds, List.take_set, h6]
theorem own_cell {w : World} {base e size n g c : Nat} {xs : List Value} (h : w.ownsRow base e size (.slice (some ⟨g, 0, none⟩) n c) n xs) {i : Nat} {u : Value} (hu : xs[i]? = some u) : w.cell? ⟨g, i, none⟩ = some u ∧ w.frozen? ⟨g, i, none⟩ = false ∧ base ≤ g ∧ g < w.heap.size := by
  obtain ⟨hl, ⟨hv, h0⟩ | ⟨g', cap, cur, hv, h1, h2, h3, h4, h5, h6⟩⟩ := h
  · cases hv
  · injection hv with e1 e2 e3
    injection e1 with e1
    injection e1 with e1
    subst e1 e3
    refine ⟨?_, fz_blk h2 i, h1, (Array.getElem?_eq_some_iff.1 h2).1⟩
    rw [cell_blk h2]
    rw [← h6, List.getElem?_take] at hu
    split at hu
    · rw [Array.getElem?_toList] at hu
      exact hu
    · cases hu
/-- Must turned into v. -/
def fx1 (v : Nat) (b : Bt) : Bt := if b.opp % 4 = 2 then ⟨b.cells, b.kind, b.len, v⟩ else b
def fx (v : Nat) (M : List Bt) (i : Nat) : List Bt := (M.take i).map (fx1 v) ++ M.drop i
theorem fx_zero (v : Nat) (M : List Bt) : fx v M 0 = M := by simp [fx]
theorem fx_len (v : Nat) (M : List Bt) (i : Nat) : (fx v M i).length = M.length := by
  unfold fx
  rw [List.length_append, List.length_map, List.length_take, List.length_drop]
  omega
theorem fx_all {v : Nat} {M : List Bt} : fx v M M.length = M.map (fx1 v) := by simp [fx]
theorem fx_at {v : Nat} {M : List Bt} {i : Nat} {x : Bt} (h : M[i]? = some x) : (fx v M i)[i]? = some x := by
  have hi := (List.getElem?_eq_some_iff.1 h).1
  unfold fx
  rw [List.getElem?_append_right (by rw [List.length_map, List.length_take]; omega), List.length_map, List.length_take, show i - min i M.length = 0 by omega, List.getElem?_drop]
  exact h
theorem fx_next {v : Nat} {M : List Bt} {i : Nat} {x : Bt} (h : M[i]? = some x) : fx v M (i + 1) = (fx v M i).set i (fx1 v x) := by
  obtain ⟨hi, e⟩ := List.getElem?_eq_some_iff.1 h
  unfold fx
  rw [List.set_append_right _ _ (by rw [List.length_map, List.length_take]; omega), List.length_map, List.length_take, show i - min i M.length = 0 by omega, List.drop_eq_getElem_cons hi, List.set_cons_zero, List.take_succ_eq_append_getElem hi, List.map_append, e]
  simp
theorem btC_set : ∀ (M : List Bt) (i : Nat) (x : Bt) (v : Nat), M[i]? = some x → (btC M).set (i * 4 + 3) (.int .u8 (v : Int)) = btC (M.set i ⟨x.cells, x.kind, x.len, v⟩)
  | [], i, x, v, h => by simp at h
  | y :: M, 0, x, v, h => by
    simp at h
    subst h
    rfl
  | y :: M, i + 1, x, v, h => by
    have ih := btC_set M i x v (by simpa using h)
    rw [List.set_cons_succ, show (i + 1) * 4 + 3 = 4 + (i * 4 + 3) by omega]
    show (btV y ++ btC M).set (4 + (i * 4 + 3)) _ = btV y ++ btC (M.set i _)
    rw [List.set_append_right _ _ (by simp [btV]), ← ih]
    simp [btV]
theorem fx_ok {v : Nat} {M : List Bt} (hv : v < 256) (h : ∀ b ∈ M, b.cells < 256 ∧ b.kind < 256 ∧ b.len < 256 ∧ b.opp < 256) : ∀ b ∈ M.map (fx1 v), b.cells < 256 ∧ b.kind < 256 ∧ b.len < 256 ∧ b.opp < 256 := fun b hb => by
  obtain ⟨x, hx, rfl⟩ := List.mem_map.1 hb
  have := h x hx
  unfold fx1
  split
  · exact ⟨this.1, this.2.1, this.2.2.1, hv⟩
  · exact this
/-- no Must within, then. -/
theorem fx_no {v : Nat} {M : List Bt} (hv : v % 4 ≠ 2) (k i : Nat) (h0 : i < k) : (Pa.ops (M.map (fx1 v)) k).getD i 0 ≠ 2 := by
  unfold Pa.ops
  rw [List.getD_eq_getElem?_getD, List.getElem?_map, List.getElem?_range h0]
  show Pa.op (M.map (fx1 v)) i ≠ 2
  unfold Pa.op
  by_cases hi : i = 0
  · rw [if_pos hi]; decide
  · rw [if_neg hi, List.getElem?_map]
    cases hx : M[i - 1]? with
    | none => show (0 : Nat) % 4 ≠ 2; decide
    | some x =>
      show (fx1 v x).opp % 4 ≠ 2
      unfold fx1
      split
      · exact hv
      · assumption
theorem wpList_appB {ops : Array Oper} {rest : List Oper} {o : Oper} {a : Act} {w : World} {Q : Exit → Act → World → Prop} (hgd : o.guard = none) (s x : Operand)
    (hop : o.op = .call { callee := .builtin .append, args := #[s, x], argTypes := #[22, 22] }) (W0 : World) (ho : Only (fun _ => False) W0 w) (g0 n c0 : Nat) (L : List Bt) (hs : a.eval s = .slice (some ⟨g0, 0, none⟩) n c0) (hown : w.ownsRow W0.heap.size 63 4 (.slice (some ⟨g0, 0, none⟩) n c0) n (btC L))
    (aX : Option Addr) (m c : Nat) (M : List Bt) (hx : a.eval x = .slice aX m c) (hM : m = M.length) (hV : Vw w aX (btC M)) (N : Nat) (hN : n + m = N) (hsz : N ≤ 1000000)
    (h : ∀ g cap w', w'.ownsRow W0.heap.size 63 4 (.slice (some ⟨g, 0, none⟩) N cap) N (btC (L ++ M)) → Only (fun _ => False) W0 w' → wpList Try.prog ops Q rest (a.put o.dst (.slice (some ⟨g, 0, none⟩) N cap)) w') :
    wpList Try.prog ops Q (o :: rest) a w :=
  wpList_plain hgd fun _ hK => wp_appB s x hop W0 ho g0 n c0 L hs hown aX m c M hx hM hV N hN hsz (fun g cap w' h1 h2 => hK _ _ (h g cap w' h1 h2))
end Go.Proofs.Ytdepjmneoplicaa

/-
  Hyphens counted, and what they cost. (For BestHyphens.)
-/
namespace Go.Proofs.Ytdepjmneoplicaa
open Go.RowKit Go.Maps
set_option linter.unusedVariables false
set_option linter.unusedSimpArgs false
/-- where a hyphen costs and two in a row nothing more. -/
theorem bsF_more (C : List Ct) (O : List Nat) (t W h lo b : Nat) : bsF C O t W h 0 lo b = Ds.more (bsF C O t W 0 0 lo b) (fun k => O.getD k 0 == 3) h := by
  funext i k
  unfold Ds.more bsF
  have hx : ∀ h, Sp.ext O h 0 i k = if (O.getD k 0 == 3) = true then h else 0 := fun h => by
    unfold Sp.ext
    have h0 : (if O.getD i 0 = 3 then (0 : Nat) else 0) = 0 := by split <;> rfl
    rw [h0, Nat.add_zero]
    by_cases e : O.getD k 0 = 3
    · rw [if_pos e, if_pos (by rw [e]; rfl)]
    · rw [if_neg e, if_neg (by rw [beq_iff_eq]; exact e)]
  have hx0 : Sp.ext O 0 0 i k = 0 := by rw [hx]; split <;> rfl
  cases hc : Sp.can C O t W i k with
  | false => rw [Sp.cos_no hc, Sp.cos_no hc]; rfl
  | true =>
    cases decide (k = b) with
    | true => rw [Sp.cos_last hc, Sp.cos_last hc, hx h, hx0]; rfl
    | false =>
      cases hl : Fl.loose lo (Sp.rat C O t W i k) with
      | true => rw [Sp.cos_loose hc hl, Sp.cos_loose hc hl]; rfl
      | false => rw [Sp.cos_fit hc hl, Sp.cos_fit hc hl, hx h, hx0]; rfl
/-- how many lines end in a hyphen. -/
def hyL : List Ln → Nat
  | [] => 0
  | x :: L => (if x.e = 3 then 1 else 0) + hyL L
theorem hyL_le : ∀ L : List Ln, hyL L ≤ L.length
  | [] => Nat.le_refl _
  | x :: L => by
    have := hyL_le L
    unfold hyL
    rw [List.length_cons]
    split <;> omega
theorem hyL_mk (C : List Ct) (O : List Nat) (t : Nat) : ∀ (a : Nat) (E : List Nat), hyL (mkL C O t a E) = Ds.hys (fun k => O.getD k 0 == 3) E
  | _, [] => rfl
  | a, k :: E => by
    unfold mkL hyL Ds.hys
    rw [hyL_mk C O t k E]
    by_cases e : O.getD k 0 = 3
    · rw [if_pos e, if_pos (by rw [e]; rfl)]
    · rw [if_neg e, if_neg (by rw [beq_iff_eq]; exact e)]
theorem hyL_step {L : List Ln} {i : Nat} {x : Ln} (h : L[i]? = some x) : hyL (L.take (i + 1)) = hyL (L.take i) + (if x.e = 3 then 1 else 0) := by
  induction L generalizing i with
  | nil => simp at h
  | cons y L ih =>
    cases i with
    | zero =>
      simp at h
      subst h
      simp [hyL]
    | succ i =>
      have := ih (i := i) (by simpa using h)
      simp only [List.take_succ_cons, hyL]
      omega
theorem box4t (w : World) (u0 u1 u2 u3 v0 v1 v2 v3 : Value) (t : TypeId) : ∃ R w0, (w.alloc (.cells #[u0, u1, u2, u3] t)).setRow w.heap.size #[v0, v1, v2, v3] = w0 ∧ w.heap.size = R ∧ (w0.cell? ⟨R, 3, none⟩ = some v3 ∧ R < w0.heap.size) ∧ Hid (Only (fun _ => False) w w0) := by
  have h := setRow_heap (w.alloc (.cells #[u0, u1, u2, u3] t)) w.heap.size _ #[v0, v1, v2, v3] _ _ (heap_alloc_new w _)
  exact ⟨_, _, rfl, rfl, ⟨by rw [cell_blk h]; rfl, (Array.getElem?_eq_some_iff.1 h).1⟩, ((Only.refl _ _).alloc _).setRowNew (Nat.le_refl _) _⟩
theorem ln_one (a b c d : Int) : (#[Value.int .i64 a, .int .i64 b, .int .i64 c, .int .u8 d].all fun x => x.oneCell') = true := by
  simp [Value.oneCell']
end Go.Proofs.Ytdepjmneoplicaa

/-
  lines.Rows: lines in bytes.
-/
namespace Go.Proofs.Ytdepjmneoplicaa
open Go.RowKit Go.Maps
set_option linter.unusedVariables false
set_option linter.unusedSimpArgs false
/-- how many bytes stand ahead of a boundary. -/
def bah (C : List Ct) (i : Nat) : Nat := if i = 0 then 0 else (Sp.at' C (i - 1)).pl + (Sp.at' C (i - 1)).len
theorem bah_sum {C : List Ct} (hC : Lv.Ctg C) {i : Nat} (h : i ≤ C.length) : bah C i = It.sum (C.take i) := by
  unfold bah
  by_cases h0 : i = 0
  · rw [if_pos h0, h0]; rfl
  · rw [if_neg h0, (hC (i - 1) (by omega)).1]
    have e := Lv.sum_next (C := C) (i := i - 1) (by omega)
    rw [show i - 1 + 1 = i by omega] at e
    exact e.symm
theorem bah_row {C : List Ct} (hC : Lv.Ctg C) {l : Ln} (h : l.a < l.b) (hb : l.b ≤ C.length) : Lv.row C l = ⟨bah C l.a, bah C l.b, l.w, l.e⟩ := by
  obtain ⟨h1, h2, _⟩ := Lv.row_at hC h hb
  rw [bah_sum hC (by omega), bah_sum hC hb, ← h1, ← h2]
  rfl
theorem ctg_le {C : List Ct} (hC : Lv.Ctg C) {i x : Nat} {c : Ct} (hs : It.sum C ≤ x) (hi : C[i]? = some c) : c.pl + c.len ≤ x := by
  have hl := (List.getElem?_eq_some_iff.1 hi).1
  have e : Sp.at' C i = c := by unfold Sp.at'; rw [List.getD_eq_getElem?_getD, hi]; rfl
  have h1 := (hC i hl).1
  have h2 := Lv.sum_next (C := C) hl
  rw [e] at h1 h2
  have h3 : It.sum (C.take (i + 1)) ≤ It.sum C := It.sum_le (i + 1)
  omega
theorem box4s (w : World) (u0 u1 u2 u3 v0 v1 v2 v3 : Value) (t : TypeId) : ∃ R w0, (w.alloc (.cells #[u0, u1, u2, u3] t)).setRow w.heap.size #[v0, v1, v2, v3] = w0 ∧ w.heap.size = R ∧ (w0.cell? ⟨R, 0, none⟩ = some v0 ∧ w0.cell? ⟨R, 1, none⟩ = some v1 ∧ w0.cell? ⟨R, 2, none⟩ = some v2 ∧ w0.cell? ⟨R, 3, none⟩ = some v3 ∧ R < w0.heap.size) ∧ Hid (Only (fun _ => False) w w0 ∧ w0.heap[R]? = some (.cells #[v0, v1, v2, v3] t (0, 0)) ∧ R = w.heap.size) := by
  have h := setRow_heap (w.alloc (.cells #[u0, u1, u2, u3] t)) w.heap.size _ #[v0, v1, v2, v3] _ _ (heap_alloc_new w _)
  exact ⟨_, _, rfl, rfl, ⟨(blk_four h).1, (blk_four h).2.1, (blk_four h).2.2.1, (blk_four h).2.2.2, (Array.getElem?_eq_some_iff.1 h).1⟩, ((Only.refl _ _).alloc _).setRowNew (Nat.le_refl _) _, h, rfl⟩
set_option maxRecDepth 100000 in
set_option maxHeartbeats 4000000 in
theorem bah_any (C : List Ct) (O : List Nat) (n m : Nat) (aC aO : Option Addr) (cC cO j z : Nat) (w : World) (hP : Pv w C O n m aC aO cC cO) (hC : Lv.Ctg C) (hs : It.sum C ≤ 1000000) (hj : j ≤ n) (hz : bah C j = z) :
    Calls Try.prog 28 #[.agg #[.slice aC n cC, .slice aO m cO], .int .i64 (j : Int)] w fun e w' => e = .returned (.int .i64 (z : Int)) ∧ Only (fun _ => False) w w' := by
  have HP : Hid (Pv w C O n m aC aO cC cO) := hP
  have HC : Hid (∀ (i : Nat) (c : Ct), C[i]? = some c → c.pl + c.len ≤ 1000000) := fun i c h => ctg_le hC hs h
  have HN : Hid (n = C.length) := hP.hn
  have h1 := hP.few
  have hcap := hP.cap
  have HZ : Hid (bah C j = z) := hz
  clear hP hC hs hz
  have mn : min (j : Int) (n : Int) = (j : Int) := by omega
  go_enter Try.func28, Try.ntmps28
  go_upto_region 1 with fail
  obtain ⟨R, w0, hw0, hR, H0, r0, r1, lR⟩ := box2 w (.slice aC n cC) (.slice aO m cO) 31
  rw [hw0, hR]
  clear hw0 hR
  by_cases hj0 : j = 0
  · have t1 : (j : Int) ≤ 0 := by omega
    have e0 : z = 0 := by rw [← HZ.out]; unfold bah; rw [if_pos hj0]
    subst e0
    clear HZ
    subst hj0
    go_wp2_with fail
    go_ret
    exact ⟨rfl, H0.out.2⟩
  · have t1 : decide ((j : Int) ≤ 0) = false := decide_eq_false (by omega)
    have t1n : decide (j = 0) = false := decide_eq_false hj0
    obtain ⟨i, hi⟩ : ∃ i, i = j - 1 := ⟨_, rfl⟩
    have e1 : (j : Int) - 1 = (i : Int) := by omega
    have hin : i < n := by omega
    have hiI : (i : Int) < (n : Int) := by omega
    obtain ⟨x, hx⟩ : ∃ x, C[i]? = some x := ⟨_, List.getElem?_eq_getElem (by rw [← HN.out]; exact hin)⟩
    have ez : z = x.pl + x.len := by
      rw [← HZ.out]
      unfold bah
      rw [if_neg hj0, ← hi]
      have e : Sp.at' C i = x := by unfold Sp.at'; rw [List.getD_eq_getElem?_getD, hx]; rfl
      rw [e]
    subst ez
    have hxl := HC.out i x hx
    obtain ⟨q0, q1, q2, q3⟩ := ctC_at C i x hx
    obtain ⟨b, off, rfl, hb, hc⟩ := (HP.out.vC.keep H0.out.2).cells (by rw [ctC_len, ← HN.out]; omega)
    have c0 : w0.cell? ⟨b, off + i * 4, none⟩ = _ := hc _ _ q0
    have c1 : w0.cell? ⟨b, off + i * 4 + 1, none⟩ = _ := hc _ _ q1
    have c2 : w0.cell? ⟨b, off + i * 4 + 2, none⟩ = _ := hc _ _ q2
    have c3 : w0.cell? ⟨b, off + i * 4 + 3, none⟩ = _ := hc _ _ q3
    obtain ⟨xp, xl, xc, xk⟩ := x
    simp only at c0 c1 c2 c3 hxl
    clear hx q0 q1 q2 q3 hc HZ HC hi
    go_upto_region 5 with (refine wpList_store_row rfl 66 _ _ rfl w0.heap.size #[.int .i64 (xp : Int), .int .i64 (xl : Int), .int .i64 xc, .int .u8 (xk : Int)] rfl rfl 66 _ (heap_alloc_new w0 _) (by kernel_rfl) rfl (ln_one _ _ _ _) ?_)
    obtain ⟨B, w1, hw1, hB, ⟨d0, d1, d2, d3, lB⟩, HO⟩ := box4s w0 (.int .i64 0) (.int .i64 0) (.int .i64 0) (.int .u8 0) (.int .i64 (xp : Int)) (.int .i64 (xl : Int)) (.int .i64 xc) (.int .u8 (xk : Int)) 66
    rw [hw1, hB]
    clear hw1 hB c0 c1 c2 c3 hb
    go_wp2_with fail
    go_ret
    exact ⟨by go_num, H0.out.2.trans HO.out.1⟩
def rwP (M : List Ln) (w : World) (e : Ending) (w' : World) : Prop := ∃ (a : Option Addr) (c : Nat), e = .returned (.slice a M.length c) ∧ Vw w' a (lnC M) ∧ Only (fun _ => False) w w'
/-- rows of lines. -/
def rws (C : List Ct) (L : List Ln) : List Ln := if L = [] then [⟨0, 0, 0, 2⟩] else L.map (Lv.row C)
def rT (C : List Ct) (L : List Ln) (i : Nat) : List Ln := (L.take i).map (Lv.row C) ++ List.replicate (L.length - i) ⟨0, 0, 0, 0⟩
theorem rT_len (C : List Ct) (L : List Ln) {i : Nat} (h : i ≤ L.length) : (rT C L i).length = L.length := by
  unfold rT
  rw [List.length_append, List.length_map, List.length_take, List.length_replicate]
  omega
theorem rT_at {C : List Ct} {L : List Ln} {i : Nat} (h : i < L.length) : (rT C L i)[i]? = some ⟨0, 0, 0, 0⟩ := by
  unfold rT
  rw [List.getElem?_append_right (by rw [List.length_map, List.length_take]; omega), List.length_map, List.length_take, List.getElem?_replicate, if_pos (by omega)]
theorem rT_next {C : List Ct} {L : List Ln} {i : Nat} {x : Ln} (h : L[i]? = some x) : rT C L (i + 1) = (rT C L i).set i (Lv.row C x) := by
  have hl := (List.getElem?_eq_some_iff.1 h).1
  unfold rT
  rw [take_snoc h, List.map_append, List.append_assoc, List.set_append_right _ _ (by rw [List.length_map, List.length_take]; omega), List.length_map, List.length_take, show i - min i L.length = 0 by omega]
  congr 1
  rw [show L.length - i = (L.length - (i + 1)) + 1 by omega, List.replicate_succ, List.set_cons_zero]
  rfl
theorem rT_all (C : List Ct) (L : List Ln) : rT C L L.length = L.map (Lv.row C) := by
  unfold rT
  rw [List.take_length, Nat.sub_self]
  exact List.append_nil _
theorem lnC_set : ∀ (M : List Ln) (i : Nat) (x y : Ln), M[i]? = some x → ((((lnC M).set (i * 4) (.int .i64 (y.a : Int))).set (i * 4 + 1) (.int .i64 (y.b : Int))).set (i * 4 + 2) (.int .i64 (y.w : Int))).set (i * 4 + 3) (.int .u8 (y.e : Int)) = lnC (M.set i y)
  | [], i, x, y, h => by simp at h
  | z :: M, 0, x, y, h => rfl
  | z :: M, i + 1, x, y, h => by
    have ih := lnC_set M i x y (by simpa using h)
    rw [List.set_cons_succ, show (i + 1) * 4 + 3 = 4 + (i * 4 + 3) by omega, show (i + 1) * 4 + 2 = 4 + (i * 4 + 2) by omega, show (i + 1) * 4 + 1 = 4 + (i * 4 + 1) by omega, show (i + 1) * 4 = 4 + i * 4 by omega]
    show ((((lnV z ++ lnC M).set (4 + i * 4) _).set (4 + (i * 4 + 1)) _).set (4 + (i * 4 + 2)) _).set (4 + (i * 4 + 3)) _ = lnV z ++ lnC (M.set i _)
    rw [← ih]
    have e : (lnV z).length = 4 := rfl
    rw [List.set_append_right _ _ (by rw [e]; omega), List.set_append_right _ _ (by rw [e]; omega), List.set_append_right _ _ (by rw [e]; omega), List.set_append_right _ _ (by rw [e]; omega)]
    simp only [e, Nat.add_sub_cancel_left]
theorem made_rows (N : Nat) : (madeCells #[.int .i64 0, .int .i64 0, .int .i64 0, .int .u8 0] (N * 4)).toList = lnC (List.replicate N ⟨0, 0, 0, 0⟩) := by
  apply List.ext_getElem?
  intro i
  by_cases hi : i < N * 4
  · rw [Array.getElem?_toList, Array.getElem?_eq_getElem (by rw [size_madeCells]; exact hi)]
    obtain ⟨q0, q1, q2, q3⟩ := lnC_at (List.replicate N ⟨0, 0, 0, 0⟩) (i / 4) ⟨0, 0, 0, 0⟩ (by rw [List.getElem?_replicate, if_pos (by omega)])
    simp only [madeCells, Array.getElem_map, Array.getElem_range]
    rcases (show i % 4 = 0 ∨ i % 4 = 1 ∨ i % 4 = 2 ∨ i % 4 = 3 by omega) with q | q | q | q
    · rw [show i / 4 * 4 = i by omega] at q0; rw [q0]; simp [q]
    · rw [show i / 4 * 4 + 1 = i by omega] at q1; rw [q1]; simp [q]
    · rw [show i / 4 * 4 + 2 = i by omega] at q2; rw [q2]; simp [q]
    · rw [show i / 4 * 4 + 3 = i by omega] at q3; rw [q3]; simp [q]
  · rw [Array.getElem?_toList, Array.getElem?_eq_none (by rw [size_madeCells]; omega), List.getElem?_eq_none (by rw [lnC_len, List.length_replicate]; omega)]
theorem infoRow : (Try.prog.info? 53).map (fun i => (i.zero, i.size, i.bytes)) = some (some (.agg #[.int .i64 0, .int .i64 0, .int .i64 0, .int .u8 0]), 4, 32) := by kernel_rfl
theorem own_row4 {w : World} {base g n i : Nat} {M : List Ln} {x y : Ln} {e : TypeId} (h : w.ownsRow base e 4 (.slice (some ⟨g, 0, none⟩) n n) n (lnC M)) (hn : n = M.length) (hx : M[i]? = some x) : ((((w.setCell ⟨g, i * 4, none⟩ (.int .i64 (y.a : Int))).setCell ⟨g, i * 4 + 1, none⟩ (.int .i64 (y.b : Int))).setCell ⟨g, i * 4 + 2, none⟩ (.int .i64 (y.w : Int))).setCell ⟨g, i * 4 + 3, none⟩ (.int .u8 (y.e : Int))).ownsRow base e 4 (.slice (some ⟨g, 0, none⟩) n n) n (lnC (M.set i y)) := by
  have hl := (List.getElem?_eq_some_iff.1 hx).1
  rw [← lnC_set M i x y hx]
  exact own_set (own_set (own_set (own_set h (i * 4) (by omega) _) (i * 4 + 1) (by omega) _) (i * 4 + 2) (by omega) _) (i * 4 + 3) (by omega) _
theorem blk_far' {w w' : World} {R rb : Nat} {o : Obj} (ho : Only (fun g => g = rb) w w') (h : w.heap[R]? = some o) (hne : R ≠ rb) : w'.heap[R]? = some o := (ho.block R (Array.getElem?_eq_some_iff.1 h).1 hne).trans h
set_option maxRecDepth 100000 in
set_option maxHeartbeats 8000000 in
theorem rows_any (C : List Ct) (O : List Nat) (n m : Nat) (aC aO : Option Addr) (cC cO : Nat) (L : List Ln) (nl : Nat) (aL : Option Addr) (cL : Nat) (w : World) (hP : Pv w C O n m aC aO cC cO) (hC : Lv.Ctg C) (hs : It.sum C ≤ 1000000) (hL : nl = L.length) (hV : Vw w aL (lnC L)) (hl : nl ≤ 100000) (hG : ∀ l ∈ L, l.a < l.b ∧ l.b ≤ n) :
    Calls Try.prog 16 #[.agg #[.slice aC n cC, .slice aO m cO], .slice aL nl cL] w (rwP (rws C L) w) := by
  obtain ⟨i3, g3, g30, g31, g32⟩ := info_parts infoRow
  have HBA : Hid (∀ W' j z, Only (fun _ => False) w W' → j ≤ n → bah C j = z → Calls Try.prog 28 #[.agg #[.slice aC n cC, .slice aO m cO], .int .i64 ((j : Nat) : Int)] W' fun e w' => e = .returned (.int .i64 ((z : Nat) : Int)) ∧ Only (fun _ => False) W' w') := fun W' j z ho hj hz => bah_any C O n m aC aO cC cO j z W' (hP.keep ho) hC hs hj hz
  have HN : Hid (nl = L.length ∧ Vw w aL (lnC L)) := ⟨hL, hV⟩
  have HGL : Hid (∀ l ∈ L, l.a < l.b ∧ l.b ≤ n ∧ Lv.row C l = ⟨bah C l.a, bah C l.b, l.w, l.e⟩) := fun l h => ⟨(hG l h).1, (hG l h).2, bah_row hC (hG l h).1 (by rw [← hP.hn]; exact (hG l h).2)⟩
  clear hP hC hs hL hV hG
  go_enter Try.func16, Try.ntmps16
  go_upto_region 1 with fail
  obtain ⟨R, w0, hw0, hR, H0, r0, r1, lR⟩ := box2 w (.slice aC n cC) (.slice aO m cO) 31
  rw [hw0, hR]
  clear hw0 hR
  by_cases h0 : nl = 0
  · have t1 : ((nl : Int) == 0) = true := by rw [beq_iff_eq]; omega
    have HE : Hid (rws C L = [⟨0, 0, 0, 2⟩]) := (by unfold rws; rw [if_pos (List.eq_nil_of_length_eq_zero (by rw [← HN.out.1]; exact h0))] : rws C L = [⟨0, 0, 0, 2⟩])
    clear h0
    go_wp2_with fail
    go_ret
    refine ⟨_, _, by rw [HE.out]; rfl, ?_, H0.out.2.alloc _⟩
    rw [HE.out]
    refine Or.inr ⟨_, _, rfl, fun j u hj => ?_⟩
    rw [Nat.zero_add, cell_blk (heap_alloc_new w0 _), ← Array.getElem?_toList]
    exact hj
  · have t1 : ((nl : Int) == 0) = false := by rw [beq_eq_false_iff_ne]; omega
    have HE : Hid (rws C L = L.map (Lv.row C)) := (by unfold rws; rw [if_neg (fun e => h0 (by rw [HN.out.1, e]; rfl))] : rws C L = L.map (Lv.row C))
    go_upto_region 4 with (refine wpList_make_full _ rfl _ _ 42 rfl w0.heap.size 53 i3 (.agg #[.int .i64 0, .int .i64 0, .int .i64 0, .int .u8 0]) 4 Try.underlying42 g3 g30 g31 .i64 .i64 _ _ nl rfl rfl (by omega) (by omega) (by rw [g32]; omega) (by unfold maxLen; omega) (Nat.le_refl _) ?_; intro w1 hown1 hg1)
    obtain ⟨rb, hrb⟩ : ∃ x, x = w0.heap.size := ⟨_, rfl⟩
    rw [← hrb] at hown1 ⊢
    have ho1 : Only (fun _ => False) w0 w1 := (Only.refl _ _).grown hg1 (fun k h => by cases h)
    have HRB : Hid (w.heap.size ≤ rb ∧ R ≠ rb) := by
      have := H0.out.2.size
      have lR := (Array.getElem?_eq_some_iff.1 H0.out.1).1
      refine ⟨?_, ?_⟩ <;> omega
    have H1 : Hid (w1.ownsRow rb 53 4 (.slice (some ⟨rb, 0, none⟩) nl nl) nl (lnC (rT C L 0)) ∧ Only (fun _ => False) w w1 ∧ w1.heap[R]? = some (.cells #[.slice aC n cC, .slice aO m cO] 31 (0, 0))) := by
      refine ⟨?_, H0.out.2.trans ho1, blk_keep ho1 H0.out.1⟩
      have e : rT C L 0 = List.replicate nl ⟨0, 0, 0, 0⟩ := by unfold rT; rw [← HN.out.1]; rfl
      rw [e, ← made_rows]
      exact hown1
    have HRR : Hid (∀ W', Only (fun g => g = rb) w1 W' → W'.heap[R]? = some (.cells #[.slice aC n cC, .slice aO m cO] 31 (0, 0))) := fun W' ho => blk_far' ho H1.out.2.2 HRB.out.2
    clear ho1 hown1 hg1 hrb g3 g30 g31 g32 r0 r1 lR h0
    go_wp2_with fail
    go_loopg [18] nl (fun gh v18 wr => ∃ (i : Nat) (W : World), W = wr ∧ gh = nl - i ∧ i ≤ nl ∧ v18 = .int .i64 (i : Int) ∧ W.ownsRow rb 53 4 (.slice (some ⟨rb, 0, none⟩) nl nl) nl (lnC (rT C L i)) ∧ Only (fun _ => False) w W ∧ Only (fun g => g = rb) w1 W)
    case atStart => exact ⟨0, _, rfl, rfl, Nat.zero_le _, rfl, H1.out.1, H1.out.2.1, Only.refl _ _⟩
    case round =>
      obtain ⟨i, W, hW, rfl, hi, rfl, hown, hoW, hoR⟩ := hrel
      subst hW
      have HG : Hid (W.ownsRow rb 53 4 (.slice (some ⟨rb, 0, none⟩) nl nl) nl (lnC (rT C L i)) ∧ Only (fun _ => False) w W ∧ Only (fun g => g = rb) w1 W) := ⟨hown, hoW, hoR⟩
      clear hown hoW hoR
      by_cases hlt : i < nl
      · have t2 : (i : Int) < (nl : Int) := by omega
        obtain ⟨x, hx⟩ : ∃ x, L[i]? = some x := ⟨_, List.getElem?_eq_getElem (by rw [← HN.out.1]; exact hlt)⟩
        obtain ⟨hab, hbn, hrow⟩ := HGL.out x (List.mem_of_getElem? hx)
        have HNX0 : rT C L (i + 1) = (rT C L i).set i (Lv.row C x) := rT_next hx
        rw [hrow] at HNX0
        obtain ⟨g, off, rfl, hg, c0', c1', c2', c3'⟩ := (HN.out.2.keep HG.out.2.1).line hx
        obtain ⟨xa, xb, xw, xe⟩ := x
        simp only at c0' c1' c2' c3' hab hbn HNX0
        obtain ⟨ya, hya⟩ : ∃ z, z = bah C xa := ⟨_, rfl⟩
        obtain ⟨yb, hyb⟩ : ∃ z, z = bah C xb := ⟨_, rfl⟩
        have HYA : Hid (bah C xa = ya) := hya.symm
        have HYB : Hid (bah C xb = yb) := hyb.symm
        rw [← hya, ← hyb] at HNX0
        have HNX : Hid (rT C L (i + 1) = (rT C L i).set i ⟨ya, yb, xw, xe⟩) := HNX0
        clear hx hrow HNX0 hya hyb
        go_upto_region 7 with (refine wpList_store_row rfl 54 _ _ rfl W.heap.size #[.int .i64 (xa : Int), .int .i64 (xb : Int), .int .i64 (xw : Int), .int .u8 (xe : Int)] rfl rfl 54 _ (heap_alloc_new W _) (by kernel_rfl) rfl (ln_one _ _ _ _) ?_)
        obtain ⟨B, W2, hW2, hB, ⟨d0, d1, d2, d3, lB⟩, HO⟩ := box4s W (.int .i64 0) (.int .i64 0) (.int .i64 0) (.int .u8 0) (.int .i64 (xa : Int)) (.int .i64 (xb : Int)) (.int .i64 (xw : Int)) (.int .u8 (xe : Int)) 54
        rw [hW2, hB]
        clear hW2 hB c0' c1' c2' c3' hg
        have H2 : Hid (Only (fun g => g = rb) w1 W2 ∧ Only (fun _ => False) w W2) := ⟨HG.out.2.2.trans (HO.out.1.mono (fun _ h => h.elim)), HG.out.2.1.trans HO.out.1⟩
        have hBrb : B ≠ rb := by
          have h1 := (own_cell HG.out.1 (lnC_at (rT C L i) i _ (rT_at (by rw [← HN.out.1]; exact hlt))).1).2.2.2
          have h2 := HO.out.2.2
          omega
        have HSF : Hid (∀ W', Only (fun g => g = rb) W2 W' → (fun W' => (W'.cell? ⟨R, 0, none⟩ = some (.slice aC n cC) ∧ W'.cell? ⟨R, 1, none⟩ = some (.slice aO m cO)) ∧ (W'.cell? ⟨B, 0, none⟩ = some (.int .i64 (xa : Int)) ∧ W'.cell? ⟨B, 1, none⟩ = some (.int .i64 (xb : Int)) ∧ W'.cell? ⟨B, 2, none⟩ = some (.int .i64 (xw : Int)) ∧ W'.cell? ⟨B, 3, none⟩ = some (.int .u8 (xe : Int)))) W') := fun W' ho => by
          have e1 := HRR.out _ (H2.out.1.trans ho)
          have e2 := blk_far' ho HO.out.2.1 hBrb
          exact ⟨⟨(blk_two e1).1, (blk_two e1).2.1⟩, blk_four e2⟩
        have HSS : Hid (∀ W', Only (fun _ => False) W2 W' → (fun W' => (W'.cell? ⟨R, 0, none⟩ = some (.slice aC n cC) ∧ W'.cell? ⟨R, 1, none⟩ = some (.slice aO m cO)) ∧ (W'.cell? ⟨B, 0, none⟩ = some (.int .i64 (xa : Int)) ∧ W'.cell? ⟨B, 1, none⟩ = some (.int .i64 (xb : Int)) ∧ W'.cell? ⟨B, 2, none⟩ = some (.int .i64 (xw : Int)) ∧ W'.cell? ⟨B, 3, none⟩ = some (.int .u8 (xe : Int)))) W') := fun W' ho => HSF.out W' (ho.mono (fun _ h => h.elim))
        clear d0 d1 d2 d3 lB
        have HD : Hid (Only (fun g => g = rb) w1 W2.drew ∧ Only (fun _ => False) w W2.drew ∧ Only (fun _ => False) W2 W2.drew) := ⟨H2.out.1.drew, H2.out.2.drew, (Only.refl _ _).drew⟩
        refine wp_region_held_drew (S := (fun W' => (W'.cell? ⟨R, 0, none⟩ = some (.slice aC n cC) ∧ W'.cell? ⟨R, 1, none⟩ = some (.slice aO m cO)) ∧ (W'.cell? ⟨B, 0, none⟩ = some (.int .i64 (xa : Int)) ∧ W'.cell? ⟨B, 1, none⟩ = some (.int .i64 (xb : Int)) ∧ W'.cell? ⟨B, 2, none⟩ = some (.int .i64 (xw : Int)) ∧ W'.cell? ⟨B, 3, none⟩ = some (.int .u8 (xe : Int))))) (by kernel_rfl) (HSS.out _ HD.out.2.2) (fun hHeld => ?_)
        refine wpAnyH_take (i := 0) (oi := { dst := some 23, op := _, type := _, pos := _, after := _, guard := _ }) (v := .slice (some ⟨rb, 0, none⟩) nl nl) rfl (by kernel_rfl) (by kernel_rfl) (by kernel_rfl) (fun _ _ _ h => h) (Or.inl ⟨by rfl, fun w hSw => by obtain ⟨⟨y0, y1⟩, y2, y3, y4, y5⟩ := hSw; first | (go_simp; done) | go_simp⟩) (by assumption) ?_
        (try simp only [Act.put, List.setIfInBounds_toArray, List.set_cons_zero, List.set_cons_succ])
        refine wpAnyH_take (i := 1) (oi := { dst := some 24, op := _, type := _, pos := _, after := _, guard := _ }) (v := .int .i64 (i : Int)) rfl (by kernel_rfl) (by kernel_rfl) (by kernel_rfl) (fun _ _ _ h => h) (Or.inl ⟨by rfl, fun w hSw => by obtain ⟨⟨y0, y1⟩, y2, y3, y4, y5⟩ := hSw; first | (go_simp; done) | go_simp⟩) (by assumption) ?_
        (try simp only [Act.put, List.setIfInBounds_toArray, List.set_cons_zero, List.set_cons_succ])
        refine wpAnyH_take (i := 2) (oi := { dst := some 25, op := _, type := _, pos := _, after := _, guard := _ }) (v := .agg #[.slice aC n cC, .slice aO m cO]) rfl (by kernel_rfl) (by kernel_rfl) (by kernel_rfl) (fun _ _ _ h => h) (Or.inl ⟨by rfl, fun w hSw => by obtain ⟨⟨y0, y1⟩, y2, y3, y4, y5⟩ := hSw; first | (go_simp; done) | go_simp⟩) (by assumption) ?_
        (try simp only [Act.put, List.setIfInBounds_toArray, List.set_cons_zero, List.set_cons_succ])
        refine wpAnyH_take (i := 3) (oi := { dst := some 26, op := _, type := _, pos := _, after := _, guard := _ }) (v := .pointer (some ⟨B, 0, none⟩)) rfl (by kernel_rfl) (by kernel_rfl) (by kernel_rfl) (fun _ _ _ h => h) (Or.inl ⟨by rfl, fun w hSw => by obtain ⟨⟨y0, y1⟩, y2, y3, y4, y5⟩ := hSw; first | (go_simp; done) | go_simp⟩) (by assumption) ?_
        (try simp only [Act.put, List.setIfInBounds_toArray, List.set_cons_zero, List.set_cons_succ])
        refine wpAnyH_take (i := 4) (oi := { dst := some 27, op := _, type := _, pos := _, after := _, guard := _ }) (v := .int .i64 (xa : Int)) rfl (by kernel_rfl) (by kernel_rfl) (by kernel_rfl) (fun _ _ _ h => h) (Or.inl ⟨by rfl, fun w hSw => by obtain ⟨⟨y0, y1⟩, y2, y3, y4, y5⟩ := hSw; first | (go_simp; done) | go_simp⟩) (by assumption) ?_
        (try simp only [Act.put, List.setIfInBounds_toArray, List.set_cons_zero, List.set_cons_succ])
        refine wpAnyH_take (i := 6) (oi := { dst := some 29, op := _, type := _, pos := _, after := _, guard := _ }) (v := .agg #[.slice aC n cC, .slice aO m cO]) rfl (by kernel_rfl) (by kernel_rfl) (by kernel_rfl) (fun _ _ _ h => h) (Or.inl ⟨by rfl, fun w hSw => by obtain ⟨⟨y0, y1⟩, y2, y3, y4, y5⟩ := hSw; first | (go_simp; done) | go_simp⟩) (by assumption) ?_
        (try simp only [Act.put, List.setIfInBounds_toArray, List.set_cons_zero, List.set_cons_succ])
        refine wpAnyH_take (i := 7) (oi := { dst := some 30, op := _, type := _, pos := _, after := _, guard := _ }) (v := .pointer (some ⟨B, 1, none⟩)) rfl (by kernel_rfl) (by kernel_rfl) (by kernel_rfl) (fun _ _ _ h => h) (Or.inl ⟨by rfl, fun w hSw => by obtain ⟨⟨y0, y1⟩, y2, y3, y4, y5⟩ := hSw; first | (go_simp; done) | go_simp⟩) (by assumption) ?_
        (try simp only [Act.put, List.setIfInBounds_toArray, List.set_cons_zero, List.set_cons_succ])
        refine wpAnyH_take (i := 8) (oi := { dst := some 31, op := _, type := _, pos := _, after := _, guard := _ }) (v := .int .i64 (xb : Int)) rfl (by kernel_rfl) (by kernel_rfl) (by kernel_rfl) (fun _ _ _ h => h) (Or.inl ⟨by rfl, fun w hSw => by obtain ⟨⟨y0, y1⟩, y2, y3, y4, y5⟩ := hSw; first | (go_simp; done) | go_simp⟩) (by assumption) ?_
        (try simp only [Act.put, List.setIfInBounds_toArray, List.set_cons_zero, List.set_cons_succ])
        refine wpAnyH_take (i := 10) (oi := { dst := some 33, op := _, type := _, pos := _, after := _, guard := _ }) (v := .pointer (some ⟨B, 2, none⟩)) rfl (by kernel_rfl) (by kernel_rfl) (by kernel_rfl) (fun _ _ _ h => h) (Or.inl ⟨by rfl, fun w hSw => by obtain ⟨⟨y0, y1⟩, y2, y3, y4, y5⟩ := hSw; first | (go_simp; done) | go_simp⟩) (by assumption) ?_
        (try simp only [Act.put, List.setIfInBounds_toArray, List.set_cons_zero, List.set_cons_succ])
        refine wpAnyH_take (i := 11) (oi := { dst := some 34, op := _, type := _, pos := _, after := _, guard := _ }) (v := .int .i64 (xw : Int)) rfl (by kernel_rfl) (by kernel_rfl) (by kernel_rfl) (fun _ _ _ h => h) (Or.inl ⟨by rfl, fun w hSw => by obtain ⟨⟨y0, y1⟩, y2, y3, y4, y5⟩ := hSw; first | (go_simp; done) | go_simp⟩) (by assumption) ?_
        (try simp only [Act.put, List.setIfInBounds_toArray, List.set_cons_zero, List.set_cons_succ])
        refine wpAnyH_take (i := 12) (oi := { dst := some 35, op := _, type := _, pos := _, after := _, guard := _ }) (v := .pointer (some ⟨B, 3, none⟩)) rfl (by kernel_rfl) (by kernel_rfl) (by kernel_rfl) (fun _ _ _ h => h) (Or.inl ⟨by rfl, fun w hSw => by obtain ⟨⟨y0, y1⟩, y2, y3, y4, y5⟩ := hSw; first | (go_simp; done) | go_simp⟩) (by assumption) ?_
        (try simp only [Act.put, List.setIfInBounds_toArray, List.set_cons_zero, List.set_cons_succ])
        refine wpAnyH_take (i := 13) (oi := { dst := some 36, op := _, type := _, pos := _, after := _, guard := _ }) (v := .int .u8 (xe : Int)) rfl (by kernel_rfl) (by kernel_rfl) (by kernel_rfl) (fun _ _ _ h => h) (Or.inl ⟨by rfl, fun w hSw => by obtain ⟨⟨y0, y1⟩, y2, y3, y4, y5⟩ := hSw; first | (go_simp; done) | go_simp⟩) (by assumption) ?_
        (try simp only [Act.put, List.setIfInBounds_toArray, List.set_cons_zero, List.set_cons_succ])
        refine wpAnyH_ready (rs := [5]) (by kernel_rfl) (by simp) ?_
        refine AllReadyH.cons rfl (fun K hK => ?_) AllReadyH.nil
        rw [if_pos (by rfl)]
        go_simp
        refine Calls.mono (HBA.out _ xa ya HD.out.2.1 (by omega) HYA.out) ?_
        rintro e Y1 ⟨rfl, ho⟩
        have HY1 : Hid (Only (fun g => g = rb) w1 Y1 ∧ Only (fun _ => False) w Y1 ∧ Only (fun _ => False) W2 Y1) := ⟨HD.out.1.trans (ho.mono (fun _ h => h.elim)), HD.out.2.1.trans ho, HD.out.2.2.trans ho⟩
        clear ho
        refine hK.out _ _ (HSS.out _ HY1.out.2.2) (fun hHeld => ?_)
        clear hK
        (try simp only [Act.put, List.setIfInBounds_toArray, List.set_cons_zero, List.set_cons_succ])
        refine wpAnyH_ready (rs := [9]) (by kernel_rfl) (by simp) ?_
        refine AllReadyH.cons rfl (fun K hK => ?_) AllReadyH.nil
        rw [if_pos (by rfl)]
        go_simp
        refine Calls.mono (HBA.out _ xb yb HY1.out.2.1 (by omega) HYB.out) ?_
        rintro e Y2 ⟨rfl, ho⟩
        have HY2 : Hid (Only (fun g => g = rb) w1 Y2 ∧ Only (fun _ => False) w Y2 ∧ Only (fun _ => False) W2 Y2) := ⟨HY1.out.1.trans (ho.mono (fun _ h => h.elim)), HY1.out.2.1.trans ho, HY1.out.2.2.trans ho⟩
        clear ho
        refine hK.out _ _ (HSS.out _ HY2.out.2.2) (fun hHeld => ?_)
        clear hK
        (try simp only [Act.put, List.setIfInBounds_toArray, List.set_cons_zero, List.set_cons_succ])
        refine wpAnyH_take (i := 14) (oi := { dst := some 37, op := _, type := _, pos := _, after := _, guard := _ }) (v := .agg #[.int .i64 (ya : Int), .int .i64 (yb : Int), .int .i64 (xw : Int), .int .u8 (xe : Int)]) rfl (by kernel_rfl) (by kernel_rfl) (by kernel_rfl) (fun _ _ _ h => h) (Or.inl ⟨by rfl, fun w hSw => by obtain ⟨⟨y0, y1⟩, y2, y3, y4, y5⟩ := hSw; first | (go_simp; done) | go_simp⟩) (by assumption) ?_
        (try simp only [Act.put, List.setIfInBounds_toArray, List.set_cons_zero, List.set_cons_succ])
        refine wpAnyH_take (i := 15) (oi := { dst := some 38, op := _, type := _, pos := _, after := _, guard := _ }) (v := .pointer (some ⟨rb, i * 4, none⟩)) rfl (by kernel_rfl) (by kernel_rfl) (by kernel_rfl) (fun _ _ _ h => h) (Or.inl ⟨by rfl, fun w hSw => by obtain ⟨⟨y0, y1⟩, y2, y3, y4, y5⟩ := hSw; first | (go_simp; done) | go_simp⟩) (by assumption) ?_
        (try simp only [Act.put, List.setIfInBounds_toArray, List.set_cons_zero, List.set_cons_succ])
        have HOW : Hid (Y2.ownsRow rb 53 4 (.slice (some ⟨rb, 0, none⟩) nl nl) nl (lnC (rT C L i))) := own_only HG.out.1 (HO.out.1.trans HY2.out.2.2) (fun _ _ h => h)
        obtain ⟨u0, u1, u2, u3⟩ := lnC_at (rT C L i) i _ (rT_at (by rw [← HN.out.1]; exact hlt))
        obtain ⟨z0, f0, -, lx⟩ := own_cell HOW.out u0
        obtain ⟨z1, f1, -, -⟩ := own_cell HOW.out u1
        obtain ⟨z2, f2, -, -⟩ := own_cell HOW.out u2
        obtain ⟨z3, f3, -, -⟩ := own_cell HOW.out u3
        simp only at z0 z1 z2 z3
        clear u0 u1 u2 u3
        refine wpAnyH_ready (rs := [16]) (by kernel_rfl) (by simp) ?_
        refine AllReadyH.cons rfl (fun K hK => ?_) AllReadyH.nil
        rw [if_pos (by rfl)]
        go_simp
        obtain ⟨z, hz⟩ : ∃ Z, Z = (((Y2.setCell ⟨rb, i * 4, none⟩ (.int .i64 (ya : Int))).setCell ⟨rb, i * 4 + 1, none⟩ (.int .i64 (yb : Int))).setCell ⟨rb, i * 4 + 2, none⟩ (.int .i64 (xw : Int))).setCell ⟨rb, i * 4 + 3, none⟩ (.int .u8 (xe : Int)) := ⟨_, rfl⟩
        have H5 : Hid (z.ownsRow rb 53 4 (.slice (some ⟨rb, 0, none⟩) nl nl) nl (lnC (rT C L (i + 1))) ∧ Only (fun _ => False) w z ∧ Only (fun g => g = rb) w1 z ∧ Only (fun g => g = rb) W2 z) := by
          rw [hz, HNX.out]
          exact ⟨own_row4 (y := ⟨ya, yb, xw, xe⟩) HOW.out (by rw [rT_len C L (by rw [← HN.out.1]; exact hi), HN.out.1]) (rT_at (by rw [← HN.out.1]; exact hlt)), (((HY2.out.2.1.setNew (p := ⟨rb, i * 4, none⟩) HRB.out.1 _).setNew (p := ⟨rb, i * 4 + 1, none⟩) HRB.out.1 _).setNew (p := ⟨rb, i * 4 + 2, none⟩) HRB.out.1 _).setNew (p := ⟨rb, i * 4 + 3, none⟩) HRB.out.1 _, (((HY2.out.1.setCell (p := ⟨rb, i * 4, none⟩) rfl _).setCell (p := ⟨rb, i * 4 + 1, none⟩) rfl _).setCell (p := ⟨rb, i * 4 + 2, none⟩) rfl _).setCell (p := ⟨rb, i * 4 + 3, none⟩) rfl _, ((((HY2.out.2.2.mono (fun _ h => h.elim) : Only (fun g => g = rb) W2 Y2).setCell (p := ⟨rb, i * 4, none⟩) rfl _).setCell (p := ⟨rb, i * 4 + 1, none⟩) rfl _).setCell (p := ⟨rb, i * 4 + 2, none⟩) rfl _).setCell (p := ⟨rb, i * 4 + 3, none⟩) rfl _⟩
        rw [← hz]
        clear hz z0 z1 z2 z3 f0 f1 f2 f3 lx
        refine hK.out _ _ (HSF.out _ H5.out.2.2.2) (fun hHeld => ?_)
        clear hK
        (try simp only [Act.put, List.setIfInBounds_toArray, List.set_cons_zero, List.set_cons_succ])
        refine wpAnyH_done (by kernel_rfl) ?_ _
        clear hHeld
        go_wp2_with fail
        go_roundg (nl - (i + 1))
        case measure => omega
        case rel => exact ⟨i + 1, _, rfl, rfl, by omega, by go_num, H5.out.1, H5.out.2.1, H5.out.2.2.1⟩
      · have t2 : decide ((i : Int) < (nl : Int)) = false := decide_eq_false (by omega)
        have hin : i = nl := by omega
        subst hin
        go_wp2_with fail
        go_ret
        refine ⟨_, _, by rw [HE.out, List.length_map, ← HN.out.1]; rfl, ?_, HG.out.2.1⟩
        rw [HE.out, ← rT_all, ← HN.out.1]
        exact own_vw HG.out.1
end Go.Proofs.Ytdepjmneoplicaa
/-
  lines.Cost: what lines cost.
-/
namespace Go.Proofs.Ytdepjmneoplicaa
open Go.RowKit Go.Maps
set_option linter.unusedVariables false
set_option linter.unusedSimpArgs false
theorem lco_yes {C : List Ct} {O : List Nat} {t wi hy pr lo i s y : Nat} {L : List Ln} {x : Ln} (h : L[i]? = some x) (hs : Lv.lco C O t wi hy pr lo (L.take i) = some s) (hy' : Sp.cos C O t wi hy pr lo (decide (O.getD x.b 0 = 2)) x.a x.b = some y) : Lv.lco C O t wi hy pr lo (L.take (i + 1)) = some (s + y) := by
  have e : Lv.lco C O t wi hy pr lo [x] = some y := by
    show (match Sp.cos C O t wi hy pr lo (decide (O.getD x.b 0 = 2)) x.a x.b, some 0 with
      | some x, some y => some (x + y)
      | _, _ => none) = _
    rw [hy']
    rfl
  rw [take_snoc h, Lv.lco_app, hs, e]
theorem lco_no {C : List Ct} {O : List Nat} {t wi hy pr lo i s : Nat} {L : List Ln} {x : Ln} (h : L[i]? = some x) (hs : Lv.lco C O t wi hy pr lo (L.take i) = some s) (hy' : Sp.cos C O t wi hy pr lo (decide (O.getD x.b 0 = 2)) x.a x.b = none) : Lv.lco C O t wi hy pr lo L = none := by
  have e : Lv.lco C O t wi hy pr lo [x] = none := by
    show (match Sp.cos C O t wi hy pr lo (decide (O.getD x.b 0 = 2)) x.a x.b, some 0 with
      | some x, some y => some (x + y)
      | _, _ => none) = _
    rw [hy']
  have e2 : L = L.take (i + 1) ++ L.drop (i + 1) := (List.take_append_drop _ _).symm
  rw [e2, Lv.lco_app, take_snoc h, Lv.lco_app, hs, e]
set_option maxRecDepth 100000 in
set_option maxHeartbeats 8000000 in
theorem lcost_any (C : List Ct) (O : List Nat) (n m : Nat) (aC aO : Option Addr) (cC cO : Nat) (L : List Ln) (nl : Nat) (aL : Option Addr) (cL wi t mo hy pr lo : Nat) (w : World) (hP : Pv w C O n m aC aO cC cO) (hm : n < m) (hL : nl = L.length) (hV : Vw w aL (lnC L)) (hl : nl ≤ 10000) (hG : ∀ l ∈ L, l.a ≤ n ∧ l.b ≤ n) (hw : wi ≤ 1048576) (h0 : 0 < t) (ht : t ≤ 1000) (hhy : hy ≤ 2097152) (hpr : pr ≤ 1048576) :
    Calls Try.prog 23 #[.agg #[.slice aC n cC, .slice aO m cO], .slice aL nl cL, .agg #[.int .i64 (wi : Int), .int .i64 (t : Int), .int .u8 (mo : Int), .int .i64 (hy : Int), .int .i64 (pr : Int), .float .f64 lo]] w fun e w' => e = .returned (Sp.cosV (Lv.lco C O t wi hy pr lo L)) ∧ Only (fun _ => False) w w' := by
  have HEN : Hid (∀ W' k e, Only (fun _ => False) w W' → k ≤ n → O.getD k 0 = e → Calls Try.prog 32 #[.agg #[.slice aC n cC, .slice aO m cO], .int .i64 ((k : Nat) : Int)] W' fun r w' => r = .returned (.tuple #[.int .u8 (e : Int), .bool (decide (e ≠ 0))]) ∧ Only (fun _ => False) W' w') := fun W' k e ho hk he => by
    obtain ⟨e', h1, h2⟩ := getD_some' (O := O) (k := k) (by rw [← hP.hm]; omega)
    have q : e = e' := by rw [← he, h2]
    subst q
    exact ends_any C O n m aC aO cC cO k e W' (hP.keep ho) (by omega) h1
  have HCO : Hid (∀ W' a b la, Only (fun _ => False) w W' → a ≤ n → b ≤ n → Calls Try.prog 33 #[.agg #[.slice aC n cC, .slice aO m cO], .int .i64 ((a : Nat) : Int), .int .i64 ((b : Nat) : Int), .bool la, .agg #[.int .i64 (wi : Int), .int .i64 (t : Int), .int .u8 (mo : Int), .int .i64 (hy : Int), .int .i64 (pr : Int), .float .f64 lo]] W' fun e w' => e = .returned (Sp.cosV (Sp.cos C O t wi hy pr lo la a b)) ∧ Only (fun _ => False) W' w') := fun W' a b la ho ha hb => cost_any C O n m aC aO cC cO a b wi t mo hy pr lo la W' (hP.keep ho) hm ha hb hw h0 ht hhy hpr
  have HFM : Hid (∀ la a b y, Sp.cos C O t wi hy pr lo la a b = some y → y ≤ 200000000) := fun la a b y h => (cos_le hhy hpr h).1
  have HN : Hid (nl = L.length ∧ Vw w aL (lnC L)) := ⟨hL, hV⟩
  have HGL : Hid (∀ l ∈ L, l.a ≤ n ∧ l.b ≤ n) := hG
  have HYES : Hid (∀ (i s y : Nat) (x : Ln), L[i]? = some x → Lv.lco C O t wi hy pr lo (L.take i) = some s → Sp.cos C O t wi hy pr lo (decide (O.getD x.b 0 = 2)) x.a x.b = some y → Lv.lco C O t wi hy pr lo (L.take (i + 1)) = some (s + y)) := fun i s y x => lco_yes
  have HNO : Hid (∀ (i s : Nat) (x : Ln), L[i]? = some x → Lv.lco C O t wi hy pr lo (L.take i) = some s → Sp.cos C O t wi hy pr lo (decide (O.getD x.b 0 = 2)) x.a x.b = none → Lv.lco C O t wi hy pr lo L = none) := fun i s x => lco_no
  have HTA : Hid (∀ i, i = nl → Lv.lco C O t wi hy pr lo (L.take i) = Lv.lco C O t wi hy pr lo L) := fun i h => by rw [List.take_of_length_le (by rw [h, hL]; exact Nat.le_refl _)]
  have HZ : Hid (Lv.lco C O t wi hy pr lo (L.take 0) = some 0) := (rfl : Lv.lco C O t wi hy pr lo (L.take 0) = some 0)
  have HOB : Hid (∀ k, O.getD k 0 < 256) := fun k => by
    by_cases hk : k < O.length
    · obtain ⟨e', h1, h2⟩ := getD_some' (O := O) (k := k) hk
      rw [h2]
      exact hP.oO e' (List.mem_of_getElem? h1)
    · rw [List.getD_eq_getElem?_getD, List.getElem?_eq_none (by omega)]
      exact (by decide : 0 < 256)
  obtain ⟨fL, hfL⟩ : ∃ f, f = Lv.lco C O t wi hy pr lo := ⟨_, rfl⟩
  obtain ⟨fC, hfC⟩ : ∃ f, f = Sp.cos C O t wi hy pr lo := ⟨_, rfl⟩
  rw [← hfL] at HYES HNO HTA HZ ⊢
  rw [← hfC] at HCO HFM HYES HNO
  clear hP hL hV hG hfL hfC
  go_enter Try.func23, Try.ntmps23
  go_upto_region 1 with fail
  obtain ⟨R, B, w0, hw0, hB, hR, H0, lRB, lB, lB0⟩ := box26 w (.slice aC n cC) (.slice aO m cO) (.int .i64 (wi : Int)) (.int .i64 (t : Int)) (.int .u8 (mo : Int)) (.int .i64 (hy : Int)) (.int .i64 (pr : Int)) (.float .f64 lo) 31 35
  rw [hw0, hB, hR]
  clear hw0 hB hR
  have HS : Hid (∀ W', Only (fun _ => False) w0 W' → ((W'.cell? ⟨R, 0, none⟩ = some (.slice aC n cC) ∧ W'.cell? ⟨R, 1, none⟩ = some (.slice aO m cO)) ∧ (W'.cell? ⟨B, 0, none⟩ = some (.int .i64 (wi : Int)) ∧ W'.cell? ⟨B, 1, none⟩ = some (.int .i64 (t : Int)) ∧ W'.cell? ⟨B, 2, none⟩ = some (.int .u8 (mo : Int)) ∧ W'.cell? ⟨B, 3, none⟩ = some (.int .i64 (hy : Int)) ∧ W'.cell? ⟨B, 4, none⟩ = some (.int .i64 (pr : Int)) ∧ W'.cell? ⟨B, 5, none⟩ = some (.float .f64 lo))) ∧ R < W'.heap.size ∧ B < W'.heap.size) := fun W' ho => by
    have e1 := blk_keep ho H0.out.1
    have e2 := blk_keep ho H0.out.2.1
    exact ⟨⟨⟨(blk_two e1).1, (blk_two e1).2.1⟩, blk_six e2⟩, (blk_two e1).2.2, (Array.getElem?_eq_some_iff.1 e2).1⟩
  have HW0 : Hid (Only (fun _ => False) w w0) := H0.out.2.2
  clear lRB lB lB0
  go_wp2_with fail
  go_loopg [8, 17] nl (fun gh v8 v17 wr => ∃ (i s : Nat) (W : World), W = wr ∧ gh = nl - i ∧ i ≤ nl ∧ v8 = .int .i64 (s : Int) ∧ v17 = .int .i64 (i : Int) ∧ fL (L.take i) = some s ∧ s ≤ 200000000 * i ∧ Only (fun _ => False) w0 W)
  case atStart => exact ⟨0, 0, _, rfl, rfl, Nat.zero_le _, rfl, rfl, HZ.out, Nat.zero_le _, Only.refl _ _⟩
  case round =>
    obtain ⟨i, s, W, hW, rfl, hi, rfl, rfl, hs, hsi, hoW⟩ := hrel
    subst hW
    have HG : Hid (fL (L.take i) = some s ∧ Only (fun _ => False) w0 W ∧ Only (fun _ => False) w W) := ⟨hs, hoW, HW0.out.trans hoW⟩
    clear hs hoW
    by_cases hlt : i < nl
    · have t2 : (i : Int) < (nl : Int) := by omega
      obtain ⟨x, hx⟩ : ∃ x, L[i]? = some x := ⟨_, List.getElem?_eq_getElem (by rw [← HN.out.1]; exact hlt)⟩
      obtain ⟨han, hbn⟩ := HGL.out x (List.mem_of_getElem? hx)
      obtain ⟨g, off, rfl, hg, c0', c1', c2', c3'⟩ := (HN.out.2.keep HG.out.2.2).line hx
      have HX : Hid (L[i]? = some x) := hx
      obtain ⟨xa, xb, xw, xe⟩ := x
      simp only at c0' c1' c2' c3' han hbn
      clear hx
      go_upto_region 5 with (refine wpList_store_row rfl 54 _ _ rfl W.heap.size #[.int .i64 (xa : Int), .int .i64 (xb : Int), .int .i64 (xw : Int), .int .u8 (xe : Int)] rfl rfl 54 _ (heap_alloc_new W _) (by kernel_rfl) rfl (ln_one _ _ _ _) ?_)
      obtain ⟨D, W2, hW2, hD, ⟨d0, d1, d2, d3, lD⟩, HO⟩ := box4s W (.int .i64 0) (.int .i64 0) (.int .i64 0) (.int .u8 0) (.int .i64 (xa : Int)) (.int .i64 (xb : Int)) (.int .i64 (xw : Int)) (.int .u8 (xe : Int)) 54
      rw [hW2, hD]
      clear hW2 hD c0' c1' c2' c3' hg
      have H2 : Hid (Only (fun _ => False) w0 W2 ∧ Only (fun _ => False) w W2) := ⟨HG.out.2.1.trans HO.out.1, HG.out.2.2.trans HO.out.1⟩
      obtain ⟨ee, hee⟩ : ∃ z, z = O.getD xb 0 := ⟨_, rfl⟩
      have HEE : Hid (O.getD xb 0 = ee) := hee.symm
      have he8 : ee < 256 := by rw [hee]; exact HOB.out xb
      obtain ⟨la, hla⟩ : ∃ q : Bool, q = decide (O.getD xb 0 = 2) := ⟨_, rfl⟩
      have t5 : ((ee : Int) == 2) = la := by
        rw [hla, hee]
        by_cases h : O.getD xb 0 = 2
        · rw [decide_eq_true h, beq_iff_eq]; omega
        · rw [decide_eq_false h, beq_eq_false_iff_ne]; omega
      have HLA : Hid (decide (O.getD xb 0 = 2) = la) := hla.symm
      clear hee hla
      obtain ⟨⟨⟨r0, r1⟩, k0, k1, k2, k3, k4, k5⟩, lR, lBz⟩ := HS.out W2 H2.out.1
      go_wp2_with fail
      refine Calls.mono (HEN.out _ xb ee H2.out.2 hbn HEE.out) ?_
      rintro e W3 ⟨rfl, ho3⟩
      have H3 : Hid (Only (fun _ => False) w0 W3 ∧ Only (fun _ => False) w W3 ∧ Only (fun _ => False) W2 W3) := ⟨H2.out.1.trans ho3, H2.out.2.trans ho3, ho3⟩
      clear ho3 r0 r1 k0 k1 k2 k3 k4 k5 lR lBz d0 d1 d2 d3 lD
      obtain ⟨⟨⟨r0, r1⟩, k0, k1, k2, k3, k4, k5⟩, lR, lBz⟩ := HS.out W3 H3.out.1
      have eD := blk_keep H3.out.2.2 HO.out.2.1
      obtain ⟨d0, d1, d2, d3⟩ := blk_four eD
      have lD := (Array.getElem?_eq_some_iff.1 eD).1
      clear eD
      obtain ⟨qq, hqq⟩ : ∃ q, q = decide (ee ≠ 0) := ⟨_, rfl⟩
      rw [← hqq]
      clear hqq
      have HCL : Hid (Calls Try.prog 33 #[.agg #[.slice aC n cC, .slice aO m cO], .int .i64 (xa : Int), .int .i64 (xb : Int), .bool la, .agg #[.int .i64 (wi : Int), .int .i64 (t : Int), .int .u8 (mo : Int), .int .i64 (hy : Int), .int .i64 (pr : Int), .float .f64 lo]] W3 fun e w' => e = .returned (Sp.cosV (fC la xa xb)) ∧ Only (fun _ => False) W3 w') := HCO.out W3 xa xb la H3.out.2.1 han hbn
      cases hfx : fC la xa xb with
      | none =>
        rw [hfx] at HCL
        have HNN : Hid (fL L = none) := HNO.out i s ⟨xa, xb, xw, xe⟩ HX.out HG.out.1 (by show fC (decide (O.getD xb 0 = 2)) xa xb = none; rw [HLA.out]; exact hfx)
        clear hfx
        go_wp2_with fail
        refine Calls.mono HCL.out ?_
        rintro e W4 ⟨rfl, ho4⟩
        have H4 : Hid (Only (fun _ => False) w W4) := H3.out.2.1.trans ho4
        clear ho4 r0 r1 k0 k1 k2 k3 k4 k5 lR lBz d0 d1 d2 d3 lD
        unfold Sp.cosV
        go_wp2_with fail
        go_ret2
        exact ⟨by rw [HNN.out]; rfl, H4.out⟩
      | some y =>
        rw [hfx] at HCL
        have hy2 : y ≤ 200000000 := HFM.out la xa xb y hfx
        have HYY : Hid (fL (L.take (i + 1)) = some (s + y)) := HYES.out i s y ⟨xa, xb, xw, xe⟩ HX.out HG.out.1 (by show fC (decide (O.getD xb 0 = 2)) xa xb = some y; rw [HLA.out]; exact hfx)
        clear hfx
        go_wp2_with fail
        refine Calls.mono HCL.out ?_
        rintro e W4 ⟨rfl, ho4⟩
        have H4 : Hid (Only (fun _ => False) w0 W4) := H3.out.1.trans ho4
        clear ho4 r0 r1 k0 k1 k2 k3 k4 k5 lR lBz d0 d1 d2 d3 lD
        have hsy : s ≤ 2000000000000 := by omega
        unfold Sp.cosV
        go_wp2_with fail
        go_roundg (nl - (i + 1))
        case measure => omega
        case rel => exact ⟨i + 1, s + y, _, rfl, rfl, by omega, by go_num, by go_num, HYY.out, by omega, H4.out⟩
    · have t2 : decide ((i : Int) < (nl : Int)) = false := decide_eq_false (by omega)
      have HE : Hid (fL L = some s) := by
        have h := HTA.out i (by omega)
        rw [HG.out.1] at h
        exact h.symm
      go_wp2_with fail
      go_ret2
      exact ⟨by rw [HE.out]; rfl, HG.out.2.2⟩
end Go.Proofs.Ytdepjmneoplicaa
/-
  The document's Rows: lines in bytes.
-/
namespace Go.Proofs.Ytdepjmneoplicaa
open Go.RowKit Go.Maps
set_option linter.unusedVariables false
set_option linter.unusedSimpArgs false
theorem src_noneR (w : World) (a : Option Addr) (c : Nat) {i : TypeInfo} (hs : i.size = 4) : Src Try.prog i.size 42 (.slice a 0 c) 0 [] w := by
  refine ⟨Or.inl ⟨53, Try.underlying42⟩, fun w' => ?_, ?_, ?_, by simp, fun u h => by cases h⟩
  · simp [Builtin.lenOf]
  · cases a <;> simp [Builtin.firstCells, loadCells, loadCellsFrom]
  · cases a <;> simp [Builtin.firstCells, loadCells, loadCellsFrom]
theorem run_appR (w : World) (base : Nat) (al : Option Addr) (n c : Nat) (D : List Ln) (hown : w.ownsRow base 53 4 (.slice al n c) n (lnC D))
    (aX : Option Addr) (m cX : Nat) (M : List Ln) (hM : m = M.length) (hV : Vw w aX (lnC M)) (hsz : n + m ≤ 1000000) (hbase : base ≤ w.heap.size) (ty : TypeId) :
    ∃ al' cap w', (Builtin.append_ #[42, 42] ty #[.slice al n c, .slice aX m cX]).run Try.prog w = .ok (.slice al' (n + m) cap) w' ∧ w'.ownsRow base 53 4 (.slice al' (n + m) cap) (n + m) (lnC (D ++ M)) ∧ Only (fun q => (Value.slice al n c).ownBlock = some q) w w' := by
  obtain ⟨i3, g3, g30, g31, g32⟩ := info_parts infoRow
  by_cases hm : m = 0
  · subst hm
    obtain rfl : M = [] := List.eq_nil_of_length_eq_zero hM.symm
    have hr := run_append_nothing (P := Try.prog) w 42 42 ty 53 i3 Try.underlying42 g3 al n c (own_le hown) (.slice aX 0 cX) (src_noneR w aX cX g31)
    exact ⟨al, c, w, hr, by rw [List.append_nil]; exact hown, Only.refl _ _⟩
  · obtain ⟨b, off, rfl, hb, hcc⟩ := hV.cells (by rw [lnC_len, ← hM]; omega)
    obtain ⟨v', w', hr, h2, h3, h4, h5⟩ := run_append_own_at (P := Try.prog) (w := w) base 42 ty 53 i3 _ 4 32 Try.underlying42 g3 g30 g31 g32 rfl (by decide) (.slice al n c) n (lnC D) hown ⟨b, off, none⟩ m cX (lnC M) (by rw [lnC_len, hM]) (fun j u hj => by rw [Addr.add_mid]; exact hcc j u hj) (lnC_one M) (by unfold maxLen; omega) (by omega) hbase
    obtain ⟨g, cap, rfl, hg1, hg2, hg3⟩ := own_addr h2 (fun e => by have := (h4.1 e).2; omega)
    exact ⟨_, cap, w', hr, by rw [lnC_append]; exact h2, (Only.refl (fun q => (Value.slice al n c).ownBlock = some q) w).grown h3 (fun k hk => hk)⟩
theorem wp_appR {o : Oper} {a : Act} {w : World} {K : Act → World → Prop} {Q : Exit → Act → World → Prop} (s x : Operand)
    (hop : o.op = .call { callee := .builtin .append, args := #[s, x], argTypes := #[42, 42] }) (base : Nat) (al : Option Addr) (n c : Nat) (D : List Ln) (hs : a.eval s = .slice al n c) (hown : w.ownsRow base 53 4 (.slice al n c) n (lnC D))
    (aX : Option Addr) (m cX : Nat) (M : List Ln) (hx : a.eval x = .slice aX m cX) (hM : m = M.length) (hV : Vw w aX (lnC M)) (N : Nat) (hN : n + m = N) (hsz : N ≤ 1000000) (hbase : base ≤ w.heap.size)
    (h : ∀ al' cap w', w'.ownsRow base 53 4 (.slice al' N cap) N (lnC (D ++ M)) → Only (fun q => (Value.slice al n c).ownBlock = some q) w w' → K (a.put o.dst (.slice al' N cap)) w') :
    Oper.wp Try.prog o a w K Q := by
  subst hN
  obtain ⟨al', cap, w', hr, h2, h3⟩ := run_appR w base al n c D hown aX m cX M hM hV hsz hbase o.type
  unfold Oper.wp execOp
  simp only [hop, resolve, invoke, builtin, Sem.run_bind, Sem.run_pure, Result.andThen_ok, List.map_toArray, List.map_cons, List.map_nil, hs, hx, hr]
  exact h al' cap w' h2 h3
theorem wpList_appR {ops : Array Oper} {rest : List Oper} {o : Oper} {a : Act} {w : World} {Q : Exit → Act → World → Prop} (hgd : o.guard = none) (s x : Operand)
    (hop : o.op = .call { callee := .builtin .append, args := #[s, x], argTypes := #[42, 42] }) (base : Nat) (al : Option Addr) (n c : Nat) (D : List Ln) (hs : a.eval s = .slice al n c) (hown : w.ownsRow base 53 4 (.slice al n c) n (lnC D))
    (aX : Option Addr) (m cX : Nat) (M : List Ln) (hx : a.eval x = .slice aX m cX) (hM : m = M.length) (hV : Vw w aX (lnC M)) (N : Nat) (hN : n + m = N) (hsz : N ≤ 1000000) (hbase : base ≤ w.heap.size)
    (h : ∀ al' cap w', w'.ownsRow base 53 4 (.slice al' N cap) N (lnC (D ++ M)) → Only (fun q => (Value.slice al n c).ownBlock = some q) w w' → wpList Try.prog ops Q rest (a.put o.dst (.slice al' N cap)) w') :
    wpList Try.prog ops Q (o :: rest) a w :=
  wpList_plain hgd fun _ hK => wp_appR s x hop base al n c D hs hown aX m cX M hx hM hV N hN hsz hbase (fun al' cap w' h1 h2 => hK _ _ (h al' cap w' h1 h2))
theorem appR_only {W w w' : World} {al : Option Addr} {n c : Nat} {D : List Ln} (hown : w.ownsRow W.heap.size 53 4 (.slice al n c) n (lnC D)) (h : Only (fun q => (Value.slice al n c).ownBlock = some q) w w') (ho : Only (fun g => W.heap.size ≤ g) W w) : Only (fun g => W.heap.size ≤ g) W w' := ho.trans (h.mono (fun g hg => (own_own hown hg).1))
theorem blk_own {w w' : World} {base e size n B : Nat} {v : Value} {xs : List Value} {cs : Array Value} {t : TypeId} (ho : Only (fun q => v.ownBlock = some q) w w') (h : w.ownsRow base e size v n xs) (hB : w.heap[B]? = some (.cells cs t (0, 0))) (ht : t ≠ e) : w'.heap[B]? = some (.cells cs t (0, 0)) := by
  refine (ho.block B (Array.getElem?_eq_some_iff.1 hB).1 (fun hq => ?_)).trans hB
  obtain ⟨_, cur, hc⟩ := own_own h hq
  rw [hB] at hc
  injection hc with hc
  injection hc with h1 h2
  exact ht h2
theorem vw_row {w : World} {B a b c e : Nat} {t : TypeId} (h : w.heap[B]? = some (.cells #[.int .i64 (a : Int), .int .i64 (b : Int), .int .i64 (c : Int), .int .u8 (e : Int)] t (0, 0))) : Vw w (some ⟨B, 0, none⟩) (lnC [⟨a, b, c, e⟩]) := by
  refine Or.inr ⟨_, _, rfl, fun j u hj => ?_⟩
  rw [Nat.zero_add, cell_blk h, ← Array.getElem?_toList]
  exact hj
set_option maxRecDepth 100000 in
set_option maxHeartbeats 8000000 in
theorem refRows_any (C : List Ct) (O : List Nat) (n m : Nat) (aC aO : Option Addr) (cC cO : Nat) (L : List Ln) (nl : Nat) (aL : Option Addr) (cL : Nat) (w : World) (hP : Pv w C O n m aC aO cC cO) (hC : Lv.Ctg C) (hs : It.sum C ≤ 1000000) (hL : nl = L.length) (hV : Vw w aL (lnC L)) (hl : nl ≤ 100000) (hG : ∀ l ∈ L, l.a < l.b ∧ l.b ≤ n) :
    Calls Try.prog 17 #[.agg #[.slice aC n cC, .slice aO m cO], .slice aL nl cL] w (rwP (rws C L) w) := by
  have HP : Hid (Pv w C O n m aC aO cC cO) := hP
  have HC : Hid (∀ (i : Nat) (c : Ct), C[i]? = some c → c.pl + c.len ≤ 1000000) := fun i c h => ctg_le hC hs h
  have HN : Hid (nl = L.length ∧ Vw w aL (lnC L)) := ⟨hL, hV⟩
  have HNC : Hid (n = C.length) := hP.hn
  have HGL : Hid (∀ l ∈ L, l.a < l.b ∧ l.b ≤ n) := hG
  have hn1 := hP.few
  have hcap := hP.cap
  clear hP hC hs hL hV hG
  go_enter Try.func17, Try.ntmps17
  go_upto_region 1 with fail
  obtain ⟨R, w0, hw0, hR, H0, r0, r1, lR⟩ := box2 w (.slice aC n cC) (.slice aO m cO) 31
  rw [hw0, hR]
  clear hw0 hR r0 r1 lR
  go_wp2_with fail
  go_loopg [5, 6] nl (fun gh v5 v6 wr => ∃ (i : Nat) (al : Option Addr) (c : Nat) (W : World), W = wr ∧ gh = nl - i ∧ i ≤ nl ∧ v5 = .slice al i c ∧ v6 = .int .i64 (i : Int) ∧ W.ownsRow w0.heap.size 53 4 (.slice al i c) i (lnC ((L.take i).map (Lv.row C))) ∧ Only (fun g => w0.heap.size ≤ g) w0 W)
  case atStart => exact ⟨0, none, 0, _, rfl, rfl, Nat.zero_le _, rfl, rfl, ⟨rfl, Or.inl ⟨rfl, rfl⟩⟩, Only.refl _ _⟩
  case round =>
    obtain ⟨i, al, c, W, hW, rfl, hi, rfl, rfl, hown, hoW⟩ := hrel
    subst hW
    have HG : Hid (W.ownsRow w0.heap.size 53 4 (.slice al i c) i (lnC ((L.take i).map (Lv.row C))) ∧ Only (fun g => w0.heap.size ≤ g) w0 W) := ⟨hown, hoW⟩
    have HWW : Hid (Only (fun _ => False) w W ∧ Only (fun _ => False) w0 W) := ⟨H0.out.2.trans (hoW.old (fun b hb => Or.inl hb)), hoW.old (fun b hb => Or.inl hb)⟩
    have hsW := hoW.size
    clear hown hoW
    by_cases hlt : i < nl
    · have t2 : (i : Int) < (nl : Int) := by omega
      obtain ⟨x, hx⟩ : ∃ x, L[i]? = some x := ⟨_, List.getElem?_eq_getElem (by rw [← HN.out.1]; exact hlt)⟩
      obtain ⟨hab, hbn⟩ := HGL.out x (List.mem_of_getElem? hx)
      have HNX0 : (L.take (i + 1)).map (Lv.row C) = (L.take i).map (Lv.row C) ++ [Lv.row C x] := by rw [take_snoc hx, List.map_append]; rfl
      obtain ⟨g, off, rfl, hg, c0', c1', c2', c3'⟩ := HN.out.2.line hx
      obtain ⟨xa, xb, xw, xe⟩ := x
      simp only at c0' c1' c2' c3' hab hbn
      obtain ⟨jb, hjb⟩ : ∃ j, j = xb - 1 := ⟨_, rfl⟩
      have ejb : IntKind.i64.wrap ((xb : Int) - 1) = (jb : Int) := by rw [hjb]; exact (wrap_sm _ (by omega) (by omega)).trans (by omega)
      have hja : xa < n := by omega
      have hjbn : jb < n := by omega
      have hjaI : (xa : Int) < (n : Int) := by omega
      have hjbI : (jb : Int) < (n : Int) := by omega
      obtain ⟨cp, hcp⟩ : ∃ z, C[xa]? = some z := ⟨_, List.getElem?_eq_getElem (by rw [← HNC.out]; exact hja)⟩
      obtain ⟨cq, hcq⟩ : ∃ z, C[jb]? = some z := ⟨_, List.getElem?_eq_getElem (by rw [← HNC.out]; exact hjbn)⟩
      have hql := HC.out jb cq hcq
      have ep : Sp.at' C xa = cp := by unfold Sp.at'; rw [List.getD_eq_getElem?_getD, hcp]; rfl
      have eq' : Sp.at' C jb = cq := by unfold Sp.at'; rw [List.getD_eq_getElem?_getD, hcq]; rfl
      have HROW : Lv.row C ⟨xa, xb, xw, xe⟩ = ⟨cp.pl, cq.pl + cq.len, xw, xe⟩ := by
        unfold Lv.row
        simp only
        rw [← hjb, ep, eq']
      rw [HROW] at HNX0
      obtain ⟨q0, q1, q2, q3⟩ := ctC_at C xa cp hcp
      obtain ⟨s0, s1, s2, s3⟩ := ctC_at C jb cq hcq
      obtain ⟨bc, oc, eC, hbc, hc⟩ := HP.out.vC.cells (by rw [ctC_len, ← HNC.out]; omega)
      subst eC
      obtain ⟨pp, pl, pc, pk⟩ := cp
      obtain ⟨qp, ql, qc, qk⟩ := cq
      simp only at q0 q1 q2 q3 s0 s1 s2 s3 hql HNX0
      obtain ⟨z2, hz2⟩ : ∃ z, z = qp + ql := ⟨_, rfl⟩
      have ez2 : IntKind.i64.wrap ((qp : Int) + (ql : Int)) = (z2 : Int) := by rw [hz2]; exact (wrap_sm _ (by omega) (by omega)).trans (by omega)
      rw [← hz2] at HNX0
      have HNX : Hid ((L.take (i + 1)).map (Lv.row C) = (L.take i).map (Lv.row C) ++ [⟨pp, z2, xw, xe⟩]) := HNX0
      have HSS : Hid (∀ W', Only (fun _ => False) W W' → (fun W' => W'.cell? ⟨R, 0, none⟩ = some (.slice (some ⟨bc, oc, none⟩) n cC) ∧ W'.cell? ⟨bc, oc + xa * 4, none⟩ = some (.int .i64 (pp : Int)) ∧ W'.cell? ⟨bc, oc + xa * 4 + 1, none⟩ = some (.int .i64 (pl : Int)) ∧ W'.cell? ⟨bc, oc + xa * 4 + 2, none⟩ = some (.int .i64 pc) ∧ W'.cell? ⟨bc, oc + xa * 4 + 3, none⟩ = some (.int .u8 (pk : Int)) ∧ W'.cell? ⟨bc, oc + jb * 4, none⟩ = some (.int .i64 (qp : Int)) ∧ W'.cell? ⟨bc, oc + jb * 4 + 1, none⟩ = some (.int .i64 (ql : Int)) ∧ W'.cell? ⟨bc, oc + jb * 4 + 2, none⟩ = some (.int .i64 qc) ∧ W'.cell? ⟨bc, oc + jb * 4 + 3, none⟩ = some (.int .u8 (qk : Int)) ∧ W'.cell? ⟨g, off + i * 4, none⟩ = some (.int .i64 (xa : Int)) ∧ W'.cell? ⟨g, off + i * 4 + 1, none⟩ = some (.int .i64 (xb : Int))) W') := fun W' ho => by
        have h2 := HWW.out.1.trans ho
        exact ⟨(blk_two (blk_keep (HWW.out.2.trans ho) H0.out.1)).1, keep0 h2 (hc _ _ q0), keep0 h2 (hc _ _ q1), keep0 h2 (hc _ _ q2), keep0 h2 (hc _ _ q3), keep0 h2 (hc _ _ s0), keep0 h2 (hc _ _ s1), keep0 h2 (hc _ _ s2), keep0 h2 (hc _ _ s3), keep0 h2 c0', keep0 h2 c1'⟩
      have HLN : Hid (∀ W', Only (fun _ => False) W W' → W'.cell? ⟨g, off + i * 4 + 2, none⟩ = some (.int .i64 (xw : Int)) ∧ W'.cell? ⟨g, off + i * 4 + 3, none⟩ = some (.int .u8 (xe : Int))) := fun W' ho => ⟨keep0 (HWW.out.1.trans ho) c2', keep0 (HWW.out.1.trans ho) c3'⟩
      have hgw : g < w0.heap.size := Nat.lt_of_lt_of_le hg H0.out.2.size
      have hgl : g < W.heap.size := Nat.lt_of_lt_of_le hg HWW.out.1.size
      have hbl : bc < W.heap.size := Nat.lt_of_lt_of_le hbc HWW.out.1.size
      clear hx HNX0 HROW ep eq' hcp hcq hc q0 q1 q2 q3 s0 s1 s2 s3 c0' c1' c2' c3' hjb hz2 hg hbc
      go_upto_region 5 with fail
      go_cut [7, 8] from 15 to 33 (fun v7 v8 wr => ∃ (B7 B8 : Nat) (X : World), X = wr ∧ v7 = .pointer (some ⟨B7, 0, none⟩) ∧ v8 = .pointer (some ⟨B8, 0, none⟩) ∧ Only (fun _ => False) W X ∧ X.heap[B7]? = some (.cells #[.int .i64 (pp : Int), .int .i64 (pl : Int), .int .i64 pc, .int .u8 (pk : Int)] 66 (0, 0)) ∧ X.heap[B8]? = some (.cells #[.int .i64 (qp : Int), .int .i64 (ql : Int), .int .i64 qc, .int .u8 (qk : Int)] 66 (0, 0)))
      case first =>
        have HD : Hid (Only (fun _ => False) W W.drew) := (Only.refl _ _).drew
        refine wp_region_held_drew (S := (fun W' => W'.cell? ⟨R, 0, none⟩ = some (.slice (some ⟨bc, oc, none⟩) n cC) ∧ W'.cell? ⟨bc, oc + xa * 4, none⟩ = some (.int .i64 (pp : Int)) ∧ W'.cell? ⟨bc, oc + xa * 4 + 1, none⟩ = some (.int .i64 (pl : Int)) ∧ W'.cell? ⟨bc, oc + xa * 4 + 2, none⟩ = some (.int .i64 pc) ∧ W'.cell? ⟨bc, oc + xa * 4 + 3, none⟩ = some (.int .u8 (pk : Int)) ∧ W'.cell? ⟨bc, oc + jb * 4, none⟩ = some (.int .i64 (qp : Int)) ∧ W'.cell? ⟨bc, oc + jb * 4 + 1, none⟩ = some (.int .i64 (ql : Int)) ∧ W'.cell? ⟨bc, oc + jb * 4 + 2, none⟩ = some (.int .i64 qc) ∧ W'.cell? ⟨bc, oc + jb * 4 + 3, none⟩ = some (.int .u8 (qk : Int)) ∧ W'.cell? ⟨g, off + i * 4, none⟩ = some (.int .i64 (xa : Int)) ∧ W'.cell? ⟨g, off + i * 4 + 1, none⟩ = some (.int .i64 (xb : Int)))) (by kernel_rfl) (HSS.out _ HD.out) (fun hHeld => ?_)
        refine wpAnyH_take (i := 0) (oi := { dst := some 15, op := _, type := _, pos := _, after := _, guard := _ }) (v := .pointer (some ⟨R, 0, none⟩)) rfl (by kernel_rfl) (by kernel_rfl) (by kernel_rfl) (fun _ _ _ h => h) (Or.inl ⟨by rfl, fun w hSw => by obtain ⟨y0, y1, y2, y3, y4, y5, y6, y7, y8, y9, y10⟩ := hSw; first | (go_simp; done) | go_simp⟩) (by assumption) ?_
        (try simp only [Act.put, List.setIfInBounds_toArray, List.set_cons_zero, List.set_cons_succ])
        refine wpAnyH_take (i := 1) (oi := { dst := some 16, op := _, type := _, pos := _, after := _, guard := _ }) (v := .slice (some ⟨bc, oc, none⟩) n cC) rfl (by kernel_rfl) (by kernel_rfl) (by kernel_rfl) (fun _ _ _ h => h) (Or.inl ⟨by rfl, fun w hSw => by obtain ⟨y0, y1, y2, y3, y4, y5, y6, y7, y8, y9, y10⟩ := hSw; first | (go_simp; done) | go_simp⟩) (by assumption) ?_
        (try simp only [Act.put, List.setIfInBounds_toArray, List.set_cons_zero, List.set_cons_succ])
        refine wpAnyH_take (i := 2) (oi := { dst := some 17, op := _, type := _, pos := _, after := _, guard := _ }) (v := .slice (some ⟨g, off, none⟩) nl cL) rfl (by kernel_rfl) (by kernel_rfl) (by kernel_rfl) (fun _ _ _ h => h) (Or.inl ⟨by rfl, fun w hSw => by obtain ⟨y0, y1, y2, y3, y4, y5, y6, y7, y8, y9, y10⟩ := hSw; first | (go_simp; done) | go_simp⟩) (by assumption) ?_
        (try simp only [Act.put, List.setIfInBounds_toArray, List.set_cons_zero, List.set_cons_succ])
        refine wpAnyH_take (i := 3) (oi := { dst := some 18, op := _, type := _, pos := _, after := _, guard := _ }) (v := .int .i64 (i : Int)) rfl (by kernel_rfl) (by kernel_rfl) (by kernel_rfl) (fun _ _ _ h => h) (Or.inl ⟨by rfl, fun w hSw => by obtain ⟨y0, y1, y2, y3, y4, y5, y6, y7, y8, y9, y10⟩ := hSw; first | (go_simp; done) | go_simp⟩) (by assumption) ?_
        (try simp only [Act.put, List.setIfInBounds_toArray, List.set_cons_zero, List.set_cons_succ])
        refine wpAnyH_take (i := 4) (oi := { dst := some 19, op := _, type := _, pos := _, after := _, guard := _ }) (v := .pointer (some ⟨g, off + i * 4, none⟩)) rfl (by kernel_rfl) (by kernel_rfl) (by kernel_rfl) (fun _ _ _ h => h) (Or.inl ⟨by rfl, fun w hSw => by obtain ⟨y0, y1, y2, y3, y4, y5, y6, y7, y8, y9, y10⟩ := hSw; first | (go_simp; done) | go_simp⟩) (by assumption) ?_
        (try simp only [Act.put, List.setIfInBounds_toArray, List.set_cons_zero, List.set_cons_succ])
        refine wpAnyH_take (i := 5) (oi := { dst := some 20, op := _, type := _, pos := _, after := _, guard := _ }) (v := .pointer (some ⟨g, off + i * 4, none⟩)) rfl (by kernel_rfl) (by kernel_rfl) (by kernel_rfl) (fun _ _ _ h => h) (Or.inl ⟨by rfl, fun w hSw => by obtain ⟨y0, y1, y2, y3, y4, y5, y6, y7, y8, y9, y10⟩ := hSw; first | (go_simp; done) | go_simp⟩) (by assumption) ?_
        (try simp only [Act.put, List.setIfInBounds_toArray, List.set_cons_zero, List.set_cons_succ])
        refine wpAnyH_take (i := 6) (oi := { dst := some 21, op := _, type := _, pos := _, after := _, guard := _ }) (v := .int .i64 (xa : Int)) rfl (by kernel_rfl) (by kernel_rfl) (by kernel_rfl) (fun _ _ _ h => h) (Or.inl ⟨by rfl, fun w hSw => by obtain ⟨y0, y1, y2, y3, y4, y5, y6, y7, y8, y9, y10⟩ := hSw; first | (go_simp; done) | go_simp⟩) (by assumption) ?_
        (try simp only [Act.put, List.setIfInBounds_toArray, List.set_cons_zero, List.set_cons_succ])
        refine wpAnyH_take (i := 7) (oi := { dst := some 22, op := _, type := _, pos := _, after := _, guard := _ }) (v := .pointer (some ⟨bc, oc + xa * 4, none⟩)) rfl (by kernel_rfl) (by kernel_rfl) (by kernel_rfl) (fun _ _ _ h => h) (Or.inl ⟨by rfl, fun w hSw => by obtain ⟨y0, y1, y2, y3, y4, y5, y6, y7, y8, y9, y10⟩ := hSw; first | (go_simp; done) | go_simp⟩) (by assumption) ?_
        (try simp only [Act.put, List.setIfInBounds_toArray, List.set_cons_zero, List.set_cons_succ])
        refine wpAnyH_take (i := 8) (oi := { dst := some 23, op := _, type := _, pos := _, after := _, guard := _ }) (v := .agg #[.int .i64 (pp : Int), .int .i64 (pl : Int), .int .i64 pc, .int .u8 (pk : Int)]) rfl (by kernel_rfl) (by kernel_rfl) (by kernel_rfl) (fun _ _ _ h => h) (Or.inl ⟨by rfl, fun w hSw => by obtain ⟨y0, y1, y2, y3, y4, y5, y6, y7, y8, y9, y10⟩ := hSw; first | (go_simp; done) | go_simp⟩) (by assumption) ?_
        (try simp only [Act.put, List.setIfInBounds_toArray, List.set_cons_zero, List.set_cons_succ])
        refine wpAnyH_take (i := 9) (oi := { dst := some 24, op := _, type := _, pos := _, after := _, guard := _ }) (v := .pointer (some ⟨R, 0, none⟩)) rfl (by kernel_rfl) (by kernel_rfl) (by kernel_rfl) (fun _ _ _ h => h) (Or.inl ⟨by rfl, fun w hSw => by obtain ⟨y0, y1, y2, y3, y4, y5, y6, y7, y8, y9, y10⟩ := hSw; first | (go_simp; done) | go_simp⟩) (by assumption) ?_
        (try simp only [Act.put, List.setIfInBounds_toArray, List.set_cons_zero, List.set_cons_succ])
        refine wpAnyH_take (i := 10) (oi := { dst := some 25, op := _, type := _, pos := _, after := _, guard := _ }) (v := .slice (some ⟨bc, oc, none⟩) n cC) rfl (by kernel_rfl) (by kernel_rfl) (by kernel_rfl) (fun _ _ _ h => h) (Or.inl ⟨by rfl, fun w hSw => by obtain ⟨y0, y1, y2, y3, y4, y5, y6, y7, y8, y9, y10⟩ := hSw; first | (go_simp; done) | go_simp⟩) (by assumption) ?_
        (try simp only [Act.put, List.setIfInBounds_toArray, List.set_cons_zero, List.set_cons_succ])
        refine wpAnyH_take (i := 11) (oi := { dst := some 26, op := _, type := _, pos := _, after := _, guard := _ }) (v := .slice (some ⟨g, off, none⟩) nl cL) rfl (by kernel_rfl) (by kernel_rfl) (by kernel_rfl) (fun _ _ _ h => h) (Or.inl ⟨by rfl, fun w hSw => by obtain ⟨y0, y1, y2, y3, y4, y5, y6, y7, y8, y9, y10⟩ := hSw; first | (go_simp; done) | go_simp⟩) (by assumption) ?_
        (try simp only [Act.put, List.setIfInBounds_toArray, List.set_cons_zero, List.set_cons_succ])
        refine wpAnyH_take (i := 12) (oi := { dst := some 27, op := _, type := _, pos := _, after := _, guard := _ }) (v := .int .i64 (i : Int)) rfl (by kernel_rfl) (by kernel_rfl) (by kernel_rfl) (fun _ _ _ h => h) (Or.inl ⟨by rfl, fun w hSw => by obtain ⟨y0, y1, y2, y3, y4, y5, y6, y7, y8, y9, y10⟩ := hSw; first | (go_simp; done) | go_simp⟩) (by assumption) ?_
        (try simp only [Act.put, List.setIfInBounds_toArray, List.set_cons_zero, List.set_cons_succ])
        refine wpAnyH_take (i := 13) (oi := { dst := some 28, op := _, type := _, pos := _, after := _, guard := _ }) (v := .pointer (some ⟨g, off + i * 4, none⟩)) rfl (by kernel_rfl) (by kernel_rfl) (by kernel_rfl) (fun _ _ _ h => h) (Or.inl ⟨by rfl, fun w hSw => by obtain ⟨y0, y1, y2, y3, y4, y5, y6, y7, y8, y9, y10⟩ := hSw; first | (go_simp; done) | go_simp⟩) (by assumption) ?_
        (try simp only [Act.put, List.setIfInBounds_toArray, List.set_cons_zero, List.set_cons_succ])
        refine wpAnyH_take (i := 14) (oi := { dst := some 29, op := _, type := _, pos := _, after := _, guard := _ }) (v := .pointer (some ⟨g, off + i * 4 + 1, none⟩)) rfl (by kernel_rfl) (by kernel_rfl) (by kernel_rfl) (fun _ _ _ h => h) (Or.inl ⟨by rfl, fun w hSw => by obtain ⟨y0, y1, y2, y3, y4, y5, y6, y7, y8, y9, y10⟩ := hSw; first | (go_simp; done) | go_simp⟩) (by assumption) ?_
        (try simp only [Act.put, List.setIfInBounds_toArray, List.set_cons_zero, List.set_cons_succ])
        refine wpAnyH_take (i := 15) (oi := { dst := some 30, op := _, type := _, pos := _, after := _, guard := _ }) (v := .int .i64 (xb : Int)) rfl (by kernel_rfl) (by kernel_rfl) (by kernel_rfl) (fun _ _ _ h => h) (Or.inl ⟨by rfl, fun w hSw => by obtain ⟨y0, y1, y2, y3, y4, y5, y6, y7, y8, y9, y10⟩ := hSw; first | (go_simp; done) | go_simp⟩) (by assumption) ?_
        (try simp only [Act.put, List.setIfInBounds_toArray, List.set_cons_zero, List.set_cons_succ])
        refine wpAnyH_take (i := 16) (oi := { dst := some 31, op := _, type := _, pos := _, after := _, guard := _ }) (v := .int .i64 (jb : Int)) rfl (by kernel_rfl) (by kernel_rfl) (by kernel_rfl) (fun _ _ _ h => h) (Or.inl ⟨by rfl, fun w hSw => by obtain ⟨y0, y1, y2, y3, y4, y5, y6, y7, y8, y9, y10⟩ := hSw; first | (go_simp; done) | go_simp⟩) (by assumption) ?_
        (try simp only [Act.put, List.setIfInBounds_toArray, List.set_cons_zero, List.set_cons_succ])
        refine wpAnyH_take (i := 17) (oi := { dst := some 32, op := _, type := _, pos := _, after := _, guard := _ }) (v := .pointer (some ⟨bc, oc + jb * 4, none⟩)) rfl (by kernel_rfl) (by kernel_rfl) (by kernel_rfl) (fun _ _ _ h => h) (Or.inl ⟨by rfl, fun w hSw => by obtain ⟨y0, y1, y2, y3, y4, y5, y6, y7, y8, y9, y10⟩ := hSw; first | (go_simp; done) | go_simp⟩) (by assumption) ?_
        (try simp only [Act.put, List.setIfInBounds_toArray, List.set_cons_zero, List.set_cons_succ])
        refine wpAnyH_take (i := 18) (oi := { dst := some 33, op := _, type := _, pos := _, after := _, guard := _ }) (v := .agg #[.int .i64 (qp : Int), .int .i64 (ql : Int), .int .i64 qc, .int .u8 (qk : Int)]) rfl (by kernel_rfl) (by kernel_rfl) (by kernel_rfl) (fun _ _ _ h => h) (Or.inl ⟨by rfl, fun w hSw => by obtain ⟨y0, y1, y2, y3, y4, y5, y6, y7, y8, y9, y10⟩ := hSw; first | (go_simp; done) | go_simp⟩) (by assumption) ?_
        (try simp only [Act.put, List.setIfInBounds_toArray, List.set_cons_zero, List.set_cons_succ])
        refine wpAnyH_ready (rs := [19, 20]) (by kernel_rfl) (by simp) ?_
        refine AllReadyH.cons rfl (fun K hK => ?_) (AllReadyH.cons rfl (fun K hK => ?_) AllReadyH.nil)
        · rw [if_pos (by rfl)]
          go_simp
          obtain ⟨X1, hX1⟩ : ∃ Y, Y = (W.alloc (.cells #[.int .i64 0, .int .i64 0, .int .i64 0, .int .u8 0] 66)).drew := ⟨_, rfl⟩
          obtain ⟨B7, hB7⟩ : ∃ b, b = W.heap.size := ⟨_, rfl⟩
          have K1 : Hid (Only (fun _ => False) W X1 ∧ X1.heap[B7]? = some (.cells #[.int .i64 0, .int .i64 0, .int .i64 0, .int .u8 0] 66 (0, 0)) ∧ W.heap.size ≤ B7) := by rw [hX1, hB7]; exact ⟨((Only.refl _ _).alloc _).drew, heap_alloc_new W _, Nat.le_refl _⟩
          rw [← hX1, ← hB7]
          clear hX1 hB7
          refine hK.out _ _ (HSS.out _ K1.out.1) (fun hHeld => ?_)
          clear hK
          (try simp only [Act.put, List.setIfInBounds_toArray, List.set_cons_zero, List.set_cons_succ])
          refine wpAnyH_ready (rs := [20]) (by kernel_rfl) (by simp) ?_
          refine AllReadyH.cons rfl (fun K hK => ?_) AllReadyH.nil
          rw [if_pos (by rfl)]
          go_simp
          obtain ⟨X2, hX2⟩ : ∃ Y, Y = X1.alloc (.cells #[.int .i64 0, .int .i64 0, .int .i64 0, .int .u8 0] 66) := ⟨_, rfl⟩
          obtain ⟨B8, hB8⟩ : ∃ b, b = X1.heap.size := ⟨_, rfl⟩
          have K2 : Hid (Only (fun _ => False) W X2 ∧ X2.heap[B7]? = some (.cells #[.int .i64 0, .int .i64 0, .int .i64 0, .int .u8 0] 66 (0, 0)) ∧ X2.heap[B8]? = some (.cells #[.int .i64 0, .int .i64 0, .int .i64 0, .int .u8 0] 66 (0, 0)) ∧ W.heap.size ≤ B7 ∧ W.heap.size ≤ B8 ∧ B7 ≠ B8) := by
            have l1 := (Array.getElem?_eq_some_iff.1 K1.out.2.1).1
            rw [hX2, hB8]
            exact ⟨K1.out.1.alloc _, blk_keep ((Only.refl _ _).alloc _) K1.out.2.1, heap_alloc_new X1 _, K1.out.2.2, K1.out.1.size, by omega⟩
          rw [← hX2, ← hB8]
          clear hX2 hB8
          refine hK.out _ _ (HSS.out _ K2.out.1) (fun hHeld => ?_)
          clear hK
          (try simp only [Act.put, List.setIfInBounds_toArray, List.set_cons_zero, List.set_cons_succ])
          refine wpAnyH_ready (rs := [21]) (by kernel_rfl) (by simp) ?_
          refine AllReadyH.cons rfl (fun K hK => ?_) AllReadyH.nil
          rw [if_pos (by rfl)]
          refine wp_store_row 66 _ _ rfl B7 #[.int .i64 (pp : Int), .int .i64 (pl : Int), .int .i64 pc, .int .u8 (pk : Int)] rfl rfl 66 _ K2.out.2.1 (by kernel_rfl) rfl (ln_one _ _ _ _) ?_
          have K3 : Hid (Only (fun _ => False) W (X2.setRow B7 #[.int .i64 (pp : Int), .int .i64 (pl : Int), .int .i64 pc, .int .u8 (pk : Int)]) ∧ (X2.setRow B7 #[.int .i64 (pp : Int), .int .i64 (pl : Int), .int .i64 pc, .int .u8 (pk : Int)]).heap[B7]? = some (.cells #[.int .i64 (pp : Int), .int .i64 (pl : Int), .int .i64 pc, .int .u8 (pk : Int)] 66 (0, 0)) ∧ (X2.setRow B7 #[.int .i64 (pp : Int), .int .i64 (pl : Int), .int .i64 pc, .int .u8 (pk : Int)]).heap[B8]? = some (.cells #[.int .i64 0, .int .i64 0, .int .i64 0, .int .u8 0] 66 (0, 0))) := ⟨K2.out.1.setRowNew K2.out.2.2.2.1 _, setRow_heap _ _ _ _ _ _ K2.out.2.1, blk_far' (Only.setRow X2 B7 _) K2.out.2.2.1 (Ne.symm K2.out.2.2.2.2.2)⟩
          obtain ⟨X3, hX3⟩ : ∃ Y, Y = X2.setRow B7 #[.int .i64 (pp : Int), .int .i64 (pl : Int), .int .i64 pc, .int .u8 (pk : Int)] := ⟨_, rfl⟩
          rw [← hX3] at K3 ⊢
          clear hX3
          refine hK.out _ _ (HSS.out _ K3.out.1) (fun hHeld => ?_)
          clear hK
          (try simp only [Act.put, List.setIfInBounds_toArray, List.set_cons_zero, List.set_cons_succ])
          refine wpAnyH_ready (rs := [22]) (by kernel_rfl) (by simp) ?_
          refine AllReadyH.cons rfl (fun K hK => ?_) AllReadyH.nil
          rw [if_pos (by rfl)]
          refine wp_store_row 66 _ _ rfl B8 #[.int .i64 (qp : Int), .int .i64 (ql : Int), .int .i64 qc, .int .u8 (qk : Int)] rfl rfl 66 _ K3.out.2.2 (by kernel_rfl) rfl (ln_one _ _ _ _) ?_
          have K4 : Hid (Only (fun _ => False) W (X3.setRow B8 #[.int .i64 (qp : Int), .int .i64 (ql : Int), .int .i64 qc, .int .u8 (qk : Int)]) ∧ (X3.setRow B8 #[.int .i64 (qp : Int), .int .i64 (ql : Int), .int .i64 qc, .int .u8 (qk : Int)]).heap[B7]? = some (.cells #[.int .i64 (pp : Int), .int .i64 (pl : Int), .int .i64 pc, .int .u8 (pk : Int)] 66 (0, 0)) ∧ (X3.setRow B8 #[.int .i64 (qp : Int), .int .i64 (ql : Int), .int .i64 qc, .int .u8 (qk : Int)]).heap[B8]? = some (.cells #[.int .i64 (qp : Int), .int .i64 (ql : Int), .int .i64 qc, .int .u8 (qk : Int)] 66 (0, 0))) := ⟨K3.out.1.setRowNew K2.out.2.2.2.2.1 _, blk_far' (Only.setRow X3 B8 _) K3.out.2.1 K2.out.2.2.2.2.2, setRow_heap _ _ _ _ _ _ K3.out.2.2⟩
          obtain ⟨X4, hX4⟩ : ∃ Y, Y = X3.setRow B8 #[.int .i64 (qp : Int), .int .i64 (ql : Int), .int .i64 qc, .int .u8 (qk : Int)] := ⟨_, rfl⟩
          rw [← hX4] at K4 ⊢
          clear hX4
          refine hK.out _ _ (HSS.out _ K4.out.1) (fun hHeld => ?_)
          clear hK
          (try simp only [Act.put, List.setIfInBounds_toArray, List.set_cons_zero, List.set_cons_succ])
          refine wpAnyH_done (by kernel_rfl) ?_ _
          clear hHeld
          go_wp2_with fail
          go_meet
          exact ⟨B7, B8, _, rfl, rfl, rfl, K4.out.1, K4.out.2.1, K4.out.2.2⟩
        · rw [if_pos (by rfl)]
          go_simp
          obtain ⟨X1, hX1⟩ : ∃ Y, Y = (W.alloc (.cells #[.int .i64 0, .int .i64 0, .int .i64 0, .int .u8 0] 66)).drew := ⟨_, rfl⟩
          obtain ⟨B8, hB8⟩ : ∃ b, b = W.heap.size := ⟨_, rfl⟩
          have K1 : Hid (Only (fun _ => False) W X1 ∧ X1.heap[B8]? = some (.cells #[.int .i64 0, .int .i64 0, .int .i64 0, .int .u8 0] 66 (0, 0)) ∧ W.heap.size ≤ B8) := by rw [hX1, hB8]; exact ⟨((Only.refl _ _).alloc _).drew, heap_alloc_new W _, Nat.le_refl _⟩
          rw [← hX1, ← hB8]
          clear hX1 hB8
          refine hK.out _ _ (HSS.out _ K1.out.1) (fun hHeld => ?_)
          clear hK
          (try simp only [Act.put, List.setIfInBounds_toArray, List.set_cons_zero, List.set_cons_succ])
          refine wpAnyH_ready (rs := [19]) (by kernel_rfl) (by simp) ?_
          refine AllReadyH.cons rfl (fun K hK => ?_) AllReadyH.nil
          rw [if_pos (by rfl)]
          go_simp
          obtain ⟨X2, hX2⟩ : ∃ Y, Y = X1.alloc (.cells #[.int .i64 0, .int .i64 0, .int .i64 0, .int .u8 0] 66) := ⟨_, rfl⟩
          obtain ⟨B7, hB7⟩ : ∃ b, b = X1.heap.size := ⟨_, rfl⟩
          have K2 : Hid (Only (fun _ => False) W X2 ∧ X2.heap[B8]? = some (.cells #[.int .i64 0, .int .i64 0, .int .i64 0, .int .u8 0] 66 (0, 0)) ∧ X2.heap[B7]? = some (.cells #[.int .i64 0, .int .i64 0, .int .i64 0, .int .u8 0] 66 (0, 0)) ∧ W.heap.size ≤ B8 ∧ W.heap.size ≤ B7 ∧ B8 ≠ B7) := by
            have l1 := (Array.getElem?_eq_some_iff.1 K1.out.2.1).1
            rw [hX2, hB7]
            exact ⟨K1.out.1.alloc _, blk_keep ((Only.refl _ _).alloc _) K1.out.2.1, heap_alloc_new X1 _, K1.out.2.2, K1.out.1.size, by omega⟩
          rw [← hX2, ← hB7]
          clear hX2 hB7
          refine hK.out _ _ (HSS.out _ K2.out.1) (fun hHeld => ?_)
          clear hK
          (try simp only [Act.put, List.setIfInBounds_toArray, List.set_cons_zero, List.set_cons_succ])
          refine wpAnyH_ready (rs := [21]) (by kernel_rfl) (by simp) ?_
          refine AllReadyH.cons rfl (fun K hK => ?_) AllReadyH.nil
          rw [if_pos (by rfl)]
          refine wp_store_row 66 _ _ rfl B7 #[.int .i64 (pp : Int), .int .i64 (pl : Int), .int .i64 pc, .int .u8 (pk : Int)] rfl rfl 66 _ K2.out.2.2.1 (by kernel_rfl) rfl (ln_one _ _ _ _) ?_
          have K3 : Hid (Only (fun _ => False) W (X2.setRow B7 #[.int .i64 (pp : Int), .int .i64 (pl : Int), .int .i64 pc, .int .u8 (pk : Int)]) ∧ (X2.setRow B7 #[.int .i64 (pp : Int), .int .i64 (pl : Int), .int .i64 pc, .int .u8 (pk : Int)]).heap[B7]? = some (.cells #[.int .i64 (pp : Int), .int .i64 (pl : Int), .int .i64 pc, .int .u8 (pk : Int)] 66 (0, 0)) ∧ (X2.setRow B7 #[.int .i64 (pp : Int), .int .i64 (pl : Int), .int .i64 pc, .int .u8 (pk : Int)]).heap[B8]? = some (.cells #[.int .i64 0, .int .i64 0, .int .i64 0, .int .u8 0] 66 (0, 0))) := ⟨K2.out.1.setRowNew K2.out.2.2.2.2.1 _, setRow_heap _ _ _ _ _ _ K2.out.2.2.1, blk_far' (Only.setRow X2 B7 _) K2.out.2.1 (Ne.symm K2.out.2.2.2.2.2.symm)⟩
          obtain ⟨X3, hX3⟩ : ∃ Y, Y = X2.setRow B7 #[.int .i64 (pp : Int), .int .i64 (pl : Int), .int .i64 pc, .int .u8 (pk : Int)] := ⟨_, rfl⟩
          rw [← hX3] at K3 ⊢
          clear hX3
          refine hK.out _ _ (HSS.out _ K3.out.1) (fun hHeld => ?_)
          clear hK
          (try simp only [Act.put, List.setIfInBounds_toArray, List.set_cons_zero, List.set_cons_succ])
          refine wpAnyH_ready (rs := [22]) (by kernel_rfl) (by simp) ?_
          refine AllReadyH.cons rfl (fun K hK => ?_) AllReadyH.nil
          rw [if_pos (by rfl)]
          refine wp_store_row 66 _ _ rfl B8 #[.int .i64 (qp : Int), .int .i64 (ql : Int), .int .i64 qc, .int .u8 (qk : Int)] rfl rfl 66 _ K3.out.2.2 (by kernel_rfl) rfl (ln_one _ _ _ _) ?_
          have K4 : Hid (Only (fun _ => False) W (X3.setRow B8 #[.int .i64 (qp : Int), .int .i64 (ql : Int), .int .i64 qc, .int .u8 (qk : Int)]) ∧ (X3.setRow B8 #[.int .i64 (qp : Int), .int .i64 (ql : Int), .int .i64 qc, .int .u8 (qk : Int)]).heap[B7]? = some (.cells #[.int .i64 (pp : Int), .int .i64 (pl : Int), .int .i64 pc, .int .u8 (pk : Int)] 66 (0, 0)) ∧ (X3.setRow B8 #[.int .i64 (qp : Int), .int .i64 (ql : Int), .int .i64 qc, .int .u8 (qk : Int)]).heap[B8]? = some (.cells #[.int .i64 (qp : Int), .int .i64 (ql : Int), .int .i64 qc, .int .u8 (qk : Int)] 66 (0, 0))) := ⟨K3.out.1.setRowNew K2.out.2.2.2.1 _, blk_far' (Only.setRow X3 B8 _) K3.out.2.1 K2.out.2.2.2.2.2.symm, setRow_heap _ _ _ _ _ _ K3.out.2.2⟩
          obtain ⟨X4, hX4⟩ : ∃ Y, Y = X3.setRow B8 #[.int .i64 (qp : Int), .int .i64 (ql : Int), .int .i64 qc, .int .u8 (qk : Int)] := ⟨_, rfl⟩
          rw [← hX4] at K4 ⊢
          clear hX4
          refine hK.out _ _ (HSS.out _ K4.out.1) (fun hHeld => ?_)
          clear hK
          (try simp only [Act.put, List.setIfInBounds_toArray, List.set_cons_zero, List.set_cons_succ])
          refine wpAnyH_done (by kernel_rfl) ?_ _
          clear hHeld
          go_wp2_with fail
          go_meet
          exact ⟨B7, B8, _, rfl, rfl, rfl, K4.out.1, K4.out.2.1, K4.out.2.2⟩
      case rest =>
        obtain ⟨B7, B8, X, hX, rfl, rfl, hoX, h7, h8⟩ := hcut
        subst hX
        have HX : Hid ((X.heap[B7]? = some (.cells #[.int .i64 (pp : Int), .int .i64 (pl : Int), .int .i64 pc, .int .u8 (pk : Int)] 66 (0, 0)) ∧ X.heap[B8]? = some (.cells #[.int .i64 (qp : Int), .int .i64 (ql : Int), .int .i64 qc, .int .u8 (qk : Int)] 66 (0, 0))) ∧ Only (fun _ => False) W X ∧ X.ownsRow w0.heap.size 53 4 (.slice al i c) i (lnC ((L.take i).map (Lv.row C)))) := ⟨⟨h7, h8⟩, hoX, own_only HG.out.1 hoX (fun _ _ h => h)⟩
        have HSX : Hid (∀ W', Only (fun _ => False) X W' → (fun W' => W'.cell? ⟨B7, 0, none⟩ = some (.int .i64 (pp : Int)) ∧ W'.cell? ⟨B8, 0, none⟩ = some (.int .i64 (qp : Int)) ∧ W'.cell? ⟨B8, 1, none⟩ = some (.int .i64 (ql : Int)) ∧ W'.cell? ⟨g, off + i * 4 + 2, none⟩ = some (.int .i64 (xw : Int)) ∧ W'.cell? ⟨g, off + i * 4 + 3, none⟩ = some (.int .u8 (xe : Int))) W') := fun W' ho => by
          have e7 := blk_four (blk_keep ho HX.out.1.1)
          have e8 := blk_four (blk_keep ho HX.out.1.2)
          have e9 := HLN.out W' (HX.out.2.1.trans ho)
          exact ⟨e7.1, e8.1, e8.2.1, e9.1, e9.2⟩
        clear hoX h7 h8
        go_wp2_with fail
        have HD : Hid (Only (fun _ => False) X X.drew) := (Only.refl _ _).drew
        refine wp_region_held_drew (S := (fun W' => W'.cell? ⟨B7, 0, none⟩ = some (.int .i64 (pp : Int)) ∧ W'.cell? ⟨B8, 0, none⟩ = some (.int .i64 (qp : Int)) ∧ W'.cell? ⟨B8, 1, none⟩ = some (.int .i64 (ql : Int)) ∧ W'.cell? ⟨g, off + i * 4 + 2, none⟩ = some (.int .i64 (xw : Int)) ∧ W'.cell? ⟨g, off + i * 4 + 3, none⟩ = some (.int .u8 (xe : Int)))) (by kernel_rfl) (HSX.out _ HD.out) (fun hHeld => ?_)
        refine wpAnyH_take (i := 0) (oi := { dst := some 34, op := _, type := _, pos := _, after := _, guard := _ }) (v := .slice al i c) rfl (by kernel_rfl) (by kernel_rfl) (by kernel_rfl) (fun _ _ _ h => h) (Or.inl ⟨by rfl, fun w hSw => by obtain ⟨y0, y1, y2, y3, y4⟩ := hSw; first | (go_simp; done) | go_simp⟩) (by assumption) ?_
        (try simp only [Act.put, List.setIfInBounds_toArray, List.set_cons_zero, List.set_cons_succ])
        refine wpAnyH_take (i := 1) (oi := { dst := some 35, op := _, type := _, pos := _, after := _, guard := _ }) (v := .pointer (some ⟨B7, 0, none⟩)) rfl (by kernel_rfl) (by kernel_rfl) (by kernel_rfl) (fun _ _ _ h => h) (Or.inl ⟨by rfl, fun w hSw => by obtain ⟨y0, y1, y2, y3, y4⟩ := hSw; first | (go_simp; done) | go_simp⟩) (by assumption) ?_
        (try simp only [Act.put, List.setIfInBounds_toArray, List.set_cons_zero, List.set_cons_succ])
        refine wpAnyH_take (i := 2) (oi := { dst := some 36, op := _, type := _, pos := _, after := _, guard := _ }) (v := .int .i64 (pp : Int)) rfl (by kernel_rfl) (by kernel_rfl) (by kernel_rfl) (fun _ _ _ h => h) (Or.inl ⟨by rfl, fun w hSw => by obtain ⟨y0, y1, y2, y3, y4⟩ := hSw; first | (go_simp; done) | go_simp⟩) (by assumption) ?_
        (try simp only [Act.put, List.setIfInBounds_toArray, List.set_cons_zero, List.set_cons_succ])
        refine wpAnyH_take (i := 3) (oi := { dst := some 37, op := _, type := _, pos := _, after := _, guard := _ }) (v := .pointer (some ⟨B8, 0, none⟩)) rfl (by kernel_rfl) (by kernel_rfl) (by kernel_rfl) (fun _ _ _ h => h) (Or.inl ⟨by rfl, fun w hSw => by obtain ⟨y0, y1, y2, y3, y4⟩ := hSw; first | (go_simp; done) | go_simp⟩) (by assumption) ?_
        (try simp only [Act.put, List.setIfInBounds_toArray, List.set_cons_zero, List.set_cons_succ])
        refine wpAnyH_take (i := 4) (oi := { dst := some 38, op := _, type := _, pos := _, after := _, guard := _ }) (v := .int .i64 (qp : Int)) rfl (by kernel_rfl) (by kernel_rfl) (by kernel_rfl) (fun _ _ _ h => h) (Or.inl ⟨by rfl, fun w hSw => by obtain ⟨y0, y1, y2, y3, y4⟩ := hSw; first | (go_simp; done) | go_simp⟩) (by assumption) ?_
        (try simp only [Act.put, List.setIfInBounds_toArray, List.set_cons_zero, List.set_cons_succ])
        refine wpAnyH_take (i := 5) (oi := { dst := some 39, op := _, type := _, pos := _, after := _, guard := _ }) (v := .pointer (some ⟨B8, 1, none⟩)) rfl (by kernel_rfl) (by kernel_rfl) (by kernel_rfl) (fun _ _ _ h => h) (Or.inl ⟨by rfl, fun w hSw => by obtain ⟨y0, y1, y2, y3, y4⟩ := hSw; first | (go_simp; done) | go_simp⟩) (by assumption) ?_
        (try simp only [Act.put, List.setIfInBounds_toArray, List.set_cons_zero, List.set_cons_succ])
        refine wpAnyH_take (i := 6) (oi := { dst := some 40, op := _, type := _, pos := _, after := _, guard := _ }) (v := .int .i64 (ql : Int)) rfl (by kernel_rfl) (by kernel_rfl) (by kernel_rfl) (fun _ _ _ h => h) (Or.inl ⟨by rfl, fun w hSw => by obtain ⟨y0, y1, y2, y3, y4⟩ := hSw; first | (go_simp; done) | go_simp⟩) (by assumption) ?_
        (try simp only [Act.put, List.setIfInBounds_toArray, List.set_cons_zero, List.set_cons_succ])
        refine wpAnyH_take (i := 7) (oi := { dst := some 41, op := _, type := _, pos := _, after := _, guard := _ }) (v := .int .i64 (z2 : Int)) rfl (by kernel_rfl) (by kernel_rfl) (by kernel_rfl) (fun _ _ _ h => h) (Or.inl ⟨by rfl, fun w hSw => by obtain ⟨y0, y1, y2, y3, y4⟩ := hSw; first | (go_simp; done) | go_simp⟩) (by assumption) ?_
        (try simp only [Act.put, List.setIfInBounds_toArray, List.set_cons_zero, List.set_cons_succ])
        refine wpAnyH_take (i := 8) (oi := { dst := some 42, op := _, type := _, pos := _, after := _, guard := _ }) (v := .slice (some ⟨g, off, none⟩) nl cL) rfl (by kernel_rfl) (by kernel_rfl) (by kernel_rfl) (fun _ _ _ h => h) (Or.inl ⟨by rfl, fun w hSw => by obtain ⟨y0, y1, y2, y3, y4⟩ := hSw; first | (go_simp; done) | go_simp⟩) (by assumption) ?_
        (try simp only [Act.put, List.setIfInBounds_toArray, List.set_cons_zero, List.set_cons_succ])
        refine wpAnyH_take (i := 9) (oi := { dst := some 43, op := _, type := _, pos := _, after := _, guard := _ }) (v := .int .i64 (i : Int)) rfl (by kernel_rfl) (by kernel_rfl) (by kernel_rfl) (fun _ _ _ h => h) (Or.inl ⟨by rfl, fun w hSw => by obtain ⟨y0, y1, y2, y3, y4⟩ := hSw; first | (go_simp; done) | go_simp⟩) (by assumption) ?_
        (try simp only [Act.put, List.setIfInBounds_toArray, List.set_cons_zero, List.set_cons_succ])
        refine wpAnyH_take (i := 10) (oi := { dst := some 44, op := _, type := _, pos := _, after := _, guard := _ }) (v := .pointer (some ⟨g, off + i * 4, none⟩)) rfl (by kernel_rfl) (by kernel_rfl) (by kernel_rfl) (fun _ _ _ h => h) (Or.inl ⟨by rfl, fun w hSw => by obtain ⟨y0, y1, y2, y3, y4⟩ := hSw; first | (go_simp; done) | go_simp⟩) (by assumption) ?_
        (try simp only [Act.put, List.setIfInBounds_toArray, List.set_cons_zero, List.set_cons_succ])
        refine wpAnyH_take (i := 11) (oi := { dst := some 45, op := _, type := _, pos := _, after := _, guard := _ }) (v := .pointer (some ⟨g, off + i * 4 + 2, none⟩)) rfl (by kernel_rfl) (by kernel_rfl) (by kernel_rfl) (fun _ _ _ h => h) (Or.inl ⟨by rfl, fun w hSw => by obtain ⟨y0, y1, y2, y3, y4⟩ := hSw; first | (go_simp; done) | go_simp⟩) (by assumption) ?_
        (try simp only [Act.put, List.setIfInBounds_toArray, List.set_cons_zero, List.set_cons_succ])
        refine wpAnyH_take (i := 12) (oi := { dst := some 46, op := _, type := _, pos := _, after := _, guard := _ }) (v := .int .i64 (xw : Int)) rfl (by kernel_rfl) (by kernel_rfl) (by kernel_rfl) (fun _ _ _ h => h) (Or.inl ⟨by rfl, fun w hSw => by obtain ⟨y0, y1, y2, y3, y4⟩ := hSw; first | (go_simp; done) | go_simp⟩) (by assumption) ?_
        (try simp only [Act.put, List.setIfInBounds_toArray, List.set_cons_zero, List.set_cons_succ])
        refine wpAnyH_take (i := 13) (oi := { dst := some 47, op := _, type := _, pos := _, after := _, guard := _ }) (v := .slice (some ⟨g, off, none⟩) nl cL) rfl (by kernel_rfl) (by kernel_rfl) (by kernel_rfl) (fun _ _ _ h => h) (Or.inl ⟨by rfl, fun w hSw => by obtain ⟨y0, y1, y2, y3, y4⟩ := hSw; first | (go_simp; done) | go_simp⟩) (by assumption) ?_
        (try simp only [Act.put, List.setIfInBounds_toArray, List.set_cons_zero, List.set_cons_succ])
        refine wpAnyH_take (i := 14) (oi := { dst := some 48, op := _, type := _, pos := _, after := _, guard := _ }) (v := .int .i64 (i : Int)) rfl (by kernel_rfl) (by kernel_rfl) (by kernel_rfl) (fun _ _ _ h => h) (Or.inl ⟨by rfl, fun w hSw => by obtain ⟨y0, y1, y2, y3, y4⟩ := hSw; first | (go_simp; done) | go_simp⟩) (by assumption) ?_
        (try simp only [Act.put, List.setIfInBounds_toArray, List.set_cons_zero, List.set_cons_succ])
        refine wpAnyH_take (i := 15) (oi := { dst := some 49, op := _, type := _, pos := _, after := _, guard := _ }) (v := .pointer (some ⟨g, off + i * 4, none⟩)) rfl (by kernel_rfl) (by kernel_rfl) (by kernel_rfl) (fun _ _ _ h => h) (Or.inl ⟨by rfl, fun w hSw => by obtain ⟨y0, y1, y2, y3, y4⟩ := hSw; first | (go_simp; done) | go_simp⟩) (by assumption) ?_
        (try simp only [Act.put, List.setIfInBounds_toArray, List.set_cons_zero, List.set_cons_succ])
        refine wpAnyH_take (i := 16) (oi := { dst := some 50, op := _, type := _, pos := _, after := _, guard := _ }) (v := .pointer (some ⟨g, off + i * 4 + 3, none⟩)) rfl (by kernel_rfl) (by kernel_rfl) (by kernel_rfl) (fun _ _ _ h => h) (Or.inl ⟨by rfl, fun w hSw => by obtain ⟨y0, y1, y2, y3, y4⟩ := hSw; first | (go_simp; done) | go_simp⟩) (by assumption) ?_
        (try simp only [Act.put, List.setIfInBounds_toArray, List.set_cons_zero, List.set_cons_succ])
        refine wpAnyH_take (i := 17) (oi := { dst := some 51, op := _, type := _, pos := _, after := _, guard := _ }) (v := .int .u8 (xe : Int)) rfl (by kernel_rfl) (by kernel_rfl) (by kernel_rfl) (fun _ _ _ h => h) (Or.inl ⟨by rfl, fun w hSw => by obtain ⟨y0, y1, y2, y3, y4⟩ := hSw; first | (go_simp; done) | go_simp⟩) (by assumption) ?_
        (try simp only [Act.put, List.setIfInBounds_toArray, List.set_cons_zero, List.set_cons_succ])
        refine wpAnyH_take (i := 18) (oi := { dst := some 52, op := _, type := _, pos := _, after := _, guard := _ }) (v := .agg #[.int .i64 (pp : Int), .int .i64 (z2 : Int), .int .i64 (xw : Int), .int .u8 (xe : Int)]) rfl (by kernel_rfl) (by kernel_rfl) (by kernel_rfl) (fun _ _ _ h => h) (Or.inl ⟨by rfl, fun w hSw => by obtain ⟨y0, y1, y2, y3, y4⟩ := hSw; first | (go_simp; done) | go_simp⟩) (by assumption) ?_
        (try simp only [Act.put, List.setIfInBounds_toArray, List.set_cons_zero, List.set_cons_succ])
        refine wpAnyH_ready (rs := [19]) (by kernel_rfl) (by simp) ?_
        refine AllReadyH.cons rfl (fun K hK => ?_) AllReadyH.nil
        rw [if_pos (by rfl)]
        go_simp
        obtain ⟨X1, hX1⟩ : ∃ Y, Y = (X.alloc (.cells #[.int .i64 (pp : Int), .int .i64 (z2 : Int), .int .i64 (xw : Int), .int .u8 (xe : Int)] 53)).drew := ⟨_, rfl⟩
        obtain ⟨B9, hB9⟩ : ∃ b, b = X.heap.size := ⟨_, rfl⟩
        have K1 : Hid (Only (fun _ => False) X X1 ∧ X1.heap[B9]? = some (.cells #[.int .i64 (pp : Int), .int .i64 (z2 : Int), .int .i64 (xw : Int), .int .u8 (xe : Int)] 53 (0, 0)) ∧ X1.ownsRow w0.heap.size 53 4 (.slice al i c) i (lnC ((L.take i).map (Lv.row C)))) := by rw [hX1, hB9]; exact ⟨((Only.refl _ _).alloc _).drew, heap_alloc_new X _, own_only HX.out.2.2 ((Only.refl _ _).alloc _).drew (fun _ _ h => h)⟩
        rw [← hX1, ← hB9]
        clear hX1 hB9
        refine hK.out _ _ (HSX.out _ K1.out.1) (fun hHeld => ?_)
        clear hK
        (try simp only [Act.put, List.setIfInBounds_toArray, List.set_cons_zero, List.set_cons_succ])
        have HSY : Hid (∀ W', Only (fun q => (Value.slice al i c).ownBlock = some q) X1 W' → (fun W' => W'.cell? ⟨B7, 0, none⟩ = some (.int .i64 (pp : Int)) ∧ W'.cell? ⟨B8, 0, none⟩ = some (.int .i64 (qp : Int)) ∧ W'.cell? ⟨B8, 1, none⟩ = some (.int .i64 (ql : Int)) ∧ W'.cell? ⟨g, off + i * 4 + 2, none⟩ = some (.int .i64 (xw : Int)) ∧ W'.cell? ⟨g, off + i * 4 + 3, none⟩ = some (.int .u8 (xe : Int))) W') := fun W' ho => by
          have e7 := blk_four (blk_own ho K1.out.2.2 (blk_keep K1.out.1 HX.out.1.1) (by decide))
          have e8 := blk_four (blk_own ho K1.out.2.2 (blk_keep K1.out.1 HX.out.1.2) (by decide))
          have e9 := HLN.out X1 (HX.out.2.1.trans K1.out.1)
          have hgn : ¬ (Value.slice al i c).ownBlock = some g := fun hq => by have := (own_own K1.out.2.2 hq).1; omega
          exact ⟨e7.1, e8.1, e8.2.1, keepS ho e9.1 hgn, keepS ho e9.2 hgn⟩
        refine wpAnyH_ready (rs := [20]) (by kernel_rfl) (by simp) ?_
        refine AllReadyH.cons rfl (fun K hK => ?_) AllReadyH.nil
        rw [if_pos (by rfl)]
        refine wp_appR _ _ rfl w0.heap.size al i c ((L.take i).map (Lv.row C)) rfl K1.out.2.2 (some ⟨B9, 0, none⟩) 1 1 [⟨pp, z2, xw, xe⟩] rfl rfl (vw_row K1.out.2.1) (i + 1) rfl (by omega) (Nat.le_trans hsW (K1.out.1.size |> Nat.le_trans HX.out.2.1.size)) ?_
        intro al' cap Y hown5 ho5
        have H5 : Hid (Y.ownsRow w0.heap.size 53 4 (.slice al' (i + 1) cap) (i + 1) (lnC ((L.take (i + 1)).map (Lv.row C))) ∧ Only (fun g => w0.heap.size ≤ g) w0 Y ∧ Only (fun g => w0.heap.size ≤ g) X Y) := by
          rw [HNX.out]
          have h3 : Only (fun g => w0.heap.size ≤ g) X1 Y := ho5.mono (fun g hg => (own_own K1.out.2.2 hg).1)
          exact ⟨hown5, ((HG.out.2.trans (HX.out.2.1.mono (fun _ h => h.elim))).trans (K1.out.1.mono (fun _ h => h.elim))).trans h3, (K1.out.1.mono (fun _ h => h.elim) : Only (fun g => w0.heap.size ≤ g) X X1).trans h3⟩
        have HS5 : Hid ((fun W' => W'.cell? ⟨B7, 0, none⟩ = some (.int .i64 (pp : Int)) ∧ W'.cell? ⟨B8, 0, none⟩ = some (.int .i64 (qp : Int)) ∧ W'.cell? ⟨B8, 1, none⟩ = some (.int .i64 (ql : Int)) ∧ W'.cell? ⟨g, off + i * 4 + 2, none⟩ = some (.int .i64 (xw : Int)) ∧ W'.cell? ⟨g, off + i * 4 + 3, none⟩ = some (.int .u8 (xe : Int))) Y) := HSY.out _ ho5
        clear hown5 ho5
        refine hK.out _ _ HS5.out (fun hHeld => ?_)
        clear hK
        (try simp only [Act.put, List.setIfInBounds_toArray, List.set_cons_zero, List.set_cons_succ])
        refine wpAnyH_take (i := 21) (oi := { dst := some 5, op := _, type := _, pos := _, after := _, guard := _ }) (v := .slice al' (i + 1) cap) rfl (by kernel_rfl) (by kernel_rfl) (by kernel_rfl) (fun _ _ _ h => h) (Or.inl ⟨by rfl, fun w hSw => by obtain ⟨y0, y1, y2, y3, y4⟩ := hSw; first | (go_simp; done) | go_simp⟩) (by assumption) ?_
        (try simp only [Act.put, List.setIfInBounds_toArray, List.set_cons_zero, List.set_cons_succ])
        refine wpAnyH_done (by kernel_rfl) ?_ _
        clear hHeld
        go_wp2_with fail
        go_roundg (nl - (i + 1))
        case measure => omega
        case rel => exact ⟨i + 1, al', cap, _, rfl, rfl, by omega, rfl, by go_num, H5.out.1, H5.out.2.1⟩
    · have t2 : decide ((i : Int) < (nl : Int)) = false := decide_eq_false (by omega)
      have hin : i = nl := by omega
      have HEQ : Hid ((L.take i).map (Lv.row C) = L.map (Lv.row C)) := (by rw [List.take_of_length_le (by rw [← HN.out.1]; omega)] : (L.take i).map (Lv.row C) = L.map (Lv.row C))
      subst hin
      by_cases h0 : i = 0
      · have t1 : ((i : Int) == 0) = true := by rw [beq_iff_eq]; omega
        have HE : Hid (rws C L = [⟨0, 0, 0, 2⟩]) := (by unfold rws; rw [if_pos (List.eq_nil_of_length_eq_zero (by rw [← HN.out.1]; exact h0))] : rws C L = [⟨0, 0, 0, 2⟩])
        clear h0
        go_wp2_with fail
        go_ret
        refine ⟨_, _, by rw [HE.out]; rfl, ?_, HWW.out.1.alloc _⟩
        rw [HE.out]
        exact vw_row (a := 0) (b := 0) (c := 0) (e := 2) (heap_alloc_new W _)
      · have t1 : ((i : Int) == 0) = false := by rw [beq_eq_false_iff_ne]; omega
        have HE : Hid (rws C L = L.map (Lv.row C)) := (by unfold rws; rw [if_neg (fun e => h0 (by rw [HN.out.1, e]; rfl))] : rws C L = L.map (Lv.row C))
        clear h0
        go_wp2_with fail
        go_ret
        refine ⟨al, c, by rw [HE.out, List.length_map, ← HN.out.1]; rfl, ?_, HWW.out.1⟩
        rw [HE.out, ← HEQ.out]
        exact own_vw HG.out.1
end Go.Proofs.Ytdepjmneoplicaa
/-
  The document's SameLayouts: of like rows.
-/
namespace Go.Proofs.Ytdepjmneoplicaa
open Go.RowKit Go.Maps
set_option linter.unusedVariables false
set_option linter.unusedSimpArgs false
theorem box22 (w : World) (v0 v1 u0 u1 : Value) (t t' : TypeId) : ∃ R b w1, (w.alloc (.cells #[v0, v1] t)).alloc (.cells #[u0, u1] t') = w1 ∧ w.heap.size + 1 = b ∧ w.heap.size = R ∧ Hid (w1.heap[R]? = some (.cells #[v0, v1] t (0, 0)) ∧ w1.heap[b]? = some (.cells #[u0, u1] t' (0, 0)) ∧ Only (fun _ => False) w w1) :=
  ⟨_, _, _, rfl, rfl, rfl, bx_made w _ _, heap_alloc2_new w _ _, ((Only.refl _ _).alloc _).alloc _⟩
set_option maxRecDepth 100000 in
set_option maxHeartbeats 4000000 in
theorem sameLay_any (L : List Ln) (n : Nat) (a a' : Option Addr) (c c' : Nat) (q : Bool) (w : World) (hn : n = L.length) (h1 : Vw w a (lnC L)) (h2 : Vw w a' (lnC L)) (hl : n ≤ 1000000) :
    Calls Try.prog 15 #[.agg #[.slice a n c, .bool q], .agg #[.slice a' n c', .bool q]] w fun e w' => e = .returned (.bool true) ∧ Only (fun _ => False) w w' := by
  have H1 : Hid (Vw w a (lnC L) ∧ Vw w a' (lnC L) ∧ n = L.length) := ⟨h1, h2, hn⟩
  clear h1 h2 hn
  go_enter Try.func15, Try.ntmps15
  go_upto_region 1 with fail
  obtain ⟨R, B, w0, hw0, hB, hR, H0⟩ := box22 w (.slice a n c) (.bool q) (.slice a' n c') (.bool q) 45 45
  rw [hw0, hB, hR]
  clear hw0 hB hR
  obtain ⟨r0, r1, lR⟩ := blk_two H0.out.1
  obtain ⟨b0, b1, lB⟩ := blk_two H0.out.2.1
  have qq : (q == q) = true := by rw [beq_iff_eq]
  go_wp2_with fail
  go_loopg [5] n (fun gh v wr => ∃ (k m : Nat), gh = n - k ∧ k ≤ n ∧ v = .int .i64 (k : Int) ∧ wr = w0.drewN m)
  case atStart => exact ⟨0, 0, rfl, Nat.zero_le _, rfl, rfl⟩
  case round =>
    obtain ⟨k, m, rfl, hk, rfl, rfl⟩ := hrel
    by_cases hlt : k < n
    · have t1 : (k : Int) < (n : Int) := by omega
      obtain ⟨x, hx⟩ : ∃ x, L[k]? = some x := ⟨_, List.getElem?_eq_getElem (by rw [← H1.out.2.2]; exact hlt)⟩
      obtain ⟨b, off, rfl, hb, c0, c1, c2, c3⟩ := (H1.out.1.keep H0.out.2.2).line hx
      obtain ⟨b', off', rfl, hb', d0, d1, d2, d3⟩ := (H1.out.2.1.keep H0.out.2.2).line hx
      obtain ⟨xp, xl, xc, xk⟩ := x
      simp only at c0 c1 c2 c3 d0 d1 d2 d3
      clear hx
      go_wp2_with fail
      go_quiet (fail)
      go_wp2_with fail
      go_roundg (n - (k + 1))
      case measure => omega
      case rel => exact ⟨k + 1, _, rfl, by omega, by go_num, rfl⟩
    · have t2 : decide ((k : Int) < (n : Int)) = false := decide_eq_false (by omega)
      go_wp2_with fail
      go_ret
      exact ⟨rfl, H0.out.2.2.drewN m⟩
end Go.Proofs.Ytdepjmneoplicaa
/-
  Layer 16's Awake.
-/
namespace Go.Proofs.Ytdepjmneoplicaa
open Go.RowKit Go.Maps
set_option linter.unusedVariables false
set_option linter.unusedSimpArgs false
def L16 : List Bt := [⟨1, 0, 0, 2⟩, ⟨1, 0, 0, 0⟩]
def C16 : List Ct := Pa.cts L16 0
def O16 : List Nat := Pa.ops L16 2 ++ [2]
set_option maxRecDepth 100000 in
theorem sof16 : Lv.sof C16 O16 8 3 0 0 0 0 (It.parts O16 3) (It.parts O16 3).length = ([⟨0, 1, 1, 2⟩, ⟨1, 2, 1, 2⟩], false) := by kernel_rfl
set_option maxRecDepth 100000 in
theorem sof160 : Lv.sof [] [2] 8 3 0 0 0 0 (It.parts [2] 1) (It.parts [2] 1).length = ([], false) := by kernel_rfl
theorem box6s' (w : World) (u0 u1 u2 u3 u4 u5 v0 v1 v2 v3 v4 v5 : Value) (t : TypeId) : ∃ R w0, (w.alloc (.cells #[u0, u1, u2, u3, u4, u5] t)).setRow w.heap.size #[v0, v1, v2, v3, v4, v5] = w0 ∧ w.heap.size = R ∧ Hid (w0.heap[R]? = some (.cells #[v0, v1, v2, v3, v4, v5] t (0, 0))) ∧ Hid (Only (fun _ => False) w w0) := by
  have h := setRow_heap (w.alloc (.cells #[u0, u1, u2, u3, u4, u5] t)) w.heap.size _ #[v0, v1, v2, v3, v4, v5] _ _ (heap_alloc_new w _)
  exact ⟨_, _, rfl, rfl, h, ((Only.refl _ _).alloc _).setRowNew (Nat.le_refl _) _⟩
theorem para0 (W : World) : Calls Try.prog 10 #[.slice none 0 0] W fun e w' => ∃ aC aO cC cO, e = .returned (.agg #[.slice aC 0 cC, .slice aO 1 cO]) ∧ Pv w' [] [2] 0 1 aC aO cC cO ∧ Only (fun _ => False) W w' := by
  refine (para_pv [] 0 none 0 W rfl (Vw.nil _ _) (fun b h => by cases h) (by decide)).mono ?_
  rintro e w' ⟨k, aC, aO, cC, cO, he, hk, _, hP, ho⟩
  have hk0 : k = 0 := by omega
  subst hk0
  exact ⟨aC, aO, cC, cO, he, hP, ho⟩
theorem break0 (W : World) (aC aO : Option Addr) (cC cO : Nat) (hP : Pv W [] [2] 0 1 aC aO cC cO) : Calls Try.prog 12 #[.agg #[.slice aC 0 cC, .slice aO 1 cO], .agg #[.int .i64 3, .int .i64 8, .int .u8 0, .int .i64 0, .int .i64 0, .float .f64 0]] W fun e w' => ∃ a c, e = .returned (.tuple #[.slice a 0 c, .bool false]) ∧ Only (fun _ => False) W w' := by
  refine (lbreak_any [] [2] 0 1 aC aO cC cO 3 8 0 0 0 0 W hP rfl (by decide) (by decide) (by decide) (by decide) (by decide) (by decide) (by decide)).mono ?_
  rintro e w' ⟨n, a, c, hn, he, _, ho⟩
  rw [sof160] at hn he
  have hn0 : n = 0 := hn
  subst hn0
  exact ⟨a, c, he, ho⟩
theorem rows0 (W : World) (aC aO : Option Addr) (cC cO : Nat) (a : Option Addr) (c : Nat) (hP : Pv W [] [2] 0 1 aC aO cC cO) : Calls Try.prog 16 #[.agg #[.slice aC 0 cC, .slice aO 1 cO], .slice a 0 c] W fun e w' => ∃ a c, e = .returned (.slice a 1 c) ∧ Vw w' a (lnC [⟨0, 0, 0, 2⟩]) ∧ Only (fun _ => False) W w' :=
  rows_any [] [2] 0 1 aC aO cC cO [] 0 a c W hP (fun i h => by simp at h) (by decide) rfl (Vw.nil _ _) (by decide) (fun l h => by cases h)
theorem para2 (W : World) (g : Nat) (hg : W.heap[g]? = some (.cells #[.int .u8 1, .int .u8 0, .int .u8 0, .int .u8 2, .int .u8 1, .int .u8 0, .int .u8 0, .int .u8 0] 63 (0, 0))) : Calls Try.prog 10 #[.slice (some ⟨g, 0, none⟩) 2 2] W fun e w' => ∃ aC aO cC cO, e = .returned (.agg #[.slice aC 2 cC, .slice aO 3 cO]) ∧ Pv w' C16 O16 2 3 aC aO cC cO ∧ Only (fun _ => False) W w' := by
  refine (para_pv L16 2 (some ⟨g, 0, none⟩) 2 W rfl (Or.inr ⟨_, _, rfl, fun j u hj => ?_⟩) (by decide) (by decide)).mono ?_
  · rw [Nat.zero_add, cell_blk hg, ← Array.getElem?_toList]
    exact hj
  · rintro e w' ⟨k, aC, aO, cC, cO, he, hk, hs, hP, ho⟩
    have hk2 : k = 2 := by
      rcases hs with h | h
      · exact h
      · have h1 := cts_sum (L16.take k) 0
        have h2 : (L16.take k).length ≤ 2 := by rw [List.length_take]; exact Nat.le_trans (Nat.min_le_right _ _) (Nat.le_refl 2)
        omega
    subst hk2
    exact ⟨aC, aO, cC, cO, he, hP, ho⟩
theorem break2 (W : World) (aC aO : Option Addr) (cC cO : Nat) (hP : Pv W C16 O16 2 3 aC aO cC cO) : Calls Try.prog 12 #[.agg #[.slice aC 2 cC, .slice aO 3 cO], .agg #[.int .i64 3, .int .i64 8, .int .u8 0, .int .i64 0, .int .i64 0, .float .f64 0]] W fun e w' => ∃ a c, e = .returned (.tuple #[.slice a 2 c, .bool false]) ∧ Vw w' a (lnC [⟨0, 1, 1, 2⟩, ⟨1, 2, 1, 2⟩]) ∧ Only (fun _ => False) W w' := by
  refine (lbreak_any C16 O16 2 3 aC aO cC cO 3 8 0 0 0 0 W hP rfl (by decide) (by decide) (by decide) (by decide) (by decide) (by decide) (by decide)).mono ?_
  rintro e w' ⟨n, a, c, hn, he, hown, ho⟩
  rw [sof16] at hn he hown
  have hn2 : n = 2 := hn
  subst hn2
  exact ⟨a, c, he, own_vw hown, ho⟩
set_option maxRecDepth 100000 in
set_option maxHeartbeats 4000000 in
theorem awake16_any (w : World) : Calls Try.prog 9 #[] w fun e w' => e = .returned (.bool true) ∧ Only (fun _ => False) w w' := by
  go_enter Try.func9, Try.ntmps9
  go_upto_region 2 with (refine wpList_store_row rfl 35 _ _ rfl w.heap.size #[.int .i64 3, .int .i64 8, .int .u8 0, .int .i64 0, .int .i64 0, .float .f64 0] rfl rfl 35 _ (heap_alloc_new w _) (by kernel_rfl) rfl (cfg_one _ _ _ _ _ _) ?_)
  obtain ⟨R, w0, hw0, hR, HB, HO⟩ := box6s' w (.int .i64 0) (.int .i64 0) (.int .u8 0) (.int .i64 0) (.int .i64 0) (.float .f64 0) (.int .i64 3) (.int .i64 8) (.int .u8 0) (.int .i64 0) (.int .i64 0) (.float .f64 0) 35
  rw [hw0, hR]
  clear hw0 hR
  have HS : Hid (∀ W', Only (fun _ => False) w0 W' → (fun W' => W'.cell? ⟨R, 0, none⟩ = some (.int .i64 3) ∧ W'.cell? ⟨R, 1, none⟩ = some (.int .i64 8) ∧ W'.cell? ⟨R, 2, none⟩ = some (.int .u8 0) ∧ W'.cell? ⟨R, 3, none⟩ = some (.int .i64 0) ∧ W'.cell? ⟨R, 4, none⟩ = some (.int .i64 0) ∧ W'.cell? ⟨R, 5, none⟩ = some (.float .f64 0)) W') := fun W' ho => blk_six (blk_keep ho HB.out)
  have HSL : Hid (∀ W', Only (fun _ => False) w0 W' → R < W'.heap.size) := fun W' ho => (Array.getElem?_eq_some_iff.1 (blk_keep ho HB.out)).1
  go_region_held3 (fun W' => W'.cell? ⟨R, 0, none⟩ = some (.int .i64 3) ∧ W'.cell? ⟨R, 1, none⟩ = some (.int .i64 8) ∧ W'.cell? ⟨R, 2, none⟩ = some (.int .u8 0) ∧ W'.cell? ⟨R, 3, none⟩ = some (.int .i64 0) ∧ W'.cell? ⟨R, 4, none⟩ = some (.int .i64 0) ∧ W'.cell? ⟨R, 5, none⟩ = some (.float .f64 0)) ((first | exact HS.out _ (Only.refl _ _).drew | exact HS.out _ H2.out | exact HS.out _ H1.out.2)) ((first | (go_at_call 10; refine Calls.mono (para0 _) ?_; rintro e w1 ⟨aC, aO, cC, cO, rfl, hPv, ho1⟩; have H1 : Hid (Pv w1 [] [2] 0 1 aC aO cC cO ∧ Only (fun _ => False) w0 w1) := ⟨hPv, (Only.refl _ _).drew.trans ho1⟩; clear hPv ho1) | (go_at_call 12; refine Calls.mono (break0 _ _ _ _ _ H1.out.1) ?_; rintro e w2 ⟨aL, cL, rfl, ho2⟩; have H2 : Hid (Only (fun _ => False) w0 w2) := H1.out.2.trans ho2; clear ho2)))
  go_wp2_with fail
  refine Calls.mono (para0 _) ?_
  rintro e w3 ⟨aD, aP, cD, cP, rfl, hPv, ho3⟩
  have H3 : Hid (Pv w3 [] [2] 0 1 aD aP cD cP ∧ Only (fun _ => False) w0 w3) := ⟨hPv, H2.out.trans ho3⟩
  clear hPv ho3
  go_wp2_with fail
  refine Calls.mono (rows0 _ _ _ _ _ _ _ H3.out.1) ?_
  rintro e w4 ⟨aR, cR, rfl, hV, ho4⟩
  have H4 : Hid (Vw w4 aR (lnC [⟨0, 0, 0, 2⟩]) ∧ Only (fun _ => False) w0 w4) := ⟨hV, H3.out.2.trans ho4⟩
  clear hV ho4
  go_upto_region 4 with fail
  have HD : Hid (Only (fun _ => False) w0 w4.drew) := H4.out.2.drew
  refine wp_region_held_drew (S := (fun W' => W'.cell? ⟨R, 0, none⟩ = some (.int .i64 3) ∧ W'.cell? ⟨R, 1, none⟩ = some (.int .i64 8) ∧ W'.cell? ⟨R, 2, none⟩ = some (.int .u8 0) ∧ W'.cell? ⟨R, 3, none⟩ = some (.int .i64 0) ∧ W'.cell? ⟨R, 4, none⟩ = some (.int .i64 0) ∧ W'.cell? ⟨R, 5, none⟩ = some (.float .f64 0))) (by kernel_rfl) (HS.out _ HD.out) (fun hHeld => ?_)
  refine wpAnyH_take (i := 0) (oi := { dst := some 18, op := _, type := _, pos := _, after := _, guard := _ }) (v := .agg #[.int .u8 1, .int .u8 0, .int .u8 0, .int .u8 2]) rfl (by kernel_rfl) (by kernel_rfl) (by kernel_rfl) (fun _ _ _ h => h) (Or.inl ⟨by rfl, fun w hSw => by obtain ⟨y0, y1, y2, y3, y4, y5⟩ := hSw; first | (go_simp; done) | go_simp⟩) (by assumption) ?_
  (try simp only [Act.put, List.setIfInBounds_toArray, List.set_cons_zero, List.set_cons_succ])
  refine wpAnyH_take (i := 1) (oi := { dst := some 19, op := _, type := _, pos := _, after := _, guard := _ }) (v := .agg #[.int .u8 1, .int .u8 0, .int .u8 0, .int .u8 0]) rfl (by kernel_rfl) (by kernel_rfl) (by kernel_rfl) (fun _ _ _ h => h) (Or.inl ⟨by rfl, fun w hSw => by obtain ⟨y0, y1, y2, y3, y4, y5⟩ := hSw; first | (go_simp; done) | go_simp⟩) (by assumption) ?_
  (try simp only [Act.put, List.setIfInBounds_toArray, List.set_cons_zero, List.set_cons_succ])
  refine wpAnyH_take (i := 4) (oi := { dst := some 22, op := _, type := _, pos := _, after := _, guard := _ }) (v := .agg #[.int .i64 3, .int .i64 8, .int .u8 0, .int .i64 0, .int .i64 0, .float .f64 0]) rfl (by kernel_rfl) (by kernel_rfl) (by kernel_rfl) (fun _ _ _ h => h) (Or.inl ⟨by rfl, fun w hSw => by obtain ⟨y0, y1, y2, y3, y4, y5⟩ := hSw; first | (go_simp; done) | go_simp⟩) (by assumption) ?_
  (try simp only [Act.put, List.setIfInBounds_toArray, List.set_cons_zero, List.set_cons_succ])
  refine wpAnyH_ready (rs := [2]) (by kernel_rfl) (by simp) ?_
  refine AllReadyH.cons rfl (fun K hK => ?_) AllReadyH.nil
  rw [if_pos (by rfl)]
  go_simp
  obtain ⟨w5, hw5⟩ : ∃ Y, Y = (w4.alloc (.cells #[.int .u8 1, .int .u8 0, .int .u8 0, .int .u8 2, .int .u8 1, .int .u8 0, .int .u8 0, .int .u8 0] 63)).drew := ⟨_, rfl⟩
  obtain ⟨G, hG⟩ : ∃ b, b = w4.heap.size := ⟨_, rfl⟩
  have H5 : Hid (w5.heap[G]? = some (.cells #[.int .u8 1, .int .u8 0, .int .u8 0, .int .u8 2, .int .u8 1, .int .u8 0, .int .u8 0, .int .u8 0] 63 (0, 0)) ∧ Vw w5 aR (lnC [⟨0, 0, 0, 2⟩]) ∧ Only (fun _ => False) w0 w5) := by rw [hw5, hG]; exact ⟨heap_alloc_new w4 _, H4.out.1.keep ((Only.refl _ _).alloc _).drew, (H4.out.2.alloc _).drew⟩
  rw [← hw5, ← hG]
  clear hw5 hG
  refine hK.out _ _ (HS.out _ H5.out.2.2) (fun hHeld => ?_)
  clear hK
  (try simp only [Act.put, List.setIfInBounds_toArray, List.set_cons_zero, List.set_cons_succ])
  refine wpAnyH_ready (rs := [3]) (by kernel_rfl) (by simp) ?_
  refine AllReadyH.cons rfl (fun K hK => ?_) AllReadyH.nil
  rw [if_pos (by rfl)]
  go_simp
  refine Calls.mono (para2 _ _ H5.out.1) ?_
  rintro e w6 ⟨aE, aQ, cE, cQ, rfl, hPv, ho6⟩
  have H6 : Hid (Pv w6 C16 O16 2 3 aE aQ cE cQ ∧ Vw w6 aR (lnC [⟨0, 0, 0, 2⟩]) ∧ Only (fun _ => False) w0 w6) := ⟨hPv, H5.out.2.1.keep ho6, H5.out.2.2.trans ho6⟩
  clear hPv ho6
  refine hK.out _ _ (HS.out _ H6.out.2.2) (fun hHeld => ?_)
  clear hK
  (try simp only [Act.put, List.setIfInBounds_toArray, List.set_cons_zero, List.set_cons_succ])
  refine wpAnyH_ready (rs := [5]) (by kernel_rfl) (by simp) ?_
  refine AllReadyH.cons rfl (fun K hK => ?_) AllReadyH.nil
  rw [if_pos (by rfl)]
  go_simp
  refine Calls.mono (break2 _ _ _ _ _ H6.out.1) ?_
  rintro e w7 ⟨aM, cM, rfl, hV, ho7⟩
  have H7 : Hid (Vw w7 aR (lnC [⟨0, 0, 0, 2⟩]) ∧ Vw w7 aM (lnC [⟨0, 1, 1, 2⟩, ⟨1, 2, 1, 2⟩]) ∧ Only (fun _ => False) w0 w7) := ⟨H6.out.2.1.keep ho7, hV, H6.out.2.2.trans ho7⟩
  clear hV ho7
  refine hK.out _ _ (HS.out _ H7.out.2.2) (fun hHeld => ?_)
  clear hK
  (try simp only [Act.put, List.setIfInBounds_toArray, List.set_cons_zero, List.set_cons_succ])
  refine wpAnyH_take (i := 6) (oi := { dst := some 17, op := _, type := _, pos := _, after := _, guard := _ }) (v := .tuple #[.slice aM 2 cM, .bool false]) rfl (by kernel_rfl) (by kernel_rfl) (by kernel_rfl) (fun _ _ _ h => h) (Or.inl ⟨by rfl, fun w hSw => by obtain ⟨y0, y1, y2, y3, y4, y5⟩ := hSw; first | (go_simp; done) | go_simp⟩) (by assumption) ?_
  (try simp only [Act.put, List.setIfInBounds_toArray, List.set_cons_zero, List.set_cons_succ])
  refine wpAnyH_take (i := 7) (oi := { dst := some 24, op := _, type := _, pos := _, after := _, guard := _ }) (v := .slice aM 2 cM) rfl (by kernel_rfl) (by kernel_rfl) (by kernel_rfl) (fun _ _ _ h => h) (Or.inl ⟨by rfl, fun w hSw => by obtain ⟨y0, y1, y2, y3, y4, y5⟩ := hSw; first | (go_simp; done) | go_simp⟩) (by assumption) ?_
  (try simp only [Act.put, List.setIfInBounds_toArray, List.set_cons_zero, List.set_cons_succ])
  refine wpAnyH_take (i := 8) (oi := { dst := some 25, op := _, type := _, pos := _, after := _, guard := _ }) (v := .bool false) rfl (by kernel_rfl) (by kernel_rfl) (by kernel_rfl) (fun _ _ _ h => h) (Or.inl ⟨by rfl, fun w hSw => by obtain ⟨y0, y1, y2, y3, y4, y5⟩ := hSw; first | (go_simp; done) | go_simp⟩) (by assumption) ?_
  (try simp only [Act.put, List.setIfInBounds_toArray, List.set_cons_zero, List.set_cons_succ])
  refine wpAnyH_take (i := 9) (oi := { dst := some 5, op := _, type := _, pos := _, after := _, guard := _ }) (v := .slice aM 2 cM) rfl (by kernel_rfl) (by kernel_rfl) (by kernel_rfl) (fun _ _ _ h => h) (Or.inl ⟨by rfl, fun w hSw => by obtain ⟨y0, y1, y2, y3, y4, y5⟩ := hSw; first | (go_simp; done) | go_simp⟩) (by assumption) ?_
  (try simp only [Act.put, List.setIfInBounds_toArray, List.set_cons_zero, List.set_cons_succ])
  refine wpAnyH_take (i := 10) (oi := { dst := some 6, op := _, type := _, pos := _, after := _, guard := _ }) (v := .bool false) rfl (by kernel_rfl) (by kernel_rfl) (by kernel_rfl) (fun _ _ _ h => h) (Or.inl ⟨by rfl, fun w hSw => by obtain ⟨y0, y1, y2, y3, y4, y5⟩ := hSw; first | (go_simp; done) | go_simp⟩) (by assumption) ?_
  (try simp only [Act.put, List.setIfInBounds_toArray, List.set_cons_zero, List.set_cons_succ])
  refine wpAnyH_done (by kernel_rfl) ?_ _
  clear hHeld
  obtain ⟨b, off, rfl, hb, c0, c1, c2, c3⟩ := H7.out.1.line (k := 0) rfl
  obtain ⟨b', off', rfl, hb', d0, d1, d2, d3⟩ := H7.out.2.1.line (k := 0) rfl
  obtain ⟨b2, off2, e2, hb2, f0, f1, f2, f3⟩ := H7.out.2.1.line (k := 1) rfl
  injection e2 with e2
  injection e2 with e3 e4
  subst e3 e4
  have c0' : w7.cell? ⟨b, off, none⟩ = some (.int .i64 0) := c0
  have c1' : w7.cell? ⟨b, off + 1, none⟩ = some (.int .i64 0) := c1
  have c2' : w7.cell? ⟨b, off + 2, none⟩ = some (.int .i64 0) := c2
  have c3' : w7.cell? ⟨b, off + 3, none⟩ = some (.int .u8 2) := c3
  have d3' : w7.cell? ⟨b', off' + 3, none⟩ = some (.int .u8 2) := d3
  have f1' : w7.cell? ⟨b', off' + 5, none⟩ = some (.int .i64 2) := f1
  have f1'' : w7.cell? ⟨b', off' + 4 + 1, none⟩ = some (.int .i64 2) := f1
  clear c0 c1 c2 c3 d0 d1 d2 d3 f0 f1 f2 f3
  go_wp2_with fail
  go_ret
  exact ⟨rfl, HO.out.trans H7.out.2.2⟩
end Go.Proofs.Ytdepjmneoplicaa
/-
  What layer 16's statements need of texts that were made; no walk in it.
-/
namespace Go.Proofs.Ytdepjmneoplicaa
set_option linter.unusedVariables false
set_option linter.unusedSimpArgs false
theorem opk_pa (L : List Bt) (k : Nat) : Lv.Opk (Pa.ops L k ++ [2]) k := by
  refine ⟨by rw [List.length_append, Pa.ops_len]; rfl, ops_end L k, fun h => ?_⟩
  have e : (Pa.ops L k ++ [2]).getD 0 0 = 0 := by
    rw [List.getD_eq_getElem?_getD, List.getElem?_append_left (by rw [Pa.ops_len]; omega)]
    unfold Pa.ops
    rw [List.getElem?_map, List.getElem?_range h]
    rfl
  rw [e]
  decide
theorem chn_in : ∀ {a b : Nat} {L : List Ln}, Lv.Chn a b L → ∀ l ∈ L, l.a < l.b ∧ l.b ≤ b
  | a, b, [], _, l, hl => by cases hl
  | a, b, x :: L, h, l, hl => by
    rcases List.mem_cons.1 hl with e | e
    · rw [e]
      exact ⟨by rw [h.1]; exact h.2.1, h.2.2.le⟩
    · exact chn_in h.2.2 l e
theorem sum_pa (L : List Bt) {k n0 : Nat} (hk : k ≤ n0) : It.sum (Pa.cts (L.take k) 0) ≤ 4 * n0 := by
  have h1 := cts_sum (L.take k) 0
  have h2 : (L.take k).length ≤ k := by rw [List.length_take]; exact Nat.min_le_left _ _
  omega
theorem rws_len (C : List Ct) (A : List Ln) : (rws C A).length ≤ A.length + 1 := by
  unfold rws
  by_cases h : A = []
  · rw [if_pos h]; simp
  · rw [if_neg h, List.length_map]; omega
end Go.Proofs.Ytdepjmneoplicaa
