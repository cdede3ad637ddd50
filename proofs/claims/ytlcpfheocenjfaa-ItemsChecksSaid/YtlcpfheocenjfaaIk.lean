/-
  items.fits, inRow, Parts, Bytes.
-/
import Derived.Test.YtlcpfheocenjfaaIt2
namespace Go.Proofs.Ytlcpfheocenjfaa
open Go.RowKit Go.Maps
set_option linter.unusedVariables false
set_option linter.unusedSimpArgs false
/-- a cluster of any numbers. -/
structure Cg where
  pl : Int
  len : Int
  cells : Int
  kind : Nat
def cgC (C : List Cg) : List Value := C.flatMap fun c => [.int .i64 c.pl, .int .i64 c.len, .int .i64 c.cells, .int .u8 (c.kind : Int)]
def Ct.g (c : Ct) : Cg := ⟨(c.pl : Int), (c.len : Int), c.cells, c.kind⟩
theorem ctC_cgC (C : List Ct) : ctC C = cgC (C.map Ct.g) := by
  unfold ctC cgC
  rw [List.flatMap_map]
  rfl
theorem cgC_len : ∀ S : List Cg, (cgC S).length = S.length * 4
  | [] => rfl
  | x :: L => by
    show ([Value.int .i64 x.pl, Value.int .i64 x.len, Value.int .i64 x.cells, Value.int .u8 (x.kind : Int)] ++ cgC L).length = _
    rw [List.length_append, cgC_len L]
    simp
    omega
theorem cgC_at : ∀ (L : List Cg) (k : Nat) (x : Cg), L[k]? = some x → (cgC L)[k * 4]? = some (.int .i64 x.pl) ∧ (cgC L)[k * 4 + 1]? = some (.int .i64 x.len) ∧ (cgC L)[k * 4 + 2]? = some (.int .i64 x.cells) ∧ (cgC L)[k * 4 + 3]? = some (.int .u8 (x.kind : Int)) := by
  intro L
  induction L with
  | nil => intro k x h; simp at h
  | cons y L ih =>
    intro k x h
    have e : cgC (y :: L) = [.int .i64 y.pl, .int .i64 y.len, .int .i64 y.cells, .int .u8 (y.kind : Int)] ++ cgC L := rfl
    rw [e]
    cases k with
    | zero => simp at h; subst h; exact ⟨rfl, rfl, rfl, rfl⟩
    | succ k =>
      have := ih k x (by simpa using h)
      rw [show (k + 1) * 4 = k * 4 + 4 by omega]
      exact ⟨this.1, this.2.1, this.2.2.1, this.2.2.2⟩
theorem Vw.cg {w : World} {a : Option Addr} {S : List Cg} {k : Nat} {s : Cg} (h : Vw w a (cgC S)) (hk : S[k]? = some s) : ∃ b off, a = some ⟨b, off, none⟩ ∧ b < w.heap.size ∧ w.cell? ⟨b, off + k * 4, none⟩ = some (.int .i64 s.pl) ∧ w.cell? ⟨b, off + k * 4 + 1, none⟩ = some (.int .i64 s.len) ∧ w.cell? ⟨b, off + k * 4 + 2, none⟩ = some (.int .i64 s.cells) ∧ w.cell? ⟨b, off + k * 4 + 3, none⟩ = some (.int .u8 (s.kind : Int)) := by
  have hl := (List.getElem?_eq_some_iff.1 hk).1
  obtain ⟨b, off, e, hb, hc⟩ := h.cells (by rw [cgC_len]; omega)
  obtain ⟨q0, q1, q2, q3⟩ := cgC_at S k s hk
  exact ⟨b, off, e, hb, hc _ _ q0, hc _ _ q1, hc _ _ q2, hc _ _ q3⟩
namespace It
abbrev good (e : Int) (c : Cg) : Prop := c.pl = e ∧ 1 ≤ c.len ∧ c.len ≤ 4096 - e ∧ 0 ≤ c.cells ∧ c.cells ≤ 2 ∧ c.kind ≤ 2
def row : List Cg → Int → Bool
  | [], _ => true
  | c :: C, e => decide (good e c) && row C (e + c.len)
def fit (O : List Nat) (n : Nat) : Bool := decide (O.length = n + 1 ∧ O.getD n 0 = 2 ∧ (0 < n → O.getD 0 0 = 0)) && O.all (fun x => decide (x ≤ 3))
theorem row_no {C : List Cg} {k : Nat} {e : Int} {c : Cg} (hc : C[k]? = some c) (h : ¬ good e c) : row (C.drop k) e = false := by
  have hl := (List.getElem?_eq_some_iff.1 hc)
  rw [List.drop_eq_getElem_cons hl.1, hl.2]
  unfold row
  rw [decide_eq_false h]
  rfl
theorem row_yes {C : List Cg} {k : Nat} {e : Int} {c : Cg} (hc : C[k]? = some c) (h : good e c) : row (C.drop k) e = row (C.drop (k + 1)) (e + c.len) := by
  have hl := (List.getElem?_eq_some_iff.1 hc)
  rw [List.drop_eq_getElem_cons hl.1, hl.2]
  conv => lhs; unfold row
  rw [decide_eq_true h]
  rfl
end It
set_option maxRecDepth 100000 in
set_option maxHeartbeats 4000000 in
theorem inRow_any (C : List Cg) (a0 : Option Addr) (c0 : Nat) (w : World) (hV : Vw w a0 (cgC C)) (hk : ∀ c ∈ C, c.kind < 256) (hn : C.length ≤ 1000000) :
    Calls Try.prog 46 #[.slice a0 C.length c0] w fun e w' => e = .returned (.bool (It.row C 0)) ∧ Only (fun _ => False) w w' := by
  have HV : Hid (Vw w a0 (cgC C) ∧ ∀ c ∈ C, c.kind < 256) := ⟨hV, hk⟩
  obtain ⟨n, hn'⟩ : ∃ n, n = C.length := ⟨_, rfl⟩
  have HN : Hid (n = C.length) := hn'
  obtain ⟨rb, hrb⟩ : ∃ b, b = It.row C 0 := ⟨_, rfl⟩
  rw [← hn'] at hn ⊢
  rw [← hrb]
  have HRB : Hid (rb = It.row C 0) := hrb
  clear hV hk hn' hrb
  go_enter Try.func46, Try.ntmps46
  go_wp2_with fail
  go_loopg [3, 8] n (fun gh v3 v8 wr => ∃ (k : Nat) (e : Int) (W : World), W = wr ∧ gh = n - k ∧ k ≤ n ∧ v3 = .int .i64 e ∧ v8 = .int .i64 (k : Int) ∧ 0 ≤ e ∧ e ≤ 4096 ∧ It.row (C.drop k) e = rb ∧ Only (fun _ => False) w W)
  case atStart => exact ⟨0, 0, _, rfl, rfl, Nat.zero_le _, rfl, rfl, Int.le_refl _, by omega, HRB.out.symm, Only.refl _ _⟩
  case round =>
    obtain ⟨k, e, W, hW, rfl, hk, rfl, rfl, he0, he1, hrow, hoW⟩ := hrel
    subst hW
    have HG : Hid (It.row (C.drop k) e = rb ∧ Only (fun _ => False) w W) := ⟨hrow, hoW⟩
    clear hrow hoW
    by_cases hlt : k < n
    · have t1 : (k : Int) < (n : Int) := by omega
      obtain ⟨c, hc⟩ : ∃ c, C[k]? = some c := ⟨_, List.getElem?_eq_getElem (by rw [← HN.out]; exact hlt)⟩
      obtain ⟨b, off, rfl, hb, c0', c1, c2, c3⟩ := (HV.out.1.keep HG.out.2).cg hc
      have hk8 : c.kind < 256 := HV.out.2 c (List.mem_of_getElem? hc)
      have HC : Hid (C[k]? = some c) := hc
      obtain ⟨cp, cl, cc, ck⟩ := c
      simp only at c0' c1 c2 c3 hk8
      clear hc
      by_cases hg : It.good e ⟨cp, cl, cc, ck⟩
      · have HR : Hid (It.row (C.drop (k + 1)) (e + cl) = rb) := by rw [← It.row_yes HC.out hg]; exact HG.out.1
        obtain ⟨g1, g2, g3, g4, g5, g6⟩ := hg
        simp only at g1 g2 g3 g4 g5 g6
        have u1 : (cp != e) = false := by simp; exact g1
        have u2 : decide (cl < 1) = false := decide_eq_false (by omega)
        have u3 : decide (4096 - e < cl) = false := decide_eq_false (by omega)
        have u4 : decide (cc < 0) = false := decide_eq_false (by omega)
        have u5 : decide (2 < cc) = false := decide_eq_false (by omega)
        have u6 : decide ((2 : Int) < (ck : Int)) = false := decide_eq_false (by omega)
        have hb1 : e + cl ≤ 4096 := by omega
        have hb0 : 0 ≤ e + cl := by omega
        clear g1
        go_wp2_with fail
        go_roundg (n - (k + 1))
        case measure => omega
        case rel => exact ⟨k + 1, e + cl, _, rfl, rfl, by omega, rfl, by go_num, hb0, hb1, HR.out, HG.out.2.alloc _⟩
      · have HF : Hid (rb = false) := by rw [← HG.out.1]; exact It.row_no HC.out hg
        have HGN : Hid (¬ (cp = e ∧ 1 ≤ cl ∧ cl ≤ 4096 - e ∧ 0 ≤ cc ∧ cc ≤ 2 ∧ ck ≤ 2)) := hg
        clear hg
        go_wp2_with fail
        all_goals first
          | (go_ret; exact ⟨by rw [HF.out]; rfl, HG.out.2.alloc _⟩)
          | (exfalso; have := HGN.out; omega)
    · have t2 : decide ((k : Int) < (n : Int)) = false := decide_eq_false (by omega)
      have HF : Hid (rb = true) := by rw [← HG.out.1, List.drop_eq_nil_of_le (by rw [← HN.out]; omega)]; rfl
      go_wp2_with fail
      go_ret
      exact ⟨by rw [HF.out]; rfl, HG.out.2⟩
set_option maxRecDepth 100000 in
set_option maxHeartbeats 4000000 in
theorem fits_any (O : List Nat) (n : Nat) (a0 : Option Addr) (c0 : Nat) (w : World) (hV : Vw w a0 (u8s O)) (hk : ∀ x ∈ O, x < 256) (hn : n ≤ 1000000) (hO : O.length ≤ 140737488355328) :
    Calls Try.prog 45 #[.slice a0 O.length c0, .int .i64 (n : Int)] w fun e w' => e = .returned (.bool (It.fit O n)) ∧ w' = w := by
  have HV : Hid (Vw w a0 (u8s O) ∧ ∀ x ∈ O, x < 256) := ⟨hV, hk⟩
  obtain ⟨nO, hnO⟩ : ∃ m, m = O.length := ⟨_, rfl⟩
  have HN : Hid (nO = O.length) := hnO
  obtain ⟨rb, hrb⟩ : ∃ b, b = It.fit O n := ⟨_, rfl⟩
  have HRB : Hid (rb = It.fit O n) := hrb
  rw [← hnO] at hO ⊢
  rw [← hrb]
  clear hV hk hnO hrb
  by_cases h1 : nO = n + 1
  · have t1 : ((nO : Int) != (n : Int) + 1) = false := by simp; omega
    obtain ⟨x, hx⟩ : ∃ x, O[n]? = some x := ⟨_, List.getElem?_eq_getElem (by rw [← HN.out]; omega)⟩
    obtain ⟨y, hy⟩ : ∃ y, O[0]? = some y := ⟨_, List.getElem?_eq_getElem (by rw [← HN.out]; omega)⟩
    obtain ⟨b, off, rfl, hb, hc⟩ := HV.out.1.cells (by rw [u8s_len, ← HN.out]; omega)
    have c1 := hc n _ (u8s_at hx)
    have c2 : w.cell? ⟨b, off, none⟩ = some (.int .u8 (y : Int)) := hc 0 _ (u8s_at hy)
    have hx8 : x < 256 := HV.out.2 x (List.mem_of_getElem? hx)
    have hy8 : y < 256 := HV.out.2 y (List.mem_of_getElem? hy)
    have t2 : (n : Int) < (nO : Int) := by omega
    have hdx : O.getD n 0 = x := by rw [List.getD_eq_getElem?_getD, hx]; rfl
    have hdy : O.getD 0 0 = y := by rw [List.getD_eq_getElem?_getD, hy]; rfl
    by_cases hg : x = 2 ∧ (0 < n → y = 0)
    · have HFT : Hid (rb = O.all (fun x => decide (x ≤ 3))) := by
        rw [HRB.out]
        unfold It.fit
        rw [hdx, hdy, decide_eq_true ⟨by rw [← HN.out]; exact h1, hg.1, hg.2⟩, Bool.true_and]
        exact rfl
      have u1 : ((x : Int) != 2) = false := by simp; omega
      have HCE : Hid (∀ (j z : Nat), O[j]? = some z → w.cell? ⟨b, off + j, none⟩ = some (.int .u8 (z : Int))) := fun j z hz => hc j _ (u8s_at hz)
      have hLoop : ∀ k : Nat, True := fun _ => trivial
      by_cases h0 : 0 < n
      · have u2 : (0 : Int) < (n : Int) := by omega
        have u3 : ((y : Int) != 0) = false := by have := hg.2 h0; simp; omega
        have u4 : (0 : Int) < (nO : Int) := by omega
        clear hx hy hc hdx hdy hg h1 hLoop
        go_enter Try.func45, Try.ntmps45
        go_wp2_with fail
        go_loopg [29] nO (fun gh v wr => ∃ (k : Nat), gh = nO - k ∧ k ≤ nO ∧ v = .int .i64 (k : Int) ∧ wr = w ∧ (O.take k).all (fun x => decide (x ≤ 3)) = true)
        case atStart => exact ⟨0, rfl, Nat.zero_le _, rfl, rfl, rfl⟩
        case round =>
          obtain ⟨k, rfl, hk, rfl, rfl, hall⟩ := hrel
          have HAL : Hid ((O.take k).all (fun x => decide (x ≤ 3)) = true) := hall
          clear hall
          by_cases hlt : k < nO
          · have r1 : (k : Int) < (nO : Int) := by omega
            obtain ⟨z, hz⟩ : ∃ z, O[k]? = some z := ⟨_, List.getElem?_eq_getElem (by rw [← HN.out]; exact hlt)⟩
            have d1 := HCE.out k z hz
            have hz8 : z < 256 := HV.out.2 z (List.mem_of_getElem? hz)
            by_cases hz3 : z ≤ 3
            · have r2 : decide ((3 : Int) < (z : Int)) = false := decide_eq_false (by omega)
              have HAL2 : Hid ((O.take (k + 1)).all (fun x => decide (x ≤ 3)) = true) := (by rw [take_snoc hz, List.all_append, HAL.out, Bool.true_and]; simp [hz3] : (O.take (k + 1)).all (fun x => decide (x ≤ 3)) = true)
              clear hz
              go_wp2_with fail
              go_roundg (nO - (k + 1))
              case measure => omega
              case rel => exact ⟨k + 1, rfl, by omega, by go_num, rfl, HAL2.out⟩
            · have r2 : (3 : Int) < (z : Int) := by omega
              have HF : Hid (rb = false) := (by rw [HFT.out, List.all_eq_false]; exact ⟨z, List.mem_of_getElem? hz, by simp; omega⟩ : rb = false)
              clear hz
              go_wp2_with fail
              go_ret
              exact ⟨by rw [HF.out]; rfl, rfl⟩
          · have r1 : decide ((k : Int) < (nO : Int)) = false := decide_eq_false (by omega)
            have HF : Hid (rb = true) := (by have h1 := HAL.out; rw [List.take_of_length_le (by rw [← HN.out]; omega)] at h1; rw [HFT.out]; exact h1 : rb = true)
            go_wp2_with fail
            go_ret
            exact ⟨by rw [HF.out]; rfl, rfl⟩
      · have u2 : decide ((0 : Int) < (n : Int)) = false := decide_eq_false (by omega)
        clear hx hy hc hdx hdy hg h1 hLoop
        go_enter Try.func45, Try.ntmps45
        go_wp2_with fail
        go_loopg [29] nO (fun gh v wr => ∃ (k : Nat), gh = nO - k ∧ k ≤ nO ∧ v = .int .i64 (k : Int) ∧ wr = w ∧ (O.take k).all (fun x => decide (x ≤ 3)) = true)
        case atStart => exact ⟨0, rfl, Nat.zero_le _, rfl, rfl, rfl⟩
        case round =>
          obtain ⟨k, rfl, hk, rfl, rfl, hall⟩ := hrel
          have HAL : Hid ((O.take k).all (fun x => decide (x ≤ 3)) = true) := hall
          clear hall
          by_cases hlt : k < nO
          · have r1 : (k : Int) < (nO : Int) := by omega
            obtain ⟨z, hz⟩ : ∃ z, O[k]? = some z := ⟨_, List.getElem?_eq_getElem (by rw [← HN.out]; exact hlt)⟩
            have d1 := HCE.out k z hz
            have hz8 : z < 256 := HV.out.2 z (List.mem_of_getElem? hz)
            by_cases hz3 : z ≤ 3
            · have r2 : decide ((3 : Int) < (z : Int)) = false := decide_eq_false (by omega)
              have HAL2 : Hid ((O.take (k + 1)).all (fun x => decide (x ≤ 3)) = true) := (by rw [take_snoc hz, List.all_append, HAL.out, Bool.true_and]; simp [hz3] : (O.take (k + 1)).all (fun x => decide (x ≤ 3)) = true)
              clear hz
              go_wp2_with fail
              go_roundg (nO - (k + 1))
              case measure => omega
              case rel => exact ⟨k + 1, rfl, by omega, by go_num, rfl, HAL2.out⟩
            · have r2 : (3 : Int) < (z : Int) := by omega
              have HF : Hid (rb = false) := (by rw [HFT.out, List.all_eq_false]; exact ⟨z, List.mem_of_getElem? hz, by simp; omega⟩ : rb = false)
              clear hz
              go_wp2_with fail
              go_ret
              exact ⟨by rw [HF.out]; rfl, rfl⟩
          · have r1 : decide ((k : Int) < (nO : Int)) = false := decide_eq_false (by omega)
            have HF : Hid (rb = true) := (by have h1 := HAL.out; rw [List.take_of_length_le (by rw [← HN.out]; omega)] at h1; rw [HFT.out]; exact h1 : rb = true)
            go_wp2_with fail
            go_ret
            exact ⟨by rw [HF.out]; rfl, rfl⟩
    · have HF : Hid (rb = false) := by
        rw [HRB.out]
        unfold It.fit
        rw [hdx, hdy, decide_eq_false (fun h => hg ⟨h.2.1, h.2.2⟩), Bool.false_and]
        exact rfl
      have HGN : Hid (¬ (x = 2 ∧ (0 < n → y = 0))) := hg
      have u4 : (0 : Int) < (nO : Int) := by omega
      clear hx hy hc hdx hdy hg h1
      by_cases hx2 : x = 2
      · have u1 : ((x : Int) != 2) = false := by simp; omega
        have h0 : 0 < n := Nat.pos_of_ne_zero (fun h => HGN.out ⟨hx2, fun h2 => by omega⟩)
        have u2 : (0 : Int) < (n : Int) := by omega
        have u3 : ((y : Int) != 0) = true := by simp; intro h; exact HGN.out ⟨hx2, fun _ => by omega⟩
        clear hx2
        go_enter Try.func45, Try.ntmps45
        go_wp2_with fail
        go_ret
        exact ⟨by rw [HF.out]; rfl, rfl⟩
      · have u1 : ((x : Int) != 2) = true := by simp; omega
        go_enter Try.func45, Try.ntmps45
        go_wp2_with fail
        go_ret
        exact ⟨by rw [HF.out]; rfl, rfl⟩
  · have t1 : ((nO : Int) != (n : Int) + 1) = true := by simp; omega
    have HF : Hid (rb = false) := by
      rw [HRB.out]
      unfold It.fit
      rw [decide_eq_false (fun h => h1 (by rw [HN.out]; exact h.1)), Bool.false_and]
      exact rfl
    clear h1
    go_enter Try.func45, Try.ntmps45
    go_wp2_with fail
    go_ret
    exact ⟨by rw [HF.out]; rfl, rfl⟩
namespace It
def parts (O : List Nat) (k : Nat) : List Nat := (List.range k).filter (fun i => O.getD i 0 == 2)
theorem parts_yes {O : List Nat} {k : Nat} (h : O.getD k 0 = 2) : parts O (k + 1) = parts O k ++ [k] := by
  unfold parts
  rw [List.range_succ, List.filter_append]
  have : (O.getD k 0 == 2) = true := beq_iff_eq.2 h
  simp only [List.filter_cons, this, List.filter_nil]
  simp
theorem parts_no {O : List Nat} {k : Nat} (h : O.getD k 0 ≠ 2) : parts O (k + 1) = parts O k := by
  unfold parts
  rw [List.range_succ, List.filter_append]
  have : (O.getD k 0 == 2) = false := beq_eq_false_iff_ne.2 h
  simp only [List.filter_cons, this, List.filter_nil]
  simp
theorem parts_len (O : List Nat) (k : Nat) : (parts O k).length ≤ k := by
  unfold parts
  have := List.length_filter_le (fun i => O.getD i 0 == 2) (List.range k)
  simpa using this
def sum : List Ct → Nat
  | [] => 0
  | c :: C => c.len + sum C
theorem sum_append : ∀ (a b : List Ct), sum (a ++ b) = sum a + sum b
  | [], b => by simp [sum]
  | s :: a, b => by simp [sum, sum_append a b]; omega
theorem sum_le {C : List Ct} : ∀ k, sum (C.take k) ≤ sum C := fun k => by
  have h := sum_append (C.take k) (C.drop k)
  rw [List.take_append_drop] at h
  omega
end It
def ptP (L : List Nat) (w : World) (e : Ending) (w' : World) : Prop := ∃ (a : Option Addr) (c : Nat), e = .returned (.slice a L.length c) ∧ w'.ownsRow w.heap.size 3 1 (.slice a L.length c) L.length (natI L) ∧ Only (fun _ => False) w w'
set_option maxRecDepth 100000 in
set_option maxHeartbeats 4000000 in
theorem parts_any (nC : Nat) (aC : Option Addr) (cC : Nat) (O : List Nat) (aO : Option Addr) (cO : Nat) (w : World) (hV : Vw w aO (u8s O)) (hk : ∀ x ∈ O, x < 256) (hO : O.length ≤ 100000) :
    Calls Try.prog 29 #[.agg #[.slice aC nC cC, .slice aO O.length cO]] w (ptP (It.parts O O.length) w) := by
  obtain ⟨i3, g3, g30, g31, g32⟩ := info_parts info3
  have HV : Hid (Vw w aO (u8s O) ∧ ∀ x ∈ O, x < 256) := ⟨hV, hk⟩
  obtain ⟨n, hn'⟩ : ∃ n, n = O.length := ⟨_, rfl⟩
  have HN : Hid (n = O.length) := hn'
  rw [← hn'] at hO ⊢
  clear hV hk hn'
  go_enter Try.func29, Try.ntmps29
  go_wp2_with fail
  obtain ⟨w0, hw0⟩ : ∃ Z, Z = w.alloc (.cells #[.slice aC nC cC, .slice aO n cO] 62) := ⟨_, rfl⟩
  rw [← hw0]
  obtain ⟨R, hR⟩ : ∃ b, b = w.heap.size := ⟨_, rfl⟩
  rw [← hR]
  have H0 : Hid (Only (fun _ => False) w w0 ∧ w0.heap[R]? = some (.cells #[.slice aC nC cC, .slice aO n cO] 62 (0, 0)) ∧ R = w.heap.size) := by
    rw [hw0, hR]
    exact ⟨(Only.refl _ _).alloc _, heap_alloc_new w _, rfl⟩
  have hs0 := H0.out.1.size
  have lR0 : R < w0.heap.size := (Array.getElem?_eq_some_iff.1 H0.out.2.1).1
  clear hw0 hR
  go_loopg [3, 9] n (fun gh v3 v9 wr => ∃ (i k : Nat) (a : Option Addr) (c : Nat) (W : World), W = wr ∧ gh = n - i ∧ i ≤ n ∧ v3 = .slice a k c ∧ v9 = .int .i64 (i : Int) ∧ k ≤ i ∧ k = (It.parts O i).length ∧ W.ownsRow w0.heap.size 3 1 (.slice a k c) k (natI (It.parts O i)) ∧ Only (fun b => w0.heap.size ≤ b) w0 W)
  case atStart => exact ⟨0, 0, none, 0, _, rfl, rfl, Nat.zero_le _, rfl, rfl, Nat.le_refl _, rfl, ⟨rfl, Or.inl ⟨rfl, rfl⟩⟩, Only.refl _ _⟩
  case round =>
    obtain ⟨i, k, a, c, W, hW, rfl, hi, rfl, rfl, hki, hk, hown, hoW⟩ := hrel
    subst hW
    have HG : Hid (W.ownsRow w0.heap.size 3 1 (.slice a k c) k (natI (It.parts O i)) ∧ Only (fun b => w0.heap.size ≤ b) w0 W ∧ k = (It.parts O i).length ∧ Only (fun _ => False) w W) := ⟨hown, hoW, hk, H0.out.1.trans (hoW.old (fun b hb => Or.inl hb))⟩
    have hsz := hoW.size
    have hbR : W.heap[R]? = some (.cells #[.slice aC nC cC, .slice aO n cO] 62 (0, 0)) := (hoW.block R lR0 (by omega)).trans H0.out.2.1
    have r0 : W.cell? ⟨R, 1, none⟩ = some (.slice aO n cO) := cell_blk hbR
    have lRW : R < W.heap.size := by omega
    clear hown hoW hk hbR
    have HVA : Hid ((W.alloc (.cells #[.int .i64 (i : Int)] 3)).heap[W.heap.size]? = some (.cells #[.int .i64 (i : Int)] 3 (0, 0)) ∧ (W.alloc (.cells #[.int .i64 (i : Int)] 3)).heap.size = W.heap.size + 1) := ⟨heap_alloc_new W _, by simp⟩
    by_cases hlt : i < n
    · have t1 : (i : Int) < (n : Int) := by omega
      obtain ⟨x, hx⟩ : ∃ x, O[i]? = some x := ⟨_, List.getElem?_eq_getElem (by rw [← HN.out]; exact hlt)⟩
      obtain ⟨b0, off, e0, hb0, hc⟩ := (HV.out.1.keep HG.out.2.2.2).cells (by rw [u8s_len, ← HN.out]; omega)
      subst e0
      have c1 := hc i _ (u8s_at hx)
      have hx8 : x < 256 := HV.out.2 x (List.mem_of_getElem? hx)
      have hdx : O.getD i 0 = x := by rw [List.getD_eq_getElem?_getD, hx]; rfl
      by_cases hx2 : x = 2
      · have t2 : ((x : Int) == 2) = true := by rw [beq_iff_eq]; omega
        have HC : Hid (O.getD i 0 = 2) := (by rw [hdx]; exact hx2 : O.getD i 0 = 2)
        clear hx hc hdx hx2
        go_wp2_with (at_builtin; (refine wpList_append_lies _ rfl _ _ 35 rfl w0.heap.size 3 i3 (.int .i64 0) 1 8 Try.underlying35 g3 g30 g31 g32 rfl (by decide) (.slice a k c) k (natI (It.parts O i)) rfl (HG.out.1.alloc _) ⟨W.heap.size, 0, none⟩ 1 1 [.int .i64 (i : Int)] rfl rfl (World.news_of_block (cs := #[.int .i64 (i : Int)]) HVA.out.1) (fun u hu => by simp at hu; rcases hu with rfl; rfl) (by decide) (by unfold maxLen; omega) (by omega) (by rw [HVA.out.2]; omega) (W.heap.size + 1) HVA.out.2 ?_; intro g5 cap5 w5 hown5 hgrow5 hat5 hlt5; have hoo : Only (fun b => (Value.slice a k c).ownBlock = some b) W w5 := (((Only.refl (fun b => (Value.slice a k c).ownBlock = some b) W).alloc _)).grown hgrow5 (fun k hk => hk); have H5 : Hid (w5.ownsRow w0.heap.size 3 1 (.slice (some ⟨g5, 0, none⟩) (k + 1) cap5) (k + 1) (natI (It.parts O (i + 1))) ∧ Only (fun b => w0.heap.size ≤ b) w0 w5) := ⟨by rw [It.parts_yes HC.out, natI_snoc]; exact hown5, HG.out.2.1.trans (hoo.mono (fun b hb => (own_own HG.out.1 hb).1))⟩; clear hown5 hgrow5 hat5 hoo))
        go_roundg (n - (i + 1))
        case measure => omega
        case rel => exact ⟨i + 1, k + 1, _, _, _, rfl, rfl, by omega, rfl, by go_num, by omega, by rw [It.parts_yes HC.out, List.length_append, ← HG.out.2.2.1]; rfl, H5.out.1, H5.out.2⟩
      · have t2 : ((x : Int) == 2) = false := by rw [beq_eq_false_iff_ne]; omega
        have HC : Hid (O.getD i 0 ≠ 2) := (by rw [hdx]; exact hx2 : O.getD i 0 ≠ 2)
        clear hx hc hdx hx2
        go_wp2_with fail
        go_roundg (n - (i + 1))
        case measure => omega
        case rel => exact ⟨i + 1, k, _, _, _, rfl, rfl, by omega, rfl, by go_num, by omega, by rw [It.parts_no HC.out, ← HG.out.2.2.1], by rw [It.parts_no HC.out]; exact HG.out.1, HG.out.2.1⟩
    · have t1 : decide ((i : Int) < (n : Int)) = false := decide_eq_false (by omega)
      have hin : i = n := by omega
      subst hin
      go_wp2_with fail
      go_ret
      have e : (It.parts O i).length = k := HG.out.2.2.1.symm
      refine ⟨a, c, by rw [e]; rfl, by rw [e]; exact own_base2 HG.out.1 hs0, HG.out.2.2.2⟩
set_option maxRecDepth 100000 in
set_option maxHeartbeats 4000000 in
theorem bytes_any (C : List Ct) (aC : Option Addr) (cC : Nat) (nO : Nat) (aO : Option Addr) (cO : Nat) (w : World) (hV : Vw w aC (ctC C)) (hC : C.length ≤ 100000) (hs : It.sum C ≤ 1000000) :
    Calls Try.prog 31 #[.agg #[.slice aC C.length cC, .slice aO nO cO]] w fun e w' => e = .returned (.int .i64 (It.sum C : Int)) ∧ Only (fun _ => False) w w' := by
  have HV : Hid (Vw w aC (ctC C) ∧ It.sum C ≤ 1000000) := ⟨hV, hs⟩
  obtain ⟨n, hn'⟩ : ∃ n, n = C.length := ⟨_, rfl⟩
  have HN : Hid (n = C.length) := hn'
  obtain ⟨sm, hsm⟩ : ∃ n, n = It.sum C := ⟨_, rfl⟩
  have HSM : Hid (sm = It.sum C) := hsm
  rw [← hn'] at hC ⊢
  rw [← hsm]
  clear hV hs hn' hsm
  go_enter Try.func31, Try.ntmps31
  go_wp2_with fail
  obtain ⟨w0, hw0⟩ : ∃ Z, Z = w.alloc (.cells #[.slice aC n cC, .slice aO nO cO] 62) := ⟨_, rfl⟩
  rw [← hw0]
  have H0 : Hid (Only (fun _ => False) w w0) := by
    rw [hw0]
    exact (Only.refl _ _).alloc _
  clear hw0
  go_loopg [3, 9] n (fun gh v3 v9 wr => ∃ (i z : Nat) (W : World), W = wr ∧ gh = n - i ∧ i ≤ n ∧ v3 = .int .i64 (z : Int) ∧ v9 = .int .i64 (i : Int) ∧ z = It.sum (C.take i) ∧ Only (fun _ => False) w W)
  case atStart => exact ⟨0, 0, _, rfl, rfl, Nat.zero_le _, rfl, rfl, rfl, H0.out⟩
  case round =>
    obtain ⟨i, z, W, hW, rfl, hi, rfl, rfl, hz, hoW⟩ := hrel
    subst hW
    have HG : Hid (z = It.sum (C.take i) ∧ Only (fun _ => False) w W) := ⟨hz, hoW⟩
    have hzl : z ≤ 1000000 := by rw [hz]; exact Nat.le_trans (It.sum_le i) HV.out.2
    clear hz hoW
    by_cases hlt : i < n
    · have t1 : (i : Int) < (n : Int) := by omega
      obtain ⟨x, hx⟩ : ∃ x, C[i]? = some x := ⟨_, List.getElem?_eq_getElem (by rw [← HN.out]; exact hlt)⟩
      obtain ⟨q0, q1, q2, q3⟩ := ctC_at C i x hx
      obtain ⟨b, off, rfl, hb, hc⟩ := (HV.out.1.keep HG.out.2).cells (by rw [ctC_len, ← HN.out]; omega)
      have c0 : W.cell? ⟨b, off + i * 4, none⟩ = _ := hc _ _ q0
      have c1 : W.cell? ⟨b, off + i * 4 + 1, none⟩ = _ := hc _ _ q1
      have c2 : W.cell? ⟨b, off + i * 4 + 2, none⟩ = _ := hc _ _ q2
      have c3 : W.cell? ⟨b, off + i * 4 + 3, none⟩ = _ := hc _ _ q3
      have HX : Hid (It.sum (C.take (i + 1)) = z + x.len) := (by rw [take_snoc hx, It.sum_append, ← HG.out.1]; rfl : It.sum (C.take (i + 1)) = z + x.len)
      have hxl : z + x.len ≤ 1000000 := by rw [← HX.out]; exact Nat.le_trans (It.sum_le _) HV.out.2
      obtain ⟨xp, xl, xc, xk⟩ := x
      simp only at c0 c1 c2 c3 HX hxl
      clear hx q0 q1 q2 q3 hc
      go_wp2_with fail
      go_roundg (n - (i + 1))
      case measure => omega
      case rel => exact ⟨i + 1, z + xl, _, rfl, rfl, by omega, by go_num, by go_num, HX.out.symm, HG.out.2.alloc _⟩
    · have t1 : decide ((i : Int) < (n : Int)) = false := decide_eq_false (by omega)
      have HE : Hid (z = sm) := (by rw [HG.out.1, List.take_of_length_le (by rw [← HN.out]; omega), HSM.out] : z = sm)
      go_wp2_with fail
      go_ret
      exact ⟨by rw [← HE.out]; rfl, HG.out.2⟩
set_option maxRecDepth 100000 in
set_option maxHeartbeats 4000000 in
theorem refParts_any (nC : Nat) (aC : Option Addr) (cC : Nat) (O : List Nat) (aO : Option Addr) (cO : Nat) (w : World) (hV : Vw w aO (u8s O)) (hk : ∀ x ∈ O, x < 256) (hO : O.length ≤ 100000) :
    Calls Try.prog 34 #[.agg #[.slice aC nC cC, .slice aO O.length cO]] w (ptP (It.parts O O.length) w) := by
  obtain ⟨i3, g3, g30, g31, g32⟩ := info_parts info3
  have HV : Hid (Vw w aO (u8s O) ∧ ∀ x ∈ O, x < 256) := ⟨hV, hk⟩
  obtain ⟨n, hn'⟩ : ∃ n, n = O.length := ⟨_, rfl⟩
  have HN : Hid (n = O.length) := hn'
  rw [← hn'] at hO ⊢
  clear hV hk hn'
  go_enter Try.func34, Try.ntmps34
  go_wp2_with fail
  obtain ⟨w0, hw0⟩ : ∃ Z, Z = w.alloc (.cells #[.slice aC nC cC, .slice aO n cO] 62) := ⟨_, rfl⟩
  rw [← hw0]
  obtain ⟨R, hR⟩ : ∃ b, b = w.heap.size := ⟨_, rfl⟩
  rw [← hR]
  have H0 : Hid (Only (fun _ => False) w w0 ∧ w0.heap[R]? = some (.cells #[.slice aC nC cC, .slice aO n cO] 62 (0, 0)) ∧ R = w.heap.size) := by
    rw [hw0, hR]
    exact ⟨(Only.refl _ _).alloc _, heap_alloc_new w _, rfl⟩
  have hs0 := H0.out.1.size
  have lR0 : R < w0.heap.size := (Array.getElem?_eq_some_iff.1 H0.out.2.1).1
  clear hw0 hR
  go_loopg [3, 4] n (fun gh v3 v9 wr => ∃ (i k : Nat) (a : Option Addr) (c : Nat) (W : World), W = wr ∧ gh = n - i ∧ i ≤ n ∧ v3 = .slice a k c ∧ v9 = .int .i64 (i : Int) ∧ k ≤ i ∧ k = (It.parts O i).length ∧ W.ownsRow w0.heap.size 3 1 (.slice a k c) k (natI (It.parts O i)) ∧ Only (fun b => w0.heap.size ≤ b) w0 W)
  case atStart => exact ⟨0, 0, none, 0, _, rfl, rfl, Nat.zero_le _, rfl, rfl, Nat.le_refl _, rfl, ⟨rfl, Or.inl ⟨rfl, rfl⟩⟩, Only.refl _ _⟩
  case round =>
    obtain ⟨i, k, a, c, W, hW, rfl, hi, rfl, rfl, hki, hk, hown, hoW⟩ := hrel
    subst hW
    have HG : Hid (W.ownsRow w0.heap.size 3 1 (.slice a k c) k (natI (It.parts O i)) ∧ Only (fun b => w0.heap.size ≤ b) w0 W ∧ k = (It.parts O i).length ∧ Only (fun _ => False) w W) := ⟨hown, hoW, hk, H0.out.1.trans (hoW.old (fun b hb => Or.inl hb))⟩
    have hsz := hoW.size
    have hbR : W.heap[R]? = some (.cells #[.slice aC nC cC, .slice aO n cO] 62 (0, 0)) := (hoW.block R lR0 (by omega)).trans H0.out.2.1
    have r0 : W.cell? ⟨R, 1, none⟩ = some (.slice aO n cO) := cell_blk hbR
    have lRW : R < W.heap.size := by omega
    clear hown hoW hk hbR
    have HVA : Hid ((W.alloc (.cells #[.int .i64 (i : Int)] 3)).heap[W.heap.size]? = some (.cells #[.int .i64 (i : Int)] 3 (0, 0)) ∧ (W.alloc (.cells #[.int .i64 (i : Int)] 3)).heap.size = W.heap.size + 1) := ⟨heap_alloc_new W _, by simp⟩
    by_cases hlt : i < n
    · have t1 : (i : Int) < (n : Int) := by omega
      obtain ⟨x, hx⟩ : ∃ x, O[i]? = some x := ⟨_, List.getElem?_eq_getElem (by rw [← HN.out]; exact hlt)⟩
      obtain ⟨b0, off, e0, hb0, hc⟩ := (HV.out.1.keep HG.out.2.2.2).cells (by rw [u8s_len, ← HN.out]; omega)
      subst e0
      have c1 := hc i _ (u8s_at hx)
      have hx8 : x < 256 := HV.out.2 x (List.mem_of_getElem? hx)
      have hdx : O.getD i 0 = x := by rw [List.getD_eq_getElem?_getD, hx]; rfl
      by_cases hx2 : x = 2
      · have t2 : ((x : Int) == 2) = true := by rw [beq_iff_eq]; omega
        have HC : Hid (O.getD i 0 = 2) := (by rw [hdx]; exact hx2 : O.getD i 0 = 2)
        clear hx hc hdx hx2
        go_wp2_with (at_builtin; (refine wpList_append_lies _ rfl _ _ 35 rfl w0.heap.size 3 i3 (.int .i64 0) 1 8 Try.underlying35 g3 g30 g31 g32 rfl (by decide) (.slice a k c) k (natI (It.parts O i)) rfl (HG.out.1.alloc _) ⟨W.heap.size, 0, none⟩ 1 1 [.int .i64 (i : Int)] rfl rfl (World.news_of_block (cs := #[.int .i64 (i : Int)]) HVA.out.1) (fun u hu => by simp at hu; rcases hu with rfl; rfl) (by decide) (by unfold maxLen; omega) (by omega) (by rw [HVA.out.2]; omega) (W.heap.size + 1) HVA.out.2 ?_; intro g5 cap5 w5 hown5 hgrow5 hat5 hlt5; have hoo : Only (fun b => (Value.slice a k c).ownBlock = some b) W w5 := (((Only.refl (fun b => (Value.slice a k c).ownBlock = some b) W).alloc _)).grown hgrow5 (fun k hk => hk); have H5 : Hid (w5.ownsRow w0.heap.size 3 1 (.slice (some ⟨g5, 0, none⟩) (k + 1) cap5) (k + 1) (natI (It.parts O (i + 1))) ∧ Only (fun b => w0.heap.size ≤ b) w0 w5) := ⟨by rw [It.parts_yes HC.out, natI_snoc]; exact hown5, HG.out.2.1.trans (hoo.mono (fun b hb => (own_own HG.out.1 hb).1))⟩; clear hown5 hgrow5 hat5 hoo))
        go_roundg (n - (i + 1))
        case measure => omega
        case rel => exact ⟨i + 1, k + 1, _, _, _, rfl, rfl, by omega, rfl, by go_num, by omega, by rw [It.parts_yes HC.out, List.length_append, ← HG.out.2.2.1]; rfl, H5.out.1, H5.out.2⟩
      · have t2 : ((x : Int) == 2) = false := by rw [beq_eq_false_iff_ne]; omega
        have HC : Hid (O.getD i 0 ≠ 2) := (by rw [hdx]; exact hx2 : O.getD i 0 ≠ 2)
        clear hx hc hdx hx2
        go_wp2_with fail
        go_roundg (n - (i + 1))
        case measure => omega
        case rel => exact ⟨i + 1, k, _, _, _, rfl, rfl, by omega, rfl, by go_num, by omega, by rw [It.parts_no HC.out, ← HG.out.2.2.1], by rw [It.parts_no HC.out]; exact HG.out.1, HG.out.2.1⟩
    · have t1 : decide ((i : Int) < (n : Int)) = false := decide_eq_false (by omega)
      have hin : i = n := by omega
      subst hin
      go_wp2_with fail
      go_ret
      have e : (It.parts O i).length = k := HG.out.2.2.1.symm
      refine ⟨a, c, by rw [e]; rfl, by rw [e]; exact own_base2 HG.out.1 hs0, HG.out.2.2.2⟩
end Go.Proofs.Ytlcpfheocenjfaa
