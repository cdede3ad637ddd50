/-
  place.search over numbers, and over rows; a row's column; how many rows.
-/
import Derived.Test.YteejgjapghccnaaYd
namespace Go.Proofs.Yteejgjapghccnaa
open Go.RowKit Go.Maps
set_option linter.unusedVariables false
set_option linter.unusedSimpArgs false
theorem box1 (w : World) (v : Value) (t : TypeId) : ∃ R w0, w.alloc (.cells #[v] t) = w0 ∧ w.heap.size = R ∧ Hid (w0.cell? ⟨R, 0, none⟩ = some v ∧ Only (fun _ => False) w w0) :=
  ⟨_, _, rfl, rfl, ⟨cell_blk (heap_alloc_new w _), (Only.refl _ _).alloc _⟩⟩
/-- where a search by halves found nothing there is one ahead. -/
theorem miss_pos {A : List Nat} {n q i : Nat} (hn : n = A.length) (h0 : 0 < n) (hz : A.getD 0 0 ≤ q) (h2 : ∀ k, i ≤ k → k < n → q ≤ A.getD k 0) (he : ¬ (i < n ∧ A.getD i 0 = q)) : 0 < i := by
  rcases Nat.eq_zero_or_pos i with e | e
  · subst e
    have := h2 0 (Nat.le_refl _) h0
    exact absurd ⟨h0, by omega⟩ he
  · exact e
set_option maxRecDepth 100000 in
set_option maxHeartbeats 1000000 in
theorem searchN_any (A : List Nat) (n : Nat) (al : Option Addr) (c q : Nat) (w : World) (hn : n = A.length) (hV : Vw w al (natI A)) (hA : Lv.Up A) (hl : n ≤ 1000000) (h0 : 0 < n) (hz : A.getD 0 0 ≤ q) :
    Calls Try.prog 22 #[.slice al n c, .int .i64 (q : Int), .func (.func 23) #[] #[]] w fun e w' => ∃ r : Nat, e = .returned (.int .i64 (r : Int)) ∧ Lv.Sr A q r ∧ Only (fun _ => False) w w' := by
  have HB : Hid (∀ W pb, Only (fun _ => False) w W → W.cell? ⟨pb, 0, none⟩ = some (.func (.func 23) #[] #[]) → Calls Try.prog 32 #[.slice al n c, .int .i64 (q : Int), .func (.func 33) #[] #[.pointer (some ⟨pb, 0, none⟩)]] W fun e w' => bsA A n q e ∧ Only (fun _ => False) W w') := fun W pb ho hp => (bsNum_any A n al c q pb W hn (hV.keep ho) hA hl hp).mono (fun e w' h => ⟨h.1, by rw [← h.2]; exact Only.refl _ _⟩)
  have HA : Hid (n = A.length ∧ Lv.Up A ∧ 0 < n ∧ A.getD 0 0 ≤ q) := ⟨hn, hA, h0, hz⟩
  clear hV hn hA hz h0
  unfold bsA at HB
  go_enter Try.func22, Try.ntmps22
  go_upto_region 1 with fail
  obtain ⟨pb, w0, hw0, hp, H0⟩ := box1 w (.func (.func 23) #[] #[]) 77
  rw [hw0, hp]
  clear hw0 hp
  go_wp2_with fail
  refine Calls.mono (HB.out w0 pb H0.out.2 H0.out.1) ?_
  rintro e w1 ⟨⟨i, f, rfl, hi, h1, h2, h3⟩, ho1⟩
  have HI : Hid ((∀ k, k < i → A.getD k 0 < q) ∧ (∀ k, i ≤ k → k < n → q ≤ A.getD k 0) ∧ (f = true ↔ (i < n ∧ A.getD i 0 = q)) ∧ Only (fun _ => False) w w1) := ⟨h1, h2, h3, H0.out.2.trans ho1⟩
  clear h1 h2 h3 ho1
  cases f with
  | true =>
    have HF : Hid (i < n ∧ A.getD i 0 = q) := HI.out.2.2.1.1 rfl
    go_wp2_with fail
    go_ret
    exact ⟨i, rfl, Lv.Sr.found HI.out.1 (by rw [← HA.out.1]; exact HF.out.1) HF.out.2, HI.out.2.2.2⟩
  | false =>
    have hno : ¬ (i < n ∧ A.getD i 0 = q) := fun h => by have := HI.out.2.2.1.2 h; cases this
    have hip : 0 < i := miss_pos HA.out.1 HA.out.2.2.1 HA.out.2.2.2 HI.out.2.1 hno
    have HN : Hid (¬ (i < n ∧ A.getD i 0 = q)) := hno
    clear hno
    obtain ⟨p, hp⟩ : ∃ p, i = p + 1 := ⟨i - 1, by omega⟩
    subst hp
    have e1 : ((p + 1 : Nat) : Int) - 1 = (p : Int) := by omega
    have t1 : (0 : Int) ≤ (p : Int) := by omega
    have t2 : ¬ (p : Int) < 0 := by omega
    go_wp2_with fail
    go_ret
    refine ⟨p, ?_, ?_, HI.out.2.2.2⟩
    · first | rfl | (congr 2; omega) | simp
    · have := Lv.Sr.miss (A := A) (q := q) (i := p + 1) (by rw [← HA.out.1]; exact HA.out.2.2.1) HA.out.2.2.2 (by rw [← HA.out.1]; exact hi) HI.out.1 (by rw [← HA.out.1]; exact HI.out.2.1) (by rw [← HA.out.1]; exact HN.out) HA.out.2.1
      exact this
set_option maxRecDepth 100000 in
set_option maxHeartbeats 1000000 in
theorem searchR_any (R : List Rw) (A : List Nat) (n : Nat) (al : Option Addr) (c q : Nat) (w : World) (hn : n = A.length) (hR : R.map (·.a) = A) (hV : Vw w al (rwC R)) (hA : Lv.Up A) (hl : n ≤ 1000000) (h0 : 0 < n) (hz : A.getD 0 0 ≤ q) :
    Calls Try.prog 24 #[.slice al n c, .int .i64 (q : Int), .func (.func 25) #[] #[]] w fun e w' => ∃ r : Nat, e = .returned (.int .i64 (r : Int)) ∧ Lv.Sr A q r ∧ Only (fun _ => False) w w' := by
  have HB : Hid (∀ W pb, Only (fun _ => False) w W → W.cell? ⟨pb, 0, none⟩ = some (.func (.func 25) #[] #[]) → Calls Try.prog 35 #[.slice al n c, .int .i64 (q : Int), .func (.func 36) #[] #[.pointer (some ⟨pb, 0, none⟩)]] W fun e w' => bsA A n q e ∧ Only (fun _ => False) W w') := fun W pb ho hp => bsRow_any R A n al c q pb W hn hR (hV.keep ho) hA hl hp
  have HA : Hid (n = A.length ∧ Lv.Up A ∧ 0 < n ∧ A.getD 0 0 ≤ q) := ⟨hn, hA, h0, hz⟩
  clear hV hn hA hz h0 hR
  unfold bsA at HB
  go_enter Try.func24, Try.ntmps24
  go_upto_region 1 with fail
  obtain ⟨pb, w0, hw0, hp, H0⟩ := box1 w (.func (.func 25) #[] #[]) 81
  rw [hw0, hp]
  clear hw0 hp
  go_wp2_with fail
  refine Calls.mono (HB.out w0 pb H0.out.2 H0.out.1) ?_
  rintro e w1 ⟨⟨i, f, rfl, hi, h1, h2, h3⟩, ho1⟩
  have HI : Hid ((∀ k, k < i → A.getD k 0 < q) ∧ (∀ k, i ≤ k → k < n → q ≤ A.getD k 0) ∧ (f = true ↔ (i < n ∧ A.getD i 0 = q)) ∧ Only (fun _ => False) w w1) := ⟨h1, h2, h3, H0.out.2.trans ho1⟩
  clear h1 h2 h3 ho1
  cases f with
  | true =>
    have HF : Hid (i < n ∧ A.getD i 0 = q) := HI.out.2.2.1.1 rfl
    go_wp2_with fail
    go_ret
    exact ⟨i, rfl, Lv.Sr.found HI.out.1 (by rw [← HA.out.1]; exact HF.out.1) HF.out.2, HI.out.2.2.2⟩
  | false =>
    have hno : ¬ (i < n ∧ A.getD i 0 = q) := fun h => by have := HI.out.2.2.1.2 h; cases this
    have hip : 0 < i := miss_pos HA.out.1 HA.out.2.2.1 HA.out.2.2.2 HI.out.2.1 hno
    have HN : Hid (¬ (i < n ∧ A.getD i 0 = q)) := hno
    clear hno
    obtain ⟨p, hp⟩ : ∃ p, i = p + 1 := ⟨i - 1, by omega⟩
    subst hp
    have e1 : ((p + 1 : Nat) : Int) - 1 = (p : Int) := by omega
    have t1 : (0 : Int) ≤ (p : Int) := by omega
    have t2 : ¬ (p : Int) < 0 := by omega
    go_wp2_with fail
    go_ret
    refine ⟨p, ?_, ?_, HI.out.2.2.2⟩
    · first | rfl | (congr 2; omega) | simp
    · have := Lv.Sr.miss (A := A) (q := q) (i := p + 1) (by rw [← HA.out.1]; exact HA.out.2.2.1) HA.out.2.2.2 (by rw [← HA.out.1]; exact hi) HI.out.1 (by rw [← HA.out.1]; exact HI.out.2.1) (by rw [← HA.out.1]; exact HN.out) HA.out.2.1
      exact this
set_option maxRecDepth 100000 in
set_option maxHeartbeats 1000000 in
theorem column_any (A : List Nat) (a k n : Nat) (al : Option Addr) (c x : Nat) (w : World) (hn : n = A.length) (hV : Vw w al (natI A)) (hk : a ≤ k) (hl : k ≤ 1000000) (hn1 : n ≤ 1000001) (hx : A[k - a]? = some x) :
    Calls Try.prog 26 #[.agg #[.int .i64 (a : Int), .slice al n c], .int .i64 (k : Int)] w fun e w' => e = .returned (.int .i64 (x : Int)) ∧ Only (fun _ => False) w w' := by
  have hlt := (List.getElem?_eq_some_iff.1 hx).1
  rw [← hn] at hlt
  obtain ⟨b0, off, e0, hb0, hc⟩ := hV.cells (by rw [natI_len, ← hn]; omega)
  subst e0
  have c1 := hc _ _ (natI_get hx)
  clear hc hV hn hx
  obtain ⟨d, hd⟩ : ∃ d, d = k - a := ⟨_, rfl⟩
  rw [← hd] at hlt c1
  obtain ⟨m, hm⟩ : ∃ m, n = m + 1 := ⟨n - 1, by omega⟩
  subst hm
  have hdm : (d : Int) ≤ (m : Int) := by omega
  have hdn : (d : Int) < ((m + 1 : Nat) : Int) := by omega
  have t1 : (0 : Int) ≤ (d : Int) := by omega
  have hkd1 : a + d ≤ k := by omega
  have hkd2 : k ≤ a + d := by omega
  have e1 : (k : Int) - (a : Int) = (d : Int) := by omega
  have e2 : ((m + 1 : Nat) : Int) - 1 = (m : Int) := by omega
  clear hd
  go_enter Try.func26, Try.ntmps26
  go_upto_region 1 with fail
  obtain ⟨R, w0, hw0, hR, H0, r0, r1, lR⟩ := box2 w (.int .i64 (a : Int)) (.slice (some ⟨b0, off, none⟩) (m + 1) c) 80
  rw [hw0, hR]
  clear hw0 hR
  have c1' := keep0 H0.out.2 c1
  have l1 := World.block_lt_of_cell? w0 _ c1'
  clear c1 hb0
  go_wp2_with fail
  go_ret
  exact ⟨rfl, H0.out.2⟩
/-- a map in memory: the bytes of the boundaries; of each row where it begins, and its columns. -/
structure Mp (w : World) (M : Nat) (C : List Ct) (t : Nat) (L : List Ln) (R : List Rw) (aB aR : Option Addr) (cB cR : Nat) : Prop where
  blk : w.heap[M]? = some (.cells #[.slice aB (C.length + 1) cB, .slice aR L.length cR] 75 (0, 0))
  vB : Vw w aB (natI (Lv.bys C))
  vR : Vw w aR (rwC R)
  len : R.length = L.length
  row : ∀ (i : Nat) (l : Ln) (r : Rw), L[i]? = some l → R[i]? = some r → r.a = l.a ∧ r.n = l.b - l.a + 1 ∧ Vw w r.al (natI (Sp.cols C t l.a (l.b - l.a)))
theorem Mp.keep {w w' : World} {M : Nat} {C : List Ct} {t : Nat} {L : List Ln} {R : List Rw} {aB aR : Option Addr} {cB cR : Nat} (h : Mp w M C t L R aB aR cB cR) (ho : Only (fun _ => False) w w') : Mp w' M C t L R aB aR cB cR :=
  ⟨blk_keep ho h.blk, h.vB.keep ho, h.vR.keep ho, h.len, fun i l r h1 h2 => ⟨(h.row i l r h1 h2).1, (h.row i l r h1 h2).2.1, (h.row i l r h1 h2).2.2.keep ho⟩⟩
/-- the map of a text's rows. -/
structure Mpp (w : World) (M n : Nat) (C : List Ct) (t : Nat) (L : List Ln) : Prop where
  ex : ∃ R aB aR cB cR, Mp w M C t L R aB aR cB cR
  hn : n = C.length
  ctg : Lv.Ctg C
  rws : Lv.Rws n L
  ok : Cok C
  few : n ≤ 1000
  sum : It.sum C ≤ 1000000
  t0 : 0 < t
  t1 : t ≤ 1000
theorem Mpp.keep {w w' : World} {M n : Nat} {C : List Ct} {t : Nat} {L : List Ln} (h : Mpp w M n C t L) (ho : Only (fun _ => False) w w') : Mpp w' M n C t L := by
  obtain ⟨R, aB, aR, cB, cR, hM⟩ := h.ex
  exact ⟨⟨R, aB, aR, cB, cR, hM.keep ho⟩, h.hn, h.ctg, h.rws, h.ok, h.few, h.sum, h.t0, h.t1⟩
theorem Mp.starts {w : World} {M : Nat} {C : List Ct} {t : Nat} {L : List Ln} {R : List Rw} {aB aR : Option Addr} {cB cR : Nat} (h : Mp w M C t L R aB aR cB cR) : R.map (·.a) = L.map (·.a) := by
  apply List.ext_getElem?
  intro i
  rw [List.getElem?_map, List.getElem?_map]
  by_cases hi : i < L.length
  · have e1 : L[i]? = some L[i] := List.getElem?_eq_getElem hi
    have e2 : R[i]? = some (R[i]'(by rw [h.len]; exact hi)) := List.getElem?_eq_getElem (by rw [h.len]; exact hi)
    rw [e1, e2]
    exact congrArg some (h.row i _ _ e1 e2).1
  · rw [List.getElem?_eq_none (l := L) (by omega), List.getElem?_eq_none (l := R) (by rw [h.len]; omega)]
    rfl
/-- how many rows. -/
theorem rlen {n : Nat} {L : List Ln} (h : Lv.Rws n L) : 0 < L.length ∧ L.length ≤ n + 1 := by
  refine ⟨List.length_pos_iff.2 h.ne, ?_⟩
  rcases h with ⟨h, _⟩ | ⟨_, h⟩
  · have := h.len
    omega
  · rw [h]
    exact Nat.succ_le_succ (Nat.zero_le _)
set_option maxRecDepth 100000 in
theorem nrows_any (M n : Nat) (C : List Ct) (t : Nat) (L : List Ln) (nl : Nat) (w : World) (h : Mpp w M n C t L) (hl : nl = L.length) :
    Calls Try.prog 14 #[.pointer (some ⟨M, 0, none⟩)] w fun e w' => e = .returned (.int .i64 (nl : Int)) ∧ w = w' := by
  obtain ⟨R, aB, aR, cB, cR, hM⟩ := h.ex
  obtain ⟨m0, m1, lM⟩ := blk_two hM.blk
  rw [← hl] at m1
  clear hM h hl
  go_enter Try.func14, Try.ntmps14
  go_wp2_with fail
  go_ret
  exact ⟨rfl, rfl⟩
set_option maxRecDepth 100000 in
theorem nrows_nil (w : World) :
    Calls Try.prog 14 #[.pointer none] w fun e w' => e = .returned (.int .i64 0) ∧ w = w' := by
  go_enter Try.func14, Try.ntmps14
  go_wp2_with fail
  go_ret
  exact ⟨rfl, rfl⟩
end Go.Proofs.Yteejgjapghccnaa
