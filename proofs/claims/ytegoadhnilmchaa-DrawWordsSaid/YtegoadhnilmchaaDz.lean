/-
  Layer 22: draw.Row, draw.All, lined, Awake (Da, Db, Dc, Dd, Df, Dg, Dh put together).
-/
import Derived.Test.YtegoadhnilmchaaUa
import Derived.Test.YtegoadhnilmchaaDw
import Derived.Test.YtegoadhnilmchaaSa7
import Derived.Laws.BytesArg
import Derived.Lib.SlBytesConst
import Derived.Test.YtegoadhnilmchaaJl
/-
  Bytes as strings; a cluster's bytes.
-/
namespace Go.Proofs.Ytegoadhnilmchaa
open Go.RowKit Go.Maps
set_option linter.unusedVariables false
set_option linter.unusedSimpArgs false
/-- bytes as a string. -/
def stY (L : List Nat) : ByteArray := strOfNums (L.map fun (x : Nat) => (x : Int))
theorem str_any (L : List Nat) (n c : Nat) (a : Option Addr) (w : World) (hn : n = L.length) (hV : Vw w a (u8s L)) : (convert 36 9 (.slice a n c)).run Try.prog w = .ok (.string (stY L)) w := by
  subst hn
  by_cases h0 : 0 < L.length
  · obtain ⟨b, off, rfl, hb, hc⟩ := hV.cells (by rw [u8s_len]; exact h0)
    refine run_convert_bytes_arg w 36 5 Try.underlying36 Try.underlying5 b off L.length c (L.map fun (x : Nat) => (x : Int)) (by simp) (fun i hi => ?_) 9 Try.underlying9
    rw [hc i _ (u8s_at (List.getElem?_eq_getElem hi))]
    simp [hi]
  · have hl : L = [] := List.eq_nil_of_length_eq_zero (by omega)
    subst hl
    cases a with
    | none => exact run_convert_bytes_nil w 36 5 Try.underlying36 Try.underlying5 _ c 9 Try.underlying9
    | some y =>
      rw [run_convert_bytes_string w 36 9 5 (some y) _ c Try.underlying36 Try.underlying5 Try.underlying9]
      exact run_bytesToString w y 0 c [] (by simp [loadCells, loadCellsFrom])
theorem kc0 (w : World) (C : Array Value) (n c : Nat) : (convert 36 36 (.slice (some ⟨w.heap.size, 0, none⟩) n c)).run Try.prog (w.alloc (.cells C 5)) = .ok (.slice (some ⟨w.heap.size, 0, none⟩) n c) (w.alloc (.cells C 5 (C.size, C.size + 1))) := Lib.run_convert_bytes_const w 36 5 C n c Try.underlying36 Try.underlying5
theorem vw_blkF {w : World} {b : Nat} {xs : List Value} {t : TypeId} {fr : Nat × Nat} (h : w.heap[b]? = some (.cells xs.toArray t fr)) : Vw w (some ⟨b, 0, none⟩) xs := Or.inr ⟨b, 0, rfl, fun j u hj => by rw [Nat.zero_add, cell_of_row _ _ _ _ _ _ h]; simpa using hj⟩
set_option maxRecDepth 100000 in
set_option maxHeartbeats 4000000 in
theorem bytesOf_any (T : List Nat) (n c : Nat) (aT : Option Addr) (xp xl xc xk : Nat) (w : World) (hn : n = T.length) (hV : Vw w aT (u8s T)) (hx : xp + xl ≤ n) (hc : n ≤ c) (hm : c ≤ maxLen) :
    Calls Try.prog 28 #[.slice aT n c, .agg #[.int .i64 (xp : Int), .int .i64 (xl : Int), .int .i64 (xc : Int), .int .u8 (xk : Int)]] w fun e w' => ∃ a' c', e = .returned (.slice a' xl c') ∧ Vw w' a' (u8s ((T.drop xp).take xl)) ∧ Only (fun _ => False) w w' := by
  unfold maxLen at hm
  have HV : Hid (Vw w aT (u8s T)) := hV
  have t1 : (0 : Int) ≤ (xp : Int) := by omega
  have t2 : (xp : Int) ≤ (n : Int) := by omega
  have t3 : (0 : Int) ≤ (xl : Int) := by omega
  obtain ⟨d, hd⟩ : ∃ d, d = n - xp := ⟨_, rfl⟩
  have m1 : IntKind.i64.wrap ((n : Int) - (xp : Int)) = (d : Int) := by rw [IntKind.wrap_i64]; omega
  have t4 : (xl : Int) ≤ (d : Int) := by omega
  obtain ⟨y, hy⟩ : ∃ y, y = xp + xl := ⟨_, rfl⟩
  have m2 : IntKind.i64.wrap ((xp : Int) + (xl : Int)) = (y : Int) := by rw [IntKind.wrap_i64]; omega
  have t5 : (xp : Int) ≤ (y : Int) := by omega
  have t6 : (y : Int) ≤ (c : Int) := by omega
  obtain ⟨aS, haS⟩ : ∃ aS, (if c = xp then aT else aT.map (fun x => x.add xp)) = aS := ⟨_, rfl⟩
  have HVS : Hid (Vw w aS (u8s ((T.drop xp).take xl))) := by
    rw [← haS]
    split
    · rename_i e
      have e0 : xl = 0 := by omega
      rw [e0, List.take_zero]
      exact Vw.nil _ _
    · exact vw_cutY hV xp xl
  clear hV hn
  go_enter Try.func28, Try.ntmps28
  go_upto_region 1 with fail
  obtain ⟨R, w0, hw0, hR, H0, l0⟩ := box4 w (.int .i64 (xp : Int)) (.int .i64 (xl : Int)) (.int .i64 (xc : Int)) (.int .u8 (xk : Int)) 53
  rw [hw0, hR]
  clear hw0 hR l0
  obtain ⟨r0, r1, r2, r3⟩ := blk_four H0.out.1
  have lR : R < w0.heap.size := (Array.getElem?_eq_some_iff.1 H0.out.1).1
  go_wp2_with fail
  have e5 : xp + xl - xp = xl := by omega
  rw [e5]
  go_ret
  exact ⟨aS, c - xp, rfl, HVS.out.keep H0.out.2.1, H0.out.2.1⟩
/-- what is seen of one cluster. -/
def Dw.see (T : List Nat) (z : Ct) (n : Nat) : List Nat := if z.kind = 0 then (T.drop z.pl).take z.len else List.replicate n 32
theorem Dw.one_see (C : List Ct) (T : List Nat) (a : Nat) (n : Nat → Nat) (i : Nat) : Dw.one C T a n i = Dw.see T (Sp.at' C (a + i)) (n i) := rfl
theorem vw_sign (w : World) (x : Nat) (X : Int) (h : X = (x : Int)) : Vw (w.alloc (.cells #[.int .u8 X] 5)) (some ⟨w.heap.size, 0, none⟩) (u8s [x]) := by
  subst h
  exact vw_blkF (xs := u8s [x]) (heap_alloc_new w _)
set_option maxRecDepth 100000 in
set_option maxHeartbeats 4000000 in
theorem put_any (T D : List Nat) (n c m cR wd xp xl xc xk B N : Nat) (aT aR : Option Addr) (w : World) (hn : n = T.length) (hV : Vw w aT (u8s T)) (hx : xk = 0 → xp + xl ≤ n) (hc : n ≤ c) (hm : c ≤ maxLen)
    (hown : w.ownsRow B 5 1 (.slice aR m cR) m (u8s D)) (hB : B ≤ w.heap.size) (hN : N = (D ++ Dw.see T ⟨xp, xl, (xc : Int), xk⟩ wd).length) (hNl : N ≤ 1000000) :
    Calls Try.prog 20 #[.slice aR m cR, .slice aT n c, .agg #[.int .i64 (xp : Int), .int .i64 (xl : Int), .int .i64 (xc : Int), .int .u8 (xk : Int)], .int .i64 (wd : Int)] w fun e w' => ∃ a' c', e = .returned (.slice a' N c') ∧ w'.ownsRow B 5 1 (.slice a' N c') N (u8s (D ++ Dw.see T ⟨xp, xl, (xc : Int), xk⟩ wd)) ∧ Only (fun g => B ≤ g) w w' := by
  have hmD : m = D.length := by have := hown.1; rw [u8s_len] at this; omega
  by_cases hk : xk = 0
  · have e1 : Dw.see T ⟨xp, xl, (xc : Int), xk⟩ wd = (T.drop xp).take xl := if_pos hk
    rw [e1] at hN ⊢
    obtain ⟨M, hM⟩ : ∃ M, M = (T.drop xp).take xl := ⟨_, rfl⟩
    have hMl : xl = M.length := by rw [hM, List.length_take, List.length_drop, ← hn]; have := hx hk; omega
    have HBO : Hid (∀ W, Only (fun _ => False) w W → Calls Try.prog 28 #[.slice aT n c, .agg #[.int .i64 (xp : Int), .int .i64 (xl : Int), .int .i64 (xc : Int), .int .u8 (xk : Int)]] W fun e w' => ∃ a' c', e = .returned (.slice a' xl c') ∧ Vw w' a' (u8s M) ∧ Only (fun _ => False) W w') := fun W ho => by
      rw [hM]
      exact bytesOf_any T n c aT xp xl xc xk W hn (hV.keep ho) (hx hk) hc hm
    rw [← hM] at hN ⊢
    have hN2 : m + xl = N := by rw [hN, List.length_append, ← hmD, ← hMl]
    have HO : Hid (w.ownsRow B 5 1 (.slice aR m cR) m (u8s D) ∧ B ≤ w.heap.size ∧ xl = M.length) := ⟨hown, hB, hMl⟩
    have t1 : ((xk : Int) == 0) = true := by rw [beq_iff_eq]; omega
    clear hn hV hx hc hm hown hB hN hM hMl e1 hmD hk
    go_enter Try.func20, Try.ntmps20
    go_upto_region 1 with fail
    obtain ⟨R, w0, hw0, hR, H0, l0⟩ := box4 w (.int .i64 (xp : Int)) (.int .i64 (xl : Int)) (.int .i64 (xc : Int)) (.int .u8 (xk : Int)) 53
    rw [hw0, hR]
    clear hw0 hR l0
    obtain ⟨r0, r1, r2, r3⟩ := blk_four H0.out.1
    have lR : R < w0.heap.size := (Array.getElem?_eq_some_iff.1 H0.out.1).1
    go_wp2_with fail
    refine Calls.mono (HBO.out _ H0.out.2.1) ?_
    rintro e w1 ⟨a1, c1, rfl, hV1, ho1⟩
    have H1 : Hid (Vw w1 a1 (u8s M) ∧ Only (fun _ => False) w w1 ∧ w1.ownsRow B 5 1 (.slice aR m cR) m (u8s D) ∧ B ≤ w1.heap.size) := ⟨hV1, H0.out.2.1.trans ho1, own_only HO.out.1 (H0.out.2.1.trans ho1) (fun _ _ h => h), Nat.le_trans HO.out.2.1 (H0.out.2.1.trans ho1).size⟩
    clear hV1 ho1 r0 r1 r2 r3 lR
    go_wp2_with (at_builtin; (refine wpList_appY rfl _ _ rfl B H1.out.2.2.2 aR m cR D rfl H1.out.2.2.1 a1 xl c1 M rfl HO.out.2.2 H1.out.1 N hN2 hNl ?_; intro a2 c2 w2 hown2 ho2; have H2 : Hid (w2.ownsRow B 5 1 (.slice a2 N c2) N (u8s (D ++ M)) ∧ Only (fun g => B ≤ g) w w2) := ⟨hown2, (H1.out.2.1.mono (fun _ h => h.elim)).trans (ho2.mono (fun g hg => (own_own H1.out.2.2.1 hg).1))⟩; clear hown2 ho2))
    go_ret
    exact ⟨a2, c2, rfl, H2.out.1, H2.out.2⟩
  · have e1 : Dw.see T ⟨xp, xl, (xc : Int), xk⟩ wd = List.replicate wd 32 := if_neg hk
    rw [e1] at hN ⊢
    have hN2 : m + wd = N := by rw [hN, List.length_append, ← hmD, List.length_replicate]
    have HO : Hid (w.ownsRow B 5 1 (.slice aR m cR) m (u8s D) ∧ B ≤ w.heap.size ∧ m + wd = N) := ⟨hown, hB, hN2⟩
    have t1 : ((xk : Int) == 0) = false := by rw [beq_eq_false_iff_ne]; omega
    have hml : m + wd ≤ 1000000 := by omega
    have t2 : (wd : Int) ≤ 1048576 := by omega
    clear hn hV hx hc hm hown hB hN hN2 e1 hmD hk
    go_enter Try.func20, Try.ntmps20
    go_upto_region 1 with fail
    obtain ⟨R, w0, hw0, hR, H0, l0⟩ := box4 w (.int .i64 (xp : Int)) (.int .i64 (xl : Int)) (.int .i64 (xc : Int)) (.int .u8 (xk : Int)) 53
    rw [hw0, hR]
    clear hw0 hR l0
    obtain ⟨r0, r1, r2, r3⟩ := blk_four H0.out.1
    have lR : R < w0.heap.size := (Array.getElem?_eq_some_iff.1 H0.out.1).1
    have HB0 : Hid (Only (fun g => B ≤ g) w w0 ∧ w0.ownsRow B 5 1 (.slice aR m cR) m (u8s D)) := ⟨H0.out.2.1.mono (fun _ h => h.elim), own_only HO.out.1 H0.out.2.1 (fun _ _ h => h)⟩
    go_wp2_with fail
    clear r0 r1 r2 r3 lR
    go_loopg [0, 19] wd (fun gh v0 v19 wr => ∃ (i s : Nat) (a : Option Addr) (cc : Nat) (W : World), W = wr ∧ gh = wd - i ∧ i ≤ wd ∧ v0 = .slice a s cc ∧ v19 = .int .i64 (i : Int) ∧ s = m + i ∧ W.ownsRow B 5 1 (.slice a s cc) s (u8s (D ++ List.replicate i 32)) ∧ Only (fun g => B ≤ g) w W)
    case atStart => exact ⟨0, m, _, _, _, rfl, rfl, Nat.zero_le _, rfl, rfl, rfl, by rw [List.replicate_zero, List.append_nil]; exact HB0.out.2, HB0.out.1⟩
    case round =>
      obtain ⟨i, s, a, cc, W, hW, rfl, hi, rfl, rfl, hs, hownW, hoW⟩ := hrel
      subst hW
      have HG : Hid (W.ownsRow B 5 1 (.slice a s cc) s (u8s (D ++ List.replicate i 32)) ∧ Only (fun g => B ≤ g) w W ∧ s = m + i ∧ B ≤ W.heap.size) := ⟨hownW, hoW, hs, Nat.le_trans HO.out.2.1 hoW.size⟩
      clear hownW hoW
      by_cases hlt : i < wd
      · have u1 : (i : Int) < (wd : Int) := by omega
        obtain ⟨s1, hs1⟩ : ∃ s1, s + 1 = s1 := ⟨_, rfl⟩
        have hs1l : s1 ≤ 1000000 := by omega
        have HS1 : Hid (s + 1 = s1 ∧ D ++ List.replicate i 32 ++ [32] = D ++ List.replicate (i + 1) 32) := ⟨hs1, by rw [List.append_assoc, ← List.replicate_succ']⟩
        have HX : Hid ((W.alloc (.cells #[.int .u8 32] 5)).ownsRow B 5 1 (.slice a s cc) s (u8s (D ++ List.replicate i 32)) ∧ Only (fun g => B ≤ g) w (W.alloc (.cells #[.int .u8 32] 5)) ∧ B ≤ (W.alloc (.cells #[.int .u8 32] 5)).heap.size ∧ Vw (W.alloc (.cells #[.int .u8 32] 5)) (some ⟨W.heap.size, 0, none⟩) (u8s [32])) := ⟨HG.out.1.alloc _, HG.out.2.1.alloc _, Nat.le_trans HG.out.2.2.2 ((Only.refl (fun _ => False) W).alloc _).size, vw_sign W 32 32 rfl⟩
        clear hs hs1
        go_wp2_with (at_builtin; (refine wpList_appY rfl _ _ rfl B HX.out.2.2.1 a s cc (D ++ List.replicate i 32) rfl HX.out.1 (some ⟨W.heap.size, 0, none⟩) 1 1 [32] rfl rfl HX.out.2.2.2 s1 HS1.out.1 hs1l ?_; intro a2 c2 w2 hown2 ho2; have H2 : Hid (w2.ownsRow B 5 1 (.slice a2 s1 c2) s1 (u8s (D ++ List.replicate (i + 1) 32)) ∧ Only (fun g => B ≤ g) w w2) := ⟨by rw [← HS1.out.2]; exact hown2, HX.out.2.1.trans (ho2.mono (fun g hg => (own_own HX.out.1 hg).1))⟩; clear hown2 ho2))
        go_roundg (wd - (i + 1))
        case measure => omega
        case rel => exact ⟨i + 1, s1, _, _, _, rfl, rfl, by omega, rfl, by go_num, by have := HS1.out.1; have := HG.out.2.2.1; omega, H2.out.1, H2.out.2⟩
      · have u1 : decide ((i : Int) < (wd : Int)) = false := decide_eq_false (by omega)
        have hin : i = wd := by omega
        have hsN : s = N := by have := HO.out.2.2; omega
        subst hin hsN
        go_wp2_with fail
        go_ret
        exact ⟨a, cc, rfl, HG.out.1, HG.out.2.1⟩
end Go.Proofs.Ytegoadhnilmchaa
/-
  draw.widths and draw.Row: a line as it is seen.
-/
namespace Go.Proofs.Ytegoadhnilmchaa
open Go.RowKit Go.Maps
set_option linter.unusedVariables false
set_option linter.unusedSimpArgs false
namespace Dw
/-- how wide the clusters of a line are. -/
def wdl (C : List Ct) (t W a b e : Nat) (full : Bool) : List Nat := (List.range (Sp.tr C a (b - a) - a)).map (wds C t W a b e full)
theorem wdl_len (C : List Ct) (t W a b e : Nat) (full : Bool) : (wdl C t W a b e full).length = Sp.tr C a (b - a) - a := by simp [wdl]
theorem wdl_true (C : List Ct) (t W a b e : Nat) : wdl C t W a b e true = Sd.wid C t W a b e := rfl
theorem wdl_false (C : List Ct) (t W a b e : Nat) : wdl C t W a b e false = Sd.wid C t W a b 2 := by
  unfold wdl wds Sd.wid
  have em : Sd.mre C t W a b 2 = [] := if_pos (Or.inl rfl)
  rw [em]
  rfl
end Dw
set_option maxRecDepth 100000 in
set_option maxHeartbeats 4000000 in
theorem widths_any (C : List Ct) (O : List Nat) (n m : Nat) (aC aO : Option Addr) (cC cO la lb lc le wi t mo hy pr lo : Nat) (full : Bool) (w : World) (hP : Pv w C O n m aC aO cC cO) (hx : la < lb) (hb : lb ≤ n) (he : le < 256) (hw : wi ≤ 1048576) (h0 : 0 < t) (ht : t ≤ 1000) :
    Calls Try.prog 19 #[.agg #[.slice aC n cC, .slice aO m cO], .agg #[.int .i64 (la : Int), .int .i64 (lb : Int), .int .i64 (lc : Int), .int .u8 (le : Int)], .agg #[.int .i64 (wi : Int), .int .i64 (t : Int), .int .u8 (mo : Int), .int .i64 (hy : Int), .int .i64 (pr : Int), .float .f64 lo], .bool full] w (nlN (Dw.wdl C t wi la lb le full) (Sp.tr C la (lb - la) - la) w) := by
  have HL : Hid (∀ W (q : Nat), Only (fun _ => False) w W → q < 256 → Calls Try.prog 27 #[.agg #[.slice aC n cC, .slice aO m cO], .agg #[.int .i64 (la : Int), .int .i64 (lb : Int), .int .i64 (lc : Int), .int .u8 (q : Int)], .agg #[.int .i64 (wi : Int), .int .i64 (t : Int), .int .u8 (mo : Int), .int .i64 (hy : Int), .int .i64 (pr : Int), .float .f64 lo]] W (nlN (Sd.wid C t wi la lb q) (Sp.tr C la (lb - la) - la) W)) := fun W q ho hq => line_any C O n m aC aO cC cO la lb lc q wi t mo hy pr lo W (hP.keep ho) hx hb hq hw h0 ht
  obtain ⟨D, hD⟩ : ∃ D, D = Dw.wdl C t wi la lb le full := ⟨_, rfl⟩
  obtain ⟨nD, hnD⟩ : ∃ x, x = Sp.tr C la (lb - la) - la := ⟨_, rfl⟩
  rw [← hnD] at HL ⊢
  rw [← hD]
  unfold nlN at HL ⊢
  have HD1 : Hid (full = true → D = Sd.wid C t wi la lb le) := fun h => by rw [hD, h]; rfl
  have HD2 : Hid (full = false → D = Sd.wid C t wi la lb 2) := fun h => by rw [hD, h]; exact Dw.wdl_false C t wi la lb le
  clear hP hx hb hw h0 ht hD hnD
  go_enter Try.func19, Try.ntmps19
  go_upto_region 1 with fail
  obtain ⟨R, B, Q, w0, hw0, hQ, hB, hR, H0, l1, l2, l3⟩ := box246 w (.slice aC n cC) (.slice aO m cO) (.int .i64 (la : Int)) (.int .i64 (lb : Int)) (.int .i64 (lc : Int)) (.int .u8 (le : Int)) (.int .i64 (wi : Int)) (.int .i64 (t : Int)) (.int .u8 (mo : Int)) (.int .i64 (hy : Int)) (.int .i64 (pr : Int)) (.float .f64 lo) 31 43 35
  rw [hw0, hQ, hB, hR]
  clear hw0 hQ hB
  have HB : Hid (w.heap.size ≤ B ∧ R < B ∧ B < Q ∧ R = w.heap.size) := ⟨by omega, l1, l2, hR.symm⟩
  clear hR l1 l2 l3
  cases full with
  | true =>
    have HD3 : Hid (D = Sd.wid C t wi la lb le) := HD1.out rfl
    clear HD1 HD2
    have HS : Hid (∀ W', Only (fun _ => False) w0 W' → ((W'.cell? ⟨R, 0, none⟩ = some (.slice aC n cC) ∧ W'.cell? ⟨R, 1, none⟩ = some (.slice aO m cO)) ∧ (W'.cell? ⟨B, 0, none⟩ = some (.int .i64 (la : Int)) ∧ W'.cell? ⟨B, 1, none⟩ = some (.int .i64 (lb : Int)) ∧ W'.cell? ⟨B, 2, none⟩ = some (.int .i64 (lc : Int)) ∧ W'.cell? ⟨B, 3, none⟩ = some (.int .u8 (le : Int))) ∧ (W'.cell? ⟨Q, 0, none⟩ = some (.int .i64 (wi : Int)) ∧ W'.cell? ⟨Q, 1, none⟩ = some (.int .i64 (t : Int)) ∧ W'.cell? ⟨Q, 2, none⟩ = some (.int .u8 (mo : Int)) ∧ W'.cell? ⟨Q, 3, none⟩ = some (.int .i64 (hy : Int)) ∧ W'.cell? ⟨Q, 4, none⟩ = some (.int .i64 (pr : Int)) ∧ W'.cell? ⟨Q, 5, none⟩ = some (.float .f64 lo))) ∧ (R < W'.heap.size ∧ B < W'.heap.size ∧ Q < W'.heap.size)) := fun W' ho => by
      have e1 := blk_keep ho H0.out.1
      have e2 := blk_keep ho H0.out.2.1
      have e3 := blk_keep ho H0.out.2.2.1
      exact ⟨⟨⟨(blk_two e1).1, (blk_two e1).2.1⟩, blk_four e2, blk_six e3⟩, (blk_two e1).2.2, (Array.getElem?_eq_some_iff.1 e2).1, (Array.getElem?_eq_some_iff.1 e3).1⟩
    obtain ⟨⟨⟨r0, r1⟩, ⟨b0, b1, b2, b3⟩, k0, k1, k2, k3, k4, k5⟩, lR, lB, lQ⟩ := HS.out w0 (Only.refl _ _)
    go_wp2_with fail
    refine Calls.mono (HL.out _ _ H0.out.2.2.2 he) ?_
    rintro e w1 ⟨a1, c1, rfl, hown1, ho1⟩
    have H1 : Hid (w1.ownsRow w.heap.size 3 1 (.slice a1 nD c1) nD (natI D) ∧ Only (fun _ => False) w w1) := ⟨by rw [HD3.out]; exact own_base2 hown1 H0.out.2.2.2.size, H0.out.2.2.2.trans ho1⟩
    clear hown1 ho1 r0 r1 b0 b1 b2 b3 k0 k1 k2 k3 k4 k5 lR lB lQ
    go_wp2_with fail
    go_ret
    exact ⟨a1, c1, rfl, H1.out.1, H1.out.2⟩
  | false =>
    have HD3 : Hid (D = Sd.wid C t wi la lb 2) := HD2.out rfl
    clear HD1 HD2
    have lB : B < w0.heap.size := (Array.getElem?_eq_some_iff.1 H0.out.2.1).1
    obtain ⟨b0, b1, b2, b3⟩ := blk_four H0.out.2.1
    have fB : w0.frozen? ⟨B, 3, none⟩ = false := fz_blk H0.out.2.1 3
    go_upto_region 3 with fail
    obtain ⟨Y, hY⟩ : ∃ Y, Y = w0.setCell ⟨B, 3, none⟩ (.int .u8 2) := ⟨_, rfl⟩
    rw [← hY]
    have e1 : Y = w0.setRow B #[.int .i64 (la : Int), .int .i64 (lb : Int), .int .i64 (lc : Int), .int .u8 2] := by rw [hY, setCell_eq_setRow _ _ _ _ _ _ _ H0.out.2.1]; rfl
    have HY : Hid (Y.heap[R]? = some (.cells #[.slice aC n cC, .slice aO m cO] 31 (0, 0)) ∧ Y.heap[B]? = some (.cells #[.int .i64 (la : Int), .int .i64 (lb : Int), .int .i64 (lc : Int), .int .u8 2] 43 (0, 0)) ∧ Y.heap[Q]? = some (.cells #[.int .i64 (wi : Int), .int .i64 (t : Int), .int .u8 (mo : Int), .int .i64 (hy : Int), .int .i64 (pr : Int), .float .f64 lo] 35 (0, 0)) ∧ Only (fun _ => False) w Y) := by
      rw [e1]
      exact ⟨far_blk (Only.setRow _ _ _) H0.out.1 (by have := HB.out; omega), setRow_heap _ _ _ _ _ _ H0.out.2.1, far_blk (Only.setRow _ _ _) H0.out.2.2.1 (by have := HB.out; omega), H0.out.2.2.2.setRowNew HB.out.1 _⟩
    clear hY e1 b0 b1 b2 b3 fB lB H0
    have HS : Hid (∀ W', Only (fun _ => False) Y W' → ((W'.cell? ⟨R, 0, none⟩ = some (.slice aC n cC) ∧ W'.cell? ⟨R, 1, none⟩ = some (.slice aO m cO)) ∧ (W'.cell? ⟨B, 0, none⟩ = some (.int .i64 (la : Int)) ∧ W'.cell? ⟨B, 1, none⟩ = some (.int .i64 (lb : Int)) ∧ W'.cell? ⟨B, 2, none⟩ = some (.int .i64 (lc : Int)) ∧ W'.cell? ⟨B, 3, none⟩ = some (.int .u8 2)) ∧ (W'.cell? ⟨Q, 0, none⟩ = some (.int .i64 (wi : Int)) ∧ W'.cell? ⟨Q, 1, none⟩ = some (.int .i64 (t : Int)) ∧ W'.cell? ⟨Q, 2, none⟩ = some (.int .u8 (mo : Int)) ∧ W'.cell? ⟨Q, 3, none⟩ = some (.int .i64 (hy : Int)) ∧ W'.cell? ⟨Q, 4, none⟩ = some (.int .i64 (pr : Int)) ∧ W'.cell? ⟨Q, 5, none⟩ = some (.float .f64 lo))) ∧ (R < W'.heap.size ∧ B < W'.heap.size ∧ Q < W'.heap.size)) := fun W' ho => by
      have e1 := blk_keep ho HY.out.1
      have e2 := blk_keep ho HY.out.2.1
      have e3 := blk_keep ho HY.out.2.2.1
      exact ⟨⟨⟨(blk_two e1).1, (blk_two e1).2.1⟩, blk_four e2, blk_six e3⟩, (blk_two e1).2.2, (Array.getElem?_eq_some_iff.1 e2).1, (Array.getElem?_eq_some_iff.1 e3).1⟩
    obtain ⟨⟨⟨r0, r1⟩, ⟨b0, b1, b2, b3⟩, k0, k1, k2, k3, k4, k5⟩, lR, lB, lQ⟩ := HS.out Y (Only.refl _ _)
    go_wp2_with fail
    refine Calls.mono (HL.out _ 2 HY.out.2.2.2 (by decide)) ?_
    rintro e w1 ⟨a1, c1, rfl, hown1, ho1⟩
    have H1 : Hid (w1.ownsRow w.heap.size 3 1 (.slice a1 nD c1) nD (natI D) ∧ Only (fun _ => False) w w1) := ⟨by rw [HD3.out]; exact own_base2 hown1 HY.out.2.2.2.size, HY.out.2.2.2.trans ho1⟩
    clear hown1 ho1 r0 r1 b0 b1 b2 b3 k0 k1 k2 k3 k4 k5 lR lB lQ
    go_wp2_with fail
    go_ret
    exact ⟨a1, c1, rfl, H1.out.1, H1.out.2⟩
end Go.Proofs.Ytegoadhnilmchaa
/-
  draw.Row: a line as it is seen.
-/
namespace Go.Proofs.Ytegoadhnilmchaa
open Go.RowKit Go.Maps
set_option linter.unusedVariables false
set_option linter.unusedSimpArgs false
namespace Dw
theorem pic_up (C : List Ct) (T : List Nat) (a : Nat) (n : Nat → Nat) (i : Nat) : ∀ d, (pic C T a n i).length ≤ (pic C T a n (i + d)).length
  | 0 => Nat.le_refl _
  | d + 1 => by
    have h := pic_up C T a n i d
    show _ ≤ (pic C T a n (i + d) ++ one C T a n (i + d)).length
    rw [List.length_append]
    omega
theorem pic_mono (C : List Ct) (T : List Nat) (a : Nat) (n : Nat → Nat) {i k : Nat} (h : i ≤ k) : (pic C T a n i).length ≤ (pic C T a n k).length := by
  have e := pic_up C T a n i (k - i)
  rw [show i + (k - i) = k by omega] at e
  exact e
end Dw
/-- a text's bytes, and that each cluster has its own. -/
structure Txt (w : World) (C : List Ct) (T : List Nat) (nT : Nat) (aT : Option Addr) (cT : Nat) : Prop where
  hn : nT = T.length
  vT : Vw w aT (u8s T)
  cap : nT ≤ cT
  capm : cT ≤ maxLen
  fit : ∀ z ∈ C, z.pl + z.len ≤ nT
theorem Txt.keep {w w' : World} {C : List Ct} {T : List Nat} {nT cT : Nat} {aT : Option Addr} (h : Txt w C T nT aT cT) (ho : Only (fun _ => False) w w') : Txt w' C T nT aT cT := ⟨h.hn, h.vT.keep ho, h.cap, h.capm, h.fit⟩
theorem own_len5 {w : World} {base n : Nat} {v : Value} {L : List Nat} (h : w.ownsRow base 5 1 v n (u8s L)) : n = L.length := by
  have h1 := h.1
  rw [u8s_len] at h1
  omega
set_option maxRecDepth 100000 in
set_option maxHeartbeats 8000000 in
theorem row_any (C : List Ct) (O T : List Nat) (n m nT cT : Nat) (aC aO aT : Option Addr) (cC cO la lb lc le wi t mo hy pr lo N : Nat) (full : Bool) (w : World) (hP : Pv w C O n m aC aO cC cO) (hT : Txt w C T nT aT cT) (hx : la < lb) (hb : lb ≤ n) (he : le < 256) (hw : wi ≤ 1048576) (h0 : 0 < t) (ht : t ≤ 1000) (hN : N = (Dw.row C T t wi la lb le full).length) (hNl : N ≤ 1000000) :
    Calls Try.prog 11 #[.slice aT nT cT, .agg #[.slice aC n cC, .slice aO m cO], .agg #[.int .i64 (la : Int), .int .i64 (lb : Int), .int .i64 (lc : Int), .int .u8 (le : Int)], .agg #[.int .i64 (wi : Int), .int .i64 (t : Int), .int .u8 (mo : Int), .int .i64 (hy : Int), .int .i64 (pr : Int), .float .f64 lo], .bool full] w fun e w' => ∃ a c, e = .returned (.slice a N c) ∧ w'.ownsRow w.heap.size 5 1 (.slice a N c) N (u8s (Dw.row C T t wi la lb le full)) ∧ Only (fun _ => False) w w' := by
  obtain ⟨gC, oC, rfl, -, -⟩ := hP.vC.cells (by rw [ctC_len, ← hP.hn]; omega)
  obtain ⟨aC, haC⟩ : ∃ a : Option Addr, a = some ⟨gC, oC, none⟩ := ⟨_, rfl⟩
  have HAC : Hid (aC = some ⟨gC, oC, none⟩) := haC
  rw [← haC] at hP
  rw [← haC]
  have HP : Hid (∀ W', Only (fun _ => False) w W' → Pv W' C O n m aC aO cC cO) := fun W' ho => hP.keep ho
  have HT : Hid (∀ W', Only (fun _ => False) w W' → Txt W' C T nT aT cT) := fun W' ho => hT.keep ho
  have h1 := hP.few
  have h2 := hP.cap
  have h3 := hP.capm
  unfold maxLen at h3
  have htr := Sp.tr_ge C la (lb - la)
  obtain ⟨nf, hnf⟩ : ∃ x, x = Dw.wds C t wi la lb le full := ⟨_, rfl⟩
  obtain ⟨K, hK⟩ : ∃ x, x = Sp.tr C la (lb - la) - la := ⟨_, rfl⟩
  have hKn : la + K ≤ n := by omega
  have hK0 : K ≤ 100000 := by omega
  obtain ⟨D, hD⟩ : ∃ x, x = Dw.wdl C t wi la lb le full := ⟨_, rfl⟩
  have hDl : K = D.length := by rw [hD, hK, Dw.wdl_len]
  have HW : Hid (∀ W', Only (fun _ => False) w W' → Calls Try.prog 19 #[.agg #[.slice aC n cC, .slice aO m cO], .agg #[.int .i64 (la : Int), .int .i64 (lb : Int), .int .i64 (lc : Int), .int .u8 (le : Int)], .agg #[.int .i64 (wi : Int), .int .i64 (t : Int), .int .u8 (mo : Int), .int .i64 (hy : Int), .int .i64 (pr : Int), .float .f64 lo], .bool full] W' fun e w' => ∃ (a : Option Addr) (c : Nat), e = .returned (.slice a K c) ∧ w'.ownsRow W'.heap.size 3 1 (.slice a K c) K (natI D) ∧ Only (fun _ => False) W' w') := fun W' ho => by
    have h := widths_any C O n m aC aO cC cO la lb lc le wi t mo hy pr lo full W' (hP.keep ho) hx hb he hw h0 ht
    rw [← hK, ← hD] at h
    exact h
  have HDL : Hid (K = D.length ∧ ∀ i, i < K → D[i]? = some (nf i)) := ⟨hDl, fun i hi => by
    rw [hD]
    unfold Dw.wdl
    rw [← hK, ← hnf, List.getElem?_map, List.getElem?_range hi]
    rfl⟩
  have hrow : Dw.row C T t wi la lb le full = Dw.pic C T la nf K ++ (if le = 3 then [45] else []) := by
    rw [hnf, hK]
    rfl
  rw [hrow] at hN ⊢
  obtain ⟨E, hE⟩ : ∃ x, x = (if le = 3 then [45] else []) := ⟨_, rfl⟩
  have HE : Hid ((le = 3 → E = [45]) ∧ (¬ le = 3 → E = [])) := ⟨fun h => by rw [hE, if_pos h], fun h => by rw [hE, if_neg h]⟩
  rw [← hE] at hN ⊢
  obtain ⟨F, hF⟩ : ∃ x, x = Dw.pic C T la nf K := ⟨_, rfl⟩
  rw [← hF] at hN ⊢
  have hFN : F.length ≤ N := by rw [hN, List.length_append]; omega
  have HF : Hid (F = Dw.pic C T la nf K ∧ F.length ≤ N ∧ N = (F ++ E).length) := ⟨hF, hFN, hN⟩
  have HFI : Hid (∀ i, i ≤ K → (Dw.pic C T la nf i).length ≤ N) := fun i hi => by
    refine Nat.le_trans (Dw.pic_mono C T la nf hi) ?_
    rw [← hF]
    exact hFN
  have t1 : (0 : Int) ≤ (la : Int) := by omega
  clear hE hP hT hx hw h0 ht hN htr hnf hK hD hDl hrow hF hFN haC
  go_enter Try.func11, Try.ntmps11
  go_upto_region 1 with fail
  obtain ⟨R, B, Q, w0, hw0, hQ, hB, hR, H0, l1, l2, l3⟩ := box246 w (.slice aC n cC) (.slice aO m cO) (.int .i64 (la : Int)) (.int .i64 (lb : Int)) (.int .i64 (lc : Int)) (.int .u8 (le : Int)) (.int .i64 (wi : Int)) (.int .i64 (t : Int)) (.int .u8 (mo : Int)) (.int .i64 (hy : Int)) (.int .i64 (pr : Int)) (.float .f64 lo) 31 43 35
  rw [hw0, hQ, hB, hR]
  clear hw0 hQ hB
  clear hR l1 l2 l3
  have HS : Hid (∀ W', Only (fun _ => False) w0 W' → ((W'.cell? ⟨R, 0, none⟩ = some (.slice aC n cC) ∧ W'.cell? ⟨R, 1, none⟩ = some (.slice aO m cO)) ∧ (W'.cell? ⟨B, 0, none⟩ = some (.int .i64 (la : Int)) ∧ W'.cell? ⟨B, 1, none⟩ = some (.int .i64 (lb : Int)) ∧ W'.cell? ⟨B, 2, none⟩ = some (.int .i64 (lc : Int)) ∧ W'.cell? ⟨B, 3, none⟩ = some (.int .u8 (le : Int))) ∧ (W'.cell? ⟨Q, 0, none⟩ = some (.int .i64 (wi : Int)) ∧ W'.cell? ⟨Q, 1, none⟩ = some (.int .i64 (t : Int)) ∧ W'.cell? ⟨Q, 2, none⟩ = some (.int .u8 (mo : Int)) ∧ W'.cell? ⟨Q, 3, none⟩ = some (.int .i64 (hy : Int)) ∧ W'.cell? ⟨Q, 4, none⟩ = some (.int .i64 (pr : Int)) ∧ W'.cell? ⟨Q, 5, none⟩ = some (.float .f64 lo))) ∧ (R < W'.heap.size ∧ B < W'.heap.size ∧ Q < W'.heap.size)) := fun W' ho => by
    have e1 := blk_keep ho H0.out.1
    have e2 := blk_keep ho H0.out.2.1
    have e3 := blk_keep ho H0.out.2.2.1
    exact ⟨⟨⟨(blk_two e1).1, (blk_two e1).2.1⟩, blk_four e2, blk_six e3⟩, (blk_two e1).2.2, (Array.getElem?_eq_some_iff.1 e2).1, (Array.getElem?_eq_some_iff.1 e3).1⟩
  obtain ⟨⟨⟨r0, r1⟩, ⟨b0, b1, b2, b3⟩, k0, k1, k2, k3, k4, k5⟩, lR, lB, lQ⟩ := HS.out w0 (Only.refl _ _)
  go_wp2_with fail
  refine Calls.mono (HW.out _ H0.out.2.2.2) ?_
  rintro e w1 ⟨a1, c1, rfl, hown1, ho1⟩
  have H1 : Hid (w1.ownsRow w0.heap.size 3 1 (.slice a1 K c1) K (natI D) ∧ Only (fun _ => False) w0 w1 ∧ Only (fun _ => False) w w1) := ⟨hown1, ho1, H0.out.2.2.2.trans ho1⟩
  clear hown1 ho1 r0 r1 b0 b1 b2 b3 k0 k1 k2 k3 k4 k5 lR lB lQ
  go_wp2_with fail
  go_loopg [12, 24] K (fun gh v12 v24 wr => ∃ (i s : Nat) (a : Option Addr) (cc : Nat) (W : World), W = wr ∧ gh = K - i ∧ i ≤ K ∧ v12 = .slice a s cc ∧ v24 = .int .i64 (i : Int) ∧ s = (Dw.pic C T la nf i).length ∧ W.ownsRow w1.heap.size 5 1 (.slice a s cc) s (u8s (Dw.pic C T la nf i)) ∧ Only (fun g => w1.heap.size ≤ g) w1 W)
  case atStart => exact ⟨0, 0, none, 0, _, rfl, rfl, Nat.zero_le _, rfl, rfl, rfl, own_nilY _ _, Only.refl _ _⟩
  case round =>
    obtain ⟨i, s, a, cc, W, hW, rfl, hi, rfl, rfl, hs, hownW, hoW⟩ := hrel
    subst hW
    have HG : Hid (W.ownsRow w1.heap.size 5 1 (.slice a s cc) s (u8s (Dw.pic C T la nf i)) ∧ Only (fun g => w1.heap.size ≤ g) w1 W ∧ Only (fun _ => False) w1 W ∧ s = (Dw.pic C T la nf i).length ∧ w1.heap.size ≤ W.heap.size) := ⟨hownW, hoW, hoW.old (fun g hg => Or.inl hg), hs, hoW.size⟩
    have HG2 : Hid (Only (fun _ => False) w0 W ∧ Only (fun _ => False) w W) := ⟨H1.out.2.1.trans HG.out.2.2.1, H1.out.2.2.trans HG.out.2.2.1⟩
    clear hownW hoW hs
    obtain ⟨⟨⟨r0, r1⟩, ⟨b0, b1, b2, b3⟩, k0, k1, k2, k3, k4, k5⟩, lR, lB, lQ⟩ := HS.out W HG2.out.1
    by_cases hlt : i < K
    · have u1 : (i : Int) < (K : Int) := by omega
      obtain ⟨gM, capM, hvM, hcM⟩ := natI_at (own_only H1.out.1 HG.out.2.2.1 (fun _ _ h => h)) HDL.out.1 (HDL.out.2 i hlt)
      have eM : a1 = some ⟨gM, 0, none⟩ := by injection hvM
      subst eM
      obtain ⟨j, hj⟩ : ∃ j, j = la + i := ⟨_, rfl⟩
      have hPw := HP.out W HG2.out.2
      obtain ⟨z, hz⟩ : ∃ z, C[j]? = some z := ⟨_, List.getElem?_eq_getElem (by have := hPw.hn; omega)⟩
      obtain ⟨xp, xl, xc, xk, rfl, hxc, hxk⟩ := hPw.ok.nat hz
      have hfit := (HT.out W HG2.out.2).fit _ (List.mem_of_getElem? hz)
      simp only at hfit
      have HA : Hid (Sp.at' C (la + i) = ⟨xp, xl, (xc : Int), xk⟩) := by rw [← hj]; exact at_some hz
      obtain ⟨gC', oC', eC, hg, c0, c1', c2, c3⟩ := hPw.vC.cluster (k := j) hz
      simp only at c0 c1' c2 c3
      have eC2 : aC = some ⟨gC, oC, none⟩ := HAC.out
      rw [eC2] at eC
      injection eC with eC
      injection eC with eC3 eC4
      subst eC3 eC4
      obtain ⟨y, hy'⟩ : ∃ y, y = nf i := ⟨_, rfl⟩
      rw [← hy'] at hcM
      have HPI : Hid (Dw.pic C T la nf (i + 1) = Dw.pic C T la nf i ++ Dw.see T ⟨xp, xl, (xc : Int), xk⟩ y) := by
        show Dw.pic C T la nf i ++ Dw.see T (Sp.at' C (la + i)) (nf i) = _
        rw [HA.out, ← hy']
      obtain ⟨s1, hs1⟩ : ∃ x, x = (Dw.pic C T la nf (i + 1)).length := ⟨_, rfl⟩
      have hs1l : s1 ≤ N := by rw [hs1]; exact HFI.out (i + 1) (by omega)
      have HS1 : Hid (s1 = (Dw.pic C T la nf (i + 1)).length) := hs1
      have HPU : Hid (Calls Try.prog 20 #[.slice a s cc, .slice aT nT cT, .agg #[.int .i64 (xp : Int), .int .i64 (xl : Int), .int .i64 (xc : Int), .int .u8 (xk : Int)], .int .i64 (y : Int)] W fun e w' => ∃ a' c', e = .returned (.slice a' s1 c') ∧ w'.ownsRow w1.heap.size 5 1 (.slice a' s1 c') s1 (u8s (Dw.pic C T la nf (i + 1))) ∧ Only (fun g => w1.heap.size ≤ g) W w') := by
        have hT := HT.out W HG2.out.2
        have h := put_any T (Dw.pic C T la nf i) nT cT s cc y xp xl xc xk w1.heap.size s1 aT a W hT.hn hT.vT (fun _ => hfit) hT.cap hT.capm HG.out.1 HG.out.2.2.2.2 (by rw [← HPI.out]; exact hs1) (by omega)
        rw [← HPI.out] at h
        exact h
      have j1 : IntKind.i64.wrap ((la : Int) + (i : Int)) = (j : Int) := by rw [IntKind.wrap_i64]; omega
      have j2 : (j : Int) < (n : Int) := by omega
      have aCs := HAC.out
      clear eC2 hPw hz hj hvM hfit hy' hs1
      subst aCs
      go_wp2_with fail
      refine Calls.mono HPU.out ?_
      rintro e w2 ⟨a2, cc2, rfl, hown2, ho2⟩
      have H2 : Hid (w2.ownsRow w1.heap.size 5 1 (.slice a2 s1 cc2) s1 (u8s (Dw.pic C T la nf (i + 1))) ∧ Only (fun g => w1.heap.size ≤ g) w1 w2) := ⟨hown2, HG.out.2.1.trans ho2⟩
      clear hown2 ho2 r0 r1 b0 b1 b2 b3 k0 k1 k2 k3 k4 k5 lR lB lQ hcM hg c0 c1' c2 c3
      go_wp2_with fail
      go_roundg (K - (i + 1))
      case measure => omega
      case rel => exact ⟨i + 1, s1, _, _, _, rfl, rfl, by omega, rfl, by go_num, HS1.out, H2.out.1, H2.out.2⟩
    · have u1 : decide ((i : Int) < (K : Int)) = false := decide_eq_false (by omega)
      have hin : i = K := by omega
      have HF2 : Hid (W.ownsRow w1.heap.size 5 1 (.slice a s cc) s (u8s F) ∧ s = F.length ∧ w.heap.size ≤ w1.heap.size) := by
        rw [HF.out.1, ← hin]
        exact ⟨HG.out.1, HG.out.2.2.2.1, H1.out.2.2.size⟩
      clear hin hi
      by_cases h3 : le = 3
      · have t3 : ((le : Int) == 3) = true := by rw [beq_iff_eq]; omega
        have HX : Hid ((W.alloc (.cells #[.int .u8 45] 5)).ownsRow w1.heap.size 5 1 (.slice a s cc) s (u8s F) ∧ Only (fun _ => False) w (W.alloc (.cells #[.int .u8 45] 5)) ∧ w1.heap.size ≤ (W.alloc (.cells #[.int .u8 45] 5)).heap.size ∧ Vw (W.alloc (.cells #[.int .u8 45] 5)) (some ⟨W.heap.size, 0, none⟩) (u8s [45])) := ⟨HF2.out.1.alloc _, HG2.out.2.alloc _, Nat.le_trans HG.out.2.2.2.2 ((Only.refl (fun _ => False) W).alloc _).size, vw_sign W 45 45 rfl⟩
        have HE3 : Hid (E = [45]) := HE.out.1 h3
        have hsN : s + 1 = N := by rw [HF2.out.2.1, HF.out.2.2, HE3.out, List.length_append]; rfl
        have HSN : Hid (s + 1 = N) := hsN
        clear h3 hsN HE
        go_wp2_with (at_builtin; (refine wpList_appY rfl _ _ rfl w1.heap.size HX.out.2.2.1 a s cc F rfl HX.out.1 (some ⟨W.heap.size, 0, none⟩) 1 1 [45] rfl rfl HX.out.2.2.2 N HSN.out hNl ?_; intro a2 c2 w2 hown2 ho2; have H2 : Hid (w2.ownsRow w1.heap.size 5 1 (.slice a2 N c2) N (u8s (F ++ [45])) ∧ Only (fun _ => False) w w2) := ⟨hown2, ((HX.out.2.1.mono (fun _ h => h.elim)).trans ho2).old (fun g hg => Or.inl (Nat.le_trans HF2.out.2.2 (own_own HX.out.1 hg).1))⟩; clear hown2 ho2))
        go_ret
        exact ⟨a2, c2, rfl, by rw [HE3.out]; exact own_base2 H2.out.1 HF2.out.2.2, H2.out.2⟩
      · have t3 : ((le : Int) == 3) = false := by rw [beq_eq_false_iff_ne]; omega
        have HE3 : Hid (E = []) := HE.out.2 h3
        have hsN : s = N := by rw [HF2.out.2.1, HF.out.2.2, HE3.out, List.append_nil]
        subst hsN
        clear h3 HE
        go_wp2_with fail
        go_ret
        exact ⟨a, cc, rfl, by rw [HE3.out, List.append_nil]; exact own_base2 HF2.out.1 HF2.out.2.2, HG2.out.2⟩
end Go.Proofs.Ytegoadhnilmchaa
/-
  draw.All: the rows of lines.
-/
namespace Go.Proofs.Ytegoadhnilmchaa
open Go.RowKit Go.Maps
set_option linter.unusedVariables false
set_option linter.unusedSimpArgs false
theorem infoBs : (Try.prog.info? 36).map (fun i => (i.zero, i.size, i.bytes)) = some (some (.slice none 0 0), 1, 24) := by kernel_rfl
theorem made_rows (n : Nat) : madeCells #[.slice none 0 0] n = rowOf n (fun _ => .slice none 0 0) := by
  apply Array.ext_getElem?
  intro j
  by_cases hj : j < n
  · rw [rowOf_at _ hj, Array.getElem?_eq_getElem (by rw [size_madeCells]; exact hj)]
    simp [madeCells, Nat.mod_one]
  · rw [Array.getElem?_eq_none (by rw [size_madeCells]; omega), Array.getElem?_eq_none (by rw [rowOf_size]; omega)]
/-- rows of bytes, in a block of their own. -/
def Rws (w : World) (b : Nat) (Ls : List (List Nat)) : Prop := ∀ i L, Ls[i]? = some L → ∃ a c, w.cell? ⟨b, i, none⟩ = some (.slice a L.length c) ∧ L.length ≤ c ∧ c ≤ maxLen ∧ Vw w a (u8s L)
theorem Rws.keep {w w' : World} {b : Nat} {Ls : List (List Nat)} (h : Rws w b Ls) (ho : Only (fun _ => False) w w') : Rws w' b Ls := fun i L hL => by
  obtain ⟨a, c, h1, h2, h3, h4⟩ := h i L hL
  exact ⟨a, c, keep0 ho h1, h2, h3, h4.keep ho⟩
/-- a line that may be drawn. -/
structure Okl (C : List Ct) (T : List Nat) (n t W : Nat) (full : Bool) (l : Ln) : Prop where
  lt : l.a < l.b
  le : l.b ≤ n
  e : l.e < 256
  few : (Dw.row C T t W l.a l.b l.e full).length ≤ 1000000
theorem own_capm {w : World} {base e size n c : Nat} {a : Option Addr} {xs : List Value} (h : w.ownsRow base e size (.slice a n c) n xs) : c ≤ maxLen := by
  obtain ⟨_, ⟨e, h0⟩ | ⟨g', cap', cur, e, hb, hh, hc, hm, _⟩⟩ := h
  · injection e with _ _ e
    rw [e]
    exact Nat.zero_le _
  · injection e with _ _ e
    omega
set_option maxRecDepth 100000 in
set_option maxHeartbeats 8000000 in
theorem all_any (C : List Ct) (O T : List Nat) (A : List Ln) (n m nT cT nA cA : Nat) (aC aO aT aA : Option Addr) (cC cO wi t mo hy pr lo : Nat) (full : Bool) (w : World) (hP : Pv w C O n m aC aO cC cO) (hT : Txt w C T nT aT cT) (hA : nA = A.length) (hVA : Vw w aA (lnC A)) (hnA : nA ≤ 100000) (hok : ∀ l ∈ A, Okl C T n t wi full l) (hw : wi ≤ 1048576) (h0 : 0 < t) (ht : t ≤ 1000) :
    Calls Try.prog 9 #[.slice aT nT cT, .agg #[.slice aC n cC, .slice aO m cO], .slice aA nA cA, .agg #[.int .i64 (wi : Int), .int .i64 (t : Int), .int .u8 (mo : Int), .int .i64 (hy : Int), .int .i64 (pr : Int), .float .f64 lo], .bool full] w fun e w' => ∃ b, e = .returned (.slice (some ⟨b, 0, none⟩) nA nA) ∧ Rws w' b (A.map fun l => Dw.row C T t wi l.a l.b l.e full) ∧ Only (fun _ => False) w w' := by
  obtain ⟨Ls, hLs⟩ : ∃ x, x = A.map (fun l => Dw.row C T t wi l.a l.b l.e full) := ⟨_, rfl⟩
  rw [← hLs]
  have HLn : Hid (nA = A.length ∧ ∀ W', Only (fun _ => False) w W' → Vw W' aA (lnC A)) := ⟨hA, fun W' ho => hVA.keep ho⟩
  have HRO : Hid (∀ W' (i la lb lc le : Nat), A[i]? = some ⟨la, lb, lc, le⟩ → Only (fun _ => False) w W' → ∃ (L : List Nat) (N : Nat), Ls[i]? = some L ∧ N = L.length ∧ Calls Try.prog 11 #[.slice aT nT cT, .agg #[.slice aC n cC, .slice aO m cO], .agg #[.int .i64 (la : Int), .int .i64 (lb : Int), .int .i64 (lc : Int), .int .u8 (le : Int)], .agg #[.int .i64 (wi : Int), .int .i64 (t : Int), .int .u8 (mo : Int), .int .i64 (hy : Int), .int .i64 (pr : Int), .float .f64 lo], .bool full] W' fun e w' => ∃ a c, e = .returned (.slice a N c) ∧ w'.ownsRow W'.heap.size 5 1 (.slice a N c) N (u8s L) ∧ Only (fun _ => False) W' w') := fun W' i la lb lc le hi ho => by
    have h := hok _ (List.mem_of_getElem? hi)
    refine ⟨Dw.row C T t wi la lb le full, _, ?_, rfl, row_any C O T n m nT cT aC aO aT cC cO la lb lc le wi t mo hy pr lo _ full W' (hP.keep ho) (hT.keep ho) h.lt h.le h.e hw h0 ht rfl h.few⟩
    rw [hLs, List.getElem?_map, hi]
    rfl
  have hmk : ∀ W : World, (Instr.makeSlice 39 (.int .i64 (nA : Int)) (.int .i64 (nA : Int))).run Try.prog W = .ok (.slice (some ⟨W.heap.size, 0, none⟩) nA nA) (W.alloc (.cells (rowOf nA (fun _ => .slice none 0 0)) 36)) := fun W => by
    rw [← made_rows]
    exact run_make_row' (P := Try.prog) 39 36 (.slice none 0 0) 24 Try.underlying39 infoBs rfl .i64 .i64 nA (by omega) (by omega) W
  have HLl : Hid (Ls.length = nA) := by rw [hLs, List.length_map, hA]; exact rfl
  clear hP hT hA hVA hok hw h0 ht hLs
  go_enter Try.func9, Try.ntmps9
  go_upto_region 1 with fail
  obtain ⟨R, Q, w0, hw0, hQ, hR, H0, l1, l2, l3⟩ := box26 w (.slice aC n cC) (.slice aO m cO) (.int .i64 (wi : Int)) (.int .i64 (t : Int)) (.int .u8 (mo : Int)) (.int .i64 (hy : Int)) (.int .i64 (pr : Int)) (.float .f64 lo) 31 35
  rw [hw0, hQ, hR]
  clear hw0 hQ hR l1 l2 l3
  have HS : Hid (∀ W', Only (fun _ => False) w0 W' → ((W'.cell? ⟨R, 0, none⟩ = some (.slice aC n cC) ∧ W'.cell? ⟨R, 1, none⟩ = some (.slice aO m cO)) ∧ (W'.cell? ⟨Q, 0, none⟩ = some (.int .i64 (wi : Int)) ∧ W'.cell? ⟨Q, 1, none⟩ = some (.int .i64 (t : Int)) ∧ W'.cell? ⟨Q, 2, none⟩ = some (.int .u8 (mo : Int)) ∧ W'.cell? ⟨Q, 3, none⟩ = some (.int .i64 (hy : Int)) ∧ W'.cell? ⟨Q, 4, none⟩ = some (.int .i64 (pr : Int)) ∧ W'.cell? ⟨Q, 5, none⟩ = some (.float .f64 lo))) ∧ (R < W'.heap.size ∧ Q < W'.heap.size)) := fun W' ho => by
    have e1 := blk_keep ho H0.out.1
    have e2 := blk_keep ho H0.out.2.1
    exact ⟨⟨⟨(blk_two e1).1, (blk_two e1).2.1⟩, blk_six e2⟩, (blk_two e1).2.2, (Array.getElem?_eq_some_iff.1 e2).1⟩
  obtain ⟨⟨⟨r0, r1⟩, k0, k1, k2, k3, k4, k5⟩, lR, lQ⟩ := HS.out w0 (Only.refl _ _)
  go_wp2_with fail
  obtain ⟨b, hb⟩ : ∃ b, b = w0.heap.size := ⟨_, rfl⟩
  obtain ⟨w2, hw2⟩ : ∃ Z, Z = w0.alloc (.cells (rowOf nA (fun _ => .slice none 0 0)) 36) := ⟨_, rfl⟩
  rw [← hw2, ← hb]
  have H2 : Hid (w2.heap[b]? = some (.cells (rowOf nA (fun _ => .slice none 0 0)) 36 (0, 0)) ∧ Only (fun _ => False) w0 w2 ∧ b = w0.heap.size ∧ Only (fun _ => False) w w2) := by
    rw [hw2, hb]
    exact ⟨heap_alloc_new w0 _, (Only.refl _ _).alloc _, rfl, H0.out.2.2.alloc _⟩
  clear hw2 hb hmk r0 r1 k0 k1 k2 k3 k4 k5 lR lQ
  go_loopg [19] nA (fun gh v19 wr => ∃ (i : Nat) (vs : Nat → Value) (W : World), W = wr ∧ gh = nA - i ∧ i ≤ nA ∧ v19 = .int .i64 (i : Int) ∧ W.heap[b]? = some (.cells (rowOf nA vs) 36 (0, 0)) ∧ (∀ j L, j < i → Ls[j]? = some L → ∃ a c, vs j = .slice a L.length c ∧ W.ownsRow w.heap.size 5 1 (.slice a L.length c) L.length (u8s L)) ∧ Only (fun q => q = b) w2 W)
  case atStart => exact ⟨0, _, _, rfl, rfl, Nat.zero_le _, rfl, H2.out.1, fun j L h => absurd h (Nat.not_lt_zero _), Only.refl _ _⟩
  case round =>
    obtain ⟨i, vs, W, hW, rfl, hi, rfl, hbk, hrow, hoW⟩ := hrel
    subst hW
    have HG : Hid (W.heap[b]? = some (.cells (rowOf nA vs) 36 (0, 0)) ∧ (∀ j L, j < i → Ls[j]? = some L → ∃ a c, vs j = .slice a L.length c ∧ W.ownsRow w.heap.size 5 1 (.slice a L.length c) L.length (u8s L)) ∧ Only (fun q => q = b) w2 W ∧ Only (fun _ => False) w0 W ∧ Only (fun _ => False) w W) := by
      have h1 := ((H2.out.2.1.mono (fun _ h => h.elim)).trans hoW).old (Q := fun _ => False) (fun q hq => Or.inl (by rw [hq]; exact Nat.le_of_eq H2.out.2.2.1.symm))
      exact ⟨hbk, hrow, hoW, h1, H0.out.2.2.trans h1⟩
    clear hbk hrow hoW
    by_cases hlt : i < nA
    · have t1 : (i : Int) < (nA : Int) := by omega
      obtain ⟨z, hz⟩ : ∃ z, A[i]? = some z := ⟨_, List.getElem?_eq_getElem (by rw [← HLn.out.1]; exact hlt)⟩
      obtain ⟨g, off, eg, hg, d0, d1, d2, d3⟩ := (HLn.out.2 W HG.out.2.2.2.2).line (k := i) hz
      obtain ⟨la, lb, lc, le⟩ := z
      simp only at d0 d1 d2 d3
      subst eg
      have HZ : Hid (A[i]? = some ⟨la, lb, lc, le⟩) := hz
      clear hz
      go_upto_region 5 with fail
      obtain ⟨B9, w3, hw3, hB9, H3, l9⟩ := box4 W (.int .i64 (la : Int)) (.int .i64 (lb : Int)) (.int .i64 (lc : Int)) (.int .u8 (le : Int)) 43
      rw [hw3, hB9]
      clear hw3 hB9 l9 d0 d1 d2 d3 hg
      obtain ⟨⟨⟨r0, r1⟩, k0, k1, k2, k3, k4, k5⟩, lR, lQ⟩ := HS.out w3 (HG.out.2.2.2.1.trans H3.out.2.1)
      obtain ⟨x0, x1, x2, x3⟩ := blk_four H3.out.1
      have l9 : B9 < w3.heap.size := (Array.getElem?_eq_some_iff.1 H3.out.1).1
      obtain ⟨L, N, hL, hNL, hro⟩ := HRO.out w3 i la lb lc le HZ.out (HG.out.2.2.2.2.trans H3.out.2.1)
      have HR : Hid (Ls[i]? = some L ∧ N = L.length ∧ Calls Try.prog 11 #[.slice aT nT cT, .agg #[.slice aC n cC, .slice aO m cO], .agg #[.int .i64 (la : Int), .int .i64 (lb : Int), .int .i64 (lc : Int), .int .u8 (le : Int)], .agg #[.int .i64 (wi : Int), .int .i64 (t : Int), .int .u8 (mo : Int), .int .i64 (hy : Int), .int .i64 (pr : Int), .float .f64 lo], .bool full] w3 fun e w' => ∃ a c, e = .returned (.slice a N c) ∧ w'.ownsRow w3.heap.size 5 1 (.slice a N c) N (u8s L) ∧ Only (fun _ => False) w3 w') := ⟨hL, hNL, hro⟩
      clear hL hNL hro
      go_wp2_with (go_at_call 11; fail)
      refine Calls.mono HR.out.2.2 ?_
      rintro e w4 ⟨a4, c4, rfl, hown4, ho4⟩
      have H4 : Hid (w4.ownsRow w3.heap.size 5 1 (.slice a4 N c4) N (u8s L) ∧ Only (fun _ => False) W w4 ∧ w4.heap[b]? = some (.cells (rowOf nA vs) 36 (0, 0))) := by
        have h := H3.out.2.1.trans ho4
        exact ⟨hown4, h, blk_keep h HG.out.1⟩
      have c9 : w4.cell? ⟨b, i, none⟩ = some (vs i) := by rw [cell_blk H4.out.2.2]; exact rowOf_at vs hlt
      have f9 : w4.frozen? ⟨b, i, none⟩ = false := fz_blk H4.out.2.2 i
      have lb9 : b < w4.heap.size := (Array.getElem?_eq_some_iff.1 H4.out.2.2).1
      clear hown4 ho4 x0 x1 x2 x3 l9 r0 r1 k0 k1 k2 k3 k4 k5 lR lQ
      go_wp2_with fail
      go_roundg (nA - (i + 1))
      case measure => omega
      case rel =>
        refine ⟨i + 1, fun j => if j = i then .slice a4 N c4 else vs j, _, rfl, rfl, by omega, by go_num, ?_, ?_, ?_⟩
        · rw [heap_setCell_at H4.out.2.2, rowOf_set]
        · intro j L' hj hL'
          have hn5 : (36 : Nat) ≠ 5 := by decide
          have ho : Only (fun q => q = b) w4 (w4.setCell ⟨b, i, none⟩ (.slice a4 N c4)) := (Only.refl (fun q => q = b) w4).setCell (p := ⟨b, i, none⟩) rfl _
          by_cases e : j = i
          · subst e
            have e2 : L' = L := by have h := HR.out.1; rw [h] at hL'; injection hL' with hL'; exact hL'.symm
            subst e2
            refine ⟨a4, c4, by show (if j = j then _ else _) = _; rw [if_pos rfl, HR.out.2.1], ?_⟩
            have h := H4.out.1
            rw [HR.out.2.1] at h
            exact own_stay (own_base2 h (Nat.le_trans HG.out.2.2.2.2.size H3.out.2.1.size)) ho (fun q hq e => own_ne h H4.out.2.2 hn5 (by rw [← e]; exact hq))
          · obtain ⟨a, c, h1, h2⟩ := HG.out.2.1 j L' (by omega) hL'
            have h3 := own_only h2 H4.out.2.1 (fun _ _ h => h)
            exact ⟨a, c, by show (if j = i then _ else _) = _; rw [if_neg e]; exact h1, own_stay h3 ho (fun q hq e => own_ne h3 H4.out.2.2 hn5 (by rw [← e]; exact hq))⟩
        · exact (HG.out.2.2.1.trans (H4.out.2.1.mono (fun _ h => h.elim))).setCell (p := ⟨b, i, none⟩) rfl _
    · have t1 : decide ((i : Int) < (nA : Int)) = false := decide_eq_false (by omega)
      have hin : i = nA := by omega
      have HF : Hid (Rws W b Ls) := fun j L hL => by
        have hj : j < Ls.length := (List.getElem?_eq_some_iff.1 hL).1
        by_cases hjn : j < i
        · obtain ⟨a, c, h1, h2⟩ := HG.out.2.1 j L hjn hL
          exact ⟨a, c, by rw [cell_blk HG.out.1, rowOf_at vs (by omega), h1], own_le h2, own_capm h2, own_vw h2⟩
        · exfalso
          have := HLl.out
          omega
      clear hin
      go_wp2_with fail
      go_ret
      exact ⟨b, rfl, HF.out, HG.out.2.2.2.2⟩
end Go.Proofs.Ytegoadhnilmchaa
/-
  Layer 22's lined: a text, its lines, how wide it is set, and its bytes.
-/
namespace Go.Proofs.Ytegoadhnilmchaa
open Go.RowKit Go.Maps
set_option linter.unusedVariables false
set_option linter.unusedSimpArgs false
theorem Pa.cts_of : ∀ (L : List Bt) (p : Nat), ∀ z ∈ Pa.cts L p, ∃ b ∈ L, z.len = 1 + b.len % 4 ∧ z.cells = ((b.cells % 3 : Nat) : Int)
  | [], p, z, h => by cases h
  | b :: L, p, z, h => by
    rcases List.mem_cons.1 h with e | e
    · subst e
      exact ⟨b, List.mem_cons_self, rfl, rfl⟩
    · obtain ⟨b', h1, h2⟩ := Pa.cts_of L _ z e
      exact ⟨b', List.mem_cons_of_mem _ h1, h2⟩
namespace Dw
/-- a cluster's bytes: letters, one behind the other. -/
def cb (i n : Nat) : List Nat := (List.range n).map fun j => 97 + (i + j) % 26
theorem cb_snoc (i n : Nat) : cb i (n + 1) = cb i n ++ [97 + (i + n) % 26] := by
  unfold cb
  rw [List.range_succ, List.map_append]
  rfl
theorem cb_len (i n : Nat) : (cb i n).length = n := by simp [cb]
theorem cb_big (i n : Nat) : ∀ x ∈ cb i n, 97 ≤ x ∧ x ≤ 122 := fun x hx => by
  unfold cb at hx
  obtain ⟨j, _, e⟩ := List.mem_map.1 hx
  have := Nat.mod_lt (i + j) (show 0 < 26 by decide)
  omega
/-- the bytes of so many clusters. -/
def byt (C : List Ct) : Nat → List Nat
  | 0 => []
  | i + 1 => byt C i ++ cb i (Sp.at' C i).len
theorem byt_len (C : List Ct) : ∀ i, i ≤ C.length → (byt C i).length = It.sum (C.take i)
  | 0, _ => rfl
  | i + 1, h => by
    rw [Lv.sum_next h, ← byt_len C i (by omega)]
    show (byt C i ++ cb i _).length = _
    rw [List.length_append, cb_len]
theorem byt_big (C : List Ct) : ∀ i, ∀ x ∈ byt C i, 97 ≤ x ∧ x ≤ 122
  | 0, x, h => by cases h
  | i + 1, x, h => by
    rcases List.mem_append.1 h with q | q
    · exact byt_big C i x q
    · exact cb_big _ _ x q
theorem byt_up (C : List Ct) (i : Nat) : ∀ d, (byt C i).length ≤ (byt C (i + d)).length
  | 0 => Nat.le_refl _
  | d + 1 => by
    have h := byt_up C i d
    show _ ≤ (byt C (i + d) ++ cb (i + d) _).length
    rw [List.length_append]
    omega
theorem byt_fit {C : List Ct} (h : Lv.Ctg C) : ∀ z ∈ C, z.pl + z.len ≤ (byt C C.length).length := fun z hz => by
  obtain ⟨i, hi, e⟩ := List.mem_iff_getElem.1 hz
  have e1 : Sp.at' C i = z := at_some (by rw [List.getElem?_eq_getElem hi, e])
  have h1 := (h i hi).1
  have h2 := byt_len C (i + 1) hi
  rw [Lv.sum_next hi] at h2
  have h3 := byt_up C (i + 1) (C.length - (i + 1))
  rw [show i + 1 + (C.length - (i + 1)) = C.length by omega, h2] at h3
  rw [e1] at h1 h3
  omega
theorem of_len {L0 : List Bt} {C : List Ct} (h : ∀ z ∈ C, ∃ b ∈ L0, z.len = 1 + b.len % 4 ∧ z.cells = ((b.cells % 3 : Nat) : Int)) : ∀ z ∈ C, z.len ≤ 4 := fun z hz => by
  obtain ⟨b, _, h1, _⟩ := h z hz
  omega
theorem byt_few {C : List Ct} (h : ∀ z ∈ C, z.len ≤ 4) : ∀ i, i ≤ C.length → (byt C i).length ≤ 4 * i
  | 0, _ => Nat.le_refl _
  | i + 1, hi => by
    have ih := byt_few h i (by omega)
    have e : Sp.at' C i ∈ C := by rw [at_some (List.getElem?_eq_getElem hi)]; exact List.getElem_mem hi
    have h4 := h _ e
    show (byt C i ++ cb i _).length ≤ _
    rw [List.length_append, cb_len]
    omega
end Dw
/-- the bytes of what lined makes. -/
structure Ld2 (X : World) (L0 : List Bt) (C : List Ct) (T : List Nat) (nT : Nat) (aT : Option Addr) (cT : Nat) : Prop where
  txt : Txt X C T nT aT cT
  big : ∀ x ∈ T, 97 ≤ x ∧ x ≤ 122
  few : nT ≤ 400
  of : ∀ z ∈ C, ∃ b ∈ L0, z.len = 1 + b.len % 4 ∧ z.cells = ((b.cells % 3 : Nat) : Int)
theorem Ld2.keep {X Y : World} {L0 : List Bt} {C : List Ct} {T : List Nat} {nT cT : Nat} {aT : Option Addr} (h : Ld2 X L0 C T nT aT cT) (ho : Only (fun _ => False) X Y) : Ld2 Y L0 C T nT aT cT := ⟨h.txt.keep ho, h.big, h.few, h.of⟩
theorem results_cell4 {P : Program} {fn : Func} {p u p2 u2 : Tmp} {ty ty2 : TypeId} (h : fn.results = #[.cell p ty, .tmp u, .cell p2 ty2, .tmp u2]) (tmps : Array Value) (w : World) (g : Nat) (t : TypeId) (cs : Array Value) (fr : Nat × Nat) (d : TypeDesc)
    (hp : tmps.getD p undef = .pointer (some ⟨g, 0, none⟩)) (hg : w.heap[g]? = some (.cells cs t fr))
    (hu : P.underlying ty = some d) (hd : (match d with | .struct _ | .array _ _ => true | _ => false) = true) (hi : (P.info? ty).map (·.size) = some cs.size) (v1 : Value) (h1 : tmps.getD u undef = v1)
    (g2 : Nat) (t2 : TypeId) (cs2 : Array Value) (fr2 : Nat × Nat) (d2 : TypeDesc)
    (hp2 : tmps.getD p2 undef = .pointer (some ⟨g2, 0, none⟩)) (hg2 : w.heap[g2]? = some (.cells cs2 t2 fr2))
    (hu2 : P.underlying ty2 = some d2) (hd2 : (match d2 with | .struct _ | .array _ _ => true | _ => false) = true) (hi2 : (P.info? ty2).map (·.size) = some cs2.size) (v2 : Value) (h2 : tmps.getD u2 undef = v2) :
    (results fn tmps).run P w = .ok (.tuple #[.agg cs, v1, .agg cs2, v2]) w := by
  subst h1 h2
  have hp' : tmps[p]?.getD undef = .pointer (some ⟨g, 0, none⟩) := by simpa using hp
  have hp2' : tmps[p2]?.getD undef = .pointer (some ⟨g2, 0, none⟩) := by simpa using hp2
  simp [results, h, hp', hp2', asAddr, run_loadVar_row w g t ty cs fr d hg hu hd hi, run_loadVar_row w g2 t2 ty2 cs2 fr2 d2 hg2 hu2 hd2 hi2]
set_option maxRecDepth 100000 in
set_option maxHeartbeats 8000000 in
theorem lined22_any (L0 : List Bt) (nL : Nat) (a0 : Option Addr) (c0 : Nat) (K : Wy) (w : World) (hV : Vw w a0 (btC L0)) (hB : ∀ b ∈ L0, b.cells < 256 ∧ b.kind < 256 ∧ b.len < 256 ∧ b.opp < 256) (hnL : nL = L0.length) (hc : nL ≤ c0) (hm : c0 ≤ maxLen) (hK : K.Ok) :
    Calls Try.prog 8 #[.slice a0 nL c0, K.val] w fun e w' => ∃ (C : List Ct) (O : List Nat) (k : Nat) (aC aO : Option Addr) (cC cO : Nat) (A : List Ln) (nA : Nat) (aA : Option Addr) (cA W t hy pr lo : Nat) (T : List Nat) (nT : Nat) (aT : Option Addr) (cT : Nat), e = .returned (.tuple #[.agg #[.slice aC k cC, .slice aO (k + 1) cO], .slice aA nA cA, .agg #[.int .i64 (W : Int), .int .i64 (t : Int), .int .u8 0, .int .i64 (hy : Int), .int .i64 (pr : Int), .float .f64 lo], .slice aT nT cT]) ∧ Ld w' C O k aC aO cC cO A nA aA W t ∧ Ld2 w' L0 C T nT aT cT ∧ Only (fun _ => False) w w' := by
  obtain ⟨wi, tb, mo, hy, pr, lo⟩ := K
  obtain ⟨W1, hW1⟩ : ∃ x, x = 1 + wi := ⟨_, rfl⟩
  obtain ⟨T1, hT1⟩ : ∃ x, x = 1 + tb % 64 := ⟨_, rfl⟩
  obtain ⟨M1, hM1⟩ : ∃ x, x = mo % 2 := ⟨_, rfl⟩
  have HCF : Hid (∀ W, Calls Try.prog 15 #[.agg #[.int .u8 (wi : Int), .int .u8 (tb : Int), .int .u8 (mo : Int), .int .u16 (hy : Int), .int .u16 (pr : Int), .float .f64 lo]] W fun e w' => e = .returned (.agg #[.int .i64 (W1 : Int), .int .i64 (T1 : Int), .int .u8 (M1 : Int), .int .i64 (hy : Int), .int .i64 (pr : Int), .float .f64 lo]) ∧ Only (fun _ => False) W w') := fun W => by
    rw [hW1, hT1, hM1]
    exact config_any ⟨wi, tb, mo, hy, pr, lo⟩ W hK
  obtain ⟨b0, b1, b2, b3, b4, b5⟩ := hK
  simp only at b0 b1 b2 b3 b4 b5
  have hw1 : W1 ≤ 256 := by omega
  have hw0 : 1 ≤ W1 := by omega
  have ht0 : 0 < T1 := by omega
  have ht1 : T1 ≤ 64 := by omega
  have hm1 : M1 ≤ 1 := by omega
  obtain ⟨n0, hn0⟩ : ∃ n, n = min nL 100 := ⟨_, rfl⟩
  obtain ⟨L, hL⟩ : ∃ x, x = L0.take n0 := ⟨_, rfl⟩
  have hlen : n0 = L.length := by rw [hL, List.length_take, ← hnL]; omega
  have HN : Hid (n0 = L.length) := hlen
  have HLL : Hid (∀ b ∈ L, b ∈ L0) := fun b hb => by rw [hL] at hb; exact List.mem_of_mem_take hb
  have h5 : n0 ≤ 100 := by omega
  have HPA : Hid (∀ W, Only (fun _ => False) w W → Calls Try.prog 14 #[.slice a0 n0 c0] W fun e w' => ∃ k aC aO cC cO, e = .returned (.agg #[.slice aC k cC, .slice aO (k + 1) cO]) ∧ Made w' L n0 k aC aO cC cO ∧ Only (fun _ => False) W w') := fun W ho => para_made L n0 a0 c0 W hlen (by rw [hL]; exact (hV.keep ho).btTake n0) (fun b hb => hB b (by rw [hL] at hb; exact List.mem_of_mem_take hb)) (by omega)
  unfold Wy.val
  simp only
  have hmn : (if (100 : Int) < (nL : Int) then (100 : Int) else (nL : Int)) = (n0 : Int) := by split <;> omega
  have hn0c : (n0 : Int) ≤ (c0 : Int) := by omega
  have hn0c2 : n0 ≤ c0 := by omega
  have hcm : c0 ≤ 9223372036854775807 := by unfold maxLen at hm; exact hm
  clear hlen hL hV hB hnL hc hm hW1 hT1 hM1 hn0
  go_enter Try.func8, Try.ntmps8
  go_upto_region 1 with fail
  obtain ⟨R, B4, B7, w2, hw2, hB7, hB4, hR, H0⟩ := box626 w (.int .u8 (wi : Int)) (.int .u8 (tb : Int)) (.int .u8 (mo : Int)) (.int .u16 (hy : Int)) (.int .u16 (pr : Int)) (.float .f64 lo) (.slice none 0 0) (.slice none 0 0) (.int .i64 0) (.int .i64 0) (.int .u8 0) (.int .i64 0) (.int .i64 0) (.float .f64 0) 26 31 35
  rw [hw2, hB7, hB4, hR]
  clear hw2 hB7 hB4 hR
  have HW2 : Hid (Only (fun _ => False) w w2) := H0.out.2.2.2.1
  have HKS : Hid (∀ W', Only (fun _ => False) w2 W' → (W'.cell? ⟨R, 0, none⟩ = some (.int .u8 (wi : Int)) ∧ W'.cell? ⟨R, 1, none⟩ = some (.int .u8 (tb : Int)) ∧ W'.cell? ⟨R, 2, none⟩ = some (.int .u8 (mo : Int)) ∧ W'.cell? ⟨R, 3, none⟩ = some (.int .u16 (hy : Int)) ∧ W'.cell? ⟨R, 4, none⟩ = some (.int .u16 (pr : Int)) ∧ W'.cell? ⟨R, 5, none⟩ = some (.float .f64 lo))) := fun W' ho => blk_six (blk_keep ho H0.out.1)
  go_cut [8, 9] from 16 to 23 (fun v5 v6 wr => ∃ (k B5 B6 : Nat) (aC aO : Option Addr) (cC cO : Nat) (X : World), X = wr ∧ v5 = .pointer (some ⟨B5, 0, none⟩) ∧ v6 = .pointer (some ⟨B6, 0, none⟩) ∧ Made X L n0 k aC aO cC cO ∧ Blk w2 X B5 31 #[.slice aC k cC, .slice aO (k + 1) cO] ∧ Blk w2 X B6 35 #[.int .i64 (W1 : Int), .int .i64 (T1 : Int), .int .u8 (M1 : Int), .int .i64 (hy : Int), .int .i64 (pr : Int), .float .f64 lo] ∧ Only (fun _ => False) w2 X)
  case first =>
    have HXD : Hid (Only (fun _ => False) w2 w2.drew) := (Only.refl _ _).drew
    refine wp_region_held_drew (S := (fun W' => W'.cell? ⟨R, 0, none⟩ = some (.int .u8 (wi : Int)) ∧ W'.cell? ⟨R, 1, none⟩ = some (.int .u8 (tb : Int)) ∧ W'.cell? ⟨R, 2, none⟩ = some (.int .u8 (mo : Int)) ∧ W'.cell? ⟨R, 3, none⟩ = some (.int .u16 (hy : Int)) ∧ W'.cell? ⟨R, 4, none⟩ = some (.int .u16 (pr : Int)) ∧ W'.cell? ⟨R, 5, none⟩ = some (.float .f64 lo))) (by kernel_rfl) (HKS.out _ HXD.out) (fun hHeld => ?_)
    refine wpAnyH_take (i := 0) (oi := { dst := some 16, op := _, type := _, pos := _, after := _, guard := _ }) (v := .slice a0 nL c0) rfl (by kernel_rfl) (by kernel_rfl) (by kernel_rfl) (fun _ _ _ h => h) (Or.inl ⟨by rfl, fun w hSw => by obtain ⟨y0, y1, y2, y3, y4, y5⟩ := hSw; first | (go_simp; done) | go_simp⟩) (by assumption) ?_
    (try simp only [Act.put, List.setIfInBounds_toArray, List.set_cons_zero, List.set_cons_succ])
    refine wpAnyH_take (i := 1) (oi := { dst := some 17, op := _, type := _, pos := _, after := _, guard := _ }) (v := .slice a0 nL c0) rfl (by kernel_rfl) (by kernel_rfl) (by kernel_rfl) (fun _ _ _ h => h) (Or.inl ⟨by rfl, fun w hSw => by obtain ⟨y0, y1, y2, y3, y4, y5⟩ := hSw; first | (go_simp; done) | go_simp⟩) (by assumption) ?_
    (try simp only [Act.put, List.setIfInBounds_toArray, List.set_cons_zero, List.set_cons_succ])
    refine wpAnyH_take (i := 2) (oi := { dst := some 18, op := _, type := _, pos := _, after := _, guard := _ }) (v := .int .i64 (nL : Int)) rfl (by kernel_rfl) (by kernel_rfl) (by kernel_rfl) (fun _ _ _ h => h) (Or.inl ⟨by rfl, fun w hSw => by obtain ⟨y0, y1, y2, y3, y4, y5⟩ := hSw; first | (go_simp; done) | go_simp⟩) (by assumption) ?_
    (try simp only [Act.put, List.setIfInBounds_toArray, List.set_cons_zero, List.set_cons_succ])
    refine wpAnyH_take (i := 3) (oi := { dst := some 19, op := _, type := _, pos := _, after := _, guard := _ }) (v := .int .i64 (n0 : Int)) rfl (by kernel_rfl) (by kernel_rfl) (by kernel_rfl) (fun _ _ _ h => h) (Or.inl ⟨by rfl, fun w hSw => by obtain ⟨y0, y1, y2, y3, y4, y5⟩ := hSw; first | (go_simp; done) | go_simp⟩) (by assumption) ?_
    (try simp only [Act.put, List.setIfInBounds_toArray, List.set_cons_zero, List.set_cons_succ])
    refine wpAnyH_take (i := 4) (oi := { dst := some 20, op := _, type := _, pos := _, after := _, guard := _ }) (v := .slice a0 n0 c0) rfl (by kernel_rfl) (by kernel_rfl) (by kernel_rfl) (fun _ _ _ h => h) (Or.inl ⟨by rfl, fun w hSw => by obtain ⟨y0, y1, y2, y3, y4, y5⟩ := hSw; first | (go_simp; done) | go_simp⟩) (by assumption) ?_
    (try simp only [Act.put, List.setIfInBounds_toArray, List.set_cons_zero, List.set_cons_succ])
    refine wpAnyH_take (i := 6) (oi := { dst := some 22, op := _, type := _, pos := _, after := _, guard := _ }) (v := .agg #[.int .u8 (wi : Int), .int .u8 (tb : Int), .int .u8 (mo : Int), .int .u16 (hy : Int), .int .u16 (pr : Int), .float .f64 lo]) rfl (by kernel_rfl) (by kernel_rfl) (by kernel_rfl) (fun _ _ _ h => h) (Or.inl ⟨by rfl, fun w hSw => by obtain ⟨y0, y1, y2, y3, y4, y5⟩ := hSw; first | (go_simp; done) | go_simp⟩) (by assumption) ?_
    (try simp only [Act.put, List.setIfInBounds_toArray, List.set_cons_zero, List.set_cons_succ])
    refine wpAnyH_ready (rs := [5, 8, 9]) (by kernel_rfl) (by simp) ?_
    refine AllReadyH.cons rfl (fun K hK => ?_) (AllReadyH.cons rfl (fun K hK => ?_) (AllReadyH.cons rfl (fun K hK => ?_) AllReadyH.nil))
    · rw [if_pos (by rfl)]
      go_simp
      refine Calls.mono (HPA.out _ (HW2.out.trans HXD.out)) ?_
      rintro e y1 ⟨k, aC, aO, cC, cO, rfl, hmd, ho⟩
      have HMy1 : Hid (Made y1 L n0 k aC aO cC cO) := hmd
      clear hmd
      have HXy1 : Hid (Only (fun _ => False) w2 y1) := HXD.out.trans ho
      clear ho
      refine hK.out _ _ (HKS.out _ HXy1.out) (fun hHeld => ?_)
      clear hK
      (try simp only [Act.put, List.setIfInBounds_toArray, List.set_cons_zero, List.set_cons_succ])
      refine wpAnyH_ready (rs := [7, 8, 9]) (by kernel_rfl) (by simp) ?_
      refine AllReadyH.cons rfl (fun K hK => ?_) (AllReadyH.cons rfl (fun K hK => ?_) (AllReadyH.cons rfl (fun K hK => ?_) AllReadyH.nil))
      · rw [if_pos (by rfl)]
        go_simp
        refine Calls.mono (HCF.out _) ?_
        rintro e y2 ⟨rfl, ho⟩
        have HMy2 : Hid (Made y2 L n0 k aC aO cC cO) := HMy1.out.keep ho
        have HXy2 : Hid (Only (fun _ => False) w2 y2) := HXy1.out.trans ho
        clear ho
        refine hK.out _ _ (HKS.out _ HXy2.out) (fun hHeld => ?_)
        clear hK
        (try simp only [Act.put, List.setIfInBounds_toArray, List.set_cons_zero, List.set_cons_succ])
        refine wpAnyH_ready (rs := [8, 9]) (by kernel_rfl) (by simp) ?_
        refine AllReadyH.cons rfl (fun K hK => ?_) (AllReadyH.cons rfl (fun K hK => ?_) AllReadyH.nil)
        · rw [if_pos (by rfl)]
          go_simp
          obtain ⟨y3, hy3⟩ : ∃ Y, Y = y2.alloc (.cells #[.slice none 0 0, .slice none 0 0] 31) := ⟨_, rfl⟩
          obtain ⟨B5, hB5⟩ : ∃ b, b = y2.heap.size := ⟨_, rfl⟩
          have ho : Only (fun _ => False) y2 y3 := by rw [hy3]; exact (Only.refl _ _).alloc _
          have HXy3 : Hid (Only (fun _ => False) w2 y3) := HXy2.out.trans ho
          have HB5y3 : Hid (Blk w2 y3 B5 31 #[.slice none 0 0, .slice none 0 0]) := by rw [hy3, hB5]; exact Blk.made HXy2.out _ _
          have HMy3 : Hid (Made y3 L n0 k aC aO cC cO) := HMy2.out.keep ho
          rw [← hy3, ← hB5]
          clear hy3 hB5 ho
          refine hK.out _ _ (HKS.out _ HXy3.out) (fun hHeld => ?_)
          clear hK
          (try simp only [Act.put, List.setIfInBounds_toArray, List.set_cons_zero, List.set_cons_succ])
          refine wpAnyH_ready (rs := [9]) (by kernel_rfl) (by simp) ?_
          refine AllReadyH.cons rfl (fun K hK => ?_) AllReadyH.nil
          rw [if_pos (by rfl)]
          go_simp
          obtain ⟨y4, hy4⟩ : ∃ Y, Y = y3.alloc (.cells #[.int .i64 0, .int .i64 0, .int .u8 0, .int .i64 0, .int .i64 0, .float .f64 0] 35) := ⟨_, rfl⟩
          obtain ⟨B6, hB6⟩ : ∃ b, b = y3.heap.size := ⟨_, rfl⟩
          have ho : Only (fun _ => False) y3 y4 := by rw [hy4]; exact (Only.refl _ _).alloc _
          have HXy4 : Hid (Only (fun _ => False) w2 y4) := HXy3.out.trans ho
          have HB6y4 : Hid (Blk w2 y4 B6 35 #[.int .i64 0, .int .i64 0, .int .u8 0, .int .i64 0, .int .i64 0, .float .f64 0]) := by rw [hy4, hB6]; exact Blk.made HXy3.out _ _
          have HB5y4 : Hid (Blk w2 y4 B5 31 #[.slice none 0 0, .slice none 0 0]) := HB5y3.out.keep ho
          have HMy4 : Hid (Made y4 L n0 k aC aO cC cO) := HMy3.out.keep ho
          rw [← hy4, ← hB6]
          clear hy4 hB6 ho
          refine hK.out _ _ (HKS.out _ HXy4.out) (fun hHeld => ?_)
          clear hK
          (try simp only [Act.put, List.setIfInBounds_toArray, List.set_cons_zero, List.set_cons_succ])
          refine wpAnyH_ready (rs := [10]) (by kernel_rfl) (by simp) ?_
          refine AllReadyH.cons rfl (fun K hK => ?_) AllReadyH.nil
          rw [if_pos (by rfl)]
          have HXa : Hid (Only (fun _ => False) w2 (y4.setRow B5 #[.slice aC k cC, .slice aO (k + 1) cO])) := HXy4.out.setRowNew HB5y4.out.2 _
          refine wp_store_row 31 _ _ rfl B5 #[.slice aC k cC, .slice aO (k + 1) cO] rfl rfl 31 _ HB5y4.out.1 (by kernel_rfl) rfl (two_one _ _ _ _ _ _) ?_
          have HMa : Hid (Made (y4.setRow B5 #[.slice aC k cC, .slice aO (k + 1) cO]) L n0 k aC aO cC cO ∧ Blk w2 (y4.setRow B5 #[.slice aC k cC, .slice aO (k + 1) cO]) B5 31 #[.slice aC k cC, .slice aO (k + 1) cO] ∧ Blk w2 (y4.setRow B5 #[.slice aC k cC, .slice aO (k + 1) cO]) B6 35 #[.int .i64 0, .int .i64 0, .int .u8 0, .int .i64 0, .int .i64 0, .float .f64 0]) := ⟨HMy4.out.store HB5y4.out.1 (by decide) (by decide) _, HB5y4.out.put _, HB6y4.out.far HB5y4.out (by decide) _⟩
          obtain ⟨za, hza⟩ : ∃ Y, Y = y4.setRow B5 #[.slice aC k cC, .slice aO (k + 1) cO] := ⟨_, rfl⟩
          rw [← hza] at HXa HMa ⊢
          clear hza
          refine hK.out _ _ (HKS.out _ HXa.out) (fun hHeld => ?_)
          clear hK
          (try simp only [Act.put, List.setIfInBounds_toArray, List.set_cons_zero, List.set_cons_succ])
          refine wpAnyH_ready (rs := [11]) (by kernel_rfl) (by simp) ?_
          refine AllReadyH.cons rfl (fun K hK => ?_) AllReadyH.nil
          rw [if_pos (by rfl)]
          have HXb : Hid (Only (fun _ => False) w2 (za.setRow B6 #[.int .i64 (W1 : Int), .int .i64 (T1 : Int), .int .u8 (M1 : Int), .int .i64 (hy : Int), .int .i64 (pr : Int), .float .f64 lo])) := HXa.out.setRowNew HMa.out.2.2.2 _
          refine wp_store_row 35 _ _ rfl B6 #[.int .i64 (W1 : Int), .int .i64 (T1 : Int), .int .u8 (M1 : Int), .int .i64 (hy : Int), .int .i64 (pr : Int), .float .f64 lo] rfl rfl 35 _ HMa.out.2.2.1 (by kernel_rfl) rfl (cfg_one _ _ _ _ _ _) ?_
          have HMb : Hid (Made (za.setRow B6 #[.int .i64 (W1 : Int), .int .i64 (T1 : Int), .int .u8 (M1 : Int), .int .i64 (hy : Int), .int .i64 (pr : Int), .float .f64 lo]) L n0 k aC aO cC cO ∧ Blk w2 (za.setRow B6 #[.int .i64 (W1 : Int), .int .i64 (T1 : Int), .int .u8 (M1 : Int), .int .i64 (hy : Int), .int .i64 (pr : Int), .float .f64 lo]) B5 31 #[.slice aC k cC, .slice aO (k + 1) cO] ∧ Blk w2 (za.setRow B6 #[.int .i64 (W1 : Int), .int .i64 (T1 : Int), .int .u8 (M1 : Int), .int .i64 (hy : Int), .int .i64 (pr : Int), .float .f64 lo]) B6 35 #[.int .i64 (W1 : Int), .int .i64 (T1 : Int), .int .u8 (M1 : Int), .int .i64 (hy : Int), .int .i64 (pr : Int), .float .f64 lo]) := ⟨HMa.out.1.store HMa.out.2.2.1 (by decide) (by decide) _, HMa.out.2.1.far HMa.out.2.2 (by decide) _, HMa.out.2.2.put _⟩
          obtain ⟨zb, hzb⟩ : ∃ Y, Y = za.setRow B6 #[.int .i64 (W1 : Int), .int .i64 (T1 : Int), .int .u8 (M1 : Int), .int .i64 (hy : Int), .int .i64 (pr : Int), .float .f64 lo] := ⟨_, rfl⟩
          rw [← hzb] at HXb HMb ⊢
          clear hzb
          refine hK.out _ _ (HKS.out _ HXb.out) (fun hHeld => ?_)
          clear hK
          (try simp only [Act.put, List.setIfInBounds_toArray, List.set_cons_zero, List.set_cons_succ])
          refine wpAnyH_done (by kernel_rfl) ?_ _
          clear hHeld
          go_wp2_with fail
          go_meet
          exact ⟨k, B5, B6, aC, aO, cC, cO, _, rfl, rfl, rfl, HMb.out.1, HMb.out.2.1, HMb.out.2.2, HXb.out⟩
        · rw [if_pos (by rfl)]
          go_simp
          obtain ⟨y3, hy3⟩ : ∃ Y, Y = y2.alloc (.cells #[.int .i64 0, .int .i64 0, .int .u8 0, .int .i64 0, .int .i64 0, .float .f64 0] 35) := ⟨_, rfl⟩
          obtain ⟨B6, hB6⟩ : ∃ b, b = y2.heap.size := ⟨_, rfl⟩
          have ho : Only (fun _ => False) y2 y3 := by rw [hy3]; exact (Only.refl _ _).alloc _
          have HXy3 : Hid (Only (fun _ => False) w2 y3) := HXy2.out.trans ho
          have HB6y3 : Hid (Blk w2 y3 B6 35 #[.int .i64 0, .int .i64 0, .int .u8 0, .int .i64 0, .int .i64 0, .float .f64 0]) := by rw [hy3, hB6]; exact Blk.made HXy2.out _ _
          have HMy3 : Hid (Made y3 L n0 k aC aO cC cO) := HMy2.out.keep ho
          rw [← hy3, ← hB6]
          clear hy3 hB6 ho
          refine hK.out _ _ (HKS.out _ HXy3.out) (fun hHeld => ?_)
          clear hK
          (try simp only [Act.put, List.setIfInBounds_toArray, List.set_cons_zero, List.set_cons_succ])
          refine wpAnyH_ready (rs := [8]) (by kernel_rfl) (by simp) ?_
          refine AllReadyH.cons rfl (fun K hK => ?_) AllReadyH.nil
          rw [if_pos (by rfl)]
          go_simp
          obtain ⟨y4, hy4⟩ : ∃ Y, Y = y3.alloc (.cells #[.slice none 0 0, .slice none 0 0] 31) := ⟨_, rfl⟩
          obtain ⟨B5, hB5⟩ : ∃ b, b = y3.heap.size := ⟨_, rfl⟩
          have ho : Only (fun _ => False) y3 y4 := by rw [hy4]; exact (Only.refl _ _).alloc _
          have HXy4 : Hid (Only (fun _ => False) w2 y4) := HXy3.out.trans ho
          have HB5y4 : Hid (Blk w2 y4 B5 31 #[.slice none 0 0, .slice none 0 0]) := by rw [hy4, hB5]; exact Blk.made HXy3.out _ _
          have HB6y4 : Hid (Blk w2 y4 B6 35 #[.int .i64 0, .int .i64 0, .int .u8 0, .int .i64 0, .int .i64 0, .float .f64 0]) := HB6y3.out.keep ho
          have HMy4 : Hid (Made y4 L n0 k aC aO cC cO) := HMy3.out.keep ho
          rw [← hy4, ← hB5]
          clear hy4 hB5 ho
          refine hK.out _ _ (HKS.out _ HXy4.out) (fun hHeld => ?_)
          clear hK
          (try simp only [Act.put, List.setIfInBounds_toArray, List.set_cons_zero, List.set_cons_succ])
          refine wpAnyH_ready (rs := [10]) (by kernel_rfl) (by simp) ?_
          refine AllReadyH.cons rfl (fun K hK => ?_) AllReadyH.nil
          rw [if_pos (by rfl)]
          have HXa : Hid (Only (fun _ => False) w2 (y4.setRow B5 #[.slice aC k cC, .slice aO (k + 1) cO])) := HXy4.out.setRowNew HB5y4.out.2 _
          refine wp_store_row 31 _ _ rfl B5 #[.slice aC k cC, .slice aO (k + 1) cO] rfl rfl 31 _ HB5y4.out.1 (by kernel_rfl) rfl (two_one _ _ _ _ _ _) ?_
          have HMa : Hid (Made (y4.setRow B5 #[.slice aC k cC, .slice aO (k + 1) cO]) L n0 k aC aO cC cO ∧ Blk w2 (y4.setRow B5 #[.slice aC k cC, .slice aO (k + 1) cO]) B5 31 #[.slice aC k cC, .slice aO (k + 1) cO] ∧ Blk w2 (y4.setRow B5 #[.slice aC k cC, .slice aO (k + 1) cO]) B6 35 #[.int .i64 0, .int .i64 0, .int .u8 0, .int .i64 0, .int .i64 0, .float .f64 0]) := ⟨HMy4.out.store HB5y4.out.1 (by decide) (by decide) _, HB5y4.out.put _, HB6y4.out.far HB5y4.out (by decide) _⟩
          obtain ⟨za, hza⟩ : ∃ Y, Y = y4.setRow B5 #[.slice aC k cC, .slice aO (k + 1) cO] := ⟨_, rfl⟩
          rw [← hza] at HXa HMa ⊢
          clear hza
          refine hK.out _ _ (HKS.out _ HXa.out) (fun hHeld => ?_)
          clear hK
          (try simp only [Act.put, List.setIfInBounds_toArray, List.set_cons_zero, List.set_cons_succ])
          refine wpAnyH_ready (rs := [11]) (by kernel_rfl) (by simp) ?_
          refine AllReadyH.cons rfl (fun K hK => ?_) AllReadyH.nil
          rw [if_pos (by rfl)]
          have HXb : Hid (Only (fun _ => False) w2 (za.setRow B6 #[.int .i64 (W1 : Int), .int .i64 (T1 : Int), .int .u8 (M1 : Int), .int .i64 (hy : Int), .int .i64 (pr : Int), .float .f64 lo])) := HXa.out.setRowNew HMa.out.2.2.2 _
          refine wp_store_row 35 _ _ rfl B6 #[.int .i64 (W1 : Int), .int .i64 (T1 : Int), .int .u8 (M1 : Int), .int .i64 (hy : Int), .int .i64 (pr : Int), .float .f64 lo] rfl rfl 35 _ HMa.out.2.2.1 (by kernel_rfl) rfl (cfg_one _ _ _ _ _ _) ?_
          have HMb : Hid (Made (za.setRow B6 #[.int .i64 (W1 : Int), .int .i64 (T1 : Int), .int .u8 (M1 : Int), .int .i64 (hy : Int), .int .i64 (pr : Int), .float .f64 lo]) L n0 k aC aO cC cO ∧ Blk w2 (za.setRow B6 #[.int .i64 (W1 : Int), .int .i64 (T1 : Int), .int .u8 (M1 : Int), .int .i64 (hy : Int), .int .i64 (pr : Int), .float .f64 lo]) B5 31 #[.slice aC k cC, .slice aO (k + 1) cO] ∧ Blk w2 (za.setRow B6 #[.int .i64 (W1 : Int), .int .i64 (T1 : Int), .int .u8 (M1 : Int), .int .i64 (hy : Int), .int .i64 (pr : Int), .float .f64 lo]) B6 35 #[.int .i64 (W1 : Int), .int .i64 (T1 : Int), .int .u8 (M1 : Int), .int .i64 (hy : Int), .int .i64 (pr : Int), .float .f64 lo]) := ⟨HMa.out.1.store HMa.out.2.2.1 (by decide) (by decide) _, HMa.out.2.1.far HMa.out.2.2 (by decide) _, HMa.out.2.2.put _⟩
          obtain ⟨zb, hzb⟩ : ∃ Y, Y = za.setRow B6 #[.int .i64 (W1 : Int), .int .i64 (T1 : Int), .int .u8 (M1 : Int), .int .i64 (hy : Int), .int .i64 (pr : Int), .float .f64 lo] := ⟨_, rfl⟩
          rw [← hzb] at HXb HMb ⊢
          clear hzb
          refine hK.out _ _ (HKS.out _ HXb.out) (fun hHeld => ?_)
          clear hK
          (try simp only [Act.put, List.setIfInBounds_toArray, List.set_cons_zero, List.set_cons_succ])
          refine wpAnyH_done (by kernel_rfl) ?_ _
          clear hHeld
          go_wp2_with fail
          go_meet
          exact ⟨k, B5, B6, aC, aO, cC, cO, _, rfl, rfl, rfl, HMb.out.1, HMb.out.2.1, HMb.out.2.2, HXb.out⟩
      · rw [if_pos (by rfl)]
        go_simp
        obtain ⟨y2, hy2⟩ : ∃ Y, Y = y1.alloc (.cells #[.slice none 0 0, .slice none 0 0] 31) := ⟨_, rfl⟩
        obtain ⟨B5, hB5⟩ : ∃ b, b = y1.heap.size := ⟨_, rfl⟩
        have ho : Only (fun _ => False) y1 y2 := by rw [hy2]; exact (Only.refl _ _).alloc _
        have HXy2 : Hid (Only (fun _ => False) w2 y2) := HXy1.out.trans ho
        have HB5y2 : Hid (Blk w2 y2 B5 31 #[.slice none 0 0, .slice none 0 0]) := by rw [hy2, hB5]; exact Blk.made HXy1.out _ _
        have HMy2 : Hid (Made y2 L n0 k aC aO cC cO) := HMy1.out.keep ho
        rw [← hy2, ← hB5]
        clear hy2 hB5 ho
        refine hK.out _ _ (HKS.out _ HXy2.out) (fun hHeld => ?_)
        clear hK
        (try simp only [Act.put, List.setIfInBounds_toArray, List.set_cons_zero, List.set_cons_succ])
        refine wpAnyH_ready (rs := [7, 9]) (by kernel_rfl) (by simp) ?_
        refine AllReadyH.cons rfl (fun K hK => ?_) (AllReadyH.cons rfl (fun K hK => ?_) AllReadyH.nil)
        · rw [if_pos (by rfl)]
          go_simp
          refine Calls.mono (HCF.out _) ?_
          rintro e y3 ⟨rfl, ho⟩
          have HMy3 : Hid (Made y3 L n0 k aC aO cC cO) := HMy2.out.keep ho
          have HXy3 : Hid (Only (fun _ => False) w2 y3) := HXy2.out.trans ho
          have HB5y3 : Hid (Blk w2 y3 B5 31 #[.slice none 0 0, .slice none 0 0]) := HB5y2.out.keep ho
          clear ho
          refine hK.out _ _ (HKS.out _ HXy3.out) (fun hHeld => ?_)
          clear hK
          (try simp only [Act.put, List.setIfInBounds_toArray, List.set_cons_zero, List.set_cons_succ])
          refine wpAnyH_ready (rs := [9]) (by kernel_rfl) (by simp) ?_
          refine AllReadyH.cons rfl (fun K hK => ?_) AllReadyH.nil
          rw [if_pos (by rfl)]
          go_simp
          obtain ⟨y4, hy4⟩ : ∃ Y, Y = y3.alloc (.cells #[.int .i64 0, .int .i64 0, .int .u8 0, .int .i64 0, .int .i64 0, .float .f64 0] 35) := ⟨_, rfl⟩
          obtain ⟨B6, hB6⟩ : ∃ b, b = y3.heap.size := ⟨_, rfl⟩
          have ho : Only (fun _ => False) y3 y4 := by rw [hy4]; exact (Only.refl _ _).alloc _
          have HXy4 : Hid (Only (fun _ => False) w2 y4) := HXy3.out.trans ho
          have HB6y4 : Hid (Blk w2 y4 B6 35 #[.int .i64 0, .int .i64 0, .int .u8 0, .int .i64 0, .int .i64 0, .float .f64 0]) := by rw [hy4, hB6]; exact Blk.made HXy3.out _ _
          have HB5y4 : Hid (Blk w2 y4 B5 31 #[.slice none 0 0, .slice none 0 0]) := HB5y3.out.keep ho
          have HMy4 : Hid (Made y4 L n0 k aC aO cC cO) := HMy3.out.keep ho
          rw [← hy4, ← hB6]
          clear hy4 hB6 ho
          refine hK.out _ _ (HKS.out _ HXy4.out) (fun hHeld => ?_)
          clear hK
          (try simp only [Act.put, List.setIfInBounds_toArray, List.set_cons_zero, List.set_cons_succ])
          refine wpAnyH_ready (rs := [10]) (by kernel_rfl) (by simp) ?_
          refine AllReadyH.cons rfl (fun K hK => ?_) AllReadyH.nil
          rw [if_pos (by rfl)]
          have HXa : Hid (Only (fun _ => False) w2 (y4.setRow B5 #[.slice aC k cC, .slice aO (k + 1) cO])) := HXy4.out.setRowNew HB5y4.out.2 _
          refine wp_store_row 31 _ _ rfl B5 #[.slice aC k cC, .slice aO (k + 1) cO] rfl rfl 31 _ HB5y4.out.1 (by kernel_rfl) rfl (two_one _ _ _ _ _ _) ?_
          have HMa : Hid (Made (y4.setRow B5 #[.slice aC k cC, .slice aO (k + 1) cO]) L n0 k aC aO cC cO ∧ Blk w2 (y4.setRow B5 #[.slice aC k cC, .slice aO (k + 1) cO]) B5 31 #[.slice aC k cC, .slice aO (k + 1) cO] ∧ Blk w2 (y4.setRow B5 #[.slice aC k cC, .slice aO (k + 1) cO]) B6 35 #[.int .i64 0, .int .i64 0, .int .u8 0, .int .i64 0, .int .i64 0, .float .f64 0]) := ⟨HMy4.out.store HB5y4.out.1 (by decide) (by decide) _, HB5y4.out.put _, HB6y4.out.far HB5y4.out (by decide) _⟩
          obtain ⟨za, hza⟩ : ∃ Y, Y = y4.setRow B5 #[.slice aC k cC, .slice aO (k + 1) cO] := ⟨_, rfl⟩
          rw [← hza] at HXa HMa ⊢
          clear hza
          refine hK.out _ _ (HKS.out _ HXa.out) (fun hHeld => ?_)
          clear hK
          (try simp only [Act.put, List.setIfInBounds_toArray, List.set_cons_zero, List.set_cons_succ])
          refine wpAnyH_ready (rs := [11]) (by kernel_rfl) (by simp) ?_
          refine AllReadyH.cons rfl (fun K hK => ?_) AllReadyH.nil
          rw [if_pos (by rfl)]
          have HXb : Hid (Only (fun _ => False) w2 (za.setRow B6 #[.int .i64 (W1 : Int), .int .i64 (T1 : Int), .int .u8 (M1 : Int), .int .i64 (hy : Int), .int .i64 (pr : Int), .float .f64 lo])) := HXa.out.setRowNew HMa.out.2.2.2 _
          refine wp_store_row 35 _ _ rfl B6 #[.int .i64 (W1 : Int), .int .i64 (T1 : Int), .int .u8 (M1 : Int), .int .i64 (hy : Int), .int .i64 (pr : Int), .float .f64 lo] rfl rfl 35 _ HMa.out.2.2.1 (by kernel_rfl) rfl (cfg_one _ _ _ _ _ _) ?_
          have HMb : Hid (Made (za.setRow B6 #[.int .i64 (W1 : Int), .int .i64 (T1 : Int), .int .u8 (M1 : Int), .int .i64 (hy : Int), .int .i64 (pr : Int), .float .f64 lo]) L n0 k aC aO cC cO ∧ Blk w2 (za.setRow B6 #[.int .i64 (W1 : Int), .int .i64 (T1 : Int), .int .u8 (M1 : Int), .int .i64 (hy : Int), .int .i64 (pr : Int), .float .f64 lo]) B5 31 #[.slice aC k cC, .slice aO (k + 1) cO] ∧ Blk w2 (za.setRow B6 #[.int .i64 (W1 : Int), .int .i64 (T1 : Int), .int .u8 (M1 : Int), .int .i64 (hy : Int), .int .i64 (pr : Int), .float .f64 lo]) B6 35 #[.int .i64 (W1 : Int), .int .i64 (T1 : Int), .int .u8 (M1 : Int), .int .i64 (hy : Int), .int .i64 (pr : Int), .float .f64 lo]) := ⟨HMa.out.1.store HMa.out.2.2.1 (by decide) (by decide) _, HMa.out.2.1.far HMa.out.2.2 (by decide) _, HMa.out.2.2.put _⟩
          obtain ⟨zb, hzb⟩ : ∃ Y, Y = za.setRow B6 #[.int .i64 (W1 : Int), .int .i64 (T1 : Int), .int .u8 (M1 : Int), .int .i64 (hy : Int), .int .i64 (pr : Int), .float .f64 lo] := ⟨_, rfl⟩
          rw [← hzb] at HXb HMb ⊢
          clear hzb
          refine hK.out _ _ (HKS.out _ HXb.out) (fun hHeld => ?_)
          clear hK
          (try simp only [Act.put, List.setIfInBounds_toArray, List.set_cons_zero, List.set_cons_succ])
          refine wpAnyH_done (by kernel_rfl) ?_ _
          clear hHeld
          go_wp2_with fail
          go_meet
          exact ⟨k, B5, B6, aC, aO, cC, cO, _, rfl, rfl, rfl, HMb.out.1, HMb.out.2.1, HMb.out.2.2, HXb.out⟩
        · rw [if_pos (by rfl)]
          go_simp
          obtain ⟨y3, hy3⟩ : ∃ Y, Y = y2.alloc (.cells #[.int .i64 0, .int .i64 0, .int .u8 0, .int .i64 0, .int .i64 0, .float .f64 0] 35) := ⟨_, rfl⟩
          obtain ⟨B6, hB6⟩ : ∃ b, b = y2.heap.size := ⟨_, rfl⟩
          have ho : Only (fun _ => False) y2 y3 := by rw [hy3]; exact (Only.refl _ _).alloc _
          have HXy3 : Hid (Only (fun _ => False) w2 y3) := HXy2.out.trans ho
          have HB6y3 : Hid (Blk w2 y3 B6 35 #[.int .i64 0, .int .i64 0, .int .u8 0, .int .i64 0, .int .i64 0, .float .f64 0]) := by rw [hy3, hB6]; exact Blk.made HXy2.out _ _
          have HB5y3 : Hid (Blk w2 y3 B5 31 #[.slice none 0 0, .slice none 0 0]) := HB5y2.out.keep ho
          have HMy3 : Hid (Made y3 L n0 k aC aO cC cO) := HMy2.out.keep ho
          rw [← hy3, ← hB6]
          clear hy3 hB6 ho
          refine hK.out _ _ (HKS.out _ HXy3.out) (fun hHeld => ?_)
          clear hK
          (try simp only [Act.put, List.setIfInBounds_toArray, List.set_cons_zero, List.set_cons_succ])
          refine wpAnyH_ready (rs := [7]) (by kernel_rfl) (by simp) ?_
          refine AllReadyH.cons rfl (fun K hK => ?_) AllReadyH.nil
          rw [if_pos (by rfl)]
          go_simp
          refine Calls.mono (HCF.out _) ?_
          rintro e y4 ⟨rfl, ho⟩
          have HMy4 : Hid (Made y4 L n0 k aC aO cC cO) := HMy3.out.keep ho
          have HXy4 : Hid (Only (fun _ => False) w2 y4) := HXy3.out.trans ho
          have HB5y4 : Hid (Blk w2 y4 B5 31 #[.slice none 0 0, .slice none 0 0]) := HB5y3.out.keep ho
          have HB6y4 : Hid (Blk w2 y4 B6 35 #[.int .i64 0, .int .i64 0, .int .u8 0, .int .i64 0, .int .i64 0, .float .f64 0]) := HB6y3.out.keep ho
          clear ho
          refine hK.out _ _ (HKS.out _ HXy4.out) (fun hHeld => ?_)
          clear hK
          (try simp only [Act.put, List.setIfInBounds_toArray, List.set_cons_zero, List.set_cons_succ])
          refine wpAnyH_ready (rs := [10]) (by kernel_rfl) (by simp) ?_
          refine AllReadyH.cons rfl (fun K hK => ?_) AllReadyH.nil
          rw [if_pos (by rfl)]
          have HXa : Hid (Only (fun _ => False) w2 (y4.setRow B5 #[.slice aC k cC, .slice aO (k + 1) cO])) := HXy4.out.setRowNew HB5y4.out.2 _
          refine wp_store_row 31 _ _ rfl B5 #[.slice aC k cC, .slice aO (k + 1) cO] rfl rfl 31 _ HB5y4.out.1 (by kernel_rfl) rfl (two_one _ _ _ _ _ _) ?_
          have HMa : Hid (Made (y4.setRow B5 #[.slice aC k cC, .slice aO (k + 1) cO]) L n0 k aC aO cC cO ∧ Blk w2 (y4.setRow B5 #[.slice aC k cC, .slice aO (k + 1) cO]) B5 31 #[.slice aC k cC, .slice aO (k + 1) cO] ∧ Blk w2 (y4.setRow B5 #[.slice aC k cC, .slice aO (k + 1) cO]) B6 35 #[.int .i64 0, .int .i64 0, .int .u8 0, .int .i64 0, .int .i64 0, .float .f64 0]) := ⟨HMy4.out.store HB5y4.out.1 (by decide) (by decide) _, HB5y4.out.put _, HB6y4.out.far HB5y4.out (by decide) _⟩
          obtain ⟨za, hza⟩ : ∃ Y, Y = y4.setRow B5 #[.slice aC k cC, .slice aO (k + 1) cO] := ⟨_, rfl⟩
          rw [← hza] at HXa HMa ⊢
          clear hza
          refine hK.out _ _ (HKS.out _ HXa.out) (fun hHeld => ?_)
          clear hK
          (try simp only [Act.put, List.setIfInBounds_toArray, List.set_cons_zero, List.set_cons_succ])
          refine wpAnyH_ready (rs := [11]) (by kernel_rfl) (by simp) ?_
          refine AllReadyH.cons rfl (fun K hK => ?_) AllReadyH.nil
          rw [if_pos (by rfl)]
          have HXb : Hid (Only (fun _ => False) w2 (za.setRow B6 #[.int .i64 (W1 : Int), .int .i64 (T1 : Int), .int .u8 (M1 : Int), .int .i64 (hy : Int), .int .i64 (pr : Int), .float .f64 lo])) := HXa.out.setRowNew HMa.out.2.2.2 _
          refine wp_store_row 35 _ _ rfl B6 #[.int .i64 (W1 : Int), .int .i64 (T1 : Int), .int .u8 (M1 : Int), .int .i64 (hy : Int), .int .i64 (pr : Int), .float .f64 lo] rfl rfl 35 _ HMa.out.2.2.1 (by kernel_rfl) rfl (cfg_one _ _ _ _ _ _) ?_
          have HMb : Hid (Made (za.setRow B6 #[.int .i64 (W1 : Int), .int .i64 (T1 : Int), .int .u8 (M1 : Int), .int .i64 (hy : Int), .int .i64 (pr : Int), .float .f64 lo]) L n0 k aC aO cC cO ∧ Blk w2 (za.setRow B6 #[.int .i64 (W1 : Int), .int .i64 (T1 : Int), .int .u8 (M1 : Int), .int .i64 (hy : Int), .int .i64 (pr : Int), .float .f64 lo]) B5 31 #[.slice aC k cC, .slice aO (k + 1) cO] ∧ Blk w2 (za.setRow B6 #[.int .i64 (W1 : Int), .int .i64 (T1 : Int), .int .u8 (M1 : Int), .int .i64 (hy : Int), .int .i64 (pr : Int), .float .f64 lo]) B6 35 #[.int .i64 (W1 : Int), .int .i64 (T1 : Int), .int .u8 (M1 : Int), .int .i64 (hy : Int), .int .i64 (pr : Int), .float .f64 lo]) := ⟨HMa.out.1.store HMa.out.2.2.1 (by decide) (by decide) _, HMa.out.2.1.far HMa.out.2.2 (by decide) _, HMa.out.2.2.put _⟩
          obtain ⟨zb, hzb⟩ : ∃ Y, Y = za.setRow B6 #[.int .i64 (W1 : Int), .int .i64 (T1 : Int), .int .u8 (M1 : Int), .int .i64 (hy : Int), .int .i64 (pr : Int), .float .f64 lo] := ⟨_, rfl⟩
          rw [← hzb] at HXb HMb ⊢
          clear hzb
          refine hK.out _ _ (HKS.out _ HXb.out) (fun hHeld => ?_)
          clear hK
          (try simp only [Act.put, List.setIfInBounds_toArray, List.set_cons_zero, List.set_cons_succ])
          refine wpAnyH_done (by kernel_rfl) ?_ _
          clear hHeld
          go_wp2_with fail
          go_meet
          exact ⟨k, B5, B6, aC, aO, cC, cO, _, rfl, rfl, rfl, HMb.out.1, HMb.out.2.1, HMb.out.2.2, HXb.out⟩
      · rw [if_pos (by rfl)]
        go_simp
        obtain ⟨y2, hy2⟩ : ∃ Y, Y = y1.alloc (.cells #[.int .i64 0, .int .i64 0, .int .u8 0, .int .i64 0, .int .i64 0, .float .f64 0] 35) := ⟨_, rfl⟩
        obtain ⟨B6, hB6⟩ : ∃ b, b = y1.heap.size := ⟨_, rfl⟩
        have ho : Only (fun _ => False) y1 y2 := by rw [hy2]; exact (Only.refl _ _).alloc _
        have HXy2 : Hid (Only (fun _ => False) w2 y2) := HXy1.out.trans ho
        have HB6y2 : Hid (Blk w2 y2 B6 35 #[.int .i64 0, .int .i64 0, .int .u8 0, .int .i64 0, .int .i64 0, .float .f64 0]) := by rw [hy2, hB6]; exact Blk.made HXy1.out _ _
        have HMy2 : Hid (Made y2 L n0 k aC aO cC cO) := HMy1.out.keep ho
        rw [← hy2, ← hB6]
        clear hy2 hB6 ho
        refine hK.out _ _ (HKS.out _ HXy2.out) (fun hHeld => ?_)
        clear hK
        (try simp only [Act.put, List.setIfInBounds_toArray, List.set_cons_zero, List.set_cons_succ])
        refine wpAnyH_ready (rs := [7, 8]) (by kernel_rfl) (by simp) ?_
        refine AllReadyH.cons rfl (fun K hK => ?_) (AllReadyH.cons rfl (fun K hK => ?_) AllReadyH.nil)
        · rw [if_pos (by rfl)]
          go_simp
          refine Calls.mono (HCF.out _) ?_
          rintro e y3 ⟨rfl, ho⟩
          have HMy3 : Hid (Made y3 L n0 k aC aO cC cO) := HMy2.out.keep ho
          have HXy3 : Hid (Only (fun _ => False) w2 y3) := HXy2.out.trans ho
          have HB6y3 : Hid (Blk w2 y3 B6 35 #[.int .i64 0, .int .i64 0, .int .u8 0, .int .i64 0, .int .i64 0, .float .f64 0]) := HB6y2.out.keep ho
          clear ho
          refine hK.out _ _ (HKS.out _ HXy3.out) (fun hHeld => ?_)
          clear hK
          (try simp only [Act.put, List.setIfInBounds_toArray, List.set_cons_zero, List.set_cons_succ])
          refine wpAnyH_ready (rs := [8]) (by kernel_rfl) (by simp) ?_
          refine AllReadyH.cons rfl (fun K hK => ?_) AllReadyH.nil
          rw [if_pos (by rfl)]
          go_simp
          obtain ⟨y4, hy4⟩ : ∃ Y, Y = y3.alloc (.cells #[.slice none 0 0, .slice none 0 0] 31) := ⟨_, rfl⟩
          obtain ⟨B5, hB5⟩ : ∃ b, b = y3.heap.size := ⟨_, rfl⟩
          have ho : Only (fun _ => False) y3 y4 := by rw [hy4]; exact (Only.refl _ _).alloc _
          have HXy4 : Hid (Only (fun _ => False) w2 y4) := HXy3.out.trans ho
          have HB5y4 : Hid (Blk w2 y4 B5 31 #[.slice none 0 0, .slice none 0 0]) := by rw [hy4, hB5]; exact Blk.made HXy3.out _ _
          have HB6y4 : Hid (Blk w2 y4 B6 35 #[.int .i64 0, .int .i64 0, .int .u8 0, .int .i64 0, .int .i64 0, .float .f64 0]) := HB6y3.out.keep ho
          have HMy4 : Hid (Made y4 L n0 k aC aO cC cO) := HMy3.out.keep ho
          rw [← hy4, ← hB5]
          clear hy4 hB5 ho
          refine hK.out _ _ (HKS.out _ HXy4.out) (fun hHeld => ?_)
          clear hK
          (try simp only [Act.put, List.setIfInBounds_toArray, List.set_cons_zero, List.set_cons_succ])
          refine wpAnyH_ready (rs := [10]) (by kernel_rfl) (by simp) ?_
          refine AllReadyH.cons rfl (fun K hK => ?_) AllReadyH.nil
          rw [if_pos (by rfl)]
          have HXa : Hid (Only (fun _ => False) w2 (y4.setRow B5 #[.slice aC k cC, .slice aO (k + 1) cO])) := HXy4.out.setRowNew HB5y4.out.2 _
          refine wp_store_row 31 _ _ rfl B5 #[.slice aC k cC, .slice aO (k + 1) cO] rfl rfl 31 _ HB5y4.out.1 (by kernel_rfl) rfl (two_one _ _ _ _ _ _) ?_
          have HMa : Hid (Made (y4.setRow B5 #[.slice aC k cC, .slice aO (k + 1) cO]) L n0 k aC aO cC cO ∧ Blk w2 (y4.setRow B5 #[.slice aC k cC, .slice aO (k + 1) cO]) B5 31 #[.slice aC k cC, .slice aO (k + 1) cO] ∧ Blk w2 (y4.setRow B5 #[.slice aC k cC, .slice aO (k + 1) cO]) B6 35 #[.int .i64 0, .int .i64 0, .int .u8 0, .int .i64 0, .int .i64 0, .float .f64 0]) := ⟨HMy4.out.store HB5y4.out.1 (by decide) (by decide) _, HB5y4.out.put _, HB6y4.out.far HB5y4.out (by decide) _⟩
          obtain ⟨za, hza⟩ : ∃ Y, Y = y4.setRow B5 #[.slice aC k cC, .slice aO (k + 1) cO] := ⟨_, rfl⟩
          rw [← hza] at HXa HMa ⊢
          clear hza
          refine hK.out _ _ (HKS.out _ HXa.out) (fun hHeld => ?_)
          clear hK
          (try simp only [Act.put, List.setIfInBounds_toArray, List.set_cons_zero, List.set_cons_succ])
          refine wpAnyH_ready (rs := [11]) (by kernel_rfl) (by simp) ?_
          refine AllReadyH.cons rfl (fun K hK => ?_) AllReadyH.nil
          rw [if_pos (by rfl)]
          have HXb : Hid (Only (fun _ => False) w2 (za.setRow B6 #[.int .i64 (W1 : Int), .int .i64 (T1 : Int), .int .u8 (M1 : Int), .int .i64 (hy : Int), .int .i64 (pr : Int), .float .f64 lo])) := HXa.out.setRowNew HMa.out.2.2.2 _
          refine wp_store_row 35 _ _ rfl B6 #[.int .i64 (W1 : Int), .int .i64 (T1 : Int), .int .u8 (M1 : Int), .int .i64 (hy : Int), .int .i64 (pr : Int), .float .f64 lo] rfl rfl 35 _ HMa.out.2.2.1 (by kernel_rfl) rfl (cfg_one _ _ _ _ _ _) ?_
          have HMb : Hid (Made (za.setRow B6 #[.int .i64 (W1 : Int), .int .i64 (T1 : Int), .int .u8 (M1 : Int), .int .i64 (hy : Int), .int .i64 (pr : Int), .float .f64 lo]) L n0 k aC aO cC cO ∧ Blk w2 (za.setRow B6 #[.int .i64 (W1 : Int), .int .i64 (T1 : Int), .int .u8 (M1 : Int), .int .i64 (hy : Int), .int .i64 (pr : Int), .float .f64 lo]) B5 31 #[.slice aC k cC, .slice aO (k + 1) cO] ∧ Blk w2 (za.setRow B6 #[.int .i64 (W1 : Int), .int .i64 (T1 : Int), .int .u8 (M1 : Int), .int .i64 (hy : Int), .int .i64 (pr : Int), .float .f64 lo]) B6 35 #[.int .i64 (W1 : Int), .int .i64 (T1 : Int), .int .u8 (M1 : Int), .int .i64 (hy : Int), .int .i64 (pr : Int), .float .f64 lo]) := ⟨HMa.out.1.store HMa.out.2.2.1 (by decide) (by decide) _, HMa.out.2.1.far HMa.out.2.2 (by decide) _, HMa.out.2.2.put _⟩
          obtain ⟨zb, hzb⟩ : ∃ Y, Y = za.setRow B6 #[.int .i64 (W1 : Int), .int .i64 (T1 : Int), .int .u8 (M1 : Int), .int .i64 (hy : Int), .int .i64 (pr : Int), .float .f64 lo] := ⟨_, rfl⟩
          rw [← hzb] at HXb HMb ⊢
          clear hzb
          refine hK.out _ _ (HKS.out _ HXb.out) (fun hHeld => ?_)
          clear hK
          (try simp only [Act.put, List.setIfInBounds_toArray, List.set_cons_zero, List.set_cons_succ])
          refine wpAnyH_done (by kernel_rfl) ?_ _
          clear hHeld
          go_wp2_with fail
          go_meet
          exact ⟨k, B5, B6, aC, aO, cC, cO, _, rfl, rfl, rfl, HMb.out.1, HMb.out.2.1, HMb.out.2.2, HXb.out⟩
        · rw [if_pos (by rfl)]
          go_simp
          obtain ⟨y3, hy3⟩ : ∃ Y, Y = y2.alloc (.cells #[.slice none 0 0, .slice none 0 0] 31) := ⟨_, rfl⟩
          obtain ⟨B5, hB5⟩ : ∃ b, b = y2.heap.size := ⟨_, rfl⟩
          have ho : Only (fun _ => False) y2 y3 := by rw [hy3]; exact (Only.refl _ _).alloc _
          have HXy3 : Hid (Only (fun _ => False) w2 y3) := HXy2.out.trans ho
          have HB5y3 : Hid (Blk w2 y3 B5 31 #[.slice none 0 0, .slice none 0 0]) := by rw [hy3, hB5]; exact Blk.made HXy2.out _ _
          have HB6y3 : Hid (Blk w2 y3 B6 35 #[.int .i64 0, .int .i64 0, .int .u8 0, .int .i64 0, .int .i64 0, .float .f64 0]) := HB6y2.out.keep ho
          have HMy3 : Hid (Made y3 L n0 k aC aO cC cO) := HMy2.out.keep ho
          rw [← hy3, ← hB5]
          clear hy3 hB5 ho
          refine hK.out _ _ (HKS.out _ HXy3.out) (fun hHeld => ?_)
          clear hK
          (try simp only [Act.put, List.setIfInBounds_toArray, List.set_cons_zero, List.set_cons_succ])
          refine wpAnyH_ready (rs := [7]) (by kernel_rfl) (by simp) ?_
          refine AllReadyH.cons rfl (fun K hK => ?_) AllReadyH.nil
          rw [if_pos (by rfl)]
          go_simp
          refine Calls.mono (HCF.out _) ?_
          rintro e y4 ⟨rfl, ho⟩
          have HMy4 : Hid (Made y4 L n0 k aC aO cC cO) := HMy3.out.keep ho
          have HXy4 : Hid (Only (fun _ => False) w2 y4) := HXy3.out.trans ho
          have HB5y4 : Hid (Blk w2 y4 B5 31 #[.slice none 0 0, .slice none 0 0]) := HB5y3.out.keep ho
          have HB6y4 : Hid (Blk w2 y4 B6 35 #[.int .i64 0, .int .i64 0, .int .u8 0, .int .i64 0, .int .i64 0, .float .f64 0]) := HB6y3.out.keep ho
          clear ho
          refine hK.out _ _ (HKS.out _ HXy4.out) (fun hHeld => ?_)
          clear hK
          (try simp only [Act.put, List.setIfInBounds_toArray, List.set_cons_zero, List.set_cons_succ])
          refine wpAnyH_ready (rs := [10]) (by kernel_rfl) (by simp) ?_
          refine AllReadyH.cons rfl (fun K hK => ?_) AllReadyH.nil
          rw [if_pos (by rfl)]
          have HXa : Hid (Only (fun _ => False) w2 (y4.setRow B5 #[.slice aC k cC, .slice aO (k + 1) cO])) := HXy4.out.setRowNew HB5y4.out.2 _
          refine wp_store_row 31 _ _ rfl B5 #[.slice aC k cC, .slice aO (k + 1) cO] rfl rfl 31 _ HB5y4.out.1 (by kernel_rfl) rfl (two_one _ _ _ _ _ _) ?_
          have HMa : Hid (Made (y4.setRow B5 #[.slice aC k cC, .slice aO (k + 1) cO]) L n0 k aC aO cC cO ∧ Blk w2 (y4.setRow B5 #[.slice aC k cC, .slice aO (k + 1) cO]) B5 31 #[.slice aC k cC, .slice aO (k + 1) cO] ∧ Blk w2 (y4.setRow B5 #[.slice aC k cC, .slice aO (k + 1) cO]) B6 35 #[.int .i64 0, .int .i64 0, .int .u8 0, .int .i64 0, .int .i64 0, .float .f64 0]) := ⟨HMy4.out.store HB5y4.out.1 (by decide) (by decide) _, HB5y4.out.put _, HB6y4.out.far HB5y4.out (by decide) _⟩
          obtain ⟨za, hza⟩ : ∃ Y, Y = y4.setRow B5 #[.slice aC k cC, .slice aO (k + 1) cO] := ⟨_, rfl⟩
          rw [← hza] at HXa HMa ⊢
          clear hza
          refine hK.out _ _ (HKS.out _ HXa.out) (fun hHeld => ?_)
          clear hK
          (try simp only [Act.put, List.setIfInBounds_toArray, List.set_cons_zero, List.set_cons_succ])
          refine wpAnyH_ready (rs := [11]) (by kernel_rfl) (by simp) ?_
          refine AllReadyH.cons rfl (fun K hK => ?_) AllReadyH.nil
          rw [if_pos (by rfl)]
          have HXb : Hid (Only (fun _ => False) w2 (za.setRow B6 #[.int .i64 (W1 : Int), .int .i64 (T1 : Int), .int .u8 (M1 : Int), .int .i64 (hy : Int), .int .i64 (pr : Int), .float .f64 lo])) := HXa.out.setRowNew HMa.out.2.2.2 _
          refine wp_store_row 35 _ _ rfl B6 #[.int .i64 (W1 : Int), .int .i64 (T1 : Int), .int .u8 (M1 : Int), .int .i64 (hy : Int), .int .i64 (pr : Int), .float .f64 lo] rfl rfl 35 _ HMa.out.2.2.1 (by kernel_rfl) rfl (cfg_one _ _ _ _ _ _) ?_
          have HMb : Hid (Made (za.setRow B6 #[.int .i64 (W1 : Int), .int .i64 (T1 : Int), .int .u8 (M1 : Int), .int .i64 (hy : Int), .int .i64 (pr : Int), .float .f64 lo]) L n0 k aC aO cC cO ∧ Blk w2 (za.setRow B6 #[.int .i64 (W1 : Int), .int .i64 (T1 : Int), .int .u8 (M1 : Int), .int .i64 (hy : Int), .int .i64 (pr : Int), .float .f64 lo]) B5 31 #[.slice aC k cC, .slice aO (k + 1) cO] ∧ Blk w2 (za.setRow B6 #[.int .i64 (W1 : Int), .int .i64 (T1 : Int), .int .u8 (M1 : Int), .int .i64 (hy : Int), .int .i64 (pr : Int), .float .f64 lo]) B6 35 #[.int .i64 (W1 : Int), .int .i64 (T1 : Int), .int .u8 (M1 : Int), .int .i64 (hy : Int), .int .i64 (pr : Int), .float .f64 lo]) := ⟨HMa.out.1.store HMa.out.2.2.1 (by decide) (by decide) _, HMa.out.2.1.far HMa.out.2.2 (by decide) _, HMa.out.2.2.put _⟩
          obtain ⟨zb, hzb⟩ : ∃ Y, Y = za.setRow B6 #[.int .i64 (W1 : Int), .int .i64 (T1 : Int), .int .u8 (M1 : Int), .int .i64 (hy : Int), .int .i64 (pr : Int), .float .f64 lo] := ⟨_, rfl⟩
          rw [← hzb] at HXb HMb ⊢
          clear hzb
          refine hK.out _ _ (HKS.out _ HXb.out) (fun hHeld => ?_)
          clear hK
          (try simp only [Act.put, List.setIfInBounds_toArray, List.set_cons_zero, List.set_cons_succ])
          refine wpAnyH_done (by kernel_rfl) ?_ _
          clear hHeld
          go_wp2_with fail
          go_meet
          exact ⟨k, B5, B6, aC, aO, cC, cO, _, rfl, rfl, rfl, HMb.out.1, HMb.out.2.1, HMb.out.2.2, HXb.out⟩
    · rw [if_pos (by rfl)]
      go_simp
      obtain ⟨y1, hy1⟩ : ∃ Y, Y = (w2.alloc (.cells #[.slice none 0 0, .slice none 0 0] 31)).drew := ⟨_, rfl⟩
      obtain ⟨B5, hB5⟩ : ∃ b, b = w2.heap.size := ⟨_, rfl⟩
      have ho : Only (fun _ => False) w2 y1 := by rw [hy1]; exact ((Only.refl _ _).alloc _).drew
      have HXy1 : Hid (Only (fun _ => False) w2 y1) := ho
      have HB5y1 : Hid (Blk w2 y1 B5 31 #[.slice none 0 0, .slice none 0 0]) := by rw [hy1, hB5]; exact (Blk.made (Only.refl _ _) _ _).drew
      rw [← hy1, ← hB5]
      clear hy1 hB5 ho
      refine hK.out _ _ (HKS.out _ HXy1.out) (fun hHeld => ?_)
      clear hK
      (try simp only [Act.put, List.setIfInBounds_toArray, List.set_cons_zero, List.set_cons_succ])
      refine wpAnyH_ready (rs := [5, 9]) (by kernel_rfl) (by simp) ?_
      refine AllReadyH.cons rfl (fun K hK => ?_) (AllReadyH.cons rfl (fun K hK => ?_) AllReadyH.nil)
      · rw [if_pos (by rfl)]
        go_simp
        refine Calls.mono (HPA.out _ (HW2.out.trans HXy1.out)) ?_
        rintro e y2 ⟨k, aC, aO, cC, cO, rfl, hmd, ho⟩
        have HMy2 : Hid (Made y2 L n0 k aC aO cC cO) := hmd
        clear hmd
        have HXy2 : Hid (Only (fun _ => False) w2 y2) := HXy1.out.trans ho
        have HB5y2 : Hid (Blk w2 y2 B5 31 #[.slice none 0 0, .slice none 0 0]) := HB5y1.out.keep ho
        clear ho
        refine hK.out _ _ (HKS.out _ HXy2.out) (fun hHeld => ?_)
        clear hK
        (try simp only [Act.put, List.setIfInBounds_toArray, List.set_cons_zero, List.set_cons_succ])
        refine wpAnyH_ready (rs := [7, 9]) (by kernel_rfl) (by simp) ?_
        refine AllReadyH.cons rfl (fun K hK => ?_) (AllReadyH.cons rfl (fun K hK => ?_) AllReadyH.nil)
        · rw [if_pos (by rfl)]
          go_simp
          refine Calls.mono (HCF.out _) ?_
          rintro e y3 ⟨rfl, ho⟩
          have HMy3 : Hid (Made y3 L n0 k aC aO cC cO) := HMy2.out.keep ho
          have HXy3 : Hid (Only (fun _ => False) w2 y3) := HXy2.out.trans ho
          have HB5y3 : Hid (Blk w2 y3 B5 31 #[.slice none 0 0, .slice none 0 0]) := HB5y2.out.keep ho
          clear ho
          refine hK.out _ _ (HKS.out _ HXy3.out) (fun hHeld => ?_)
          clear hK
          (try simp only [Act.put, List.setIfInBounds_toArray, List.set_cons_zero, List.set_cons_succ])
          refine wpAnyH_ready (rs := [9]) (by kernel_rfl) (by simp) ?_
          refine AllReadyH.cons rfl (fun K hK => ?_) AllReadyH.nil
          rw [if_pos (by rfl)]
          go_simp
          obtain ⟨y4, hy4⟩ : ∃ Y, Y = y3.alloc (.cells #[.int .i64 0, .int .i64 0, .int .u8 0, .int .i64 0, .int .i64 0, .float .f64 0] 35) := ⟨_, rfl⟩
          obtain ⟨B6, hB6⟩ : ∃ b, b = y3.heap.size := ⟨_, rfl⟩
          have ho : Only (fun _ => False) y3 y4 := by rw [hy4]; exact (Only.refl _ _).alloc _
          have HXy4 : Hid (Only (fun _ => False) w2 y4) := HXy3.out.trans ho
          have HB6y4 : Hid (Blk w2 y4 B6 35 #[.int .i64 0, .int .i64 0, .int .u8 0, .int .i64 0, .int .i64 0, .float .f64 0]) := by rw [hy4, hB6]; exact Blk.made HXy3.out _ _
          have HB5y4 : Hid (Blk w2 y4 B5 31 #[.slice none 0 0, .slice none 0 0]) := HB5y3.out.keep ho
          have HMy4 : Hid (Made y4 L n0 k aC aO cC cO) := HMy3.out.keep ho
          rw [← hy4, ← hB6]
          clear hy4 hB6 ho
          refine hK.out _ _ (HKS.out _ HXy4.out) (fun hHeld => ?_)
          clear hK
          (try simp only [Act.put, List.setIfInBounds_toArray, List.set_cons_zero, List.set_cons_succ])
          refine wpAnyH_ready (rs := [10]) (by kernel_rfl) (by simp) ?_
          refine AllReadyH.cons rfl (fun K hK => ?_) AllReadyH.nil
          rw [if_pos (by rfl)]
          have HXa : Hid (Only (fun _ => False) w2 (y4.setRow B5 #[.slice aC k cC, .slice aO (k + 1) cO])) := HXy4.out.setRowNew HB5y4.out.2 _
          refine wp_store_row 31 _ _ rfl B5 #[.slice aC k cC, .slice aO (k + 1) cO] rfl rfl 31 _ HB5y4.out.1 (by kernel_rfl) rfl (two_one _ _ _ _ _ _) ?_
          have HMa : Hid (Made (y4.setRow B5 #[.slice aC k cC, .slice aO (k + 1) cO]) L n0 k aC aO cC cO ∧ Blk w2 (y4.setRow B5 #[.slice aC k cC, .slice aO (k + 1) cO]) B5 31 #[.slice aC k cC, .slice aO (k + 1) cO] ∧ Blk w2 (y4.setRow B5 #[.slice aC k cC, .slice aO (k + 1) cO]) B6 35 #[.int .i64 0, .int .i64 0, .int .u8 0, .int .i64 0, .int .i64 0, .float .f64 0]) := ⟨HMy4.out.store HB5y4.out.1 (by decide) (by decide) _, HB5y4.out.put _, HB6y4.out.far HB5y4.out (by decide) _⟩
          obtain ⟨za, hza⟩ : ∃ Y, Y = y4.setRow B5 #[.slice aC k cC, .slice aO (k + 1) cO] := ⟨_, rfl⟩
          rw [← hza] at HXa HMa ⊢
          clear hza
          refine hK.out _ _ (HKS.out _ HXa.out) (fun hHeld => ?_)
          clear hK
          (try simp only [Act.put, List.setIfInBounds_toArray, List.set_cons_zero, List.set_cons_succ])
          refine wpAnyH_ready (rs := [11]) (by kernel_rfl) (by simp) ?_
          refine AllReadyH.cons rfl (fun K hK => ?_) AllReadyH.nil
          rw [if_pos (by rfl)]
          have HXb : Hid (Only (fun _ => False) w2 (za.setRow B6 #[.int .i64 (W1 : Int), .int .i64 (T1 : Int), .int .u8 (M1 : Int), .int .i64 (hy : Int), .int .i64 (pr : Int), .float .f64 lo])) := HXa.out.setRowNew HMa.out.2.2.2 _
          refine wp_store_row 35 _ _ rfl B6 #[.int .i64 (W1 : Int), .int .i64 (T1 : Int), .int .u8 (M1 : Int), .int .i64 (hy : Int), .int .i64 (pr : Int), .float .f64 lo] rfl rfl 35 _ HMa.out.2.2.1 (by kernel_rfl) rfl (cfg_one _ _ _ _ _ _) ?_
          have HMb : Hid (Made (za.setRow B6 #[.int .i64 (W1 : Int), .int .i64 (T1 : Int), .int .u8 (M1 : Int), .int .i64 (hy : Int), .int .i64 (pr : Int), .float .f64 lo]) L n0 k aC aO cC cO ∧ Blk w2 (za.setRow B6 #[.int .i64 (W1 : Int), .int .i64 (T1 : Int), .int .u8 (M1 : Int), .int .i64 (hy : Int), .int .i64 (pr : Int), .float .f64 lo]) B5 31 #[.slice aC k cC, .slice aO (k + 1) cO] ∧ Blk w2 (za.setRow B6 #[.int .i64 (W1 : Int), .int .i64 (T1 : Int), .int .u8 (M1 : Int), .int .i64 (hy : Int), .int .i64 (pr : Int), .float .f64 lo]) B6 35 #[.int .i64 (W1 : Int), .int .i64 (T1 : Int), .int .u8 (M1 : Int), .int .i64 (hy : Int), .int .i64 (pr : Int), .float .f64 lo]) := ⟨HMa.out.1.store HMa.out.2.2.1 (by decide) (by decide) _, HMa.out.2.1.far HMa.out.2.2 (by decide) _, HMa.out.2.2.put _⟩
          obtain ⟨zb, hzb⟩ : ∃ Y, Y = za.setRow B6 #[.int .i64 (W1 : Int), .int .i64 (T1 : Int), .int .u8 (M1 : Int), .int .i64 (hy : Int), .int .i64 (pr : Int), .float .f64 lo] := ⟨_, rfl⟩
          rw [← hzb] at HXb HMb ⊢
          clear hzb
          refine hK.out _ _ (HKS.out _ HXb.out) (fun hHeld => ?_)
          clear hK
          (try simp only [Act.put, List.setIfInBounds_toArray, List.set_cons_zero, List.set_cons_succ])
          refine wpAnyH_done (by kernel_rfl) ?_ _
          clear hHeld
          go_wp2_with fail
          go_meet
          exact ⟨k, B5, B6, aC, aO, cC, cO, _, rfl, rfl, rfl, HMb.out.1, HMb.out.2.1, HMb.out.2.2, HXb.out⟩
        · rw [if_pos (by rfl)]
          go_simp
          obtain ⟨y3, hy3⟩ : ∃ Y, Y = y2.alloc (.cells #[.int .i64 0, .int .i64 0, .int .u8 0, .int .i64 0, .int .i64 0, .float .f64 0] 35) := ⟨_, rfl⟩
          obtain ⟨B6, hB6⟩ : ∃ b, b = y2.heap.size := ⟨_, rfl⟩
          have ho : Only (fun _ => False) y2 y3 := by rw [hy3]; exact (Only.refl _ _).alloc _
          have HXy3 : Hid (Only (fun _ => False) w2 y3) := HXy2.out.trans ho
          have HB6y3 : Hid (Blk w2 y3 B6 35 #[.int .i64 0, .int .i64 0, .int .u8 0, .int .i64 0, .int .i64 0, .float .f64 0]) := by rw [hy3, hB6]; exact Blk.made HXy2.out _ _
          have HB5y3 : Hid (Blk w2 y3 B5 31 #[.slice none 0 0, .slice none 0 0]) := HB5y2.out.keep ho
          have HMy3 : Hid (Made y3 L n0 k aC aO cC cO) := HMy2.out.keep ho
          rw [← hy3, ← hB6]
          clear hy3 hB6 ho
          refine hK.out _ _ (HKS.out _ HXy3.out) (fun hHeld => ?_)
          clear hK
          (try simp only [Act.put, List.setIfInBounds_toArray, List.set_cons_zero, List.set_cons_succ])
          refine wpAnyH_ready (rs := [7]) (by kernel_rfl) (by simp) ?_
          refine AllReadyH.cons rfl (fun K hK => ?_) AllReadyH.nil
          rw [if_pos (by rfl)]
          go_simp
          refine Calls.mono (HCF.out _) ?_
          rintro e y4 ⟨rfl, ho⟩
          have HMy4 : Hid (Made y4 L n0 k aC aO cC cO) := HMy3.out.keep ho
          have HXy4 : Hid (Only (fun _ => False) w2 y4) := HXy3.out.trans ho
          have HB5y4 : Hid (Blk w2 y4 B5 31 #[.slice none 0 0, .slice none 0 0]) := HB5y3.out.keep ho
          have HB6y4 : Hid (Blk w2 y4 B6 35 #[.int .i64 0, .int .i64 0, .int .u8 0, .int .i64 0, .int .i64 0, .float .f64 0]) := HB6y3.out.keep ho
          clear ho
          refine hK.out _ _ (HKS.out _ HXy4.out) (fun hHeld => ?_)
          clear hK
          (try simp only [Act.put, List.setIfInBounds_toArray, List.set_cons_zero, List.set_cons_succ])
          refine wpAnyH_ready (rs := [10]) (by kernel_rfl) (by simp) ?_
          refine AllReadyH.cons rfl (fun K hK => ?_) AllReadyH.nil
          rw [if_pos (by rfl)]
          have HXa : Hid (Only (fun _ => False) w2 (y4.setRow B5 #[.slice aC k cC, .slice aO (k + 1) cO])) := HXy4.out.setRowNew HB5y4.out.2 _
          refine wp_store_row 31 _ _ rfl B5 #[.slice aC k cC, .slice aO (k + 1) cO] rfl rfl 31 _ HB5y4.out.1 (by kernel_rfl) rfl (two_one _ _ _ _ _ _) ?_
          have HMa : Hid (Made (y4.setRow B5 #[.slice aC k cC, .slice aO (k + 1) cO]) L n0 k aC aO cC cO ∧ Blk w2 (y4.setRow B5 #[.slice aC k cC, .slice aO (k + 1) cO]) B5 31 #[.slice aC k cC, .slice aO (k + 1) cO] ∧ Blk w2 (y4.setRow B5 #[.slice aC k cC, .slice aO (k + 1) cO]) B6 35 #[.int .i64 0, .int .i64 0, .int .u8 0, .int .i64 0, .int .i64 0, .float .f64 0]) := ⟨HMy4.out.store HB5y4.out.1 (by decide) (by decide) _, HB5y4.out.put _, HB6y4.out.far HB5y4.out (by decide) _⟩
          obtain ⟨za, hza⟩ : ∃ Y, Y = y4.setRow B5 #[.slice aC k cC, .slice aO (k + 1) cO] := ⟨_, rfl⟩
          rw [← hza] at HXa HMa ⊢
          clear hza
          refine hK.out _ _ (HKS.out _ HXa.out) (fun hHeld => ?_)
          clear hK
          (try simp only [Act.put, List.setIfInBounds_toArray, List.set_cons_zero, List.set_cons_succ])
          refine wpAnyH_ready (rs := [11]) (by kernel_rfl) (by simp) ?_
          refine AllReadyH.cons rfl (fun K hK => ?_) AllReadyH.nil
          rw [if_pos (by rfl)]
          have HXb : Hid (Only (fun _ => False) w2 (za.setRow B6 #[.int .i64 (W1 : Int), .int .i64 (T1 : Int), .int .u8 (M1 : Int), .int .i64 (hy : Int), .int .i64 (pr : Int), .float .f64 lo])) := HXa.out.setRowNew HMa.out.2.2.2 _
          refine wp_store_row 35 _ _ rfl B6 #[.int .i64 (W1 : Int), .int .i64 (T1 : Int), .int .u8 (M1 : Int), .int .i64 (hy : Int), .int .i64 (pr : Int), .float .f64 lo] rfl rfl 35 _ HMa.out.2.2.1 (by kernel_rfl) rfl (cfg_one _ _ _ _ _ _) ?_
          have HMb : Hid (Made (za.setRow B6 #[.int .i64 (W1 : Int), .int .i64 (T1 : Int), .int .u8 (M1 : Int), .int .i64 (hy : Int), .int .i64 (pr : Int), .float .f64 lo]) L n0 k aC aO cC cO ∧ Blk w2 (za.setRow B6 #[.int .i64 (W1 : Int), .int .i64 (T1 : Int), .int .u8 (M1 : Int), .int .i64 (hy : Int), .int .i64 (pr : Int), .float .f64 lo]) B5 31 #[.slice aC k cC, .slice aO (k + 1) cO] ∧ Blk w2 (za.setRow B6 #[.int .i64 (W1 : Int), .int .i64 (T1 : Int), .int .u8 (M1 : Int), .int .i64 (hy : Int), .int .i64 (pr : Int), .float .f64 lo]) B6 35 #[.int .i64 (W1 : Int), .int .i64 (T1 : Int), .int .u8 (M1 : Int), .int .i64 (hy : Int), .int .i64 (pr : Int), .float .f64 lo]) := ⟨HMa.out.1.store HMa.out.2.2.1 (by decide) (by decide) _, HMa.out.2.1.far HMa.out.2.2 (by decide) _, HMa.out.2.2.put _⟩
          obtain ⟨zb, hzb⟩ : ∃ Y, Y = za.setRow B6 #[.int .i64 (W1 : Int), .int .i64 (T1 : Int), .int .u8 (M1 : Int), .int .i64 (hy : Int), .int .i64 (pr : Int), .float .f64 lo] := ⟨_, rfl⟩
          rw [← hzb] at HXb HMb ⊢
          clear hzb
          refine hK.out _ _ (HKS.out _ HXb.out) (fun hHeld => ?_)
          clear hK
          (try simp only [Act.put, List.setIfInBounds_toArray, List.set_cons_zero, List.set_cons_succ])
          refine wpAnyH_done (by kernel_rfl) ?_ _
          clear hHeld
          go_wp2_with fail
          go_meet
          exact ⟨k, B5, B6, aC, aO, cC, cO, _, rfl, rfl, rfl, HMb.out.1, HMb.out.2.1, HMb.out.2.2, HXb.out⟩
      · rw [if_pos (by rfl)]
        go_simp
        obtain ⟨y2, hy2⟩ : ∃ Y, Y = y1.alloc (.cells #[.int .i64 0, .int .i64 0, .int .u8 0, .int .i64 0, .int .i64 0, .float .f64 0] 35) := ⟨_, rfl⟩
        obtain ⟨B6, hB6⟩ : ∃ b, b = y1.heap.size := ⟨_, rfl⟩
        have ho : Only (fun _ => False) y1 y2 := by rw [hy2]; exact (Only.refl _ _).alloc _
        have HXy2 : Hid (Only (fun _ => False) w2 y2) := HXy1.out.trans ho
        have HB6y2 : Hid (Blk w2 y2 B6 35 #[.int .i64 0, .int .i64 0, .int .u8 0, .int .i64 0, .int .i64 0, .float .f64 0]) := by rw [hy2, hB6]; exact Blk.made HXy1.out _ _
        have HB5y2 : Hid (Blk w2 y2 B5 31 #[.slice none 0 0, .slice none 0 0]) := HB5y1.out.keep ho
        rw [← hy2, ← hB6]
        clear hy2 hB6 ho
        refine hK.out _ _ (HKS.out _ HXy2.out) (fun hHeld => ?_)
        clear hK
        (try simp only [Act.put, List.setIfInBounds_toArray, List.set_cons_zero, List.set_cons_succ])
        refine wpAnyH_ready (rs := [5]) (by kernel_rfl) (by simp) ?_
        refine AllReadyH.cons rfl (fun K hK => ?_) AllReadyH.nil
        rw [if_pos (by rfl)]
        go_simp
        refine Calls.mono (HPA.out _ (HW2.out.trans HXy2.out)) ?_
        rintro e y3 ⟨k, aC, aO, cC, cO, rfl, hmd, ho⟩
        have HMy3 : Hid (Made y3 L n0 k aC aO cC cO) := hmd
        clear hmd
        have HXy3 : Hid (Only (fun _ => False) w2 y3) := HXy2.out.trans ho
        have HB5y3 : Hid (Blk w2 y3 B5 31 #[.slice none 0 0, .slice none 0 0]) := HB5y2.out.keep ho
        have HB6y3 : Hid (Blk w2 y3 B6 35 #[.int .i64 0, .int .i64 0, .int .u8 0, .int .i64 0, .int .i64 0, .float .f64 0]) := HB6y2.out.keep ho
        clear ho
        refine hK.out _ _ (HKS.out _ HXy3.out) (fun hHeld => ?_)
        clear hK
        (try simp only [Act.put, List.setIfInBounds_toArray, List.set_cons_zero, List.set_cons_succ])
        refine wpAnyH_ready (rs := [7]) (by kernel_rfl) (by simp) ?_
        refine AllReadyH.cons rfl (fun K hK => ?_) AllReadyH.nil
        rw [if_pos (by rfl)]
        go_simp
        refine Calls.mono (HCF.out _) ?_
        rintro e y4 ⟨rfl, ho⟩
        have HMy4 : Hid (Made y4 L n0 k aC aO cC cO) := HMy3.out.keep ho
        have HXy4 : Hid (Only (fun _ => False) w2 y4) := HXy3.out.trans ho
        have HB5y4 : Hid (Blk w2 y4 B5 31 #[.slice none 0 0, .slice none 0 0]) := HB5y3.out.keep ho
        have HB6y4 : Hid (Blk w2 y4 B6 35 #[.int .i64 0, .int .i64 0, .int .u8 0, .int .i64 0, .int .i64 0, .float .f64 0]) := HB6y3.out.keep ho
        clear ho
        refine hK.out _ _ (HKS.out _ HXy4.out) (fun hHeld => ?_)
        clear hK
        (try simp only [Act.put, List.setIfInBounds_toArray, List.set_cons_zero, List.set_cons_succ])
        refine wpAnyH_ready (rs := [10]) (by kernel_rfl) (by simp) ?_
        refine AllReadyH.cons rfl (fun K hK => ?_) AllReadyH.nil
        rw [if_pos (by rfl)]
        have HXa : Hid (Only (fun _ => False) w2 (y4.setRow B5 #[.slice aC k cC, .slice aO (k + 1) cO])) := HXy4.out.setRowNew HB5y4.out.2 _
        refine wp_store_row 31 _ _ rfl B5 #[.slice aC k cC, .slice aO (k + 1) cO] rfl rfl 31 _ HB5y4.out.1 (by kernel_rfl) rfl (two_one _ _ _ _ _ _) ?_
        have HMa : Hid (Made (y4.setRow B5 #[.slice aC k cC, .slice aO (k + 1) cO]) L n0 k aC aO cC cO ∧ Blk w2 (y4.setRow B5 #[.slice aC k cC, .slice aO (k + 1) cO]) B5 31 #[.slice aC k cC, .slice aO (k + 1) cO] ∧ Blk w2 (y4.setRow B5 #[.slice aC k cC, .slice aO (k + 1) cO]) B6 35 #[.int .i64 0, .int .i64 0, .int .u8 0, .int .i64 0, .int .i64 0, .float .f64 0]) := ⟨HMy4.out.store HB5y4.out.1 (by decide) (by decide) _, HB5y4.out.put _, HB6y4.out.far HB5y4.out (by decide) _⟩
        obtain ⟨za, hza⟩ : ∃ Y, Y = y4.setRow B5 #[.slice aC k cC, .slice aO (k + 1) cO] := ⟨_, rfl⟩
        rw [← hza] at HXa HMa ⊢
        clear hza
        refine hK.out _ _ (HKS.out _ HXa.out) (fun hHeld => ?_)
        clear hK
        (try simp only [Act.put, List.setIfInBounds_toArray, List.set_cons_zero, List.set_cons_succ])
        refine wpAnyH_ready (rs := [11]) (by kernel_rfl) (by simp) ?_
        refine AllReadyH.cons rfl (fun K hK => ?_) AllReadyH.nil
        rw [if_pos (by rfl)]
        have HXb : Hid (Only (fun _ => False) w2 (za.setRow B6 #[.int .i64 (W1 : Int), .int .i64 (T1 : Int), .int .u8 (M1 : Int), .int .i64 (hy : Int), .int .i64 (pr : Int), .float .f64 lo])) := HXa.out.setRowNew HMa.out.2.2.2 _
        refine wp_store_row 35 _ _ rfl B6 #[.int .i64 (W1 : Int), .int .i64 (T1 : Int), .int .u8 (M1 : Int), .int .i64 (hy : Int), .int .i64 (pr : Int), .float .f64 lo] rfl rfl 35 _ HMa.out.2.2.1 (by kernel_rfl) rfl (cfg_one _ _ _ _ _ _) ?_
        have HMb : Hid (Made (za.setRow B6 #[.int .i64 (W1 : Int), .int .i64 (T1 : Int), .int .u8 (M1 : Int), .int .i64 (hy : Int), .int .i64 (pr : Int), .float .f64 lo]) L n0 k aC aO cC cO ∧ Blk w2 (za.setRow B6 #[.int .i64 (W1 : Int), .int .i64 (T1 : Int), .int .u8 (M1 : Int), .int .i64 (hy : Int), .int .i64 (pr : Int), .float .f64 lo]) B5 31 #[.slice aC k cC, .slice aO (k + 1) cO] ∧ Blk w2 (za.setRow B6 #[.int .i64 (W1 : Int), .int .i64 (T1 : Int), .int .u8 (M1 : Int), .int .i64 (hy : Int), .int .i64 (pr : Int), .float .f64 lo]) B6 35 #[.int .i64 (W1 : Int), .int .i64 (T1 : Int), .int .u8 (M1 : Int), .int .i64 (hy : Int), .int .i64 (pr : Int), .float .f64 lo]) := ⟨HMa.out.1.store HMa.out.2.2.1 (by decide) (by decide) _, HMa.out.2.1.far HMa.out.2.2 (by decide) _, HMa.out.2.2.put _⟩
        obtain ⟨zb, hzb⟩ : ∃ Y, Y = za.setRow B6 #[.int .i64 (W1 : Int), .int .i64 (T1 : Int), .int .u8 (M1 : Int), .int .i64 (hy : Int), .int .i64 (pr : Int), .float .f64 lo] := ⟨_, rfl⟩
        rw [← hzb] at HXb HMb ⊢
        clear hzb
        refine hK.out _ _ (HKS.out _ HXb.out) (fun hHeld => ?_)
        clear hK
        (try simp only [Act.put, List.setIfInBounds_toArray, List.set_cons_zero, List.set_cons_succ])
        refine wpAnyH_done (by kernel_rfl) ?_ _
        clear hHeld
        go_wp2_with fail
        go_meet
        exact ⟨k, B5, B6, aC, aO, cC, cO, _, rfl, rfl, rfl, HMb.out.1, HMb.out.2.1, HMb.out.2.2, HXb.out⟩
    · rw [if_pos (by rfl)]
      go_simp
      obtain ⟨y1, hy1⟩ : ∃ Y, Y = (w2.alloc (.cells #[.int .i64 0, .int .i64 0, .int .u8 0, .int .i64 0, .int .i64 0, .float .f64 0] 35)).drew := ⟨_, rfl⟩
      obtain ⟨B6, hB6⟩ : ∃ b, b = w2.heap.size := ⟨_, rfl⟩
      have ho : Only (fun _ => False) w2 y1 := by rw [hy1]; exact ((Only.refl _ _).alloc _).drew
      have HXy1 : Hid (Only (fun _ => False) w2 y1) := ho
      have HB6y1 : Hid (Blk w2 y1 B6 35 #[.int .i64 0, .int .i64 0, .int .u8 0, .int .i64 0, .int .i64 0, .float .f64 0]) := by rw [hy1, hB6]; exact (Blk.made (Only.refl _ _) _ _).drew
      rw [← hy1, ← hB6]
      clear hy1 hB6 ho
      refine hK.out _ _ (HKS.out _ HXy1.out) (fun hHeld => ?_)
      clear hK
      (try simp only [Act.put, List.setIfInBounds_toArray, List.set_cons_zero, List.set_cons_succ])
      refine wpAnyH_ready (rs := [5, 8]) (by kernel_rfl) (by simp) ?_
      refine AllReadyH.cons rfl (fun K hK => ?_) (AllReadyH.cons rfl (fun K hK => ?_) AllReadyH.nil)
      · rw [if_pos (by rfl)]
        go_simp
        refine Calls.mono (HPA.out _ (HW2.out.trans HXy1.out)) ?_
        rintro e y2 ⟨k, aC, aO, cC, cO, rfl, hmd, ho⟩
        have HMy2 : Hid (Made y2 L n0 k aC aO cC cO) := hmd
        clear hmd
        have HXy2 : Hid (Only (fun _ => False) w2 y2) := HXy1.out.trans ho
        have HB6y2 : Hid (Blk w2 y2 B6 35 #[.int .i64 0, .int .i64 0, .int .u8 0, .int .i64 0, .int .i64 0, .float .f64 0]) := HB6y1.out.keep ho
        clear ho
        refine hK.out _ _ (HKS.out _ HXy2.out) (fun hHeld => ?_)
        clear hK
        (try simp only [Act.put, List.setIfInBounds_toArray, List.set_cons_zero, List.set_cons_succ])
        refine wpAnyH_ready (rs := [7, 8]) (by kernel_rfl) (by simp) ?_
        refine AllReadyH.cons rfl (fun K hK => ?_) (AllReadyH.cons rfl (fun K hK => ?_) AllReadyH.nil)
        · rw [if_pos (by rfl)]
          go_simp
          refine Calls.mono (HCF.out _) ?_
          rintro e y3 ⟨rfl, ho⟩
          have HMy3 : Hid (Made y3 L n0 k aC aO cC cO) := HMy2.out.keep ho
          have HXy3 : Hid (Only (fun _ => False) w2 y3) := HXy2.out.trans ho
          have HB6y3 : Hid (Blk w2 y3 B6 35 #[.int .i64 0, .int .i64 0, .int .u8 0, .int .i64 0, .int .i64 0, .float .f64 0]) := HB6y2.out.keep ho
          clear ho
          refine hK.out _ _ (HKS.out _ HXy3.out) (fun hHeld => ?_)
          clear hK
          (try simp only [Act.put, List.setIfInBounds_toArray, List.set_cons_zero, List.set_cons_succ])
          refine wpAnyH_ready (rs := [8]) (by kernel_rfl) (by simp) ?_
          refine AllReadyH.cons rfl (fun K hK => ?_) AllReadyH.nil
          rw [if_pos (by rfl)]
          go_simp
          obtain ⟨y4, hy4⟩ : ∃ Y, Y = y3.alloc (.cells #[.slice none 0 0, .slice none 0 0] 31) := ⟨_, rfl⟩
          obtain ⟨B5, hB5⟩ : ∃ b, b = y3.heap.size := ⟨_, rfl⟩
          have ho : Only (fun _ => False) y3 y4 := by rw [hy4]; exact (Only.refl _ _).alloc _
          have HXy4 : Hid (Only (fun _ => False) w2 y4) := HXy3.out.trans ho
          have HB5y4 : Hid (Blk w2 y4 B5 31 #[.slice none 0 0, .slice none 0 0]) := by rw [hy4, hB5]; exact Blk.made HXy3.out _ _
          have HB6y4 : Hid (Blk w2 y4 B6 35 #[.int .i64 0, .int .i64 0, .int .u8 0, .int .i64 0, .int .i64 0, .float .f64 0]) := HB6y3.out.keep ho
          have HMy4 : Hid (Made y4 L n0 k aC aO cC cO) := HMy3.out.keep ho
          rw [← hy4, ← hB5]
          clear hy4 hB5 ho
          refine hK.out _ _ (HKS.out _ HXy4.out) (fun hHeld => ?_)
          clear hK
          (try simp only [Act.put, List.setIfInBounds_toArray, List.set_cons_zero, List.set_cons_succ])
          refine wpAnyH_ready (rs := [10]) (by kernel_rfl) (by simp) ?_
          refine AllReadyH.cons rfl (fun K hK => ?_) AllReadyH.nil
          rw [if_pos (by rfl)]
          have HXa : Hid (Only (fun _ => False) w2 (y4.setRow B5 #[.slice aC k cC, .slice aO (k + 1) cO])) := HXy4.out.setRowNew HB5y4.out.2 _
          refine wp_store_row 31 _ _ rfl B5 #[.slice aC k cC, .slice aO (k + 1) cO] rfl rfl 31 _ HB5y4.out.1 (by kernel_rfl) rfl (two_one _ _ _ _ _ _) ?_
          have HMa : Hid (Made (y4.setRow B5 #[.slice aC k cC, .slice aO (k + 1) cO]) L n0 k aC aO cC cO ∧ Blk w2 (y4.setRow B5 #[.slice aC k cC, .slice aO (k + 1) cO]) B5 31 #[.slice aC k cC, .slice aO (k + 1) cO] ∧ Blk w2 (y4.setRow B5 #[.slice aC k cC, .slice aO (k + 1) cO]) B6 35 #[.int .i64 0, .int .i64 0, .int .u8 0, .int .i64 0, .int .i64 0, .float .f64 0]) := ⟨HMy4.out.store HB5y4.out.1 (by decide) (by decide) _, HB5y4.out.put _, HB6y4.out.far HB5y4.out (by decide) _⟩
          obtain ⟨za, hza⟩ : ∃ Y, Y = y4.setRow B5 #[.slice aC k cC, .slice aO (k + 1) cO] := ⟨_, rfl⟩
          rw [← hza] at HXa HMa ⊢
          clear hza
          refine hK.out _ _ (HKS.out _ HXa.out) (fun hHeld => ?_)
          clear hK
          (try simp only [Act.put, List.setIfInBounds_toArray, List.set_cons_zero, List.set_cons_succ])
          refine wpAnyH_ready (rs := [11]) (by kernel_rfl) (by simp) ?_
          refine AllReadyH.cons rfl (fun K hK => ?_) AllReadyH.nil
          rw [if_pos (by rfl)]
          have HXb : Hid (Only (fun _ => False) w2 (za.setRow B6 #[.int .i64 (W1 : Int), .int .i64 (T1 : Int), .int .u8 (M1 : Int), .int .i64 (hy : Int), .int .i64 (pr : Int), .float .f64 lo])) := HXa.out.setRowNew HMa.out.2.2.2 _
          refine wp_store_row 35 _ _ rfl B6 #[.int .i64 (W1 : Int), .int .i64 (T1 : Int), .int .u8 (M1 : Int), .int .i64 (hy : Int), .int .i64 (pr : Int), .float .f64 lo] rfl rfl 35 _ HMa.out.2.2.1 (by kernel_rfl) rfl (cfg_one _ _ _ _ _ _) ?_
          have HMb : Hid (Made (za.setRow B6 #[.int .i64 (W1 : Int), .int .i64 (T1 : Int), .int .u8 (M1 : Int), .int .i64 (hy : Int), .int .i64 (pr : Int), .float .f64 lo]) L n0 k aC aO cC cO ∧ Blk w2 (za.setRow B6 #[.int .i64 (W1 : Int), .int .i64 (T1 : Int), .int .u8 (M1 : Int), .int .i64 (hy : Int), .int .i64 (pr : Int), .float .f64 lo]) B5 31 #[.slice aC k cC, .slice aO (k + 1) cO] ∧ Blk w2 (za.setRow B6 #[.int .i64 (W1 : Int), .int .i64 (T1 : Int), .int .u8 (M1 : Int), .int .i64 (hy : Int), .int .i64 (pr : Int), .float .f64 lo]) B6 35 #[.int .i64 (W1 : Int), .int .i64 (T1 : Int), .int .u8 (M1 : Int), .int .i64 (hy : Int), .int .i64 (pr : Int), .float .f64 lo]) := ⟨HMa.out.1.store HMa.out.2.2.1 (by decide) (by decide) _, HMa.out.2.1.far HMa.out.2.2 (by decide) _, HMa.out.2.2.put _⟩
          obtain ⟨zb, hzb⟩ : ∃ Y, Y = za.setRow B6 #[.int .i64 (W1 : Int), .int .i64 (T1 : Int), .int .u8 (M1 : Int), .int .i64 (hy : Int), .int .i64 (pr : Int), .float .f64 lo] := ⟨_, rfl⟩
          rw [← hzb] at HXb HMb ⊢
          clear hzb
          refine hK.out _ _ (HKS.out _ HXb.out) (fun hHeld => ?_)
          clear hK
          (try simp only [Act.put, List.setIfInBounds_toArray, List.set_cons_zero, List.set_cons_succ])
          refine wpAnyH_done (by kernel_rfl) ?_ _
          clear hHeld
          go_wp2_with fail
          go_meet
          exact ⟨k, B5, B6, aC, aO, cC, cO, _, rfl, rfl, rfl, HMb.out.1, HMb.out.2.1, HMb.out.2.2, HXb.out⟩
        · rw [if_pos (by rfl)]
          go_simp
          obtain ⟨y3, hy3⟩ : ∃ Y, Y = y2.alloc (.cells #[.slice none 0 0, .slice none 0 0] 31) := ⟨_, rfl⟩
          obtain ⟨B5, hB5⟩ : ∃ b, b = y2.heap.size := ⟨_, rfl⟩
          have ho : Only (fun _ => False) y2 y3 := by rw [hy3]; exact (Only.refl _ _).alloc _
          have HXy3 : Hid (Only (fun _ => False) w2 y3) := HXy2.out.trans ho
          have HB5y3 : Hid (Blk w2 y3 B5 31 #[.slice none 0 0, .slice none 0 0]) := by rw [hy3, hB5]; exact Blk.made HXy2.out _ _
          have HB6y3 : Hid (Blk w2 y3 B6 35 #[.int .i64 0, .int .i64 0, .int .u8 0, .int .i64 0, .int .i64 0, .float .f64 0]) := HB6y2.out.keep ho
          have HMy3 : Hid (Made y3 L n0 k aC aO cC cO) := HMy2.out.keep ho
          rw [← hy3, ← hB5]
          clear hy3 hB5 ho
          refine hK.out _ _ (HKS.out _ HXy3.out) (fun hHeld => ?_)
          clear hK
          (try simp only [Act.put, List.setIfInBounds_toArray, List.set_cons_zero, List.set_cons_succ])
          refine wpAnyH_ready (rs := [7]) (by kernel_rfl) (by simp) ?_
          refine AllReadyH.cons rfl (fun K hK => ?_) AllReadyH.nil
          rw [if_pos (by rfl)]
          go_simp
          refine Calls.mono (HCF.out _) ?_
          rintro e y4 ⟨rfl, ho⟩
          have HMy4 : Hid (Made y4 L n0 k aC aO cC cO) := HMy3.out.keep ho
          have HXy4 : Hid (Only (fun _ => False) w2 y4) := HXy3.out.trans ho
          have HB5y4 : Hid (Blk w2 y4 B5 31 #[.slice none 0 0, .slice none 0 0]) := HB5y3.out.keep ho
          have HB6y4 : Hid (Blk w2 y4 B6 35 #[.int .i64 0, .int .i64 0, .int .u8 0, .int .i64 0, .int .i64 0, .float .f64 0]) := HB6y3.out.keep ho
          clear ho
          refine hK.out _ _ (HKS.out _ HXy4.out) (fun hHeld => ?_)
          clear hK
          (try simp only [Act.put, List.setIfInBounds_toArray, List.set_cons_zero, List.set_cons_succ])
          refine wpAnyH_ready (rs := [10]) (by kernel_rfl) (by simp) ?_
          refine AllReadyH.cons rfl (fun K hK => ?_) AllReadyH.nil
          rw [if_pos (by rfl)]
          have HXa : Hid (Only (fun _ => False) w2 (y4.setRow B5 #[.slice aC k cC, .slice aO (k + 1) cO])) := HXy4.out.setRowNew HB5y4.out.2 _
          refine wp_store_row 31 _ _ rfl B5 #[.slice aC k cC, .slice aO (k + 1) cO] rfl rfl 31 _ HB5y4.out.1 (by kernel_rfl) rfl (two_one _ _ _ _ _ _) ?_
          have HMa : Hid (Made (y4.setRow B5 #[.slice aC k cC, .slice aO (k + 1) cO]) L n0 k aC aO cC cO ∧ Blk w2 (y4.setRow B5 #[.slice aC k cC, .slice aO (k + 1) cO]) B5 31 #[.slice aC k cC, .slice aO (k + 1) cO] ∧ Blk w2 (y4.setRow B5 #[.slice aC k cC, .slice aO (k + 1) cO]) B6 35 #[.int .i64 0, .int .i64 0, .int .u8 0, .int .i64 0, .int .i64 0, .float .f64 0]) := ⟨HMy4.out.store HB5y4.out.1 (by decide) (by decide) _, HB5y4.out.put _, HB6y4.out.far HB5y4.out (by decide) _⟩
          obtain ⟨za, hza⟩ : ∃ Y, Y = y4.setRow B5 #[.slice aC k cC, .slice aO (k + 1) cO] := ⟨_, rfl⟩
          rw [← hza] at HXa HMa ⊢
          clear hza
          refine hK.out _ _ (HKS.out _ HXa.out) (fun hHeld => ?_)
          clear hK
          (try simp only [Act.put, List.setIfInBounds_toArray, List.set_cons_zero, List.set_cons_succ])
          refine wpAnyH_ready (rs := [11]) (by kernel_rfl) (by simp) ?_
          refine AllReadyH.cons rfl (fun K hK => ?_) AllReadyH.nil
          rw [if_pos (by rfl)]
          have HXb : Hid (Only (fun _ => False) w2 (za.setRow B6 #[.int .i64 (W1 : Int), .int .i64 (T1 : Int), .int .u8 (M1 : Int), .int .i64 (hy : Int), .int .i64 (pr : Int), .float .f64 lo])) := HXa.out.setRowNew HMa.out.2.2.2 _
          refine wp_store_row 35 _ _ rfl B6 #[.int .i64 (W1 : Int), .int .i64 (T1 : Int), .int .u8 (M1 : Int), .int .i64 (hy : Int), .int .i64 (pr : Int), .float .f64 lo] rfl rfl 35 _ HMa.out.2.2.1 (by kernel_rfl) rfl (cfg_one _ _ _ _ _ _) ?_
          have HMb : Hid (Made (za.setRow B6 #[.int .i64 (W1 : Int), .int .i64 (T1 : Int), .int .u8 (M1 : Int), .int .i64 (hy : Int), .int .i64 (pr : Int), .float .f64 lo]) L n0 k aC aO cC cO ∧ Blk w2 (za.setRow B6 #[.int .i64 (W1 : Int), .int .i64 (T1 : Int), .int .u8 (M1 : Int), .int .i64 (hy : Int), .int .i64 (pr : Int), .float .f64 lo]) B5 31 #[.slice aC k cC, .slice aO (k + 1) cO] ∧ Blk w2 (za.setRow B6 #[.int .i64 (W1 : Int), .int .i64 (T1 : Int), .int .u8 (M1 : Int), .int .i64 (hy : Int), .int .i64 (pr : Int), .float .f64 lo]) B6 35 #[.int .i64 (W1 : Int), .int .i64 (T1 : Int), .int .u8 (M1 : Int), .int .i64 (hy : Int), .int .i64 (pr : Int), .float .f64 lo]) := ⟨HMa.out.1.store HMa.out.2.2.1 (by decide) (by decide) _, HMa.out.2.1.far HMa.out.2.2 (by decide) _, HMa.out.2.2.put _⟩
          obtain ⟨zb, hzb⟩ : ∃ Y, Y = za.setRow B6 #[.int .i64 (W1 : Int), .int .i64 (T1 : Int), .int .u8 (M1 : Int), .int .i64 (hy : Int), .int .i64 (pr : Int), .float .f64 lo] := ⟨_, rfl⟩
          rw [← hzb] at HXb HMb ⊢
          clear hzb
          refine hK.out _ _ (HKS.out _ HXb.out) (fun hHeld => ?_)
          clear hK
          (try simp only [Act.put, List.setIfInBounds_toArray, List.set_cons_zero, List.set_cons_succ])
          refine wpAnyH_done (by kernel_rfl) ?_ _
          clear hHeld
          go_wp2_with fail
          go_meet
          exact ⟨k, B5, B6, aC, aO, cC, cO, _, rfl, rfl, rfl, HMb.out.1, HMb.out.2.1, HMb.out.2.2, HXb.out⟩
      · rw [if_pos (by rfl)]
        go_simp
        obtain ⟨y2, hy2⟩ : ∃ Y, Y = y1.alloc (.cells #[.slice none 0 0, .slice none 0 0] 31) := ⟨_, rfl⟩
        obtain ⟨B5, hB5⟩ : ∃ b, b = y1.heap.size := ⟨_, rfl⟩
        have ho : Only (fun _ => False) y1 y2 := by rw [hy2]; exact (Only.refl _ _).alloc _
        have HXy2 : Hid (Only (fun _ => False) w2 y2) := HXy1.out.trans ho
        have HB5y2 : Hid (Blk w2 y2 B5 31 #[.slice none 0 0, .slice none 0 0]) := by rw [hy2, hB5]; exact Blk.made HXy1.out _ _
        have HB6y2 : Hid (Blk w2 y2 B6 35 #[.int .i64 0, .int .i64 0, .int .u8 0, .int .i64 0, .int .i64 0, .float .f64 0]) := HB6y1.out.keep ho
        rw [← hy2, ← hB5]
        clear hy2 hB5 ho
        refine hK.out _ _ (HKS.out _ HXy2.out) (fun hHeld => ?_)
        clear hK
        (try simp only [Act.put, List.setIfInBounds_toArray, List.set_cons_zero, List.set_cons_succ])
        refine wpAnyH_ready (rs := [5]) (by kernel_rfl) (by simp) ?_
        refine AllReadyH.cons rfl (fun K hK => ?_) AllReadyH.nil
        rw [if_pos (by rfl)]
        go_simp
        refine Calls.mono (HPA.out _ (HW2.out.trans HXy2.out)) ?_
        rintro e y3 ⟨k, aC, aO, cC, cO, rfl, hmd, ho⟩
        have HMy3 : Hid (Made y3 L n0 k aC aO cC cO) := hmd
        clear hmd
        have HXy3 : Hid (Only (fun _ => False) w2 y3) := HXy2.out.trans ho
        have HB5y3 : Hid (Blk w2 y3 B5 31 #[.slice none 0 0, .slice none 0 0]) := HB5y2.out.keep ho
        have HB6y3 : Hid (Blk w2 y3 B6 35 #[.int .i64 0, .int .i64 0, .int .u8 0, .int .i64 0, .int .i64 0, .float .f64 0]) := HB6y2.out.keep ho
        clear ho
        refine hK.out _ _ (HKS.out _ HXy3.out) (fun hHeld => ?_)
        clear hK
        (try simp only [Act.put, List.setIfInBounds_toArray, List.set_cons_zero, List.set_cons_succ])
        refine wpAnyH_ready (rs := [7]) (by kernel_rfl) (by simp) ?_
        refine AllReadyH.cons rfl (fun K hK => ?_) AllReadyH.nil
        rw [if_pos (by rfl)]
        go_simp
        refine Calls.mono (HCF.out _) ?_
        rintro e y4 ⟨rfl, ho⟩
        have HMy4 : Hid (Made y4 L n0 k aC aO cC cO) := HMy3.out.keep ho
        have HXy4 : Hid (Only (fun _ => False) w2 y4) := HXy3.out.trans ho
        have HB5y4 : Hid (Blk w2 y4 B5 31 #[.slice none 0 0, .slice none 0 0]) := HB5y3.out.keep ho
        have HB6y4 : Hid (Blk w2 y4 B6 35 #[.int .i64 0, .int .i64 0, .int .u8 0, .int .i64 0, .int .i64 0, .float .f64 0]) := HB6y3.out.keep ho
        clear ho
        refine hK.out _ _ (HKS.out _ HXy4.out) (fun hHeld => ?_)
        clear hK
        (try simp only [Act.put, List.setIfInBounds_toArray, List.set_cons_zero, List.set_cons_succ])
        refine wpAnyH_ready (rs := [10]) (by kernel_rfl) (by simp) ?_
        refine AllReadyH.cons rfl (fun K hK => ?_) AllReadyH.nil
        rw [if_pos (by rfl)]
        have HXa : Hid (Only (fun _ => False) w2 (y4.setRow B5 #[.slice aC k cC, .slice aO (k + 1) cO])) := HXy4.out.setRowNew HB5y4.out.2 _
        refine wp_store_row 31 _ _ rfl B5 #[.slice aC k cC, .slice aO (k + 1) cO] rfl rfl 31 _ HB5y4.out.1 (by kernel_rfl) rfl (two_one _ _ _ _ _ _) ?_
        have HMa : Hid (Made (y4.setRow B5 #[.slice aC k cC, .slice aO (k + 1) cO]) L n0 k aC aO cC cO ∧ Blk w2 (y4.setRow B5 #[.slice aC k cC, .slice aO (k + 1) cO]) B5 31 #[.slice aC k cC, .slice aO (k + 1) cO] ∧ Blk w2 (y4.setRow B5 #[.slice aC k cC, .slice aO (k + 1) cO]) B6 35 #[.int .i64 0, .int .i64 0, .int .u8 0, .int .i64 0, .int .i64 0, .float .f64 0]) := ⟨HMy4.out.store HB5y4.out.1 (by decide) (by decide) _, HB5y4.out.put _, HB6y4.out.far HB5y4.out (by decide) _⟩
        obtain ⟨za, hza⟩ : ∃ Y, Y = y4.setRow B5 #[.slice aC k cC, .slice aO (k + 1) cO] := ⟨_, rfl⟩
        rw [← hza] at HXa HMa ⊢
        clear hza
        refine hK.out _ _ (HKS.out _ HXa.out) (fun hHeld => ?_)
        clear hK
        (try simp only [Act.put, List.setIfInBounds_toArray, List.set_cons_zero, List.set_cons_succ])
        refine wpAnyH_ready (rs := [11]) (by kernel_rfl) (by simp) ?_
        refine AllReadyH.cons rfl (fun K hK => ?_) AllReadyH.nil
        rw [if_pos (by rfl)]
        have HXb : Hid (Only (fun _ => False) w2 (za.setRow B6 #[.int .i64 (W1 : Int), .int .i64 (T1 : Int), .int .u8 (M1 : Int), .int .i64 (hy : Int), .int .i64 (pr : Int), .float .f64 lo])) := HXa.out.setRowNew HMa.out.2.2.2 _
        refine wp_store_row 35 _ _ rfl B6 #[.int .i64 (W1 : Int), .int .i64 (T1 : Int), .int .u8 (M1 : Int), .int .i64 (hy : Int), .int .i64 (pr : Int), .float .f64 lo] rfl rfl 35 _ HMa.out.2.2.1 (by kernel_rfl) rfl (cfg_one _ _ _ _ _ _) ?_
        have HMb : Hid (Made (za.setRow B6 #[.int .i64 (W1 : Int), .int .i64 (T1 : Int), .int .u8 (M1 : Int), .int .i64 (hy : Int), .int .i64 (pr : Int), .float .f64 lo]) L n0 k aC aO cC cO ∧ Blk w2 (za.setRow B6 #[.int .i64 (W1 : Int), .int .i64 (T1 : Int), .int .u8 (M1 : Int), .int .i64 (hy : Int), .int .i64 (pr : Int), .float .f64 lo]) B5 31 #[.slice aC k cC, .slice aO (k + 1) cO] ∧ Blk w2 (za.setRow B6 #[.int .i64 (W1 : Int), .int .i64 (T1 : Int), .int .u8 (M1 : Int), .int .i64 (hy : Int), .int .i64 (pr : Int), .float .f64 lo]) B6 35 #[.int .i64 (W1 : Int), .int .i64 (T1 : Int), .int .u8 (M1 : Int), .int .i64 (hy : Int), .int .i64 (pr : Int), .float .f64 lo]) := ⟨HMa.out.1.store HMa.out.2.2.1 (by decide) (by decide) _, HMa.out.2.1.far HMa.out.2.2 (by decide) _, HMa.out.2.2.put _⟩
        obtain ⟨zb, hzb⟩ : ∃ Y, Y = za.setRow B6 #[.int .i64 (W1 : Int), .int .i64 (T1 : Int), .int .u8 (M1 : Int), .int .i64 (hy : Int), .int .i64 (pr : Int), .float .f64 lo] := ⟨_, rfl⟩
        rw [← hzb] at HXb HMb ⊢
        clear hzb
        refine hK.out _ _ (HKS.out _ HXb.out) (fun hHeld => ?_)
        clear hK
        (try simp only [Act.put, List.setIfInBounds_toArray, List.set_cons_zero, List.set_cons_succ])
        refine wpAnyH_done (by kernel_rfl) ?_ _
        clear hHeld
        go_wp2_with fail
        go_meet
        exact ⟨k, B5, B6, aC, aO, cC, cO, _, rfl, rfl, rfl, HMb.out.1, HMb.out.2.1, HMb.out.2.2, HXb.out⟩
  case rest =>
    obtain ⟨k, B5, B6, aC, aO, cC, cO, X, hX, rfl, rfl, hmd, hb5, hb6, hoX⟩ := hcut
    subst hX
    have hk0 := hmd.le
    obtain ⟨q0, q1, q2, q3, q4, q5⟩ := blk_six hb6.1
    have fz : X.frozen? ⟨B6, 2, none⟩ = false := fz_blk hb6.1 2
    have lq : B6 < X.heap.size := (Array.getElem?_eq_some_iff.1 hb6.1).1
    have HQ : Hid (Made X L n0 k aC aO cC cO ∧ Blk w2 X B5 31 #[.slice aC k cC, .slice aO (k + 1) cO] ∧ Blk w2 X B6 35 #[.int .i64 (W1 : Int), .int .i64 (T1 : Int), .int .u8 (M1 : Int), .int .i64 (hy : Int), .int .i64 (pr : Int), .float .f64 lo] ∧ Only (fun _ => False) w2 X) := ⟨hmd, hb5, hb6, hoX⟩
    clear hmd hb5 hb6 hoX
    go_upto_region 3 with fail
    obtain ⟨Y, hY⟩ : ∃ Y, Y = X.setCell ⟨B6, 2, none⟩ (.int .u8 0) := ⟨_, rfl⟩
    rw [← hY]
    have e1 : Y = X.setRow B6 #[.int .i64 (W1 : Int), .int .i64 (T1 : Int), .int .u8 0, .int .i64 (hy : Int), .int .i64 (pr : Int), .float .f64 lo] := by rw [hY, setCell_eq_setRow _ _ _ _ _ _ _ HQ.out.2.2.1.1]; rfl
    have HY : Hid (Made Y L n0 k aC aO cC cO ∧ Blk w2 Y B5 31 #[.slice aC k cC, .slice aO (k + 1) cO] ∧ Blk w2 Y B6 35 #[.int .i64 (W1 : Int), .int .i64 (T1 : Int), .int .u8 0, .int .i64 (hy : Int), .int .i64 (pr : Int), .float .f64 lo] ∧ Only (fun _ => False) w2 Y) := by
      rw [e1]
      exact ⟨HQ.out.1.store HQ.out.2.2.1.1 (by decide) (by decide) _, HQ.out.2.1.far HQ.out.2.2.1 (by decide) _, HQ.out.2.2.1.put _, HQ.out.2.2.2.setRowNew HQ.out.2.2.1.2 _⟩
    clear hY e1 q0 q1 q2 q3 q4 q5 fz lq HQ
    obtain ⟨C, hC⟩ : ∃ x, x = Pa.cts (L.take k) 0 := ⟨_, rfl⟩
    obtain ⟨O, hO⟩ : ∃ x, x = Pa.ops L k ++ [2] := ⟨_, rfl⟩
    have HPv : Hid (∀ W', Only (fun _ => False) Y W' → Pv W' C O k (k + 1) aC aO cC cO) := fun W' ho => by
      rw [hC, hO]
      exact (HY.out.1.keep ho).pv (by omega) HN.out
    have HST : Hid (∀ W', Made W' L n0 k aC aO cC cO → Pv W' C O k (k + 1) aC aO cC cO) := fun W' hm => by
      rw [hC, hO]
      exact hm.pv (by omega) HN.out
    have HOK : Hid (Lv.Opk O k) := by rw [hO]; exact opk_pa L k
    have HCT : Hid (Lv.Ctg C ∧ k = C.length ∧ ∀ z ∈ C, ∃ b ∈ L0, z.len = 1 + b.len % 4 ∧ z.cells = ((b.cells % 3 : Nat) : Int)) := by
      refine ⟨by rw [hC]; exact Lv.ctg_pa _, (HPv.out Y (Only.refl _ _)).hn, fun z hz => ?_⟩
      rw [hC] at hz
      obtain ⟨b, hb, h1, h2⟩ := Pa.cts_of _ _ z hz
      exact ⟨b, HLL.out b (List.mem_of_mem_take hb), h1, h2⟩
    clear hC hO
    obtain ⟨A, hA⟩ : ∃ x, x = Lv.fof C O T1 W1 (It.parts O (k + 1)) (It.parts O (k + 1)).length := ⟨_, rfl⟩
    obtain ⟨nA, hnA⟩ : ∃ x, x = A.length := ⟨_, rfl⟩
    have HCH : Hid (Lv.Chn 0 k A ∧ nA = A.length ∧ ∀ l ∈ A, Lv.Lnk C T1 l) := ⟨by rw [hA]; exact Lv.all_chn HOK.out, hnA, by rw [hA]; exact Lv.fof_lnk (HPv.out Y (Only.refl _ _)).oO T1 W1 _ _⟩
    have HBR : Hid (∀ W', Only (fun _ => False) Y W' → Calls Try.prog 16 #[.agg #[.slice aC k cC, .slice aO (k + 1) cO], .agg #[.int .i64 (W1 : Int), .int .i64 (T1 : Int), .int .u8 0, .int .i64 (hy : Int), .int .i64 (pr : Int), .float .f64 lo]] W' fun e w' => ∃ (a : Option Addr) (c : Nat), e = .returned (.tuple #[.slice a nA c, .bool false]) ∧ w'.ownsRow W'.heap.size 43 4 (.slice a nA c) nA (lnC A) ∧ Only (fun _ => False) W' w') := fun W' ho => by
      refine (refBreakF_any C O k (k + 1) aC aO cC cO W1 T1 hy pr lo W' (HPv.out W' ho) rfl (by omega) (by omega) ht0 (by omega)).mono ?_
      rintro e w' ⟨n, a, c, hn, he, hown, ho'⟩
      rw [← hA] at hn he hown
      have e2 : n = nA := hn.trans hnA.symm
      subst e2
      exact ⟨a, c, he, hown, ho'⟩
    have hnAk : nA ≤ k := by have := HCH.out.1.len; have := HCH.out.2.1; omega
    clear hA hnA
    have HS : Hid (∀ W', Only (fun _ => False) Y W' → ((W'.cell? ⟨B5, 0, none⟩ = some (.slice aC k cC) ∧ W'.cell? ⟨B5, 1, none⟩ = some (.slice aO (k + 1) cO)) ∧ (W'.cell? ⟨B6, 0, none⟩ = some (.int .i64 (W1 : Int)) ∧ W'.cell? ⟨B6, 1, none⟩ = some (.int .i64 (T1 : Int)) ∧ W'.cell? ⟨B6, 2, none⟩ = some (.int .u8 0) ∧ W'.cell? ⟨B6, 3, none⟩ = some (.int .i64 (hy : Int)) ∧ W'.cell? ⟨B6, 4, none⟩ = some (.int .i64 (pr : Int)) ∧ W'.cell? ⟨B6, 5, none⟩ = some (.float .f64 lo))) ∧ B5 < W'.heap.size ∧ B6 < W'.heap.size ∧ Only (fun _ => False) w W') := fun W' ho => by
      have e5 := blk_keep ho HY.out.2.1.1
      have e6 := blk_keep ho HY.out.2.2.1.1
      exact ⟨⟨⟨(blk_two e5).1, (blk_two e5).2.1⟩, blk_six e6⟩, (blk_two e5).2.2, (Array.getElem?_eq_some_iff.1 e6).1, HW2.out.trans (HY.out.2.2.2.trans ho)⟩
    obtain ⟨⟨⟨r0, r1⟩, k0, k1, k2, k3, k4, k5⟩, l5, l6, -⟩ := HS.out Y (Only.refl _ _)
    go_wp2_with fail
    refine Calls.mono (HBR.out _ (Only.refl _ _)) ?_
    rintro e Z ⟨aA, cA, rfl, hownA, hoZ⟩
    have HZ : Hid (Z.ownsRow Y.heap.size 43 4 (.slice aA nA cA) nA (lnC A) ∧ Only (fun _ => False) Y Z) := ⟨hownA, hoZ⟩
    clear hownA hoZ r0 r1 k0 k1 k2 k3 k4 k5 l5 l6
    obtain ⟨⟨⟨r0, r1⟩, k0, k1, k2, k3, k4, k5⟩, l5, l6, -⟩ := HS.out Z HZ.out.2
    have HB4 : Hid (∀ W', Only (fun _ => False) Z W' → W'.heap[B4]? = some (.cells #[.slice none 0 0, .slice none 0 0] 31 (0, 0)) ∧ W'.heap[B7]? = some (.cells #[.int .i64 0, .int .i64 0, .int .u8 0, .int .i64 0, .int .i64 0, .float .f64 0] 35 (0, 0))) := fun W' ho => ⟨blk_keep (HY.out.2.2.2.trans (HZ.out.2.trans ho)) H0.out.2.1, blk_keep (HY.out.2.2.2.trans (HZ.out.2.trans ho)) H0.out.2.2.1⟩
    have HN5 : Hid (B5 ≠ B4 ∧ B6 ≠ B4 ∧ B5 ≠ B7 ∧ B6 ≠ B7 ∧ B4 ≠ B7) := by
      have h5' := HY.out.2.1.2
      have h6' := HY.out.2.2.1.2
      have q4 : B4 < w2.heap.size := (Array.getElem?_eq_some_iff.1 H0.out.2.1).1
      have q7 : B7 < w2.heap.size := (Array.getElem?_eq_some_iff.1 H0.out.2.2.1).1
      exact ⟨fun e => by omega, fun e => by omega, fun e => by omega, fun e => by omega, H0.out.2.2.2.2.2.2⟩
    go_wp2_with fail
    clear r0 r1 k0 k1 k2 k3 k4 k5 l5 l6
    go_loopg [12, 34] k (fun gh v12 v34 wr => ∃ (i s : Nat) (a : Option Addr) (cc : Nat) (V : World), V = wr ∧ gh = k - i ∧ i ≤ k ∧ v12 = .slice a s cc ∧ v34 = .int .i64 (i : Int) ∧ s = (Dw.byt C i).length ∧ V.ownsRow Z.heap.size 5 1 (.slice a s cc) s (u8s (Dw.byt C i)) ∧ Only (fun g => Z.heap.size ≤ g) Z V)
    case atStart => exact ⟨0, 0, none, 0, _, rfl, rfl, Nat.zero_le _, rfl, rfl, rfl, own_nilY _ _, Only.refl _ _⟩
    case round =>
      obtain ⟨i, s, a, cc, V, hV, rfl, hi, rfl, rfl, hs, hownV, hoV⟩ := hrel
      subst hV
      have HG : Hid (V.ownsRow Z.heap.size 5 1 (.slice a s cc) s (u8s (Dw.byt C i)) ∧ Only (fun g => Z.heap.size ≤ g) Z V ∧ Only (fun _ => False) Z V ∧ s = (Dw.byt C i).length ∧ Z.heap.size ≤ V.heap.size) := ⟨hownV, hoV, hoV.old (fun g hg => Or.inl hg), hs, hoV.size⟩
      have hsl : s ≤ 4 * i := by rw [hs]; exact Dw.byt_few (Dw.of_len HCT.out.2.2) i (by rw [← HCT.out.2.1]; exact hi)
      clear hownV hoV hs
      by_cases hlt : i < k
      · have u1 : (i : Int) < (k : Int) := by omega
        have hPw := HPv.out V (HZ.out.2.trans HG.out.2.2.1)
        obtain ⟨z, hz⟩ : ∃ z, C[i]? = some z := ⟨_, List.getElem?_eq_getElem (by rw [← HCT.out.2.1]; exact hlt)⟩
        obtain ⟨xp, xl, xc, xk, rfl, hxc, hxk⟩ := hPw.ok.nat hz
        have hl4 : xl ≤ 4 := (Dw.of_len HCT.out.2.2) _ (List.mem_of_getElem? hz)
        have HA : Hid (Sp.at' C i = ⟨xp, xl, (xc : Int), xk⟩) := at_some hz
        obtain ⟨gC, oC, eC, hg, c0, c1, c2, c3⟩ := hPw.vC.cluster (k := i) hz
        simp only at c0 c1 c2 c3
        subst eC
        clear hPw hz
        go_upto_region 8 with fail
        obtain ⟨B9, w4, hw4, hB9, H4, l9⟩ := box4 V (.int .i64 (xp : Int)) (.int .i64 (xl : Int)) (.int .i64 (xc : Int)) (.int .u8 (xk : Int)) 53
        rw [hw4, hB9]
        clear hw4 hB9 l9 c0 c1 c2 c3 hg
        obtain ⟨x0, x1, x2, x3⟩ := blk_four H4.out.1
        have l9 : B9 < w4.heap.size := (Array.getElem?_eq_some_iff.1 H4.out.1).1
        have HO4 : Hid (w4.ownsRow Z.heap.size 5 1 (.slice a s cc) s (u8s (Dw.byt C i)) ∧ Only (fun g => Z.heap.size ≤ g) Z w4 ∧ Z.heap.size ≤ w4.heap.size) := ⟨own_only HG.out.1 H4.out.2.1 (fun _ _ h => h), HG.out.2.1.trans (H4.out.2.1.mono (fun _ h => h.elim)), Nat.le_trans HG.out.2.2.2.2 H4.out.2.1.size⟩
        go_wp2_with fail
        clear x0 x1 x2 x3 l9
        go_loopg [12, 41] xl (fun gh v12 v41 wr => ∃ (q s2 : Nat) (a7 : Option Addr) (c7 : Nat) (X : World), X = wr ∧ gh = xl - q ∧ q ≤ xl ∧ v12 = .slice a7 s2 c7 ∧ v41 = .int .i64 (q : Int) ∧ s2 = s + q ∧ X.ownsRow Z.heap.size 5 1 (.slice a7 s2 c7) s2 (u8s (Dw.byt C i ++ Dw.cb i q)) ∧ Only (fun g => Z.heap.size ≤ g) Z X)
        case atStart => exact ⟨0, s, _, _, _, rfl, rfl, Nat.zero_le _, rfl, rfl, rfl, by show World.ownsRow _ _ _ _ _ _ (u8s (Dw.byt C i ++ [])); rw [List.append_nil]; exact HO4.out.1, HO4.out.2.1⟩
        case round =>
          obtain ⟨q, s2, a7, c7, X, hX, rfl, hq, rfl, rfl, hs2, hownX, hoX⟩ := hrel
          subst hX
          have HX0 : Hid (X.ownsRow Z.heap.size 5 1 (.slice a7 s2 c7) s2 (u8s (Dw.byt C i ++ Dw.cb i q)) ∧ Only (fun g => Z.heap.size ≤ g) Z X ∧ s2 = s + q) := ⟨hownX, hoX, hs2⟩
          clear hownX hoX
          by_cases hlk : q < xl
          · have v1 : (q : Int) < (xl : Int) := by omega
            obtain ⟨s3, hs3⟩ : ∃ s3, s2 + 1 = s3 := ⟨_, rfl⟩
            have hs3l : s3 ≤ 1000000 := by omega
            obtain ⟨d, hd⟩ : ∃ d, d = i + q := ⟨_, rfl⟩
            have m1 : IntKind.i64.wrap ((i : Int) + (q : Int)) = (d : Int) := by rw [IntKind.wrap_i64]; omega
            obtain ⟨r, hr⟩ : ∃ r, r = d % 26 := ⟨_, rfl⟩
            have hrl : r < 26 := by rw [hr]; exact Nat.mod_lt _ (by decide)
            have m2 : (d : Int).tmod 26 = (r : Int) := by rw [hr, Int.tmod_eq_emod_of_nonneg (by omega)]; omega
            have m2' : IntKind.i64.wrap (r : Int) = (r : Int) := by rw [IntKind.wrap_i64]; omega
            obtain ⟨x, hx⟩ : ∃ x, x = 97 + r := ⟨_, rfl⟩
            have m3 : IntKind.i64.wrap (97 + (r : Int)) = (x : Int) := by rw [IntKind.wrap_i64]; omega
            have m4 : IntKind.u8.wrap (x : Int) = (x : Int) := by rw [IntKind.wrap_u8]; omega
            have HS3 : Hid (s2 + 1 = s3 ∧ Dw.byt C i ++ Dw.cb i q ++ [x] = Dw.byt C i ++ Dw.cb i (q + 1)) := ⟨hs3, by rw [List.append_assoc, hx, hr, hd, ← Dw.cb_snoc]⟩
            have HX : Hid ((X.alloc (.cells #[.int .u8 (x : Int)] 5)).ownsRow Z.heap.size 5 1 (.slice a7 s2 c7) s2 (u8s (Dw.byt C i ++ Dw.cb i q)) ∧ Only (fun g => Z.heap.size ≤ g) Z (X.alloc (.cells #[.int .u8 (x : Int)] 5)) ∧ Z.heap.size ≤ (X.alloc (.cells #[.int .u8 (x : Int)] 5)).heap.size ∧ Vw (X.alloc (.cells #[.int .u8 (x : Int)] 5)) (some ⟨X.heap.size, 0, none⟩) (u8s [x])) := ⟨HX0.out.1.alloc _, HX0.out.2.1.alloc _, Nat.le_trans HX0.out.2.1.size ((Only.refl (fun _ => False) X).alloc _).size, vw_sign X x x rfl⟩
            clear hs2 hs3 hd hr hx
            go_wp2_with (at_builtin; (refine wpList_appY rfl _ _ rfl Z.heap.size HX.out.2.2.1 a7 s2 c7 (Dw.byt C i ++ Dw.cb i q) rfl HX.out.1 (some ⟨X.heap.size, 0, none⟩) 1 1 [x] rfl rfl HX.out.2.2.2 s3 HS3.out.1 hs3l ?_; intro a5 c5 w5 hown5 ho5; have H5 : Hid (w5.ownsRow Z.heap.size 5 1 (.slice a5 s3 c5) s3 (u8s (Dw.byt C i ++ Dw.cb i (q + 1))) ∧ Only (fun g => Z.heap.size ≤ g) Z w5) := ⟨by rw [← HS3.out.2]; exact hown5, HX.out.2.1.trans (ho5.mono (fun g hg => (own_own HX.out.1 hg).1))⟩; clear hown5 ho5))
            go_roundg (xl - (q + 1))
            case measure => omega
            case rel => exact ⟨q + 1, s3, _, _, _, rfl, rfl, by omega, rfl, by go_num, by have := HS3.out.1; have := HX0.out.2.2; omega, H5.out.1, H5.out.2⟩
          · have v1 : decide ((q : Int) < (xl : Int)) = false := decide_eq_false (by omega)
            have hkn : q = xl := by omega
            have HX1 : Hid (X.ownsRow Z.heap.size 5 1 (.slice a7 s2 c7) s2 (u8s (Dw.byt C (i + 1))) ∧ s2 = (Dw.byt C (i + 1)).length) := by
              have h := HX0.out.1
              have e : Dw.byt C (i + 1) = Dw.byt C i ++ Dw.cb i xl := by show Dw.byt C i ++ Dw.cb i (Sp.at' C i).len = _; rw [HA.out]
              rw [hkn, ← e] at h
              exact ⟨h, own_len5 h⟩
            clear hkn hs2
            go_wp2_with fail
            go_roundg (k - (i + 1))
            case measure => omega
            case rel => exact ⟨i + 1, s2, _, _, _, rfl, rfl, by omega, rfl, by go_num, HX1.out.2, HX1.out.1, HX0.out.2.1⟩
      · have u1 : decide ((i : Int) < (k : Int)) = false := decide_eq_false (by omega)
        have hik : i = k := by omega
        obtain ⟨TT, hTT⟩ : ∃ x, x = Dw.byt C k := ⟨_, rfl⟩
        have HF : Hid (V.ownsRow Z.heap.size 5 1 (.slice a s cc) s (u8s TT) ∧ TT = Dw.byt C k ∧ s = TT.length ∧ s ≤ 400) := by
          have h := HG.out.1
          rw [hik, ← hTT] at h
          exact ⟨h, hTT, own_len5 h, by omega⟩
        have hnk : ¬ i < k := hlt
        clear hik hi hTT
        have HZV : Hid (Only (fun _ => False) Z V ∧ Only (fun _ => False) Y V) := ⟨HG.out.2.2.1, HZ.out.2.trans HG.out.2.2.1⟩
        have HK : Hid (∀ W', Only (fun g => g = B4 ∨ g = B7) V W' → ((W'.cell? ⟨B5, 0, none⟩ = some (.slice aC k cC) ∧ W'.cell? ⟨B5, 1, none⟩ = some (.slice aO (k + 1) cO)) ∧ (W'.cell? ⟨B6, 0, none⟩ = some (.int .i64 (W1 : Int)) ∧ W'.cell? ⟨B6, 1, none⟩ = some (.int .i64 (T1 : Int)) ∧ W'.cell? ⟨B6, 2, none⟩ = some (.int .u8 0) ∧ W'.cell? ⟨B6, 3, none⟩ = some (.int .i64 (hy : Int)) ∧ W'.cell? ⟨B6, 4, none⟩ = some (.int .i64 (pr : Int)) ∧ W'.cell? ⟨B6, 5, none⟩ = some (.float .f64 lo)))) := fun W' ho => by
          have h := (HS.out V HZV.out.2).1
          have n5 : ¬ (B5 = B4 ∨ B5 = B7) := fun e => e.elim HN5.out.1 HN5.out.2.2.1
          have n6 : ¬ (B6 = B4 ∨ B6 = B7) := fun e => e.elim HN5.out.2.1 HN5.out.2.2.2.1
          exact ⟨⟨keepS ho h.1.1 n5, keepS ho h.1.2 n5⟩, keepS ho h.2.1 n6, keepS ho h.2.2.1 n6, keepS ho h.2.2.2.1 n6, keepS ho h.2.2.2.2.1 n6, keepS ho h.2.2.2.2.2.1 n6, keepS ho h.2.2.2.2.2.2 n6⟩
        have HD : Hid (Only (fun _ => False) V V.drew ∧ Only (fun _ => False) Z V.drew) := ⟨(Only.refl _ _).drew, HZV.out.1.drew⟩
        have hd4 := (HB4.out V.drew HD.out.2).1
        have hd7 := (HB4.out V.drew HD.out.2).2
        go_upto_region 14 with fail
        refine wp_region_held_drew (S := fun W' => ((W'.cell? ⟨B5, 0, none⟩ = some (.slice aC k cC) ∧ W'.cell? ⟨B5, 1, none⟩ = some (.slice aO (k + 1) cO)) ∧ (W'.cell? ⟨B6, 0, none⟩ = some (.int .i64 (W1 : Int)) ∧ W'.cell? ⟨B6, 1, none⟩ = some (.int .i64 (T1 : Int)) ∧ W'.cell? ⟨B6, 2, none⟩ = some (.int .u8 0) ∧ W'.cell? ⟨B6, 3, none⟩ = some (.int .i64 (hy : Int)) ∧ W'.cell? ⟨B6, 4, none⟩ = some (.int .i64 (pr : Int)) ∧ W'.cell? ⟨B6, 5, none⟩ = some (.float .f64 lo)))) (by kernel_rfl) (HK.out _ ((Only.refl _ _).drew)) (fun hHeld => ?_)
        refine wpAnyH_take (i := 0) (oi := { dst := some 55, op := _, type := _, pos := _, after := _, guard := _ }) (v := .agg #[.slice aC k cC, .slice aO (k + 1) cO]) rfl (by kernel_rfl) (by kernel_rfl) (by kernel_rfl) (fun _ _ _ h => h) (Or.inl ⟨by rfl, fun w hSw => by obtain ⟨⟨x0, x1⟩, y0, y1, y2, y3, y4, y5⟩ := hSw; first | (go_simp; done) | go_simp⟩) (by assumption) ?_
        (try simp only [Act.put, List.setIfInBounds_toArray, List.set_cons_zero, List.set_cons_succ])
        refine wpAnyH_take (i := 1) (oi := { dst := some 56, op := _, type := _, pos := _, after := _, guard := _ }) (v := .slice aA nA cA) rfl (by kernel_rfl) (by kernel_rfl) (by kernel_rfl) (fun _ _ _ h => h) (Or.inl ⟨by rfl, fun w hSw => by obtain ⟨⟨x0, x1⟩, y0, y1, y2, y3, y4, y5⟩ := hSw; first | (go_simp; done) | go_simp⟩) (by assumption) ?_
        (try simp only [Act.put, List.setIfInBounds_toArray, List.set_cons_zero, List.set_cons_succ])
        refine wpAnyH_take (i := 2) (oi := { dst := some 57, op := _, type := _, pos := _, after := _, guard := _ }) (v := .agg #[.int .i64 (W1 : Int), .int .i64 (T1 : Int), .int .u8 0, .int .i64 (hy : Int), .int .i64 (pr : Int), .float .f64 lo]) rfl (by kernel_rfl) (by kernel_rfl) (by kernel_rfl) (fun _ _ _ h => h) (Or.inl ⟨by rfl, fun w hSw => by obtain ⟨⟨x0, x1⟩, y0, y1, y2, y3, y4, y5⟩ := hSw; first | (go_simp; done) | go_simp⟩) (by assumption) ?_
        (try simp only [Act.put, List.setIfInBounds_toArray, List.set_cons_zero, List.set_cons_succ])
        refine wpAnyH_take (i := 3) (oi := { dst := some 58, op := _, type := _, pos := _, after := _, guard := _ }) (v := .slice a s cc) rfl (by kernel_rfl) (by kernel_rfl) (by kernel_rfl) (fun _ _ _ h => h) (Or.inl ⟨by rfl, fun w hSw => by obtain ⟨⟨x0, x1⟩, y0, y1, y2, y3, y4, y5⟩ := hSw; first | (go_simp; done) | go_simp⟩) (by assumption) ?_
        (try simp only [Act.put, List.setIfInBounds_toArray, List.set_cons_zero, List.set_cons_succ])
        refine wpAnyH_ready (rs := [4]) (by kernel_rfl) (by simp) ?_
        refine AllReadyH.cons rfl (fun K hK => ?_) AllReadyH.nil
        rw [if_pos (by rfl)]
        refine wp_store_row 31 _ _ rfl B4 #[.slice aC k cC, .slice aO (k + 1) cO] rfl rfl 31 _ hd4 (by kernel_rfl) rfl (two_one _ _ _ _ _ _) ?_
        obtain ⟨za, hza⟩ : ∃ Y, Y = V.drew.setRow B4 #[.slice aC k cC, .slice aO (k + 1) cO] := ⟨_, rfl⟩
        have HA1 : Hid (Only (fun g => g = B4) V za ∧ za.heap[B4]? = some (.cells #[.slice aC k cC, .slice aO (k + 1) cO] 31 (0, 0)) ∧ za.heap[B7]? = some (.cells #[.int .i64 0, .int .i64 0, .int .u8 0, .int .i64 0, .int .i64 0, .float .f64 0] 35 (0, 0))) := by
          rw [hza]
          exact ⟨((Only.refl _ _).drew).trans (Only.setRow _ _ _), setRow_heap _ _ _ _ _ _ hd4, far_blk (Only.setRow _ _ _) hd7 (fun e => HN5.out.2.2.2.2 e.symm)⟩
        have HA2 : Hid (Made za L n0 k aC aO cC cO ∧ za.ownsRow Y.heap.size 43 4 (.slice aA nA cA) nA (lnC A) ∧ za.ownsRow Z.heap.size 5 1 (.slice a s cc) s (u8s TT)) := by
          rw [hza]
          have h3 := own_only HZ.out.1 HD.out.2 (fun _ _ h => h)
          have h5 := own_only HF.out.1 HD.out.1 (fun _ _ h => h)
          exact ⟨(HY.out.1.keep (HZ.out.2.trans HD.out.2)).store hd4 (by decide) (by decide) _, own_stay h3 (Only.setRow _ _ _) (fun g hg he => own_ne h3 hd4 (by decide) (by rw [← he]; exact hg)), own_stay h5 (Only.setRow _ _ _) (fun g hg he => own_ne h5 hd4 (by decide) (by rw [← he]; exact hg))⟩
        rw [← hza]
        clear hza hd4 hd7
        refine hK.out _ _ (HK.out _ (HA1.out.1.mono (fun _ h => Or.inl h))) (fun hHeld => ?_)
        clear hK
        (try simp only [Act.put, List.setIfInBounds_toArray, List.set_cons_zero, List.set_cons_succ])
        refine wpAnyH_take (i := 5) (oi := { dst := some 5, op := _, type := _, pos := _, after := _, guard := _ }) (v := .slice aA nA cA) rfl (by kernel_rfl) (by kernel_rfl) (by kernel_rfl) (fun _ _ _ h => h) (Or.inl ⟨by rfl, fun w hSw => by obtain ⟨⟨x0, x1⟩, y0, y1, y2, y3, y4, y5⟩ := hSw; first | (go_simp; done) | go_simp⟩) (by assumption) ?_
        (try simp only [Act.put, List.setIfInBounds_toArray, List.set_cons_zero, List.set_cons_succ])
        refine wpAnyH_ready (rs := [6]) (by kernel_rfl) (by simp) ?_
        refine AllReadyH.cons rfl (fun K hK => ?_) AllReadyH.nil
        rw [if_pos (by rfl)]
        refine wp_store_row 35 _ _ rfl B7 #[.int .i64 (W1 : Int), .int .i64 (T1 : Int), .int .u8 0, .int .i64 (hy : Int), .int .i64 (pr : Int), .float .f64 lo] rfl rfl 35 _ HA1.out.2.2 (by kernel_rfl) rfl (cfg_one _ _ _ _ _ _) ?_
        obtain ⟨zb, hzb⟩ : ∃ Y, Y = za.setRow B7 #[.int .i64 (W1 : Int), .int .i64 (T1 : Int), .int .u8 0, .int .i64 (hy : Int), .int .i64 (pr : Int), .float .f64 lo] := ⟨_, rfl⟩
        have HB1 : Hid (Only (fun g => g = B4 ∨ g = B7) V zb ∧ zb.heap[B4]? = some (.cells #[.slice aC k cC, .slice aO (k + 1) cO] 31 (0, 0)) ∧ zb.heap[B7]? = some (.cells #[.int .i64 (W1 : Int), .int .i64 (T1 : Int), .int .u8 0, .int .i64 (hy : Int), .int .i64 (pr : Int), .float .f64 lo] 35 (0, 0))) := by
          rw [hzb]
          exact ⟨(HA1.out.1.mono (fun _ h => Or.inl h)).trans ((Only.setRow _ _ _).mono (fun _ h => Or.inr h)), far_blk (Only.setRow _ _ _) HA1.out.2.1 HN5.out.2.2.2.2, setRow_heap _ _ _ _ _ _ HA1.out.2.2⟩
        have HB2 : Hid (Made zb L n0 k aC aO cC cO ∧ zb.ownsRow Y.heap.size 43 4 (.slice aA nA cA) nA (lnC A) ∧ zb.ownsRow Z.heap.size 5 1 (.slice a s cc) s (u8s TT)) := by
          rw [hzb]
          exact ⟨HA2.out.1.store HA1.out.2.2 (by decide) (by decide) _, own_stay HA2.out.2.1 (Only.setRow _ _ _) (fun g hg he => own_ne HA2.out.2.1 HA1.out.2.2 (by decide) (by rw [← he]; exact hg)), own_stay HA2.out.2.2 (Only.setRow _ _ _) (fun g hg he => own_ne HA2.out.2.2 HA1.out.2.2 (by decide) (by rw [← he]; exact hg))⟩
        rw [← hzb]
        clear hzb
        refine hK.out _ _ (HK.out _ HB1.out.1) (fun hHeld => ?_)
        clear hK
        (try simp only [Act.put, List.setIfInBounds_toArray, List.set_cons_zero, List.set_cons_succ])
        refine wpAnyH_take (i := 7) (oi := { dst := some 7, op := _, type := _, pos := _, after := _, guard := _ }) (v := .slice a s cc) rfl (by kernel_rfl) (by kernel_rfl) (by kernel_rfl) (fun _ _ _ h => h) (Or.inl ⟨by rfl, fun w hSw => by obtain ⟨⟨x0, x1⟩, y0, y1, y2, y3, y4, y5⟩ := hSw; first | (go_simp; done) | go_simp⟩) (by assumption) ?_
        (try simp only [Act.put, List.setIfInBounds_toArray, List.set_cons_zero, List.set_cons_succ])
        refine wpAnyH_done (by kernel_rfl) ?_ _
        clear hHeld
        go_wp2_with fail
        refine bodyPost_ret (v := .tuple #[.agg #[.slice aC k cC, .slice aO (k + 1) cO], .slice aA nA cA, .agg #[.int .i64 (W1 : Int), .int .i64 (T1 : Int), .int .u8 0, .int .i64 (hy : Int), .int .i64 (pr : Int), .float .f64 lo], .slice a s cc]) (results_cell4 rfl _ _ B4 31 #[.slice aC k cC, .slice aO (k + 1) cO] (0, 0) _ rfl HB1.out.2.1 Try.underlying31 rfl (by kernel_rfl) (.slice aA nA cA) (by rfl) B7 35 #[.int .i64 (W1 : Int), .int .i64 (T1 : Int), .int .u8 0, .int .i64 (hy : Int), .int .i64 (pr : Int), .float .f64 lo] (0, 0) _ rfl HB1.out.2.2 Try.underlying35 rfl (by kernel_rfl) (.slice a s cc) (by rfl)) rfl ⟨C, O, k, aC, aO, cC, cO, A, nA, aA, cA, W1, T1, hy, pr, lo, TT, s, a, cc, rfl, ⟨HST.out _ HB2.out.1, by omega, HCH.out.1, HCH.out.2.2, own_vw HB2.out.2.1, HCH.out.2.1, hw1, ht0, ht1⟩, ⟨⟨HF.out.2.2.1, own_vw HB2.out.2.2, own_le HB2.out.2.2, own_capm HB2.out.2.2, ?_⟩, ?_, HF.out.2.2.2, HCT.out.2.2⟩, ?_⟩
        · rw [HF.out.2.2.1, HF.out.2.1, HCT.out.2.1]
          exact Dw.byt_fit HCT.out.1
        · rw [HF.out.2.1]
          exact Dw.byt_big C k
        · have hz := (HS.out V HZV.out.2).2.2.2
          have h4 := H0.out.2.2.2
          exact (hz.mono (fun _ h => h.elim)).trans HB1.out.1 |>.old (fun g hg => Or.inl (by rcases hg with q | q <;> omega))
end Go.Proofs.Ytegoadhnilmchaa

/-
  Layer 22's Awake.
-/
namespace Go.Proofs.Ytegoadhnilmchaa
open Go.RowKit Go.Maps
set_option linter.unusedVariables false
set_option linter.unusedSimpArgs false
def L22 : List Bt := [⟨1, 0, 0, 0⟩, ⟨0, 2, 0, 0⟩, ⟨1, 0, 0, 0⟩, ⟨1, 1, 0, 0⟩]
def C22 : List Ct := Pa.cts L22 0
def O22 : List Nat := Pa.ops L22 4 ++ [2]
def T22 : List Nat := [97, 9, 98, 32]
set_option maxRecDepth 100000 in
theorem row22 : Dw.row C22 T22 4 9 0 4 2 true = [97, 32, 32, 32, 98] := by kernel_rfl
theorem st22 : stY [97, 32, 32, 32, 98] = ⟨#[97, 32, 32, 32, 98]⟩ := by decide
theorem fit22 : ∀ z ∈ C22, z.pl + z.len ≤ 4 := by decide
theorem para22 (W : World) (g : Nat) (hg : W.heap[g]? = some (.cells #[.int .u8 1, .int .u8 0, .int .u8 0, .int .u8 0, .int .u8 0, .int .u8 2, .int .u8 0, .int .u8 0, .int .u8 1, .int .u8 0, .int .u8 0, .int .u8 0, .int .u8 1, .int .u8 1, .int .u8 0, .int .u8 0] 48 (0, 0))) : Calls Try.prog 14 #[.slice (some ⟨g, 0, none⟩) 4 4] W fun e w' => ∃ aC aO cC cO, e = .returned (.agg #[.slice aC 4 cC, .slice aO 5 cO]) ∧ Pv w' C22 O22 4 5 aC aO cC cO ∧ Only (fun _ => False) W w' := by
  refine (para_pv L22 4 (some ⟨g, 0, none⟩) 4 W rfl (Or.inr ⟨_, _, rfl, fun j u hj => ?_⟩) (by decide) (by decide)).mono ?_
  · rw [Nat.zero_add, cell_blk hg, ← Array.getElem?_toList]
    exact hj
  · rintro e w' ⟨k, aC, aO, cC, cO, he, hk, hs, hP, ho⟩
    have hk2 : k = 4 := by
      rcases hs with h | h
      · exact h
      · have h1 := cts_sum (L22.take k) 0
        have h2 : (L22.take k).length ≤ 4 := by rw [List.length_take]; exact Nat.le_trans (Nat.min_le_right _ _) (Nat.le_refl 4)
        omega
    subst hk2
    exact ⟨aC, aO, cC, cO, he, hP, ho⟩
theorem rowc22 (W : World) (aC aO aT : Option Addr) (cC cO : Nat) (hP : Pv W C22 O22 4 5 aC aO cC cO) (hT : Vw W aT (u8s T22)) : Calls Try.prog 11 #[.slice aT 4 4, .agg #[.slice aC 4 cC, .slice aO 5 cO], .agg #[.int .i64 0, .int .i64 4, .int .i64 5, .int .u8 2], .agg #[.int .i64 9, .int .i64 4, .int .u8 0, .int .i64 0, .int .i64 0, .float .f64 0], .bool true] W fun e w' => ∃ a c, e = .returned (.slice a 5 c) ∧ Vw w' a (u8s [97, 32, 32, 32, 98]) ∧ Only (fun _ => False) W w' := by
  have h := row_any C22 O22 T22 4 5 4 4 aC aO aT cC cO 0 4 5 2 9 4 0 0 0 0 5 true W hP ⟨rfl, hT, by decide, by decide, fit22⟩ (by decide) (by decide) (by decide) (by decide) (by decide) (by decide) (by rw [row22]; rfl) (by decide)
  rw [row22] at h
  refine h.mono ?_
  rintro e w' ⟨a, c, he, ho, hw⟩
  exact ⟨a, c, he, own_vw ho, hw⟩
set_option maxRecDepth 100000 in
set_option maxHeartbeats 4000000 in
theorem awake22_any (w : World) : Calls Try.prog 7 #[] w fun e w' => e = .returned (.bool true) ∧ Only (fun _ => False) w w' := by
  have kc := kc0
  go_enter Try.func7, Try.ntmps7
  go_wp2_with fail
  obtain ⟨g, w0, hw0, hg, H0⟩ : ∃ g w0, w0 = w.alloc (.cells #[.int .u8 1, .int .u8 0, .int .u8 0, .int .u8 0, .int .u8 0, .int .u8 2, .int .u8 0, .int .u8 0, .int .u8 1, .int .u8 0, .int .u8 0, .int .u8 0, .int .u8 1, .int .u8 1, .int .u8 0, .int .u8 0] 48) ∧ g = w.heap.size ∧ Hid (w0.heap[g]? = some (.cells #[.int .u8 1, .int .u8 0, .int .u8 0, .int .u8 0, .int .u8 0, .int .u8 2, .int .u8 0, .int .u8 0, .int .u8 1, .int .u8 0, .int .u8 0, .int .u8 0, .int .u8 1, .int .u8 1, .int .u8 0, .int .u8 0] 48 (0, 0)) ∧ Only (fun _ => False) w w0) := ⟨_, _, rfl, rfl, ⟨heap_alloc_new w _, (Only.refl _ _).alloc _⟩⟩
  rw [← hw0, ← hg]
  clear hw0 hg
  refine Calls.mono (para22 _ _ H0.out.1) ?_
  rintro e w1 ⟨aC, aO, cC, cO, rfl, hP, ho1⟩
  have H1 : Hid (Pv w1 C22 O22 4 5 aC aO cC cO ∧ Only (fun _ => False) w w1) := ⟨hP, H0.out.2.trans ho1⟩
  clear hP ho1 H0
  go_upto_region 2 with fail
  obtain ⟨R, w2, hw2, hR, H2, r0, r1, lR⟩ := box2 w1 (.slice aC 4 cC) (.slice aO 5 cO) 31
  rw [hw2, hR]
  clear hw2 hR
  go_wp2_with fail
  obtain ⟨w3, hw3, H3⟩ : ∃ w3, w3 = w2.alloc (.cells #[.int .u8 97, .int .u8 9, .int .u8 98, .int .u8 32] 5 (4, 5)) ∧ Hid (Vw w3 (some ⟨w2.heap.size, 0, none⟩) (u8s T22) ∧ Only (fun _ => False) w w3 ∧ Pv w3 C22 O22 4 5 aC aO cC cO) := ⟨_, rfl, ⟨vw_blkF (xs := u8s T22) (heap_alloc_new w2 (.cells #[.int .u8 97, .int .u8 9, .int .u8 98, .int .u8 32] 5 (4, 5))), (H1.out.2.trans H2.out.2).alloc _, H1.out.1.keep (H2.out.2.alloc _)⟩⟩
  rw [← hw3]
  clear hw3 r0 r1 lR H2 H1 kc
  refine Calls.mono (rowc22 _ _ _ _ _ _ H3.out.2.2 H3.out.1) ?_
  rintro e w4 ⟨a4, c4, rfl, hV4, ho4⟩
  have H4 : Hid (Only (fun _ => False) w w4) := H3.out.2.1.trans ho4
  have cv : (convert 36 9 (.slice a4 5 c4)).run Try.prog w4 = .ok (.string ⟨#[97, 32, 32, 32, 98]⟩) w4 := by
    rw [← st22]
    exact str_any [97, 32, 32, 32, 98] 5 c4 a4 _ rfl hV4
  clear hV4 ho4 H3
  go_wp2_with fail
  go_ret
  exact ⟨rfl, H4.out⟩
end Go.Proofs.Ytegoadhnilmchaa
/-
  Lines of layer 22's lined may be drawn.
-/
namespace Go.Proofs.Ytegoadhnilmchaa
open Go.RowKit Go.Maps
set_option linter.unusedVariables false
set_option linter.unusedSimpArgs false
namespace Dw
theorem see_few (T : List Nat) (z : Ct) (n : Nat) (h : z.len ≤ 4) : (see T z n).length ≤ 4 + n := by
  unfold see
  split
  · rw [List.length_take]
    have := Nat.min_le_left z.len (T.drop z.pl).length
    omega
  · rw [List.length_replicate]
    omega
theorem pic_few (C : List Ct) (T : List Nat) (a : Nat) (n : Nat → Nat) (h : ∀ i, (Sp.at' C i).len ≤ 4) : ∀ k, (pic C T a n k).length ≤ 4 * k + Sd.sum ((List.range k).map n)
  | 0 => Nat.zero_le _
  | k + 1 => by
    have ih := pic_few C T a n h k
    have h1 := see_few T (Sp.at' C (a + k)) (n k) (h _)
    rw [List.range_succ, List.map_append, Sd.sum_append]
    show (pic C T a n k ++ see T (Sp.at' C (a + k)) (n k)).length ≤ 4 * (k + 1) + (Sd.sum ((List.range k).map n) + (n k + 0))
    rw [List.length_append]
    omega
theorem at_len {C : List Ct} (h : ∀ z ∈ C, z.len ≤ 4) (i : Nat) : (Sp.at' C i).len ≤ 4 := by
  by_cases hi : i < C.length
  · rw [at_some (List.getElem?_eq_getElem hi)]
    exact h _ (List.getElem_mem hi)
  · have e : Sp.at' C i = ⟨0, 0, 0, 0⟩ := by
      unfold Sp.at'
      rw [List.getD_eq_getElem?_getD, List.getElem?_eq_none (by omega)]
      rfl
    rw [e]
    exact Nat.zero_le _
theorem wid_few {C : List Ct} (hC : Cok C) {t W a b e : Nat} (h0 : 0 < t) (ht : t ≤ 64) (hW : W ≤ 256) (hK : Sp.tr C a (b - a) - a ≤ 100) (hg : Sp.gp C a (b - a) ≤ 4096) : Sd.sum (Sd.wid C t W a b e) ≤ 6601 := by
  have h1 := Sd.wid_fills C h0 (W := W) (a := a) (b := b) (e := e) (by omega) hg
  have h2 : Sp.wd C t a (b - a) ≤ (Sp.tr C a (b - a) - a) * (t + 2) := Sp.col_le C h0 hC.at a _
  have h3 : (Sp.tr C a (b - a) - a) * (t + 2) ≤ 100 * 66 := Nat.mul_le_mul hK (by omega)
  have h4 : Sp.wde C t a b e = Sp.wd C t a (b - a) + (if e = 3 then 1 else 0) := rfl
  have h5 : (if e = 3 then 1 else 0) ≤ 1 := by split <;> omega
  have h7 : Sp.wde C t a b e ≤ 6601 := by omega
  have h6 : (if e ≠ 2 ∧ e ≠ 4 ∧ 0 < Sp.gp C a (b - a) ∧ Sp.wde C t a b e ≤ W then W else Sp.wde C t a b e) ≤ 6601 := by split <;> omega
  rw [← h1] at h6
  omega
theorem row_few {C : List Ct} {T : List Nat} (hC : Cok C) (hl : ∀ z ∈ C, z.len ≤ 4) {t W a b e : Nat} (full : Bool) (h0 : 0 < t) (ht : t ≤ 64) (hW : W ≤ 256) (hK : Sp.tr C a (b - a) - a ≤ 100) (hg : Sp.gp C a (b - a) ≤ 4096) : (row C T t W a b e full).length ≤ 10000 := by
  have h1 := pic_few C T a (wds C t W a b e full) (at_len hl) (Sp.tr C a (b - a) - a)
  have h2 : Sd.sum ((List.range (Sp.tr C a (b - a) - a)).map (wds C t W a b e full)) ≤ 6601 := by
    cases full with
    | true => exact wid_few hC h0 ht hW hK hg
    | false =>
      have e1 : (List.range (Sp.tr C a (b - a) - a)).map (wds C t W a b e false) = Sd.wid C t W a b 2 := wdl_false C t W a b e
      rw [e1]
      exact wid_few hC h0 ht hW hK hg
  unfold row
  rw [List.length_append]
  have h3 : (if e = 3 then [45] else ([] : List Nat)).length ≤ 1 := by split <;> decide
  omega
end Dw
theorem okl_any {X : World} {C : List Ct} {O : List Nat} {k : Nat} {aC aO : Option Addr} {cC cO : Nat} {A : List Ln} {nA : Nat} {aA : Option Addr} {W t : Nat} (h : Ld X C O k aC aO cC cO A nA aA W t) {L0 : List Bt} {T : List Nat} {nT : Nat} {aT : Option Addr} {cT : Nat} (h2 : Ld2 X L0 C T nT aT cT) (full : Bool) : ∀ l ∈ A, Okl C T k t W full l ∧ (Dw.row C T t W l.a l.b l.e full).length ≤ 10000 := fun l hl => by
  obtain ⟨i, hi, e⟩ := List.mem_iff_getElem.1 hl
  have hc := h.chn.line (i := i) (l := l) (by rw [List.getElem?_eq_getElem hi, e])
  have hk := h.few
  have htr := Sp.tr_ge C l.a (l.b - l.a)
  have hg : Sp.gp C l.a (l.b - l.a) ≤ Sp.tr C l.a (l.b - l.a) - l.a := sps_le C l.a _
  have hf := Dw.row_few (T := T) (e := l.e) h.pv.ok (Dw.of_len h2.of) full h.t0 h.t1 h.w1 (a := l.a) (b := l.b) (by omega) (by omega)
  exact ⟨⟨hc.1, hc.2, (h.lnk l hl).2, by omega⟩, hf⟩
end Go.Proofs.Ytegoadhnilmchaa
