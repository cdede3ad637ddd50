/-
  written: a pattern as a text.
-/
import Derived.Test.YtjgbfpemkjpikaaDoorBk1
import Derived.Test.YtjgbfpemkjpikaaDoorR6
import Derived.Test.YtjgbfpemkjpikaaDoorAw
import Derived.Laws.Runes
namespace Go.Proofs.YtjgbfpemkjpikaaDoor
open Go.RowKit Go.Maps
set_option linter.unusedVariables false
set_option linter.unusedSimpArgs false
/-- what one step writes. -/
def stp (L M : List Nat) (i : Nat) : List Nat := mkl (M[i]?.getD 0) ++ L[i]?.toList
def pre (L M : List Nat) (i : Nat) : List Nat := (List.range i).flatMap (stp L M)
theorem pre_succ (L M : List Nat) (i : Nat) : pre L M (i + 1) = pre L M i ++ stp L M i := by
  unfold pre
  rw [List.range_succ, List.flatMap_append]
  simp
theorem rb_pre : ∀ (L M : List Nat), M.length = L.length + 1 → rb L M = pre L M M.length
  | [], [m], _ => by simp [rb, pre, stp]
  | [], [], h => by simp at h
  | [], m :: m' :: M, h => by simp at h
  | c :: L, [], h => by simp at h
  | c :: L, m :: M, h => by
    have ih := rb_pre L M (by simpa using h)
    simp only [rb]
    rw [ih]
    unfold pre
    rw [List.length_cons, List.range_succ_eq_map, List.flatMap_cons, List.flatMap_map]
    have e : (fun a => stp (c :: L) (m :: M) a.succ) = stp L M := by funext a; simp [stp]
    rw [e]
    simp [stp]
theorem u8_nat {n : Nat} (h : n < 256) : (UInt8.ofNat n).toNat = n := by
  rw [UInt8.toNat_ofNat']
  omega
theorem enc_tl {c : Nat} (h : Right c) : tl (Utf8.encode (c : Int)) = pb c ∧ (Utf8.encode (c : Int)).size ≤ 4 := by
  unfold Right at h
  have hv : Utf8.valid (c : Int) = true := by
    unfold Utf8.valid
    simp
    omega
  unfold Utf8.encode pb
  simp only [hv, if_true, Int.toNat_natCast]
  by_cases c1 : c < 128
  · rw [if_pos c1, if_pos c1]
    exact ⟨by simp [tl, u8_nat (by omega : c < 256)], by simp [ByteArray.size]⟩
  · rw [if_neg c1, if_neg c1]
    by_cases c2 : c < 2048
    · rw [if_pos c2, if_pos c2]
      exact ⟨by simp only [tl, List.map_cons, List.map_nil, u8_nat (by omega : 192 + c / 64 < 256), u8_nat (by omega : 128 + c % 64 < 256)], by simp [ByteArray.size]⟩
    · rw [if_neg c2, if_neg c2]
      by_cases c3 : c < 65536
      · rw [if_pos c3, if_pos c3]
        exact ⟨by simp only [tl, List.map_cons, List.map_nil, u8_nat (by omega : 224 + c / 4096 < 256), u8_nat (by omega : 128 + c / 64 % 64 < 256), u8_nat (by omega : 128 + c % 64 < 256)], by simp [ByteArray.size]⟩
      · rw [if_neg c3, if_neg c3]
        exact ⟨by simp only [tl, List.map_cons, List.map_nil, u8_nat (by omega : 240 + c / 262144 < 256), u8_nat (by omega : 128 + c / 4096 % 64 < 256), u8_nat (by omega : 128 + c / 64 % 64 < 256), u8_nat (by omega : 128 + c % 64 < 256)], by simp [ByteArray.size]⟩
theorem conv_one (W : World) (x : Nat) (p : Int) (hp : p = x) (hx : x < 256) : ∃ X : ByteArray, tl X = [x] ∧ X.size = 1 ∧ (convert 35 9 (.slice (some ⟨W.heap.size, 0, none⟩) 1 1)).run Tryd.prog (W.alloc (.cells #[.int .u8 p] 5)) = .ok (.string X) (W.alloc (.cells #[.int .u8 p] 5)) := by
  subst hp
  refine ⟨strOfNums [(x : Int)], ?_, rfl, ?_⟩
  · simp [tl, strOfNums]
    exact hx
  · refine run_convert_bytes_arg (P := Tryd.prog) _ 35 5 Tryd.underlying35 Tryd.underlying5 W.heap.size 0 1 1 _ rfl (fun i hi => ?_) 9 Tryd.underlying9
    obtain rfl : i = 0 := by omega
    exact cell_blk (heap_alloc_new W _)
theorem pb_small {c : Nat} (h : c < 128) : pb c = [c] := by unfold pb; rw [if_pos h]
theorem txt_one {c : Nat} (h : c < 128) : txt [c] = [c] := by simp [txt, pb_small h]
theorem Bl.at {w : World} {a : Option Addr} {n : Nat} {L : List Nat} (h : Bl w a n L) {i : Nat} (hi : i < n) : ∃ b off x, a = some ⟨b, off, none⟩ ∧ b < w.heap.size ∧ L[i]? = some x ∧ w.cell? ⟨b, off + i, none⟩ = some (.int .u8 (x : Int)) := by
  obtain ⟨hl, b, off, h1, h2⟩ := h
  obtain ⟨rfl, hb⟩ := h1 (by omega)
  have hx : L[i]? = some L[i] := List.getElem?_eq_getElem (by omega)
  exact ⟨b, off, _, rfl, hb, hx, h2 i _ hx⟩
set_option maxRecDepth 100000 in
set_option maxHeartbeats 4000000 in
theorem written_F (p : Pt.Pat) (nL nV : Nat) (hnL : nL = p.letters.length) (hnV : nV = p.values.length) (hF : Fit false p) (aL : Option Addr) (cL : Nat) (aV : Option Addr) (cV : Nat) (w : World) (hL : Nl w aL nL p.letters) (hV : Bl w aV nV p.values) (h24 : nL ≤ 24) : Calls Tryd.prog 11 #[.agg #[.slice aL nL cL, .slice aV nV cV], .bool false] w fun e w' => ∃ s, e = .returned (.string s) ∧ tl s = txt (wr false p) ∧ s.size ≤ 5 * 25 ∧ Only (fun _ => False) w w' := by
  have hlen : nV = nL + 1 := by rw [hnL, hnV]; exact hF.len
  have HW : Hid (wr false p = pre p.letters (p.values.map (mv false)) nV) := by
    show wr false p = _
    unfold wr
    rw [rb_pre _ _ (by rw [List.length_map]; exact hF.len), List.length_map, hnV]
  have HF : Hid (Fit false p) := hF
  have HL : Hid (Nl w aL nL p.letters) := hL
  have HV : Hid (Bl w aV nV p.values) := hV
  have HnL : Hid (nL = p.letters.length) := hnL
  have HnV : Hid (nV = p.values.length) := hnV
  have HLN : Hid (nV = nL + 1) := hlen
  have h25 : nV ≤ 25 := by omega
  obtain ⟨M, hM⟩ : ∃ M, M = p.values.map (mv false) := ⟨_, rfl⟩
  have HM : Hid (M = p.values.map (mv false)) := hM
  rw [← hM] at HW
  clear hL hV hnL hnV hF hlen hM
  obtain ⟨W0, hW0⟩ : ∃ W0, W0 = w.alloc (.cells #[.slice aL nL cL, .slice aV nV cV] 37) := ⟨_, rfl⟩
  have HO0 : Hid (Only (fun _ => False) w W0) := by rw [hW0]; exact (Only.refl _ _).alloc _
  have HB0 : Hid (W0.heap[w.heap.size]? = some (.cells #[.slice aL nL cL, .slice aV nV cV] 37 (0, 0))) := by rw [hW0]; exact heap_alloc_new w _
  go_enter Tryd.func11, Tryd.ntmps11
  go_wp2_with fail
  rw [← hW0]
  clear hW0
  go_loopg [11, 5] nV (fun gh v v5 wr' => ∃ (i : Nat) (s : ByteArray) (W : World), W = wr' ∧ gh = nV - i ∧ i ≤ nV ∧ v = .int .i64 (i : Int) ∧ v5 = .string s ∧ tl s = txt (pre p.letters M i) ∧ s.size ≤ 5 * i ∧ Only (fun _ => False) W0 W)
  case atStart => exact ⟨0, _, _, rfl, rfl, Nat.zero_le _, rfl, rfl, rfl, by decide, Only.refl _ _⟩
  case round =>
    obtain ⟨i, s, W, hW, rfl, hi, rfl, rfl, hs, hsz, ho⟩ := hrel
    subst hW
    have HO : Hid (Only (fun _ => False) W0 W) := ho
    have HS : Hid (tl s = txt (pre p.letters M i)) := hs
    have hbl : W.heap[w.heap.size]? = some (.cells #[.slice aL nL cL, .slice aV nV cV] 37 (0, 0)) := (ho.block _ (Array.getElem?_eq_some_iff.1 HB0.out).1 (fun h => h)).trans HB0.out
    have k0 : W.cell? ⟨w.heap.size, 0, none⟩ = some (.slice aL nL cL) := cell_blk hbl
    have hwl : w.heap.size < W.heap.size := (Array.getElem?_eq_some_iff.1 hbl).1
    clear ho hs hbl
    by_cases hlt : i < nV
    · have t1 : (i : Int) < (nV : Int) := by omega
      obtain ⟨bv, ov, v, rfl, hbv, hv, cv⟩ := (HV.out.keep (HO0.out.trans HO.out)).at hlt
      have HVV : Hid (p.values[i]? = some v) := hv
      have HMI : Hid (M[i]?.getD 0 = mv false v) := by rw [HM.out, List.getElem?_map, hv]; rfl
      have hv9 : v ≤ 9 := HF.out.val v (List.mem_of_getElem? hv)
      clear hv
      have hN : Hid (nV = nL + 1) := HLN
      by_cases hv0 : v = 0
      · subst hv0
        have HMZ : Hid (mkl (M[i]?.getD 0) = []) := by show mkl _ = []; rw [HMI.out]; rfl
        by_cases hiL : i < nL
        · have t3 : (i : Int) < (nL : Int) := by omega
          obtain ⟨bl, ol, c, rfl, hbl, hc, cc0⟩ := (HL.out.keep (HO0.out.trans HO.out)).at hiL
          have HCC : Hid (p.letters[i]? = some c) := hc
          have hR : Right c := HF.out.letter c (List.mem_of_getElem? hc)
          obtain ⟨hE, hE4⟩ := enc_tl hR
          obtain ⟨E, hEE⟩ : ∃ E, Utf8.encode (c : Int) = E := ⟨_, rfl⟩
          rw [hEE] at hE hE4
          have HE : Hid (tl E = pb c) := hE
          clear hE hc hR
          go_wp2_with fail
          go_roundg (nV - (i + 1))
          case measure => omega
          case rel =>
            refine ⟨i + 1, _, _, rfl, rfl, by omega, by go_num, rfl, ?_, by simp only [ByteArray.size_append]; first | omega | (have q : (⟨#[45]⟩ : ByteArray).size = 1 := rfl; omega), HO.out⟩
            rw [pre_succ, txt_app]
            unfold stp
            rw [HMZ.out, HCC.out, txt_app]
            simp only [tl_app, HS.out, HE.out, List.append_assoc]
            simp [txt]
        · have t3 : decide ((i : Int) < (nL : Int)) = false := decide_eq_false (by omega)
          have HCC : Hid (p.letters[i]? = none) := List.getElem?_eq_none (by have := HnL.out; omega)
          go_wp2_with fail
          go_roundg (nV - (i + 1))
          case measure => omega
          case rel =>
            refine ⟨i + 1, _, _, rfl, rfl, by omega, by go_num, rfl, ?_, by (try simp only [ByteArray.size_append]); first | omega | (have q : (⟨#[45]⟩ : ByteArray).size = 1 := rfl; omega), HO.out⟩
            rw [pre_succ, txt_app]
            unfold stp
            rw [HMZ.out, HCC.out, txt_app]
            simp only [tl_app, HS.out, List.append_assoc]
            simp [txt]
      · have e1 : ¬ (v : Int) = 0 := by omega
        have e2 : ((v : Int) == 0) = false := by simpa using e1
        have e3 : ((v : Int) != 0) = true := by simpa using e1
        have HMZ : Hid (mkl (M[i]?.getD 0) = [48 + v % 10]) := by show mkl _ = _; rw [HMI.out]; unfold mv mkl; simp [hv0]
        obtain ⟨X, hX, hX1, hcv⟩ := conv_one W (48 + v % 10) (48 + (v : Int) % 10) (by omega) (by omega)
        have HX : Hid (tl X = [48 + v % 10]) := hX
        clear hX
        by_cases hiL : i < nL
        · have t3 : (i : Int) < (nL : Int) := by omega
          obtain ⟨bl, ol, c, rfl, hbl, hc, cc0⟩ := (HL.out.keep (HO0.out.trans HO.out)).at hiL
          have HCC : Hid (p.letters[i]? = some c) := hc
          have hR : Right c := HF.out.letter c (List.mem_of_getElem? hc)
          obtain ⟨hE, hE4⟩ := enc_tl hR
          obtain ⟨E, hEE⟩ : ∃ E, Utf8.encode (c : Int) = E := ⟨_, rfl⟩
          rw [hEE] at hE hE4
          have HE : Hid (tl E = pb c) := hE
          clear hE hc hR
          go_wp2_with fail
          go_roundg (nV - (i + 1))
          case measure => omega
          case rel =>
            refine ⟨i + 1, _, _, rfl, rfl, by omega, by go_num, rfl, ?_, by simp only [ByteArray.size_append]; first | omega | (have q : (⟨#[45]⟩ : ByteArray).size = 1 := rfl; omega), HO.out.alloc _⟩
            rw [pre_succ, txt_app]
            unfold stp
            rw [HMZ.out, HCC.out, txt_app]
            simp only [tl_app, HS.out, HE.out, HX.out, List.append_assoc]
            rw [txt_one (by omega)]; simp [txt]
        · have t3 : decide ((i : Int) < (nL : Int)) = false := decide_eq_false (by omega)
          have HCC : Hid (p.letters[i]? = none) := List.getElem?_eq_none (by have := HnL.out; omega)
          go_wp2_with fail
          go_roundg (nV - (i + 1))
          case measure => omega
          case rel =>
            refine ⟨i + 1, _, _, rfl, rfl, by omega, by go_num, rfl, ?_, by (try simp only [ByteArray.size_append]); first | omega | (have q : (⟨#[45]⟩ : ByteArray).size = 1 := rfl; omega), HO.out.alloc _⟩
            rw [pre_succ, txt_app]
            unfold stp
            rw [HMZ.out, HCC.out, txt_app]
            simp only [tl_app, HS.out, HX.out, List.append_assoc]
            rw [txt_one (by omega)]; simp [txt]
    · have t2 : decide ((i : Int) < (nV : Int)) = false := decide_eq_false (by omega)
      obtain rfl : nV = i := by omega
      go_wp2_with fail
      go_ret
      exact ⟨_, rfl, by rw [HS.out, HW.out], by omega, HO0.out.trans HO.out⟩
set_option maxRecDepth 100000 in
set_option maxHeartbeats 4000000 in
theorem written_T (p : Pt.Pat) (nL nV : Nat) (hnL : nL = p.letters.length) (hnV : nV = p.values.length) (hF : Fit true p) (aL : Option Addr) (cL : Nat) (aV : Option Addr) (cV : Nat) (w : World) (hL : Nl w aL nL p.letters) (hV : Bl w aV nV p.values) (h24 : nL ≤ 24) : Calls Tryd.prog 11 #[.agg #[.slice aL nL cL, .slice aV nV cV], .bool true] w fun e w' => ∃ s, e = .returned (.string s) ∧ tl s = txt (wr true p) ∧ s.size ≤ 5 * 25 ∧ Only (fun _ => False) w w' := by
  have hlen : nV = nL + 1 := by rw [hnL, hnV]; exact hF.len
  have HW : Hid (wr true p = pre p.letters (p.values.map (mv true)) nV) := by
    show wr true p = _
    unfold wr
    rw [rb_pre _ _ (by rw [List.length_map]; exact hF.len), List.length_map, hnV]
  have HF : Hid (Fit true p) := hF
  have HL : Hid (Nl w aL nL p.letters) := hL
  have HV : Hid (Bl w aV nV p.values) := hV
  have HnL : Hid (nL = p.letters.length) := hnL
  have HnV : Hid (nV = p.values.length) := hnV
  have HLN : Hid (nV = nL + 1) := hlen
  have h25 : nV ≤ 25 := by omega
  obtain ⟨M, hM⟩ : ∃ M, M = p.values.map (mv true) := ⟨_, rfl⟩
  have HM : Hid (M = p.values.map (mv true)) := hM
  rw [← hM] at HW
  clear hL hV hnL hnV hF hlen hM
  obtain ⟨W0, hW0⟩ : ∃ W0, W0 = w.alloc (.cells #[.slice aL nL cL, .slice aV nV cV] 37) := ⟨_, rfl⟩
  have HO0 : Hid (Only (fun _ => False) w W0) := by rw [hW0]; exact (Only.refl _ _).alloc _
  have HB0 : Hid (W0.heap[w.heap.size]? = some (.cells #[.slice aL nL cL, .slice aV nV cV] 37 (0, 0))) := by rw [hW0]; exact heap_alloc_new w _
  go_enter Tryd.func11, Tryd.ntmps11
  go_wp2_with fail
  rw [← hW0]
  clear hW0
  go_loopg [11, 5] nV (fun gh v v5 wr' => ∃ (i : Nat) (s : ByteArray) (W : World), W = wr' ∧ gh = nV - i ∧ i ≤ nV ∧ v = .int .i64 (i : Int) ∧ v5 = .string s ∧ tl s = txt (pre p.letters M i) ∧ s.size ≤ 5 * i ∧ Only (fun _ => False) W0 W)
  case atStart => exact ⟨0, _, _, rfl, rfl, Nat.zero_le _, rfl, rfl, rfl, by decide, Only.refl _ _⟩
  case round =>
    obtain ⟨i, s, W, hW, rfl, hi, rfl, rfl, hs, hsz, ho⟩ := hrel
    subst hW
    have HO : Hid (Only (fun _ => False) W0 W) := ho
    have HS : Hid (tl s = txt (pre p.letters M i)) := hs
    have hbl : W.heap[w.heap.size]? = some (.cells #[.slice aL nL cL, .slice aV nV cV] 37 (0, 0)) := (ho.block _ (Array.getElem?_eq_some_iff.1 HB0.out).1 (fun h => h)).trans HB0.out
    have k0 : W.cell? ⟨w.heap.size, 0, none⟩ = some (.slice aL nL cL) := cell_blk hbl
    have hwl : w.heap.size < W.heap.size := (Array.getElem?_eq_some_iff.1 hbl).1
    clear ho hs hbl
    by_cases hlt : i < nV
    · have t1 : (i : Int) < (nV : Int) := by omega
      obtain ⟨bv, ov, v, rfl, hbv, hv, cv⟩ := (HV.out.keep (HO0.out.trans HO.out)).at hlt
      have HVV : Hid (p.values[i]? = some v) := hv
      have HMI : Hid (M[i]?.getD 0 = mv true v) := by rw [HM.out, List.getElem?_map, hv]; rfl
      have hv9 : v ≤ 9 := HF.out.val v (List.mem_of_getElem? hv)
      clear hv
      have hN : Hid (nV = nL + 1) := HLN
      by_cases hv0 : v = 0
      · subst hv0
        have HMZ : Hid (mkl (M[i]?.getD 0) = []) := by show mkl _ = []; rw [HMI.out]; rfl
        by_cases hiL : i < nL
        · have t3 : (i : Int) < (nL : Int) := by omega
          obtain ⟨bl, ol, c, rfl, hbl, hc, cc0⟩ := (HL.out.keep (HO0.out.trans HO.out)).at hiL
          have HCC : Hid (p.letters[i]? = some c) := hc
          have hR : Right c := HF.out.letter c (List.mem_of_getElem? hc)
          obtain ⟨hE, hE4⟩ := enc_tl hR
          obtain ⟨E, hEE⟩ : ∃ E, Utf8.encode (c : Int) = E := ⟨_, rfl⟩
          rw [hEE] at hE hE4
          have HE : Hid (tl E = pb c) := hE
          clear hE hc hR
          go_wp2_with fail
          go_roundg (nV - (i + 1))
          case measure => omega
          case rel =>
            refine ⟨i + 1, _, _, rfl, rfl, by omega, by go_num, rfl, ?_, by simp only [ByteArray.size_append]; first | omega | (have q : (⟨#[45]⟩ : ByteArray).size = 1 := rfl; omega), HO.out⟩
            rw [pre_succ, txt_app]
            unfold stp
            rw [HMZ.out, HCC.out, txt_app]
            simp only [tl_app, HS.out, HE.out, List.append_assoc]
            simp [txt]
        · have t3 : decide ((i : Int) < (nL : Int)) = false := decide_eq_false (by omega)
          have HCC : Hid (p.letters[i]? = none) := List.getElem?_eq_none (by have := HnL.out; omega)
          go_wp2_with fail
          go_roundg (nV - (i + 1))
          case measure => omega
          case rel =>
            refine ⟨i + 1, _, _, rfl, rfl, by omega, by go_num, rfl, ?_, by (try simp only [ByteArray.size_append]); first | omega | (have q : (⟨#[45]⟩ : ByteArray).size = 1 := rfl; omega), HO.out⟩
            rw [pre_succ, txt_app]
            unfold stp
            rw [HMZ.out, HCC.out, txt_app]
            simp only [tl_app, HS.out, List.append_assoc]
            simp [txt]
      · have e1 : ¬ (v : Int) = 0 := by omega
        have e2 : ((v : Int) == 0) = false := by simpa using e1
        have e3 : ((v : Int) != 0) = true := by simpa using e1
        have HMZ : Hid (mkl (M[i]?.getD 0) = [45]) := by show mkl _ = _; rw [HMI.out]; unfold mv mkl; simp [hv0]
        by_cases hiL : i < nL
        · have t3 : (i : Int) < (nL : Int) := by omega
          obtain ⟨bl, ol, c, rfl, hbl, hc, cc0⟩ := (HL.out.keep (HO0.out.trans HO.out)).at hiL
          have HCC : Hid (p.letters[i]? = some c) := hc
          have hR : Right c := HF.out.letter c (List.mem_of_getElem? hc)
          obtain ⟨hE, hE4⟩ := enc_tl hR
          obtain ⟨E, hEE⟩ : ∃ E, Utf8.encode (c : Int) = E := ⟨_, rfl⟩
          rw [hEE] at hE hE4
          have HE : Hid (tl E = pb c) := hE
          clear hE hc hR
          go_wp2_with fail
          go_roundg (nV - (i + 1))
          case measure => omega
          case rel =>
            refine ⟨i + 1, _, _, rfl, rfl, by omega, by go_num, rfl, ?_, by simp only [ByteArray.size_append]; first | omega | (have q : (⟨#[45]⟩ : ByteArray).size = 1 := rfl; omega), HO.out⟩
            rw [pre_succ, txt_app]
            unfold stp
            rw [HMZ.out, HCC.out, txt_app]
            simp only [tl_app, HS.out, HE.out, List.append_assoc]
            rw [txt_one (by omega)]; simp [txt, tl]
        · have t3 : decide ((i : Int) < (nL : Int)) = false := decide_eq_false (by omega)
          have HCC : Hid (p.letters[i]? = none) := List.getElem?_eq_none (by have := HnL.out; omega)
          go_wp2_with fail
          go_roundg (nV - (i + 1))
          case measure => omega
          case rel =>
            refine ⟨i + 1, _, _, rfl, rfl, by omega, by go_num, rfl, ?_, by (try simp only [ByteArray.size_append]); first | omega | (have q : (⟨#[45]⟩ : ByteArray).size = 1 := rfl; omega), HO.out⟩
            rw [pre_succ, txt_app]
            unfold stp
            rw [HMZ.out, HCC.out, txt_app]
            simp only [tl_app, HS.out, List.append_assoc]
            rw [txt_one (by omega)]; simp [txt, tl]
    · have t2 : decide ((i : Int) < (nV : Int)) = false := decide_eq_false (by omega)
      obtain rfl : nV = i := by omega
      go_wp2_with fail
      go_ret
      exact ⟨_, rfl, by rw [HS.out, HW.out], by omega, HO0.out.trans HO.out⟩
end Go.Proofs.YtjgbfpemkjpikaaDoor
