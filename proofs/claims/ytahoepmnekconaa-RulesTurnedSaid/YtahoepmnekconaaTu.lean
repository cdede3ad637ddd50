/-
  RulesTurned: its walk.
-/
import Derived.Test.YtahoepmnekconaaV1x
import Derived.Deep.RegionLawGrows
namespace Go.Proofs.Ytahoepmnekconaa
open Go.RowKit Go.Maps
set_option linter.unusedVariables false
set_option linter.unusedSimpArgs false
/-- a slice of numbers holds these. -/
def Iw (w : World) (a : Option Addr) (n : Nat) (L : List Int) : Prop := L.length = n ∧ ∃ b off, (0 < n → a = some ⟨b, off, none⟩ ∧ b < w.heap.size) ∧ ∀ (j : Nat) (x : Int), L[j]? = some x → w.cell? ⟨b, off + j, none⟩ = some (.int .i64 x)
theorem Iw.keep {w w' : World} {a : Option Addr} {n : Nat} {L : List Int} (h : Iw w a n L) (ho : Only (fun _ => False) w w') : Iw w' a n L := by
  obtain ⟨hl, b, off, h1, h2⟩ := h
  refine ⟨hl, b, off, fun h0 => ⟨(h1 h0).1, Nat.lt_of_lt_of_le (h1 h0).2 ho.size⟩, fun j x hj => ?_⟩
  have h0 : 0 < n := by have := (List.getElem?_eq_some_iff.1 hj).1; omega
  exact (World.cell?_of_block (a := ⟨b, off + j, none⟩) (ho.block b (h1 h0).2 (fun h => h))).trans (h2 j x hj)
/-- a block holds these bytes, and no string shares them. -/
def Bl (w : World) (g : Nat) (l : List UInt8) : Prop := ∃ cur lo hi, w.heap[g]? = some (.cells cur 5 (lo, hi)) ∧ (∀ j, j < l.length → ¬ (lo ≤ j ∧ j < hi)) ∧ ∀ (j : Nat) (x : UInt8), l[j]? = some x → cur[j]? = some (.int .u8 (x.toNat : Int))
theorem Bl.lt {w : World} {g : Nat} {l : List UInt8} (h : Bl w g l) : g < w.heap.size := by
  obtain ⟨cur, lo, hi, h1, _⟩ := h
  exact (Array.getElem?_eq_some_iff.1 h1).1
theorem Bl.cell {w : World} {g : Nat} {l : List UInt8} (h : Bl w g l) {j : Nat} {x : UInt8} (hj : l[j]? = some x) : w.cell? ⟨g, j, none⟩ = some (.int .u8 (x.toNat : Int)) := by
  obtain ⟨cur, lo, hi, h1, h2, h3⟩ := h
  unfold World.cell?
  simp only [h1]
  exact h3 j x hj
theorem Bl.free {w : World} {g : Nat} {l : List UInt8} (h : Bl w g l) {j : Nat} (hj : j < l.length) : w.frozen? ⟨g, j, none⟩ = false := by
  obtain ⟨cur, lo, hi, h1, h2, h3⟩ := h
  unfold World.frozen?
  simp only [h1]
  have := h2 j hj
  simp only [Bool.and_eq_false_iff, decide_eq_false_iff_not]
  omega
theorem Bl.set {w : World} {g : Nat} {l : List UInt8} (h : Bl w g l) {k : Nat} (hk : k < l.length) (x : UInt8) : Bl (w.setCell ⟨g, k, none⟩ (.int .u8 (x.toNat : Int))) g (l.set k x) := by
  obtain ⟨cur, lo, hi, h1, h2, h3⟩ := h
  have hkc : k < cur.size := (Array.getElem?_eq_some_iff.1 (h3 k _ (List.getElem?_eq_getElem hk))).1
  refine ⟨cur.setIfInBounds k (.int .u8 (x.toNat : Int)), lo, hi, ?_, fun j hj => h2 j (by simpa using hj), fun j y hj => ?_⟩
  · exact heap_setCell_at h1 _
  · by_cases e : j = k
    · subst e
      rw [List.getElem?_set_self (by omega)] at hj
      injection hj with hj
      subst hj
      rw [Array.getElem?_setIfInBounds_self_of_lt hkc]
    · rw [List.getElem?_set_ne (fun h => e h.symm)] at hj
      rw [Array.getElem?_setIfInBounds_ne (fun h => e h.symm)]
      exact h3 j y hj
theorem Bl.back {w : World} {g : Nat} {l : List UInt8} (h : Bl w g l) (cap : Nat) : (convert 24 9 (.slice (some ⟨g, 0, none⟩) l.length cap)).run Try.prog w = .ok (.string ⟨l.toArray⟩) w :=
  run_convert_bytes_back (P := Try.prog) w 24 9 5 ⟨g, 0, none⟩ cap l Try.underlying24 Try.underlying5 Try.underlying9 (fun j hj => by
    rw [Addr.add_mid, Nat.zero_add]
    exact h.cell (List.getElem?_eq_getElem hj))
theorem Bl.made (w : World) (S : ByteArray) (cp : Nat) (hi : Nat) : Bl (w.drew.alloc (.cells (bytesRow S cp) 5 ((bytesRow S cp).size, hi))) w.heap.size S.data.toList := by
  refine ⟨bytesRow S cp, (bytesRow S cp).size, hi, ?_, fun j hj => ?_, fun j x hj => ?_⟩
  · show (w.heap.push _)[w.heap.size]? = _
    simp
  · have hj' : j < S.data.size := by simpa using hj
    have := (Array.getElem?_eq_some_iff.1 (bytesRow_at S cp j hj')).1
    omega
  · have hj' : j < S.data.size := by have := (List.getElem?_eq_some_iff.1 hj).1; simpa using this
    have h2 := bytesRow_at S cp j hj'
    have h3 : S.data[j] = x := by
      rw [List.getElem?_eq_getElem (by simpa using hj')] at hj
      injection hj
    rw [h3] at h2
    exact h2
theorem Bl.row {w : World} {base g cap : Nat} {l : List UInt8} (h : w.ownsRow base 5 1 (.slice (some ⟨g, 0, none⟩) l.length cap) l.length (l.map (fun b => Value.int .u8 (b.toNat : Int)))) (h0 : 0 < l.length) : Bl w g l := by
  obtain ⟨_, ⟨hv, _⟩ | ⟨g', cap', cur, hv, h1, h2, h3, h4, h5, h6⟩⟩ := h
  · cases hv
  · injection hv with hv1 hv2 hv3
    injection hv1 with hv1
    injection hv1 with hv1
    subst hv1
    refine ⟨cur, 0, 0, h2, fun j _ => by omega, fun j x hj => ?_⟩
    have hjl := (List.getElem?_eq_some_iff.1 hj).1
    have h7 : (cur.toList.take (l.length * 1))[j]? = some (.int .u8 (x.toNat : Int)) := by
      rw [h6, List.getElem?_map, hj]
      rfl
    rw [List.getElem?_take_of_lt (by omega)] at h7
    simpa using h7
def cs (l : List UInt8) : List Value := l.map (fun b => Value.int .u8 (b.toNat : Int))
theorem cs_len (l : List UInt8) : (cs l).length = l.length := List.length_map _
theorem cs_one (l : List UInt8) : ∀ u ∈ cs l, u.oneCell' = true := by
  intro u hu
  obtain ⟨b, _, rfl⟩ := List.mem_map.1 hu
  rfl
theorem cs_get {l : List UInt8} {j : Nat} {u : Value} (h : (cs l)[j]? = some u) : ∃ x, l[j]? = some x ∧ u = .int .u8 (x.toNat : Int) := by
  unfold cs at h
  rw [List.getElem?_map] at h
  cases hx : l[j]? with
  | none => rw [hx] at h; cases h
  | some x => rw [hx] at h; injection h with h; exact ⟨x, rfl, h.symm⟩
theorem new_one (w : World) (v : Value) : ∀ b, (some ⟨w.heap.size, 0, none⟩ : Option Addr) = some b → ∀ (j : Nat) (u : Value), [v][j]? = some u → ((w.alloc (.cells #[v] 5)).drew).cell? (b.add j) = some u := by
  intro b hb j u hj
  injection hb with hb
  subst hb
  have hj0 := (List.getElem?_eq_some_iff.1 hj).1
  obtain rfl : j = 0 := by simpa using hj0
  injection hj with hj
  subst hj
  rw [Addr.add_mid]
  exact (cell_of_row _ _ _ _ _ _ (heap_alloc_new w _)).trans rfl
theorem cs_join (l : List UInt8) (kk : Nat) (ch : UInt8) : cs (l.take kk) ++ ([.int .u8 (ch.toNat : Int)] ++ cs (l.drop kk)) = cs (l.take kk ++ ch :: l.drop kk) := by
  unfold cs
  rw [List.map_append, List.map_cons]
  rfl
theorem join_len (l : List UInt8) (kk : Nat) (ch : UInt8) (h : kk < l.length) : (l.take kk ++ ch :: l.drop kk).length = l.length + 1 := by
  rw [List.length_append, List.length_cons, List.length_take, List.length_drop]
  omega
/-- what the bytes ahead, and those behind, are in a world that has more. -/
theorem Bl.part {w w' : World} {g : Nat} {l : List UInt8} (h : Bl w g l) (hw : w'.heap[g]? = w.heap[g]?) (kk : Nat) : (∀ b, (some ⟨g, 0, none⟩ : Option Addr) = some b → ∀ (j : Nat) (u : Value), (cs (l.take kk))[j]? = some u → w'.cell? (b.add j) = some u) ∧ (∀ (j : Nat) (u : Value), (cs (l.drop kk))[j]? = some u → w'.cell? ((⟨g, kk, none⟩ : Addr).add j) = some u) := by
  have hc : ∀ (j : Nat) (x : UInt8), l[j]? = some x → w'.cell? ⟨g, j, none⟩ = some (.int .u8 (x.toNat : Int)) := fun j x hj => (World.cell?_of_block (a := ⟨g, j, none⟩) hw).trans (h.cell hj)
  refine ⟨fun b hb j u hj => ?_, fun j u hj => ?_⟩
  · injection hb with hb
    subst hb
    obtain ⟨x, hx, rfl⟩ := cs_get hj
    rw [Addr.add_mid, Nat.zero_add]
    have hjl := (List.getElem?_eq_some_iff.1 hx).1
    rw [List.length_take] at hjl
    rw [List.getElem?_take_of_lt (by omega)] at hx
    exact hc j x hx
  · obtain ⟨x, hx, rfl⟩ := cs_get hj
    rw [Addr.add_mid]
    rw [List.getElem?_drop] at hx
    exact hc (kk + j) x hx
theorem u64_ge' (x : Int) : 0 ≤ IntKind.u64.wrap x := by
  show 0 ≤ x % _
  exact Int.emod_nonneg _ (by decide)
theorem at_some (x : Int) (n : Nat) (hn : 0 < n) : ∃ k : Nat, (IntKind.u64.wrap x).tmod (n : Int) = (k : Int) ∧ k < n := by
  have h := u64_ge' x
  rw [Int.tmod_eq_emod_of_nonneg h]
  have h1 := Int.emod_nonneg (IntKind.u64.wrap x) (by omega : (n : Int) ≠ 0)
  have h2 := Int.emod_lt_of_pos (IntKind.u64.wrap x) (by omega : (0 : Int) < (n : Int))
  exact ⟨((IntKind.u64.wrap x) % (n : Int)).toNat, by omega, by omega⟩
set_option maxRecDepth 100000 in
set_option maxHeartbeats 4000000 in
theorem turned_walk (c jo af : Nat) (aT : Option Addr) (nT cT : Nat) (T : List Nat) (aR : Option Addr) (nR cR : Nat) (rs : List Pr) (aA : Option Addr) (nA cA : Nat) (LA : List Int) (aB : Option Addr) (nB cB : Nat) (LB : List Nat) (w : World) (hc : c ≤ 255) (hjo : jo ≤ 255) (haf : af ≤ 255) (hT : Bw w aT nT T) (hR : Rw w aR nR rs) (hA : Iw w aA nA LA) (hB : Bw w aB nB LB) :
    Calls Try.prog 4 #[planV c jo af aT nT cT aR nR cR, .slice aA nA cA, .slice aB nB cB] w fun e w' => e = .returned (.bool true) ∧ Only (fun _ => False) w w' := by
  have HT : Hid (Bw w aT nT T) := hT
  have HR : Hid (Rw w aR nR rs) := hR
  have HA : Hid (Iw w aA nA LA) := hA
  have HB : Hid (Bw w aB nB LB) := hB
  clear hT hR hA hB
  unfold planV
  go_enter Try.func4, Try.ntmps4
  go_wp2_with (first | (go_at_call 9; refine (awake_any _).mono ?_; rintro e w1 ⟨rfl, ho1⟩; have P1 : Hid (Pbx w1 w.heap.size c jo af aT nT cT aR nR cR) := Pbx.keep (heap_alloc_new w _) ho1; have k0 := P1.out.c0; have k1 := P1.out.c1; have k2 := P1.out.c2; have k3 := P1.out.c3; have k4 := P1.out.c4; have HO1 : Hid (Only (fun _ => False) w w1) := ((Only.refl (fun _ => False) w).alloc _).trans ho1) | (go_at_call 11; have hcc := text_some c jo af aT nT cT T aR nR cR rs w1 hc hjo haf (HT.out.keep HO1.out) (HR.out.keep HO1.out); unfold planV at hcc; refine hcc.mono ?_; clear hcc; rintro e w2 ⟨S, rfl, hS7, hS9, ho2⟩; have hconv := run_bytes_of_string (P := Try.prog) w2 9 24 5 S Try.underlying9 Try.underlying24 Try.underlying5; generalize hcapq : grownCap w2 S.size 0 5 = cp at hconv; generalize hrow : bytesRow S cp = row at hconv; have HCP : Hid (grownCap w2 S.size 0 5 = cp) := hcapq; have HRW : Hid (bytesRow S cp = row) := hrow; clear hcapq hrow; have HO2 : Hid (Only (fun _ => False) w w2) := HO1.out.trans ho2; clear k0 k1 k2 k3 k4 ho1 ho2 P1 HO1))
  have hl0 := Bl.made w2 S cp (row.size + 1)
  rw [HRW.out] at hl0
  have hll : S.data.toList.length = S.size := by rw [Array.length_toList]; rfl
  rw [← hll] at hS7 hS9 ⊢
  have hcp : S.data.toList.length ≤ cp := by rw [← HCP.out, hll]; exact grownCap_ge _ _ _ _
  generalize S.data.toList = l0 at hl0 hll hS7 hS9 hcp ⊢
  have HL0 : Hid (Bl (w2.drew.alloc (.cells row 5 (row.size, row.size + 1))) w2.heap.size l0) := hl0
  clear hll hl0 hconv HRW HCP
  go_loopg [7, 8] 4 (fun gh b i wr => ∃ (k g cap : Nat) (l : List UInt8) (W : World), W = wr ∧ gh = 4 - k ∧ k ≤ 4 ∧ b = .slice (some ⟨g, 0, none⟩) l.length cap ∧ i = .int .i64 (k : Int) ∧ Bl W g l ∧ w.heap.size ≤ g ∧ 7 ≤ l.length ∧ l.length ≤ 9000 + k ∧ l.length ≤ cap ∧ Only (fun _ => False) w W)
  case atStart => exact ⟨0, w2.heap.size, cp, l0, _, rfl, rfl, by omega, rfl, rfl, HL0.out, HO2.out.size, hS7, by omega, hcp, HO2.out.drew.alloc _⟩
  case round =>
    clear HL0 hS7 hS9 hcp
    obtain ⟨k, g, cap, l, W, hW, rfl, hk, rfl, rfl, hBl, hg, hl7, hl9, hlc, hOr⟩ := hrel
    subst hW
    have hAl : LA.length = nA := HA.out.1
    have hBl2 : LB.length = nB := HB.out.1
    by_cases hkA : k < nA
    · have tA : (k : Int) < (nA : Int) := by omega
      by_cases hkB : k < nB
      · have tB : (k : Int) < (nB : Int) := by omega
        by_cases hk4 : k < 4
        · have t4 : (k : Int) < 4 := by omega
          obtain ⟨_, bA, oA, hA1, hA2⟩ := HA.out.keep hOr
          obtain ⟨rfl, hbA⟩ := hA1 (by omega)
          obtain ⟨x, hx⟩ : ∃ x, LA[k]? = some x := ⟨_, List.getElem?_eq_getElem (by omega)⟩
          have hxc := hA2 k x hx
          obtain ⟨_, bB, oB, hB1, hB2⟩ := HB.out.keep hOr
          obtain ⟨rfl, hbB⟩ := hB1 (by omega)
          obtain ⟨y, hy⟩ : ∃ y, LB[k]? = some y := ⟨_, List.getElem?_eq_getElem (by omega)⟩
          obtain ⟨hy255, hyc⟩ := hB2 k y hy
          obtain ⟨kk, hkk, hkl⟩ := at_some x l.length (by omega)
          have hl0 : ¬ (l.length : Int) = 0 := by omega
          have hglt := hBl.lt
          have hfree := hBl.free hkl
          have hcellk := hBl.cell (List.getElem?_eq_getElem hkl)
          have HBl : Hid (Bl W g l) := hBl
          have HO_ : Hid (w.heap.size ≤ W.heap.size) := hOr.size
          clear hA1 hA2 hB1 hB2 hx hy hAl hBl2 hBl
          by_cases hy2 : y % 2 = 0
          · have hym : (y : Int).tmod 2 = 0 := by rw [Int.tmod_eq_emod_of_nonneg (by omega)]; omega
            have hset := HBl.out.set hkl ((⟨#[40, 41, 91, 93, 94, 124, 42, 43, 63, 46, 59, 47, 61, 65, 66, 32, 35, 10, 33]⟩ : ByteArray)[y / 2 % 19]'(by show y / 2 % 19 < 19; omega))
            have HS : Hid (Bl (W.setCell ⟨g, kk, none⟩ (.int .u8 (((⟨#[40, 41, 91, 93, 94, 124, 42, 43, 63, 46, 59, 47, 61, 65, 66, 32, 35, 10, 33]⟩ : ByteArray)[y / 2 % 19]'(by show y / 2 % 19 < 19; omega)).toNat : Int))) g (l.set kk ((⟨#[40, 41, 91, 93, 94, 124, 42, 43, 63, 46, 59, 47, 61, 65, 66, 32, 35, 10, 33]⟩ : ByteArray)[y / 2 % 19]'(by show y / 2 % 19 < 19; omega)))) := hset
            clear hset
            go_wp2_with fail
            go_roundg (4 - (k + 1))
            case measure => omega
            case rel => exact ⟨k + 1, g, cap, _, _, rfl, rfl, by omega, by rw [List.length_set], by go_num, HS.out, hg, by rw [List.length_set]; exact hl7, by rw [List.length_set]; omega, by rw [List.length_set]; exact hlc, hOr.setNew hg _⟩
          · have hym : (y : Int).tmod 2 = 1 := by rw [Int.tmod_eq_emod_of_nonneg (by omega)]; omega
            obtain ⟨ch, hch⟩ : ∃ ch : UInt8, ((⟨#[40, 41, 91, 93, 94, 124, 42, 43, 63, 46, 59, 47, 61, 65, 66, 32, 35, 10, 33]⟩ : ByteArray)[y / 2 % 19]'(by show y / 2 % 19 < 19; omega)) = ch := ⟨_, rfl⟩
            obtain ⟨i0, hi, hz0, hz1, hz2⟩ := info_parts info5
            go_wp2_with fail
            refine wp_region_held_drew (S := fun _ => True) (by kernel_rfl) trivial (fun hHeld => ?_)
            refine wpAnyH_take (i := 0) (v := Value.slice (some ⟨g, 0, none⟩) l.length cap) rfl (by kernel_rfl) (by kernel_rfl) (by kernel_rfl) (fun _ _ _ h => h) (Or.inl ⟨by rfl, fun w hSw => by first | (go_simp; done) | go_simp⟩) (by assumption) ?_
            simp only [Act.put, List.setIfInBounds_toArray, List.set_cons_zero, List.set_cons_succ]
            refine wpAnyH_take (i := 1) (v := Value.int .i64 (kk : Int)) rfl (by kernel_rfl) (by kernel_rfl) (by kernel_rfl) (fun _ _ _ h => h) (Or.inl ⟨by rfl, fun w hSw => by first | (go_simp; done) | go_simp⟩) (by assumption) ?_
            simp only [Act.put, List.setIfInBounds_toArray, List.set_cons_zero, List.set_cons_succ]
            refine wpAnyH_take (i := 2) (v := Value.int .i64 (kk : Int)) rfl (by kernel_rfl) (by kernel_rfl) (by kernel_rfl) (fun _ _ _ h => h) (Or.inl ⟨by rfl, fun w hSw => by first | (go_simp; done) | go_simp⟩) (by assumption) ?_
            simp only [Act.put, List.setIfInBounds_toArray, List.set_cons_zero, List.set_cons_succ]
            refine wpAnyH_take (i := 3) (v := Value.slice (some ⟨g, 0, none⟩) kk kk) rfl (by kernel_rfl) (by kernel_rfl) (by kernel_rfl) (fun _ _ _ h => h) (Or.inl ⟨by rfl, fun w hSw => by go_simp; intro h; omega⟩) (by assumption) ?_
            simp only [Act.put, List.setIfInBounds_toArray, List.set_cons_zero, List.set_cons_succ]
            refine wpAnyH_take (i := 4) (v := Value.int .u8 (ch.toNat : Int)) rfl (by kernel_rfl) (by kernel_rfl) (by kernel_rfl) (fun _ _ _ h => h) (Or.inl ⟨by rfl, fun w hSw => by first | (go_simp; done) | go_simp⟩) (by assumption) ?_
            simp only [Act.put, List.setIfInBounds_toArray, List.set_cons_zero, List.set_cons_succ]
            refine wpAnyH_take (i := 6) (v := Value.slice (some ⟨g, 0, none⟩) l.length cap) rfl (by kernel_rfl) (by kernel_rfl) (by kernel_rfl) (fun _ _ _ h => h) (Or.inl ⟨by rfl, fun w hSw => by first | (go_simp; done) | go_simp⟩) (by assumption) ?_
            simp only [Act.put, List.setIfInBounds_toArray, List.set_cons_zero, List.set_cons_succ]
            refine wpAnyH_take (i := 7) (v := Value.int .i64 (kk : Int)) rfl (by kernel_rfl) (by kernel_rfl) (by kernel_rfl) (fun _ _ _ h => h) (Or.inl ⟨by rfl, fun w hSw => by first | (go_simp; done) | go_simp⟩) (by assumption) ?_
            simp only [Act.put, List.setIfInBounds_toArray, List.set_cons_zero, List.set_cons_succ]
            refine wpAnyH_take (i := 8) (v := Value.slice (some ⟨g, kk, none⟩) (l.length - kk) (cap - kk)) rfl (by kernel_rfl) (by kernel_rfl) (by kernel_rfl) (fun _ _ _ h => h) (Or.inl ⟨by rfl, fun w hSw => by go_simp; rw [if_pos (by omega), if_neg (by omega)]⟩) (by assumption) ?_
            simp only [Act.put, List.setIfInBounds_toArray, List.set_cons_zero, List.set_cons_succ]
            refine wpAnyH_ready (rs := [5]) (by kernel_rfl) (by simp) ?_
            refine AllReadyH.cons rfl (fun K hK => ?_) AllReadyH.nil
            rw [if_pos (by rfl)]
            go_simp
            refine hK.out _ _ trivial (fun hHeld2 => ?_)
            clear hK
            have OW : Only (fun _ => False) W (W.alloc (.cells #[.int .u8 (ch.toNat : Int)] 5)).drew := ((Only.refl (fun _ => False) W).alloc _).drew
            have hW1 : (W.alloc (.cells #[.int .u8 (ch.toNat : Int)] 5)).drew.heap[g]? = W.heap[g]? := OW.block g hglt (fun h => h)
            refine wpAnyH_ready (rs := [9]) (by kernel_rfl) (by simp) ?_
            refine AllReadyH.cons rfl (fun K hK => ?_) AllReadyH.nil
            refine step_append_grows rfl (.tmp 65) (.tmp 68) 24 rfl 5 i0 (.int .u8 0) 1 1 Try.underlying24 hi hz0 hz1 hz2 rfl (by decide) (some ⟨W.heap.size, 0, none⟩) 1 1 [.int .u8 (ch.toNat : Int)] (by simp [Act.eval]) (fun h => by cases h) rfl (new_one W _) ⟨g, kk, none⟩ (l.length - kk) (cap - kk) (cs (l.drop kk)) (by simp [Act.eval]) (by rw [cs_len, List.length_drop]; omega) (HBl.out.part hW1 kk).2 (cs_one _) (by omega) (by unfold maxLen; omega) (by omega) ?_
            intro v1 w5 hown1 hgrow1
            obtain ⟨g1, cap1, rfl, _, hgl1, _, hcell1⟩ := row_form hown1 (by omega)
            have O1 : Only (fun _ => False) W w5 := OW.grown hgrow1 (fun k h => by cases h)
            have hW5 : w5.heap[g]? = W.heap[g]? := O1.block g hglt (fun h => h)
            refine hK.out _ _ trivial (fun hHeld3 => ?_)
            clear hK hown1 hgrow1
            try simp only [Act.put, List.setIfInBounds_toArray, List.set_cons_zero, List.set_cons_succ]
            refine wpAnyH_ready (rs := [10]) (by kernel_rfl) (by simp) ?_
            refine AllReadyH.cons rfl (fun K hK => ?_) AllReadyH.nil
            refine step_append_grows rfl (.tmp 63) (.tmp 69) 24 rfl 5 i0 (.int .u8 0) 1 1 Try.underlying24 hi hz0 hz1 hz2 rfl (by decide) (some ⟨g, 0, none⟩) kk kk (cs (l.take kk)) (by simp [Act.eval]) (fun h => by cases h) (by rw [cs_len, List.length_take]; omega) (HBl.out.part hW5 kk).1 ⟨g1, 0, none⟩ (1 + (l.length - kk)) cap1 ([.int .u8 (ch.toNat : Int)] ++ cs (l.drop kk)) (by simp [Act.eval]) (by rw [List.length_append, cs_len, List.length_drop]; simp) (fun j u hj => by
              have hjl := (List.getElem?_eq_some_iff.1 hj).1
              rw [List.length_append, cs_len, List.length_drop] at hjl
              simp only [List.length_cons, List.length_nil] at hjl
              rw [Addr.add_mid, Nat.zero_add]
              exact (hcell1 j (by omega)).trans hj) (fun u hu => by
              rcases List.mem_append.1 hu with hu | hu
              · simp at hu; subst hu; rfl
              · exact cs_one _ u hu) (by omega) (by unfold maxLen; omega) (by omega) ?_
            intro v2 w6 hown2 hgrow2
            obtain ⟨g2, cap2, rfl, hgb2, hgl2, hgc2, _⟩ := row_form hown2 (by omega)
            have O2 : Only (fun _ => False) W w6 := O1.grown hgrow2 (fun k h => by cases h)
            have hle : kk + (1 + (l.length - kk)) = (l.take kk ++ ch :: l.drop kk).length := by rw [join_len l kk ch hkl]; omega
            rw [cs_join, hle] at hown2
            have HB6 : Hid (Bl w6 g2 (l.take kk ++ ch :: l.drop kk)) := Bl.row hown2 (by rw [join_len l kk ch hkl]; omega)
            have HO6 : Hid (Only (fun _ => False) w w6) := hOr.trans O2
            have hg2 : w.heap.size ≤ g2 := Nat.le_trans HO_.out (Nat.le_trans O1.size hgb2)
            have HLE : Hid (kk + (1 + (l.length - kk)) = (l.take kk ++ ch :: l.drop kk).length) := hle
            refine hK.out _ _ trivial (fun hHeld4 => ?_)
            clear hK hown2 hgrow2 hle O2 O1 OW hW1 hW5 hcell1
            try simp only [Act.put, List.setIfInBounds_toArray, List.set_cons_zero, List.set_cons_succ]
            refine wpAnyH_ready (rs := [11]) (by kernel_rfl) (by simp) ?_
            refine AllReadyH.cons rfl (fun K hK => ?_) AllReadyH.nil
            rw [if_pos (by rfl)]
            go_simp
            refine hK.out _ _ trivial (fun hHeld5 => ?_)
            clear hK
            refine wpAnyH_done (by kernel_rfl) ?_ _
            clear hHeld hHeld2 hHeld3 hHeld4 hHeld5
            go_wp2_with fail
            go_roundg (4 - (k + 1))
            case measure => omega
            case rel => exact ⟨k + 1, g2, cap2, l.take kk ++ ch :: l.drop kk, _, rfl, rfl, by omega, by rw [HLE.out], by go_num, HB6.out, hg2, by rw [join_len l kk ch hkl]; omega, by rw [join_len l kk ch hkl]; omega, by rw [← HLE.out]; exact hgc2, HO6.out⟩
        · have t4 : ¬ (k : Int) < 4 := by omega
          have hback := hBl.back cap
          clear hAl hBl2
          go_wp2_with (go_at_call 10; refine (told_any _ _).mono ?_; rintro e w3 ⟨rfl, ho3⟩)
          go_ret
          exact ⟨rfl, hOr.trans ho3⟩
      · have tB : ¬ (k : Int) < (nB : Int) := by omega
        have hback := hBl.back cap
        clear hAl hBl2
        go_wp2_with (go_at_call 10; refine (told_any _ _).mono ?_; rintro e w3 ⟨rfl, ho3⟩)
        go_ret
        exact ⟨rfl, hOr.trans ho3⟩
    · have tA : ¬ (k : Int) < (nA : Int) := by omega
      have hback := hBl.back cap
      clear hAl hBl2
      go_wp2_with (go_at_call 10; refine (told_any _ _).mono ?_; rintro e w3 ⟨rfl, ho3⟩)
      go_ret
      exact ⟨rfl, hOr.trans ho3⟩
end Go.Proofs.Ytahoepmnekconaa
