/-
  each, leading: the functions that tell states.
-/
import Derived.Test.YtelifjeppegcmaaCb
namespace Go.Proofs.Ytelifjeppegcmaa
open Go.RowKit Go.Maps
set_option linter.unusedVariables false
set_option linter.unusedSimpArgs false
/-- so many states are told. -/
def St (W0 w : World) (gb rb ab ob n base B1 pg pm K : Nat) (vL : Value) (of L : List Nat) : Prop := ∃ row at' ls vm mt, Ms w gb rb ab ob n base B1 vL row at' of ls ∧ Hm.Pt n row at' of ls (fun x => x ∈ L) ∧ Mt w pg pm gb B1 vm mt ls ∧ ls.length = K ∧ Kt rb ab pm vL W0 w
theorem Pt_congr {n : Nat} {row at' of : List Nat} {ls : List (Nat × Nat × Nat)} {T T' : Nat → Prop} (h : Hm.Pt n row at' of ls T) (e : ∀ x, T x ↔ T' x) : Hm.Pt n row at' of ls T' :=
  ⟨h.rl, h.al, h.ol, h.ra, h.ar, h.grp, fun g f t d hg => by
    obtain ⟨a, b, c, q⟩ := h.seg g f t d hg
    exact ⟨a, b, c, fun p s h1 h2 hx => ⟨(q p s h1 h2 hx).1, ((q p s h1 h2 hx).2).trans (e s)⟩⟩⟩
theorem St.from {W0 w w' : World} {gb rb ab ob n base B1 pg pm K : Nat} {vL : Value} {of L : List Nat} (h : St w w' gb rb ab ob n base B1 pg pm K vL of L) (k : Kt rb ab pm vL W0 w) : St W0 w' gb rb ab ob n base B1 pg pm K vL of L := by
  obtain ⟨row, at', ls, vm, mt, h1, h2, h3, h4, h5⟩ := h
  exact ⟨row, at', ls, vm, mt, h1, h2, h3, h4, k.trans h5⟩
theorem St.here {W0 w : World} {gb rb ab ob n base B1 pg pm K : Nat} {vL : Value} {of L : List Nat} (h : St W0 w gb rb ab ob n base B1 pg pm K vL of L) : St w w gb rb ab ob n base B1 pg pm K vL of L ∧ Kt rb ab pm vL W0 w := by
  obtain ⟨row, at', ls, vm, mt, h1, h2, h3, h4, h5⟩ := h
  exact ⟨⟨row, at', ls, vm, mt, h1, h2, h3, h4, Kt.refl _ _ _ _ _⟩, h5⟩
theorem St.alloc {W0 w : World} {gb rb ab ob n base B1 pg pm K : Nat} {vL : Value} {of L : List Nat} (h : St W0 w gb rb ab ob n base B1 pg pm K vL of L) (o : Obj) : St W0 (w.alloc o) gb rb ab ob n base B1 pg pm K vL of L := by
  obtain ⟨row, at', ls, vm, mt, h1, h2, h3, h4, h5⟩ := h
  refine ⟨row, at', ls, vm, mt, h1.alloc o, h2, ⟨?_, ?_, h3.own.alloc o, h3.b1, h3.b2, h3.pp, h3.nd, h3.mem⟩, h4, h5.alloc o⟩
  · exact (Below.heap_alloc _ _ _ (Array.getElem?_eq_some_iff.1 h3.g).1).trans h3.g
  · exact (Below.heap_alloc _ _ _ (Array.getElem?_eq_some_iff.1 h3.m).1).trans h3.m
theorem tell_St (W0 : World) (gb rb ab ob n base B1 pg pm K : Nat) (vL : Value) (of L : List Nat) (s : Nat) (w : World) (h : St W0 w gb rb ab ob n base B1 pg pm K vL of L) (hs : s < n) (hn : s ∉ L) (hLP : ∀ b, vL.ownBlock = some b → b < pm) :
    Calls Try.prog 35 #[.int .i64 (s : Int), .pointer (some ⟨pg, 0, none⟩), .pointer (some ⟨pm, 0, none⟩)] w fun e w' => e = .returned (.tuple #[]) ∧ St W0 w' gb rb ab ob n base B1 pg pm K vL of (L ++ [s]) := by
  obtain ⟨row, at', ls, vm, mt, h1, h2, h3, h4, h5⟩ := h
  refine (tell_any gb rb ab ob n base B1 pg pm K vL row at' of ls _ vm mt s w h1 h2 h3 hs hn h4 hLP).mono ?_
  rintro e w' ⟨he, row2, at2, ls2, vm2, mt2, k1, k2, k3, k4, k5⟩
  exact ⟨he, row2, at2, ls2, vm2, mt2, k1, Pt_congr k2 (fun x => by simp), k3, k4, h5.trans k5⟩
/-- numbers that stay while states are told. -/
def Rd (w : World) (B1 pm : Nat) (vL : Value) (a : Option Addr) (m : Nat) (D : List Nat) : Prop := D.length = m ∧ ∃ b off, (0 < m → a = some ⟨b, off, none⟩ ∧ b < w.heap.size ∧ B1 ≤ b ∧ b < pm ∧ vL.ownBlock ≠ some b) ∧ ∀ (j x : Nat), D[j]? = some x → w.cell? ⟨b, off + j, none⟩ = some (.int .i64 (x : Int))
theorem Kt.blk {rb ab pm : Nat} {vL : Value} {w w' : World} (h : Kt rb ab pm vL w w') {b : Nat} (hb : b < w.heap.size) (h1 : b ≠ rb) (h2 : b ≠ ab) (h3 : vL.ownBlock ≠ some b) (h4 : b < pm) : w'.heap[b]? = w.heap[b]? := by
  have := h.keep b _ (Array.getElem?_eq_getElem hb) h1 h2 h3 (by omega) (Or.inl h4)
  rw [this, Array.getElem?_eq_getElem hb]
theorem Rd.keep {w w' : World} {rb ab B1 pm : Nat} {vL : Value} {a : Option Addr} {m : Nat} {D : List Nat} (h : Rd w B1 pm vL a m D) (hk : Kt rb ab pm vL w w') (h1 : rb < B1) (h2 : ab < B1) : Rd w' B1 pm vL a m D := by
  obtain ⟨hl, b, off, k1, k2⟩ := h
  refine ⟨hl, b, off, fun hm => ?_, fun j x hj => ?_⟩
  · obtain ⟨e, e1, e2, e3, e4⟩ := k1 hm
    exact ⟨e, Nat.lt_of_lt_of_le e1 hk.size, e2, e3, e4⟩
  · obtain ⟨e, e1, e2, e3, e4⟩ := k1 (by have := (List.getElem?_eq_some_iff.1 hj).1; omega)
    have hb := hk.blk (b := b) e1 (by omega) (by omega) e4 e3
    exact (World.cell?_of_block (a := ⟨b, off + j, none⟩) hb).trans (k2 j x hj)
theorem Rd.at {w : World} {B1 pm : Nat} {vL : Value} {a : Option Addr} {m : Nat} {D : List Nat} (h : Rd w B1 pm vL a m D) {i : Nat} (hi : i < m) : ∃ b off x, a = some ⟨b, off, none⟩ ∧ b < w.heap.size ∧ D[i]? = some x ∧ w.cell? ⟨b, off + i, none⟩ = some (.int .i64 (x : Int)) := by
  obtain ⟨hl, b, off, k1, k2⟩ := h
  obtain ⟨e, e1, _⟩ := k1 (by omega)
  have hx : D[i]? = some D[i] := List.getElem?_eq_getElem (by omega)
  exact ⟨b, off, _, e, e1, hx, k2 i _ hx⟩
theorem take_next {D : List Nat} {i x : Nat} (h : D[i]? = some x) : D.take (i + 1) = D.take i ++ [x] := by
  rw [List.take_add_one, h]
  rfl
set_option maxRecDepth 100000 in
set_option maxHeartbeats 2000000 in
theorem eachFn_any (W0 : World) (gb rb ab ob n base B1 pg pm K ps : Nat) (vL : Value) (of L D : List Nat) (a : Option Addr) (m c : Nat) (w : World) (hS : St W0 w gb rb ab ob n base B1 pg pm K vL of L) (hR : Rd w B1 pm vL a m D) (hps : w.cell? ⟨ps, 0, none⟩ = some (.slice a m c)) (hm : m ≤ 100000) (hnd : (L ++ D).Nodup) (hlt : ∀ x ∈ D, x < n) (hLP : ∀ b, vL.ownBlock = some b → b < pm) (hrb : rb < B1) (hab : ab < B1) :
    Calls Try.prog 38 #[.func (.func 35) #[] #[.pointer (some ⟨pg, 0, none⟩), .pointer (some ⟨pm, 0, none⟩)], .pointer (some ⟨ps, 0, none⟩)] w fun e w' => e = .returned (.tuple #[]) ∧ St W0 w' gb rb ab ob n base B1 pg pm K vL of (L ++ D) := by
  have HS : Hid (St W0 w gb rb ab ob n base B1 pg pm K vL of L) := hS
  have HR : Hid (Rd w B1 pm vL a m D) := hR
  have HN : Hid ((L ++ D).Nodup ∧ ∀ x ∈ D, x < n) := ⟨hnd, hlt⟩
  have HLP : Hid (∀ b, vL.ownBlock = some b → b < pm) := hLP
  have lps := World.block_lt_of_cell? w _ hps
  clear hS hR hnd hlt hLP
  go_enter Try.func38, Try.ntmps38
  go_wp2_with fail
  go_loopg [7] m (fun gh v wr => ∃ (i : Nat) (W : World), W = wr ∧ gh = m - i ∧ i ≤ m ∧ v = .int .i64 (i : Int) ∧ St w W gb rb ab ob n base B1 pg pm K vL of (L ++ D.take i))
  case atStart => exact ⟨0, _, rfl, rfl, Nat.zero_le _, rfl, by rw [List.take_zero, List.append_nil]; exact HS.out.here.1⟩
  case round =>
    obtain ⟨i, W, hW, rfl, hi, rfl, hs⟩ := hrel
    subst hW
    have HSW : Hid (St w W gb rb ab ob n base B1 pg pm K vL of (L ++ D.take i)) := hs
    clear hs
    by_cases hlt : i < m
    · have t1 : (i : Int) < (m : Int) := by omega
      obtain ⟨b, off, x, rfl, hb, hx, cx⟩ := (HR.out.keep HSW.out.here.2 hrb hab).at hlt
      have HX : Hid (D[i]? = some x) := hx
      clear hx
      have HC : Hid (Calls Try.prog 35 #[.int .i64 (x : Int), .pointer (some ⟨pg, 0, none⟩), .pointer (some ⟨pm, 0, none⟩)] W fun e w' => e = .returned (.tuple #[]) ∧ St w w' gb rb ab ob n base B1 pg pm K vL of (L ++ D.take (i + 1))) := by
        have := tell_St w gb rb ab ob n base B1 pg pm K vL of (L ++ D.take i) x W HSW.out (HN.out.2 x (List.mem_of_getElem? HX.out)) (fun hmem => by
          have h2 := HN.out.1
          have e : L ++ D = (L ++ D.take i) ++ D.drop i := by rw [List.append_assoc, List.take_append_drop]
          rw [e] at h2
          have hd : x ∈ D.drop i := List.mem_of_getElem? (i := 0) (by rw [List.getElem?_drop]; exact HX.out)
          exact (List.nodup_append.1 h2).2.2 x hmem x hd rfl) HLP.out
        rw [List.append_assoc, ← take_next HX.out] at this
        exact this
      go_wp2_with (first | (go_at_call 35; refine Calls.mono HC.out ?_; rintro e w2 ⟨rfl, hs2⟩; have HS2 : Hid (St w w2 gb rb ab ob n base B1 pg pm K vL of (L ++ D.take (i + 1))) := hs2; clear hs2))
      go_roundg (m - (i + 1))
      case measure => omega
      case rel => exact ⟨i + 1, _, rfl, rfl, by omega, by go_num, HS2.out⟩
    · have t2 : decide ((i : Int) < (m : Int)) = false := decide_eq_false (by omega)
      go_wp2_with fail
      go_end0
      refine ⟨rfl, ?_⟩
      have := HSW.out.from HS.out.here.2
      rw [List.take_of_length_le (by have := HR.out.1; omega)] at this
      exact this
set_option maxRecDepth 100000 in
theorem each_any (a : Option Addr) (m c : Nat) (w : World) : Calls Try.prog 26 #[.slice a m c] w fun e w' => e = .returned (.func (.func 38) #[] #[.pointer (some ⟨w.heap.size, 0, none⟩)]) ∧ w' = w.alloc (.cells #[.slice a m c] 23) := by
  go_enter Try.func26, Try.ntmps26
  go_wp2_with fail
  go_ret
  exact ⟨rfl, rfl⟩
set_option maxRecDepth 100000 in
theorem leading_any (a b : Option Addr) (m c m' c' : Nat) (w : World) : Calls Try.prog 30 #[.slice a m c, .slice b m' c'] w fun e w' => e = .returned (.func (.func 39) #[] #[.pointer (some ⟨w.heap.size + 1, 0, none⟩), .pointer (some ⟨w.heap.size, 0, none⟩)]) ∧ w' = (w.alloc (.cells #[.slice a m c] 25)).alloc (.cells #[.slice b m' c'] 23) := by
  go_enter Try.func30, Try.ntmps30
  go_wp2_with fail
  go_ret
  exact ⟨rfl, rfl⟩
/-- lists of numbers, one a state, that stay while states are told. -/
def Bk (w : World) (B1 pm n : Nat) (vL : Value) (a : Option Addr) (bk : Nat → List Nat) : Prop := ∃ bb off, a = some ⟨bb, off, none⟩ ∧ bb < w.heap.size ∧ B1 ≤ bb ∧ bb < pm ∧ vL.ownBlock ≠ some bb ∧ ∀ z, z < n → ∃ a' m c, w.cell? ⟨bb, off + z, none⟩ = some (.slice a' m c) ∧ Rd w B1 pm vL a' m (bk z) ∧ m ≤ 100000
theorem Bk.keep {w w' : World} {rb ab B1 pm n : Nat} {vL : Value} {a : Option Addr} {bk : Nat → List Nat} (h : Bk w B1 pm n vL a bk) (hk : Kt rb ab pm vL w w') (h1 : rb < B1) (h2 : ab < B1) : Bk w' B1 pm n vL a bk := by
  obtain ⟨bb, off, e, e1, e2, e3, e4, e5⟩ := h
  refine ⟨bb, off, e, Nat.lt_of_lt_of_le e1 hk.size, e2, e3, e4, fun z hz => ?_⟩
  obtain ⟨a', m, c, k1, k2, k3⟩ := e5 z hz
  have hb := hk.blk (b := bb) e1 (by omega) (by omega) e4 e3
  exact ⟨a', m, c, (World.cell?_of_block (a := ⟨bb, off + z, none⟩) hb).trans k1, k2.keep hk h1 h2, k3⟩
set_option maxRecDepth 100000 in
set_option maxHeartbeats 4000000 in
theorem leadFn_any (W0 : World) (gb rb ab ob n base B1 pg pm K pgo pba : Nat) (vL : Value) (of L G : List Nat) (bk : Nat → List Nat) (a ag : Option Addr) (m c mg cg : Nat) (w : World) (hS : St W0 w gb rb ab ob n base B1 pg pm K vL of L) (hR : Rd w B1 pm vL ag mg G) (hB : Bk w B1 pm n vL a bk) (hpg : w.cell? ⟨pgo, 0, none⟩ = some (.slice ag mg cg)) (hpb : w.cell? ⟨pba, 0, none⟩ = some (.slice a m c)) (hmn : m = n) (hb1 : B1 ≤ pba) (hb2 : pba < pm) (hb3 : vL.ownBlock ≠ some pba) (hm : mg ≤ 100000) (hnd : (L ++ G.flatMap bk).Nodup) (hlt : ∀ x ∈ G.flatMap bk, x < n) (hG : ∀ x ∈ G, x < n) (hLP : ∀ b, vL.ownBlock = some b → b < pm) (hrb : rb < B1) (hab : ab < B1) (hn : n ≤ 100000) :
    Calls Try.prog 39 #[.func (.func 35) #[] #[.pointer (some ⟨pg, 0, none⟩), .pointer (some ⟨pm, 0, none⟩)], .pointer (some ⟨pgo, 0, none⟩), .pointer (some ⟨pba, 0, none⟩)] w fun e w' => e = .returned (.tuple #[]) ∧ St W0 w' gb rb ab ob n base B1 pg pm K vL of (L ++ G.flatMap bk) := by
  have HS : Hid (St W0 w gb rb ab ob n base B1 pg pm K vL of L) := hS
  have HR : Hid (Rd w B1 pm vL ag mg G) := hR
  have HB : Hid (Bk w B1 pm n vL a bk) := hB
  have HPB : Hid (w.cell? ⟨pba, 0, none⟩ = some (.slice a m c)) := hpb
  have HN : Hid ((L ++ G.flatMap bk).Nodup ∧ (∀ x ∈ G.flatMap bk, x < n) ∧ ∀ x ∈ G, x < n) := ⟨hnd, hlt, hG⟩
  have HLP : Hid (∀ b, vL.ownBlock = some b → b < pm) := hLP
  have HMN : Hid (m = n) := hmn
  have HB3 : Hid (vL.ownBlock ≠ some pba) := hb3
  have lpgo := World.block_lt_of_cell? w _ hpg
  have lpba := World.block_lt_of_cell? w _ hpb
  have hmn1 : m ≤ n := by omega
  have hmn2 : n ≤ m := by omega
  clear hS hR hB hpb hnd hlt hG hLP hmn hb3
  go_enter Try.func39, Try.ntmps39
  go_wp2_with fail
  go_loopg [8] mg (fun gh v wr => ∃ (i : Nat) (W : World), W = wr ∧ gh = mg - i ∧ i ≤ mg ∧ v = .int .i64 (i : Int) ∧ St w W gb rb ab ob n base B1 pg pm K vL of (L ++ (G.take i).flatMap bk))
  case atStart => exact ⟨0, _, rfl, rfl, Nat.zero_le _, rfl, by rw [List.take_zero]; simp; exact HS.out.here.1⟩
  case round =>
    obtain ⟨i, W, hW, rfl, hi, rfl, hs⟩ := hrel
    subst hW
    have HSW : Hid (St w W gb rb ab ob n base B1 pg pm K vL of (L ++ (G.take i).flatMap bk)) := hs
    clear hs
    by_cases hlt : i < mg
    · have t1 : (i : Int) < (mg : Int) := by omega
      obtain ⟨b, off, x, rfl, hb, hx, cx⟩ := (HR.out.keep HSW.out.here.2 hrb hab).at hlt
      have HX : Hid (G[i]? = some x) := hx
      have hxn : x < n := HN.out.2.2 x (List.mem_of_getElem? hx)
      have hxm : (x : Int) < (m : Int) := by omega
      obtain ⟨bb, boff, rfl, hbb, b2, b3, b4, b5⟩ := HB.out.keep HSW.out.here.2 hrb hab
      obtain ⟨a', m', c', k1, k2, k3⟩ := b5 x hxn
      have HR2 : Hid (Rd W B1 pm vL a' m' (bk x)) := k2
      have hblk := HSW.out.here.2.blk (b := pba) lpba (by omega) (by omega) HB3.out hb2
      have kpb : W.cell? ⟨pba, 0, none⟩ = some (.slice (some ⟨bb, boff, none⟩) m c) := (World.cell?_of_block (a := ⟨pba, 0, none⟩) hblk).trans HPB.out
      have lpbW : pba < W.heap.size := World.block_lt_of_cell? W _ kpb
      clear hx b5 k2 hblk
      have HNX : Hid (((L ++ (G.take i).flatMap bk) ++ bk x).Nodup ∧ (∀ y ∈ bk x, y < n) ∧ (L ++ (G.take i).flatMap bk) ++ bk x = L ++ (G.take (i + 1)).flatMap bk) := by
        have e : (L ++ (G.take i).flatMap bk) ++ bk x = L ++ (G.take (i + 1)).flatMap bk := by
          rw [take_next HX.out, List.flatMap_append]
          simp
        refine ⟨?_, fun y hy => HN.out.2.1 y (List.mem_flatMap.2 ⟨x, List.mem_of_getElem? HX.out, hy⟩), e⟩
        rw [e]
        have h2 := HN.out.1
        have e2 : L ++ G.flatMap bk = (L ++ (G.take (i + 1)).flatMap bk) ++ (G.drop (i + 1)).flatMap bk := by
          rw [List.append_assoc, ← List.flatMap_append, List.take_append_drop]
        rw [e2] at h2
        exact (List.nodup_append.1 h2).1
      have HC : Hid (Calls Try.prog 38 #[.func (.func 35) #[] #[.pointer (some ⟨pg, 0, none⟩), .pointer (some ⟨pm, 0, none⟩)], .pointer (some ⟨W.heap.size, 0, none⟩)] (W.alloc (.cells #[.slice a' m' c'] 23)) fun e w' => e = .returned (.tuple #[]) ∧ St w w' gb rb ab ob n base B1 pg pm K vL of (L ++ (G.take (i + 1)).flatMap bk)) := by
        have := eachFn_any w gb rb ab ob n base B1 pg pm K W.heap.size vL of (L ++ (G.take i).flatMap bk) (bk x) a' m' c' (W.alloc (.cells #[.slice a' m' c'] 23)) (HSW.out.alloc _) (HR2.out.keep (Kt.of ((Only.refl (fun _ => False) W).alloc _) (fun _ _ h => h.elim)) hrb hab) (cell_blk (heap_alloc_new W _)) k3 HNX.out.1 HNX.out.2.1 HLP.out hrb hab
        rw [HNX.out.2.2] at this
        exact this
      go_wp2_with (first | (go_at_call 26; refine Calls.mono (each_any a' m' c' W) ?_; rintro e w1 ⟨rfl, rfl⟩) | (go_at_call 38; refine Calls.mono HC.out ?_; rintro e w2 ⟨rfl, hs2⟩; have HS2 : Hid (St w w2 gb rb ab ob n base B1 pg pm K vL of (L ++ (G.take (i + 1)).flatMap bk)) := hs2; clear hs2))
      go_roundg (mg - (i + 1))
      case measure => omega
      case rel => exact ⟨i + 1, _, rfl, rfl, by omega, by go_num, HS2.out⟩
    · have t2 : decide ((i : Int) < (mg : Int)) = false := decide_eq_false (by omega)
      go_wp2_with fail
      go_end0
      refine ⟨rfl, ?_⟩
      have := HSW.out.from HS.out.here.2
      rw [List.take_of_length_le (by have := HR.out.1; omega)] at this
      exact this
end Go.Proofs.Ytelifjeppegcmaa
