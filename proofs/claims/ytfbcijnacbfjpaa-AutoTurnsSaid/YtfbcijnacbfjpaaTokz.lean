/-
  take, took, want, isName, name of the rules' reader.
-/
import Derived.Test.YtfbcijnacbfjpaaNextz
import Derived.Maps.OwnSet
import Derived.StringKeys
import Derived.Deep.LoopGhost
import Derived.Maps.AppendAt
import Derived.Test.YtfbcijnacbfjpaaMathz
namespace Go.Proofs.Ytfbcijnacbfjpaa
open Go.RowKit
set_option linter.unusedVariables false
set_option linter.unusedSimpArgs false

/-- the reader stands ahead of these pieces. -/
def In (w : World) (rb : Nat) (S : ByteArray) (x : Rd) (ts : List Rl.Tk) : Prop := ∃ i : Nat, Rdr w rb S i x ∧ Rl.Strm S.data.toList i ts ∧ i ≤ S.size
theorem In.only {w w' : World} {rb : Nat} {S : ByteArray} {x : Rd} {ts : List Rl.Tk} {P : Nat → Prop} (h : In w rb S x ts) (ho : Only P w w') (hn : ¬ P rb) : In w' rb S x ts := by
  obtain ⟨i, h1, h2⟩ := h
  exact ⟨i, h1.only ho hn, h2⟩
theorem In.lt {w : World} {rb : Nat} {S : ByteArray} {x : Rd} {ts : List Rl.Tk} (h : In w rb S x ts) : rb < w.heap.size := by
  obtain ⟨i, h1, h2⟩ := h
  exact h1.lt
theorem In.alloc {w : World} {rb : Nat} {S : ByteArray} {x : Rd} {ts : List Rl.Tk} (h : In w rb S x ts) (o : Obj) : In (w.alloc o) rb S x ts := by
  obtain ⟨i, h1, h2⟩ := h
  exact ⟨i, h1.alloc o, h2⟩
theorem next_in (rb : Nat) (S : ByteArray) (x : Rd) (t : Rl.Tk) (ts : List Rl.Tk) (w : World) (h : In w rb S x (t :: ts)) (hS : S.size ≤ 4096) :
    Calls Try.prog 51 #[.pointer (some ⟨rb, 0, none⟩)] w fun e w' => e = nextE t ∧ Rdr w' rb S (t.at' : Int) x ∧ Rl.Strm S.data.toList t.at' (t :: ts) ∧ t.at' + t.text.length ≤ S.size ∧ Only (· = rb) w w' := by
  obtain ⟨i, h1, h2, h3⟩ := h
  refine (next_any rb S i x t ts w h1 h2 h3 hS).mono ?_
  rintro e w' ⟨h4, h5, h6⟩
  have e1 := Rl.strm_at h2
  refine ⟨h4, h5, by rw [e1]; exact Rl.strm_nx h2, ?_, h6⟩
  have := Rl.tk_end S.data.toList i (by rw [← Lib.size_eq]; exact h3)
  rw [h2.1, ← Lib.size_eq] at *
  exact this
theorem nextE_bad {t : Rl.Tk} (h : t.bad = true) : nextE t = .panicked (thr 20 t.at') := if_pos h
theorem nextE_ok {t : Rl.Tk} (h : ¬ t.bad = true) : nextE t = .returned (.agg #[.string (bs t.text), .int .i64 (t.at' : Int)]) := if_neg h
theorem bs_size (l : Rl.Str) : (bs l).size = l.length := by rw [Lib.size_eq, bs_data]
theorem bs_toList (l : Rl.Str) : (bs l).toList = l := by rw [Lib.toList_data, bs_data]

set_option maxRecDepth 100000 in
set_option maxHeartbeats 2000000 in
theorem take_any (rb : Nat) (S : ByteArray) (i : Int) (a : Nat) (s : Rl.Str) (x : Rd) (w : World) (hR : Rdr w rb S i x) (ha : a + s.length ≤ 4096) :
    Calls Try.prog 53 #[.pointer (some ⟨rb, 0, none⟩), .agg #[.string (bs s), .int .i64 (a : Int)]] w fun e w' => e = .returned (.tuple #[]) ∧ Rdr w' rb S ((a + s.length : Nat) : Int) x ∧ Only (· = rb) w w' := by
  have c1 := hR.c1
  have hf1 := hR.fz 1
  have hlt := hR.lt
  have HR : Hid (Rdr w rb S i x) := hR
  have hsz := bs_size s
  have h0 : 0 ≤ (a : Int) := by omega
  have h1 : (a : Int) + (s.length : Int) ≤ 4096 := by omega
  clear hR
  go_enter Try.func53, Try.ntmps53
  go_wp2
  go_end0
  have e1 : ((a + s.length : Nat) : Int) = (a : Int) + (s.length : Int) := by omega
  rw [e1]
  exact ⟨rfl, (HR.out.set1 _).alloc _, ((Only.refl (· = rb) w).setCell (p := ⟨rb, 1, none⟩) rfl _).alloc _⟩

set_option maxRecDepth 100000 in
set_option maxHeartbeats 2000000 in
theorem isName_any (s : Rl.Str) (a : Int) (w : World) (hs : s.length ≤ 4096) : Calls Try.prog 75 #[.agg #[.string (bs s), .int .i64 a]] w fun e w' => e = .returned (.bool (decide (0 < Rl.nml s))) ∧ Only (fun _ => False) w w' := by
  have hnl := nameLen_any (bs s)
  rw [bs_data] at hnl
  obtain ⟨n, hn⟩ : ∃ n, n = Rl.nml s := ⟨_, rfl⟩
  rw [← hn] at hnl ⊢
  have Hnl : Hid (∀ w, Calls Try.prog 68 #[.string (bs s)] w (fun e w' => e = .returned (.int .i64 (n : Int)) ∧ w' = w)) := fun w => hnl w (by rw [bs_size]; omega)
  clear hn hnl
  go_enter Try.func75, Try.ntmps75
  go_wp2_with (go_at_call 68; refine (Hnl.out _).mono ?_; rintro e w' ⟨rfl, rfl⟩)
  go_ret
  exact ⟨rfl, (Only.refl _ w).alloc _⟩

theorem next_bad (rb : Nat) (S : ByteArray) (x : Rd) (t : Rl.Tk) (ts : List Rl.Tk) (w : World) (h : In w rb S x (t :: ts)) (hS : S.size ≤ 4096) (hb : t.bad = true) :
    Calls Try.prog 51 #[.pointer (some ⟨rb, 0, none⟩)] w fun e w' => e = .panicked (thr 20 t.at') ∧ Only (· = rb) w w' := by
  refine (next_in rb S x t ts w h hS).mono ?_
  rintro e w' ⟨h4, h5, h6, h7, h8⟩
  exact ⟨h4.trans (nextE_bad hb), h8⟩
theorem next_ok (rb : Nat) (S : ByteArray) (x : Rd) (t : Rl.Tk) (ts : List Rl.Tk) (w : World) (h : In w rb S x (t :: ts)) (hS : S.size ≤ 4096) (hb : ¬ t.bad = true) :
    Calls Try.prog 51 #[.pointer (some ⟨rb, 0, none⟩)] w fun e w' => e = .returned (.agg #[.string (bs t.text), .int .i64 (t.at' : Int)]) ∧ Rdr w' rb S (t.at' : Int) x ∧ Rl.Strm S.data.toList t.at' (t :: ts) ∧ t.at' + t.text.length ≤ S.size ∧ Only (· = rb) w w' := by
  refine (next_in rb S x t ts w h hS).mono ?_
  rintro e w' ⟨h4, h5⟩
  exact ⟨h4.trans (nextE_ok hb), h5⟩
/-- a piece in a variable of its own. -/
def Pb (w : World) (b : Nat) (s : Rl.Str) (a : Nat) : Prop := w.heap[b]? = some (.cells #[.string (bs s), .int .i64 (a : Int)] 124 (0, 0))
theorem Pb.new (w : World) (s : Rl.Str) (a : Nat) : Pb (w.alloc (.cells #[.string (bs s), .int .i64 (a : Int)] 124)) w.heap.size s a := heap_alloc_new _ _
theorem Pb.zero (w : World) : Pb (w.alloc (.cells #[.string ⟨#[]⟩, .int .i64 0] 124)) w.heap.size [] 0 := heap_alloc_new _ _
theorem Pb.fz {w : World} {b : Nat} {s : Rl.Str} {a : Nat} (h : Pb w b s a) (k : Nat) : w.frozen? ⟨b, k, none⟩ = false := by simp [World.frozen?, show w.heap[b]? = _ from h]
theorem Pb.c0 {w : World} {b : Nat} {s : Rl.Str} {a : Nat} (h : Pb w b s a) : w.cell? ⟨b, 0, none⟩ = some (.string (bs s)) := (cell_of_row _ _ _ _ _ _ h).trans rfl
theorem Pb.c1 {w : World} {b : Nat} {s : Rl.Str} {a : Nat} (h : Pb w b s a) : w.cell? ⟨b, 1, none⟩ = some (.int .i64 (a : Int)) := (cell_of_row _ _ _ _ _ _ h).trans rfl
theorem Pb.lt {w : World} {b : Nat} {s : Rl.Str} {a : Nat} (h : Pb w b s a) : b < w.heap.size := (Array.getElem?_eq_some_iff.1 h).1
theorem Pb.only {w w' : World} {b : Nat} {s : Rl.Str} {a : Nat} {P : Nat → Prop} (h : Pb w b s a) (ho : Only P w w') (hn : ¬ P b) : Pb w' b s a := (ho.block b h.lt hn).trans h
theorem Pb.alloc {w : World} {b : Nat} {s : Rl.Str} {a : Nat} (h : Pb w b s a) (o : Obj) : Pb (w.alloc o) b s a := (Below.heap_alloc _ _ _ h.lt).trans h
/-- how took ends. -/
def tookP (rb : Nat) (S : ByteArray) (x : Rd) (w : World) (F : Rl.R (Bool × List Rl.Tk)) (e : Ending) (w' : World) : Prop :=
  match F with
  | .error f => e = .panicked (thr f.1 f.2) ∧ Only (· = rb) w w'
  | .ok (b, ts) => e = .returned (.bool b) ∧ In w' rb S x ts ∧ Only (· = rb) w w'

set_option maxRecDepth 100000 in
set_option maxHeartbeats 2000000 in
theorem took_any (c : UInt8) (rb : Nat) (S : ByteArray) (x : Rd) (ts : List Rl.Tk) (w : World) (h : In w rb S x ts) (hS : S.size ≤ 4096) :
    Calls Try.prog 70 #[.pointer (some ⟨rb, 0, none⟩), .string ⟨#[c]⟩] w (tookP rb S x w (Rl.took c ts)) := by
  cases ts with
  | nil => obtain ⟨i, _, h2, _⟩ := h; exact h2.elim
  | cons t ts =>
    have hlt := h.lt
    by_cases hb : t.bad = true
    · have hn := next_bad rb S x t ts w h hS hb
      have hF : Rl.took c (t :: ts) = .error (20, t.at') := by show (if _ then _ else _) = _; rw [if_pos hb]
      rw [hF]
      have HN : Hid (Calls Try.prog 51 #[.pointer (some ⟨rb, 0, none⟩)] w fun e w' => e = .panicked (thr 20 t.at') ∧ Only (· = rb) w w') := hn
      clear hF hn h
      go_enter Try.func70, Try.ntmps70
      go_wp2_with (go_at_call 51; refine HN.out.mono ?_; rintro e w1 ⟨rfl, ho1⟩)
      exact ⟨rfl, rfl, ho1⟩
    · have hn := next_ok rb S x t ts w h hS hb
      have HN : Hid (Calls Try.prog 51 #[.pointer (some ⟨rb, 0, none⟩)] w fun e w' => e = .returned (.agg #[.string (bs t.text), .int .i64 (t.at' : Int)]) ∧ Rdr w' rb S (t.at' : Int) x ∧ Rl.Strm S.data.toList t.at' (t :: ts) ∧ t.at' + t.text.length ≤ S.size ∧ Only (· = rb) w w') := hn
      have ht := bs_toList t.text
      have hc0 : (⟨#[c]⟩ : ByteArray).toList = [c] := by rw [Lib.toList_data]
      by_cases htx : t.text = [c]
      · have hF : Rl.took c (t :: ts) = .ok (true, ts) := by show (if _ then _ else _) = _; rw [if_neg hb, if_pos htx]
        rw [hF]
        have q : (t.text == [c]) = true := by rw [htx]; simp
        have hne : Hid (t.text ≠ []) := (by rw [htx]; simp : t.text ≠ [])
        clear hF hn h hb htx
        go_enter Try.func70, Try.ntmps70
        go_wp2_with (first | (go_at_call 51; refine HN.out.mono ?_; rintro e w1 ⟨rfl, hR1, hs1, he1, ho1⟩; have HS1 : Hid (Rl.Strm S.data.toList t.at' (t :: ts)) := hs1; clear hs1) | (go_at_call 53; refine (take_any rb S t.at' t.at' t.text x _ (hR1.alloc _) (by omega)).mono ?_; rintro e w2 ⟨rfl, hR2, ho2⟩))
        go_ret
        exact ⟨rfl, ⟨_, hR2, Rl.strm_tail HS1.out hne.out, he1⟩, (ho1.alloc _).trans ho2⟩
      · have hF : Rl.took c (t :: ts) = .ok (false, t :: ts) := by show (if _ then _ else _) = _; rw [if_neg hb, if_neg htx]
        rw [hF]
        have q : (t.text == [c]) = false := by simpa using htx
        clear hF hn h hb htx
        go_enter Try.func70, Try.ntmps70
        go_wp2_with (go_at_call 51; refine HN.out.mono ?_; rintro e w1 ⟨rfl, hR1, hs1, he1, ho1⟩; have HS1 : Hid (Rl.Strm S.data.toList t.at' (t :: ts)) := hs1; clear hs1)
        go_ret
        exact ⟨rfl, ⟨_, hR1.alloc _, HS1.out, by omega⟩, ho1.alloc _⟩
/-- how want ends. -/
def wantP (rb : Nat) (S : ByteArray) (x : Rd) (w : World) (F : Rl.R (List Rl.Tk)) (e : Ending) (w' : World) : Prop :=
  match F with
  | .error f => e = .panicked (thr f.1 f.2) ∧ Only (· = rb) w w'
  | .ok ts => e = .returned (.tuple #[]) ∧ In w' rb S x ts ∧ Only (· = rb) w w'
set_option maxRecDepth 100000 in
set_option maxHeartbeats 2000000 in
theorem want_any (c : UInt8) (rb : Nat) (S : ByteArray) (x : Rd) (ts : List Rl.Tk) (w : World) (h : In w rb S x ts) (hS : S.size ≤ 4096) :
    Calls Try.prog 54 #[.pointer (some ⟨rb, 0, none⟩), .string ⟨#[c]⟩] w (wantP rb S x w (Rl.want c ts)) := by
  cases ts with
  | nil => obtain ⟨i, _, h2, _⟩ := h; exact h2.elim
  | cons t ts =>
    have ht := took_any c rb S x (t :: ts) w h hS
    by_cases hb : t.bad = true
    · have hF : Rl.want c (t :: ts) = .error (20, t.at') := by show (if _ then _ else _) = _; rw [if_pos hb]
      have hF2 : Rl.took c (t :: ts) = .error (20, t.at') := by show (if _ then _ else _) = _; rw [if_pos hb]
      rw [hF]
      rw [hF2] at ht
      have HT : Hid (Calls Try.prog 70 #[.pointer (some ⟨rb, 0, none⟩), .string ⟨#[c]⟩] w (tookP rb S x w (.error (20, t.at')))) := ht
      clear hF hF2 ht h
      go_enter Try.func54, Try.ntmps54
      go_wp2_with (go_at_call 70; refine HT.out.mono ?_; rintro e w1 ⟨rfl, ho1⟩)
      exact ⟨rfl, rfl, ho1⟩
    · by_cases htx : t.text = [c]
      · have hF : Rl.want c (t :: ts) = .ok ts := by show (if _ then _ else _) = _; rw [if_neg hb, if_pos htx]
        have hF2 : Rl.took c (t :: ts) = .ok (true, ts) := by show (if _ then _ else _) = _; rw [if_neg hb, if_pos htx]
        rw [hF]
        rw [hF2] at ht
        have HT : Hid (Calls Try.prog 70 #[.pointer (some ⟨rb, 0, none⟩), .string ⟨#[c]⟩] w (tookP rb S x w (.ok (true, ts)))) := ht
        clear hF hF2 ht h
        go_enter Try.func54, Try.ntmps54
        go_wp2_with (go_at_call 70; refine HT.out.mono ?_; rintro e w1 ⟨rfl, hi1, ho1⟩)
        go_end0
        exact ⟨rfl, hi1, ho1⟩
      · have hF : Rl.want c (t :: ts) = .error (21, t.at') := by show (if _ then _ else _) = _; rw [if_neg hb, if_neg htx]
        have hF2 : Rl.took c (t :: ts) = .ok (false, t :: ts) := by show (if _ then _ else _) = _; rw [if_neg hb, if_neg htx]
        rw [hF]
        rw [hF2] at ht
        have HT : Hid (Calls Try.prog 70 #[.pointer (some ⟨rb, 0, none⟩), .string ⟨#[c]⟩] w (tookP rb S x w (.ok (false, t :: ts)))) := ht
        have HB : Hid (¬ t.bad = true) := hb
        clear hF hF2 ht h hb htx
        go_enter Try.func54, Try.ntmps54
        go_wp2_with (first | (go_at_call 70; refine HT.out.mono ?_; rintro e w1 ⟨rfl, hi1, ho1⟩) | (go_at_call 51; refine (next_ok rb S x t ts _ hi1 hS HB.out).mono ?_; rintro e w2 ⟨rfl, hR2, hs2, he2, ho2⟩) | (go_at_call 52; refine (throw_any 21 t.at' _).mono ?_; rintro e w3 ⟨rfl, rfl⟩))
        rename_i hK
        refine hK _ _ ?_
        go_wp2_with (go_at_call 52; refine (throw_any 21 t.at' _).mono ?_; rintro e w3 ⟨rfl, rfl⟩)
        exact ⟨rfl, rfl, ho1.trans ho2⟩
/-- how name ends. -/
def nameP (rb : Nat) (S : ByteArray) (x : Rd) (w : World) (F : Rl.R (Rl.Tk × List Rl.Tk)) (e : Ending) (w' : World) : Prop :=
  match F with
  | .error f => e = .panicked (thr f.1 f.2) ∧ Only (· = rb) w w'
  | .ok (t, ts) => e = .returned (.agg #[.string (bs t.text), .int .i64 (t.at' : Int)]) ∧ In w' rb S x ts ∧ Only (· = rb) w w'
theorem isNm_iff (t : Rl.Tk) : Rl.isNm t = decide (0 < Rl.nml t.text) := rfl
theorem isNm_ne {t : Rl.Tk} (h : Rl.isNm t = true) : t.text ≠ [] := by
  intro e
  rw [isNm_iff, e] at h
  simp [Rl.nml] at h
set_option maxRecDepth 100000 in
set_option maxHeartbeats 2000000 in
theorem name_any (rb : Nat) (S : ByteArray) (x : Rd) (ts : List Rl.Tk) (w : World) (h : In w rb S x ts) (hS : S.size ≤ 4096) :
    Calls Try.prog 84 #[.pointer (some ⟨rb, 0, none⟩)] w (nameP rb S x w (Rl.name ts)) := by
  cases ts with
  | nil => obtain ⟨i, _, h2, _⟩ := h; exact h2.elim
  | cons t ts =>
    have HI : Hid (In w rb S x (t :: ts)) := h
    have hlt := h.lt
    clear h
    by_cases hb : t.bad = true
    · have hF : Rl.name (t :: ts) = .error (20, t.at') := by show (if _ then _ else _) = _; rw [if_pos hb]
      rw [hF]
      clear hF
      have HB : Hid (t.bad = true) := hb
      clear hb
      go_enter Try.func84, Try.ntmps84
      go_wp2_with (go_at_call 51; refine (next_bad rb S x t ts _ (HI.out.alloc _) hS HB.out).mono ?_; rintro e w1 ⟨rfl, ho1⟩)
      exact ⟨rfl, rfl, ((Only.refl _ w).alloc _).trans ho1⟩
    · have HB : Hid (¬ t.bad = true) := hb
      by_cases hnm : Rl.isNm t = true
      · have hF : Rl.name (t :: ts) = .ok (t, ts) := by show (if _ then _ else _) = _; rw [if_neg hb, if_pos hnm]
        rw [hF]
        have HM : Hid (Rl.isNm t = true) := hnm
        have hq : decide (0 < Rl.nml t.text) = true := hnm
        clear hF hb hnm
        go_enter Try.func84, Try.ntmps84
        go_wp2_with (first | (go_at_call 51; refine (next_ok rb S x t ts _ (HI.out.alloc _) hS HB.out).mono ?_; rintro e w1 ⟨rfl, hR1, hs1, he1, ho1⟩; have HS1 : Hid (Rl.Strm S.data.toList t.at' (t :: ts)) := hs1; clear hs1; have hl1 := ho1.size; simp at hl1) | (go_at_call 75; refine (isName_any t.text _ _ (by omega)).mono ?_; rintro e w2 ⟨rfl, ho2⟩; have hR2 := (hR1.alloc _).only ho2 (fun h => h); have P2 : Hid (Pb w2 w1.heap.size t.text t.at') := (Pb.new w1 _ _).only ho2 (fun h => h); have p0 := P2.out.c0; have p1 := P2.out.c1) | (go_at_call 53; refine (take_any rb S t.at' t.at' t.text x _ hR2 (by omega)).mono ?_; rintro e w3 ⟨rfl, hR3, ho3⟩; have P3 : Hid (Pb w3 w1.heap.size t.text t.at') := P2.out.only ho3 (by omega); have p0 := P3.out.c0; have p1 := P3.out.c1; have Q3 : Hid (Pb w3 w.heap.size [] 0) := ((((Pb.zero w).only ho1 (by omega)).alloc _).only ho2 (fun h => h)).only ho3 (by omega); have q0 := Q3.out.c0; have q1 := Q3.out.c1; have qf0 := Q3.out.fz 0; have qf1 := Q3.out.fz 1; have HO : Hid (Only (· = rb) w w3) := ((((Only.refl (· = rb) w).alloc _).trans ho1).alloc _).trans ((ho2.mono (fun _ h => h.elim)).trans ho3)))
        refine bodyPost_ret (v := .agg #[.string (bs t.text), .int .i64 (t.at' : Int)]) (by simp [results, Try.results84, go_sem, q0, q1]) rfl ?_
        exact ⟨rfl, ⟨_, (hR3.setOther (by show w.heap.size ≠ rb; omega) _).setOther (by show w.heap.size ≠ rb; omega) _, Rl.strm_tail HS1.out (isNm_ne HM.out), he1⟩, (HO.out.setNew (Nat.le_refl _) _).setNew (Nat.le_refl _) _⟩
      · have hF : Rl.name (t :: ts) = .error (21, t.at') := by show (if _ then _ else _) = _; rw [if_neg hb, if_neg hnm]
        rw [hF]
        have hq : decide (0 < Rl.nml t.text) = false := by simpa [isNm_iff] using hnm
        clear hF hb hnm
        go_enter Try.func84, Try.ntmps84
        go_wp2_with (first | (go_at_call 51; refine (next_ok rb S x t ts _ (HI.out.alloc _) hS HB.out).mono ?_; rintro e w1 ⟨rfl, hR1, hs1, he1, ho1⟩; have HS1 : Hid (Rl.Strm S.data.toList t.at' (t :: ts)) := hs1; clear hs1; have hl1 := ho1.size; simp at hl1) | (go_at_call 75; refine (isName_any t.text _ _ (by omega)).mono ?_; rintro e w2 ⟨rfl, ho2⟩; have P2 : Hid (Pb w2 w1.heap.size t.text t.at') := (Pb.new w1 _ _).only ho2 (fun h => h); have p0 := P2.out.c0; have p1 := P2.out.c1) | (go_at_call 52; refine (throw_any 21 t.at' _).mono ?_; rintro e w3 ⟨rfl, rfl⟩))
        exact ⟨rfl, rfl, ((((Only.refl (· = rb) w).alloc _).trans ho1).alloc _).trans (ho2.mono (fun _ h => h.elim))⟩
end Go.Proofs.Ytfbcijnacbfjpaa
namespace Go.Proofs.Ytfbcijnacbfjpaa
open Go.RowKit Go.Maps
set_option linter.unusedVariables false
set_option linter.unusedSimpArgs false

theorem law9 : Keyed Try.prog 9 := string_keyed Try.underlying9
theorem zero34 (w : World) : (zeroValue 47).run Try.prog w = .ok (.int .u32 0) w := by kernel_rfl
/-- the map tells the names' classes. -/
def Mp (w : World) (mb : Nat) (E : Rl.Env) : Prop := ∃ D : DataW Unit, w.ownsMap Try.prog 9 (plainElem Try.prog 47) mb E.length D ∧ IsMap D ∧ ∀ s : Rl.Str, D.atKey (.string s) (.lit (.int .u32 0)) = .lit (.int .u32 ((Rl.find E s).getD 0)) ∧ Maps.has D (.string s) = (Rl.find E s).isSome
theorem key9 (s : Rl.Str) (hs : s.length ≤ 4096) : keyOf Try.prog 9 (.string (bs s)) = some (.string s) := by
  have hs' : (bs s).size ≤ maxLen := by rw [bs_size]; unfold maxLen; omega
  unfold keyOf
  simp [Try.underlying9, mapKey, hs']
  rfl
theorem Mp.look {w : World} {mb : Nat} {E : Rl.Env} (h : Mp w mb E) {s : Rl.Str} (hs : s.length ≤ 4096) :
    (Instr.lookup 99 (.map (some mb)) (.string (bs s)) true).run Try.prog w = .ok (.tuple #[.int .u32 ((Rl.find E s).getD 0), .bool (Rl.find E s).isSome]) w := by
  obtain ⟨D, h1, hm, h2⟩ := h
  obtain ⟨v, ps, hr, hv⟩ := h1.look_ok law9 Try.underlying99 (zero34 w) (plainElem_int Try.underlying47 (by decide)) (key9 s hs)
  obtain ⟨c, rfl, hc, _⟩ := plainElem_int_inv Try.underlying47 hv
  have e1 := congrArg Prod.fst hc
  simp only at e1
  rw [(h2 s).1] at e1
  have e2 : (Rl.find E s).getD 0 = c := by
    have e3 := DataW.lit.inj e1
    exact (Lit.int.inj e3).2
  rw [hr, (h2 s).2, e2]
theorem Mp.lt {w : World} {mb : Nat} {E : Rl.Env} (h : Mp w mb E) : mb < w.heap.size := by
  obtain ⟨D, ⟨es, cl, h1, _⟩, _⟩ := h
  exact (Array.getElem?_eq_some_iff.1 h1).1
theorem Mp.only {w w' : World} {mb : Nat} {E : Rl.Env} {P : Nat → Prop} (h : Mp w mb E) (ho : Only P w w') (hn : ¬ P mb) : Mp w' mb E := by
  have hl := h.lt
  obtain ⟨D, ⟨es, cl, h1, h2⟩, h3⟩ := h
  exact ⟨D, ⟨es, cl, (ho.block mb hl hn).trans h1, h2⟩, h3⟩
theorem Mp.drewN {w : World} {mb : Nat} {E : Rl.Env} (h : Mp w mb E) (n : Nat) : Mp (w.drewN n) mb E := h
theorem Mp.alloc {w : World} {mb : Nat} {E : Rl.Env} (h : Mp w mb E) (o : Obj) : Mp (w.alloc o) mb E := h.only ((Only.refl (fun _ => False) w).alloc o) (fun h => h)

/-- how classes ends. -/
def clsP (rb : Nat) (S : ByteArray) (x : Rd) (w : World) (F : Rl.R (Int × List Rl.Tk)) (e : Ending) (w' : World) : Prop :=
  match F with
  | .error f => e = .panicked (thr f.1 f.2) ∧ Only (· = rb) w w'
  | .ok (b, ts) => e = .returned (.int .u32 b) ∧ In w' rb S x ts ∧ Only (· = rb) w w'
/-- a name that must be next, and its classes. -/
def clsF (E : Rl.Env) (ts : List Rl.Tk) : Rl.R (Int × List Rl.Tk) :=
  match Rl.name ts with
  | .error f => .error f
  | .ok (t, ts1) => match Rl.find E t.text with
    | none => .error (22, t.at')
    | some b => .ok (b, ts1)
theorem name_len {l : Rl.Str} {i : Nat} {ts : List Rl.Tk} {t : Rl.Tk} {ts1 : List Rl.Tk} (h : Rl.Strm l i ts) (hn : Rl.name ts = .ok (t, ts1)) : ts = t :: ts1 ∧ t.text.length ≤ l.length := by
  cases ts with
  | nil => exact h.elim
  | cons t0 ts0 =>
    have hn' : (if t0.bad = true then (Except.error (20, t0.at') : Rl.R (Rl.Tk × List Rl.Tk)) else if Rl.isNm t0 = true then .ok (t0, ts0) else .error (21, t0.at')) = .ok (t, ts1) := hn
    split at hn'
    · cases hn'
    · split at hn'
      · injection hn' with hn'
        injection hn' with h1 h2
        subst h1 h2
        refine ⟨rfl, ?_⟩
        rw [h.1, Rl.tk_len]
        have := Rl.plen_le (l.drop (Rl.nx l i))
        rw [List.length_drop] at this
        omega
      · cases hn'

set_option maxRecDepth 100000 in
set_option maxHeartbeats 2000000 in
theorem classes_any (E : Rl.Env) (rb : Nat) (S : ByteArray) (x : Rd) (ts : List Rl.Tk) (w : World) (h : In w rb S x ts) (hS : S.size ≤ 4096) (hM : Mp w x.mb E) (hmb : x.mb ≠ rb) :
    Calls Try.prog 86 #[.pointer (some ⟨rb, 0, none⟩)] w (clsP rb S x w (clsF E ts)) := by
  have hn := name_any rb S x ts w h hS
  have hlt := h.lt
  obtain ⟨i, _, hs, hi⟩ := h
  cases hnm : Rl.name ts with
  | error f =>
    have hF : clsF E ts = .error f := by unfold clsF; rw [hnm]
    rw [hF]
    rw [hnm] at hn
    have HN : Hid (Calls Try.prog 84 #[.pointer (some ⟨rb, 0, none⟩)] w (nameP rb S x w (.error f))) := hn
    clear hF hnm hn hs
    go_enter Try.func86, Try.ntmps86
    go_wp2_with (go_at_call 84; refine HN.out.mono ?_; rintro e w1 ⟨rfl, ho1⟩)
    exact ⟨rfl, rfl, ho1⟩
  | ok r =>
    obtain ⟨t, ts1⟩ := r
    obtain ⟨_, htl⟩ := name_len hs hnm
    rw [← Lib.size_eq] at htl
    rw [hnm] at hn
    have HN : Hid (Calls Try.prog 84 #[.pointer (some ⟨rb, 0, none⟩)] w (nameP rb S x w (.ok (t, ts1)))) := hn
    cases hf : Rl.find E t.text with
    | none =>
      have hF : clsF E ts = .error (22, t.at') := by unfold clsF; rw [hnm]; simp only [hf]
      rw [hF]
      have HF : Hid (Rl.find E t.text = none) := hf
      clear hF hnm hn hs hf
      go_enter Try.func86, Try.ntmps86
      go_wp2_with (go_at_call 84; refine HN.out.mono ?_; rintro e w1 ⟨rfl, hi1, ho1⟩; have HI1 : Hid (In w1 rb S x ts1) := hi1; obtain ⟨i1, hR1, _, _⟩ := hi1; have d7 := hR1.c7; have hlk : ∀ n, (Instr.lookup 99 (.map (some x.mb)) (.string (bs t.text)) true).run Try.prog ((w1.alloc (.cells #[.string (bs t.text), .int .i64 (t.at' : Int)] 124)).drewN n) = .ok (.tuple #[.int .u32 0, .bool false]) ((w1.alloc (.cells #[.string (bs t.text), .int .i64 (t.at' : Int)] 124)).drewN n) := (fun n => by have := (((hM.only ho1 hmb).alloc (.cells #[.string (bs t.text), .int .i64 (t.at' : Int)] 124)).drewN n).look (s := t.text) (by omega); rw [HF.out] at this; exact this); have hl1 := hR1.lt)
      go_quiet (fail)
      go_wp2_with (go_at_call 52; refine (throw_any 22 t.at' _).mono ?_; rintro e w3 ⟨rfl, rfl⟩)
      exact ⟨rfl, rfl, (ho1.alloc _).drewN _⟩
    | some b =>
      have hF : clsF E ts = .ok (b, ts1) := by unfold clsF; rw [hnm]; simp only [hf]
      rw [hF]
      have HF : Hid (Rl.find E t.text = some b) := hf
      clear hF hnm hn hs hf
      go_enter Try.func86, Try.ntmps86
      go_wp2_with (go_at_call 84; refine HN.out.mono ?_; rintro e w1 ⟨rfl, hi1, ho1⟩; have HI1 : Hid (In w1 rb S x ts1) := hi1; obtain ⟨i1, hR1, _, _⟩ := hi1; have d7 := hR1.c7; have hlk : ∀ n, (Instr.lookup 99 (.map (some x.mb)) (.string (bs t.text)) true).run Try.prog ((w1.alloc (.cells #[.string (bs t.text), .int .i64 (t.at' : Int)] 124)).drewN n) = .ok (.tuple #[.int .u32 b, .bool true]) ((w1.alloc (.cells #[.string (bs t.text), .int .i64 (t.at' : Int)] 124)).drewN n) := (fun n => by have := (((hM.only ho1 hmb).alloc (.cells #[.string (bs t.text), .int .i64 (t.at' : Int)] 124)).drewN n).look (s := t.text) (by omega); rw [HF.out] at this; exact this); have hl1 := hR1.lt)
      go_quiet (fail)
      go_wp2_with fail
      go_ret
      exact ⟨rfl, (HI1.out.alloc _).only ((Only.refl (fun _ => False) _).drewN _) (fun h => h), (ho1.alloc _).drewN _⟩
end Go.Proofs.Ytfbcijnacbfjpaa
namespace Go.Proofs.Ytfbcijnacbfjpaa
open Go.RowKit Go.Maps
set_option linter.unusedVariables false
set_option linter.unusedSimpArgs false

theorem names_cons (E : Rl.Env) (t : Rl.Tk) (ts : List Rl.Tk) (acc : Int) : Rl.names E (t :: ts) acc = if t.bad = true then .error (20, t.at') else if Rl.isNm t = true then
      match Rl.find E t.text with
      | none => .error (22, t.at')
      | some b => Rl.names E ts (Rl.bor acc b)
    else .ok (acc, t :: ts) := rfl
theorem name_cons (t : Rl.Tk) (ts : List Rl.Tk) : Rl.name (t :: ts) = if t.bad = true then .error (20, t.at') else if Rl.isNm t = true then .ok (t, ts) else .error (21, t.at') := rfl
theorem clsF_some {E : Rl.Env} {t : Rl.Tk} {ts : List Rl.Tk} {b : Int} (hb : ¬ t.bad = true) (hn : Rl.isNm t = true) (hf : Rl.find E t.text = some b) : clsF E (t :: ts) = .ok (b, ts) := by
  unfold clsF
  rw [name_cons, if_neg hb, if_pos hn]
  simp only [hf]
theorem clsF_none {E : Rl.Env} {t : Rl.Tk} {ts : List Rl.Tk} (hb : ¬ t.bad = true) (hn : Rl.isNm t = true) (hf : Rl.find E t.text = none) : clsF E (t :: ts) = .error (22, t.at') := by
  unfold clsF
  rw [name_cons, if_neg hb, if_pos hn]
  simp only [hf]

set_option maxRecDepth 100000 in
set_option maxHeartbeats 2000000 in
theorem names_any (E : Rl.Env) (rb : Nat) (S : ByteArray) (x : Rd) (ts : List Rl.Tk) (w : World) (h : In w rb S x ts) (hS : S.size ≤ 4096) (hM : Mp w x.mb E) (hmb : x.mb ≠ rb) :
    Calls Try.prog 78 #[.pointer (some ⟨rb, 0, none⟩)] w (clsP rb S x w (Rl.names E ts 0)) := by
  have HI : Hid (In w rb S x ts) := h
  have HM : Hid (Mp w x.mb E) := hM
  clear h hM
  obtain ⟨F, hF⟩ : ∃ F, F = Rl.names E ts 0 := ⟨_, rfl⟩
  have HF : Hid (F = Rl.names E ts 0) := hF
  rw [← hF]
  clear hF
  go_enter Try.func78, Try.ntmps78
  go_wp2_with fail
  go_loopg [3] ts.length (fun k v wr => ∃ (tsr : List Rl.Tk) (acc : Int), k = tsr.length ∧ v = .int .u32 acc ∧ In wr rb S x tsr ∧ Only (· = rb) w wr ∧ Hid (F = Rl.names E tsr acc))
  case atStart => exact ⟨ts, 0, rfl, rfl, HI.out, Only.refl _ _, HF.out⟩
  case round =>
    obtain ⟨tsr, acc, rfl, rfl, hIr, hOr, hFr⟩ := hrel
    cases tsr with
    | nil => obtain ⟨i, _, h2, _⟩ := hIr; exact h2.elim
    | cons t tsr =>
      have HIr : Hid (In wr rb S x (t :: tsr)) := hIr
      have HOr : Hid (Only (· = rb) w wr) := hOr
      have HMr : Hid (Mp wr x.mb E) := HM.out.only hOr hmb
      have hFr' := hFr.out
      rw [names_cons] at hFr'
      clear hIr hOr hFr
      by_cases hb : t.bad = true
      · have HB : Hid (t.bad = true) := hb
        rw [if_pos hb] at hFr'
        have HE : Hid (F = .error (20, t.at')) := hFr'
        clear hb hFr'
        go_wp2_with (go_at_call 51; refine (next_bad rb S x t tsr _ HIr.out hS HB.out).mono ?_; rintro e w1 ⟨rfl, ho1⟩)
        refine ⟨rfl, ?_⟩
        rw [HE.out]
        exact ⟨rfl, HOr.out.trans ho1⟩
      · have HB : Hid (¬ t.bad = true) := hb
        rw [if_neg hb] at hFr'
        by_cases hnm : Rl.isNm t = true
        · have hq : decide (0 < Rl.nml t.text) = true := hnm
          have HNM : Hid (Rl.isNm t = true) := hnm
          rw [if_pos hnm] at hFr'
          cases hf : Rl.find E t.text with
          | none =>
            rw [hf] at hFr'
            have HE : Hid (F = .error (22, t.at')) := hFr'
            have HC : Hid (clsF E (t :: tsr) = .error (22, t.at')) := clsF_none hb hnm hf
            clear hb hnm hFr' hf
            go_wp2_with (first | (go_at_call 51; refine (next_ok rb S x t tsr _ HIr.out hS HB.out).mono ?_; rintro e w1 ⟨rfl, hR1, hs1, he1, ho1⟩; have HS1 : Hid (Rl.Strm S.data.toList t.at' (t :: tsr)) := hs1; clear hs1) | (go_at_call 75; refine (isName_any t.text _ _ (by omega)).mono ?_; rintro e w2 ⟨rfl, ho2⟩; have hI2 : In w2 rb S x (t :: tsr) := ⟨_, hR1.only ho2 (fun h => h), HS1.out, by omega⟩; have HI2 : Hid (In w2 rb S x (t :: tsr)) := hI2; clear hI2; have ho12 : Only (· = rb) wr w2 := ho1.trans (ho2.mono (fun _ h => h.elim)); have HO12 : Hid (Only (· = rb) wr w2) := ho12; clear ho12) | (go_at_call 86; have hc := classes_any E rb S x (t :: tsr) _ HI2.out hS (HMr.out.only HO12.out hmb) hmb; rw [HC.out] at hc; refine hc.mono ?_; clear hc; rintro e w3 ⟨rfl, ho3⟩))
            refine ⟨rfl, ?_⟩
            rw [HE.out]
            exact ⟨rfl, HOr.out.trans (HO12.out.trans ho3)⟩
          | some b =>
            rw [hf] at hFr'
            have HE : Hid (F = Rl.names E tsr (Rl.bor acc b)) := hFr'
            have HC : Hid (clsF E (t :: tsr) = .ok (b, tsr)) := clsF_some hb hnm hf
            clear hb hnm hFr' hf
            go_wp2_with (first | (go_at_call 51; refine (next_ok rb S x t tsr _ HIr.out hS HB.out).mono ?_; rintro e w1 ⟨rfl, hR1, hs1, he1, ho1⟩; have HS1 : Hid (Rl.Strm S.data.toList t.at' (t :: tsr)) := hs1; clear hs1) | (go_at_call 75; refine (isName_any t.text _ _ (by omega)).mono ?_; rintro e w2 ⟨rfl, ho2⟩; have hI2 : In w2 rb S x (t :: tsr) := ⟨_, hR1.only ho2 (fun h => h), HS1.out, by omega⟩; have HI2 : Hid (In w2 rb S x (t :: tsr)) := hI2; clear hI2; have ho12 : Only (· = rb) wr w2 := ho1.trans (ho2.mono (fun _ h => h.elim)); have HO12 : Hid (Only (· = rb) wr w2) := ho12; clear ho12) | (go_at_call 86; have hc := classes_any E rb S x (t :: tsr) _ HI2.out hS (HMr.out.only HO12.out hmb) hmb; rw [HC.out] at hc; refine hc.mono ?_; clear hc; rintro e w3 ⟨rfl, hi3, ho3⟩))
            go_roundg tsr.length
            case measure => simp
            case rel => exact ⟨tsr, Rl.bor acc b, rfl, rfl, hi3, HOr.out.trans (HO12.out.trans ho3), HE.out⟩
        · have hq : decide (0 < Rl.nml t.text) = false := by simpa [isNm_iff] using hnm
          rw [if_neg hnm] at hFr'
          have HE : Hid (F = .ok (acc, t :: tsr)) := hFr'
          clear hb hnm hFr'
          go_wp2_with (first | (go_at_call 51; refine (next_ok rb S x t tsr _ HIr.out hS HB.out).mono ?_; rintro e w1 ⟨rfl, hR1, hs1, he1, ho1⟩; have HS1 : Hid (Rl.Strm S.data.toList t.at' (t :: tsr)) := hs1; clear hs1) | (go_at_call 75; refine (isName_any t.text _ _ (by omega)).mono ?_; rintro e w2 ⟨rfl, ho2⟩))
          go_ret
          rw [HE.out]
          exact ⟨rfl, ⟨_, hR1.only ho2 (fun h => h), HS1.out, by omega⟩, HOr.out.trans (ho1.trans (ho2.mono (fun _ h => h.elim)))⟩
end Go.Proofs.Ytfbcijnacbfjpaa
namespace Go.Proofs.Ytfbcijnacbfjpaa
open Go.RowKit Go.Maps
set_option linter.unusedVariables false
set_option linter.unusedSimpArgs false

theorem In.setOther {w : World} {rb : Nat} {S : ByteArray} {x : Rd} {ts : List Rl.Tk} (h : In w rb S x ts) {p : Addr} (hp : p.block ≠ rb) (v : Value) : In (w.setCell p v) rb S x ts := by
  obtain ⟨i, h1, h2⟩ := h
  exact ⟨i, h1.setOther hp v, h2⟩
theorem In.drewN {w : World} {rb : Nat} {S : ByteArray} {x : Rd} {ts : List Rl.Tk} (h : In w rb S x ts) (n : Nat) : In (w.drewN n) rb S x ts := h
theorem In.drew {w : World} {rb : Nat} {S : ByteArray} {x : Rd} {ts : List Rl.Tk} (h : In w rb S x ts) : In w.drew rb S x ts := h
theorem beq_dec (a b : Rl.Str) : (a == b) = decide (a = b) := by rw [Bool.eq_iff_iff]; simp
theorem beg_eq (t : Rl.Tk) : Rl.beg t = (Rl.isNm t || t.text == [46] || t.text == [91] || t.text == [40]) := by unfold Rl.beg; rw [beq_dec, beq_dec, beq_dec]
theorem pow24 : ∀ n : Fin 25, (2 ^ (n : Nat) % 4294967296 - 1) % 4294967296 = ((2 : Int) ^ (n : Nat) - 1) ∧ (2 : Int) ^ (n : Nat) % 4294967296 = 2 ^ (n : Nat) ∧ 1 ≤ (2 : Int) ^ (n : Nat) ∧ (2 : Int) ^ (n : Nat) ≤ 16777216 := by decide

set_option maxRecDepth 100000 in
set_option maxHeartbeats 2000000 in
theorem begins_any (t : Rl.Tk) (w : World) (hs : t.text.length ≤ 4096) : Calls Try.prog 91 #[.agg #[.string (bs t.text), .int .i64 (t.at' : Int)]] w fun e w' => e = .returned (.bool (Rl.beg t)) ∧ Only (fun _ => False) w w' := by
  have ht := bs_toList t.text
  have h1 : (⟨#[46]⟩ : ByteArray).toList = [46] := by rw [Lib.toList_data]
  have h2 : (⟨#[91]⟩ : ByteArray).toList = [91] := by rw [Lib.toList_data]
  have h3 : (⟨#[40]⟩ : ByteArray).toList = [40] := by rw [Lib.toList_data]
  have hB : Hid (Rl.beg t = (Rl.isNm t || t.text == [46] || t.text == [91] || t.text == [40])) := beg_eq t
  obtain ⟨b, hb⟩ : ∃ b, b = Rl.beg t := ⟨_, rfl⟩
  have HB : Hid (b = Rl.beg t) := hb
  rw [← hb]
  clear hb
  by_cases hnm : Rl.isNm t = true
  · have hq : decide (0 < Rl.nml t.text) = true := hnm
    have HM : Hid (Rl.isNm t = true) := hnm
    clear hnm
    go_enter Try.func91, Try.ntmps91
    go_wp2_with (go_at_call 75; refine (isName_any t.text _ _ (by omega)).mono ?_; rintro e w2 ⟨rfl, ho2⟩)
    go_ret
    refine ⟨?_, ((Only.refl _ w).alloc _).trans ho2⟩
    rw [HB.out, hB.out, HM.out]
    rfl
  · have hq : decide (0 < Rl.nml t.text) = false := by simpa [isNm_iff] using hnm
    have HM : Hid (Rl.isNm t = false) := (by simpa using hnm : Rl.isNm t = false)
    clear hnm
    go_enter Try.func91, Try.ntmps91
    go_wp2_with (go_at_call 75; refine (isName_any t.text _ _ (by omega)).mono ?_; rintro e w2 ⟨rfl, ho2⟩; have P2 : Hid (Pb w2 w.heap.size t.text t.at') := (Pb.new w _ _).only ho2 (fun h => h); have p0 := P2.out.c0)
    all_goals
      go_ret
      refine ⟨?_, ((Only.refl _ w).alloc _).trans ho2⟩
      have := hB.out
      rw [← HB.out, HM.out] at this
      refine congrArg (fun b => Ending.returned (.bool b)) (?_ : _ = b)
      rw [this]
      simp [*]

set_option maxRecDepth 100000 in
set_option maxHeartbeats 2000000 in
theorem fresh_any (E : Rl.Env) (rb : Nat) (S : ByteArray) (x : Rd) (ts : List Rl.Tk) (w : World) (h : In w rb S x ts) (hS : S.size ≤ 4096) (hM : Mp w x.mb E) (hmb : x.mb ≠ rb) :
    Calls Try.prog 76 #[.pointer (some ⟨rb, 0, none⟩)] w (nameP rb S x w (Rl.fresh E ts)) := by
  have hn := fun o => name_any rb S x ts (w.alloc o) (h.alloc o) hS
  have hlt := h.lt
  obtain ⟨i, _, hs, hi⟩ := h
  cases hnm : Rl.name ts with
  | error f =>
    have hF : Rl.fresh E ts = .error f := by unfold Rl.fresh; rw [hnm]
    rw [hF]
    rw [hnm] at hn
    have HN : Hid (∀ o, Calls Try.prog 84 #[.pointer (some ⟨rb, 0, none⟩)] (w.alloc o) (nameP rb S x (w.alloc o) (.error f))) := hn
    clear hF hnm hn hs
    go_enter Try.func76, Try.ntmps76
    go_wp2_with (go_at_call 84; refine (HN.out _).mono ?_; rintro e w1 ⟨rfl, ho1⟩)
    exact ⟨rfl, rfl, ((Only.refl _ w).alloc _).trans ho1⟩
  | ok r =>
    obtain ⟨t, ts1⟩ := r
    obtain ⟨_, htl⟩ := name_len hs hnm
    rw [← Lib.size_eq] at htl
    rw [hnm] at hn
    have HN : Hid (∀ o, Calls Try.prog 84 #[.pointer (some ⟨rb, 0, none⟩)] (w.alloc o) (nameP rb S x (w.alloc o) (.ok (t, ts1)))) := hn
    cases hf : Rl.find E t.text with
    | some b =>
      have hF : Rl.fresh E ts = .error (23, t.at') := by unfold Rl.fresh; rw [hnm]; simp only [hf]; rfl
      rw [hF]
      have HF : Hid (Rl.find E t.text = some b) := hf
      clear hF hnm hn hs hf
      go_enter Try.func76, Try.ntmps76
      go_wp2_with (go_at_call 84; refine (HN.out _).mono ?_; rintro e w1 ⟨rfl, hi1, ho1⟩; have HI1 : Hid (In w1 rb S x ts1) := hi1; obtain ⟨i1, hR1, _, _⟩ := hi1; have d7 := hR1.c7; have hlk : ∀ n, (Instr.lookup 99 (.map (some x.mb)) (.string (bs t.text)) true).run Try.prog ((w1.alloc (.cells #[.string (bs t.text), .int .i64 (t.at' : Int)] 124)).drewN n) = .ok (.tuple #[.int .u32 b, .bool true]) ((w1.alloc (.cells #[.string (bs t.text), .int .i64 (t.at' : Int)] 124)).drewN n) := (fun n => by have := ((((hM.alloc _).only ho1 hmb).alloc (.cells #[.string (bs t.text), .int .i64 (t.at' : Int)] 124)).drewN n).look (s := t.text) (by omega); rw [HF.out] at this; exact this); have hl1 := hR1.lt)
      go_quiet (fail)
      go_wp2_with (go_at_call 52; refine (throw_any 23 t.at' _).mono ?_; rintro e w3 ⟨rfl, rfl⟩)
      exact ⟨rfl, rfl, ((((Only.refl _ w).alloc _).trans ho1).alloc _).drewN _⟩
    | none =>
      have hF : Rl.fresh E ts = .ok (t, ts1) := by unfold Rl.fresh; rw [hnm]; simp only [hf]; rfl
      rw [hF]
      have HF : Hid (Rl.find E t.text = none) := hf
      clear hF hnm hn hs hf
      go_enter Try.func76, Try.ntmps76
      go_wp2_with (go_at_call 84; refine (HN.out _).mono ?_; rintro e w1 ⟨rfl, hi1, ho1⟩; have HI1 : Hid (In w1 rb S x ts1) := hi1; obtain ⟨i1, hR1, _, _⟩ := hi1; have d7 := hR1.c7; have hlk : ∀ n, (Instr.lookup 99 (.map (some x.mb)) (.string (bs t.text)) true).run Try.prog ((w1.alloc (.cells #[.string (bs t.text), .int .i64 (t.at' : Int)] 124)).drewN n) = .ok (.tuple #[.int .u32 0, .bool false]) ((w1.alloc (.cells #[.string (bs t.text), .int .i64 (t.at' : Int)] 124)).drewN n) := (fun n => by have := ((((hM.alloc _).only ho1 hmb).alloc (.cells #[.string (bs t.text), .int .i64 (t.at' : Int)] 124)).drewN n).look (s := t.text) (by omega); rw [HF.out] at this; exact this); have hl1 := hR1.lt; have Q3 : Hid (Pb (w1.alloc (.cells #[.string (bs t.text), .int .i64 (t.at' : Int)] 124)) w.heap.size [] 0) := ((Pb.zero w).only ho1 (by omega)).alloc _; have q0 := Q3.out.c0; have q1 := Q3.out.c1; have qf0 := Q3.out.fz 0; have qf1 := Q3.out.fz 1; have hl2 := ho1.size; simp at hl2)
      go_quiet (fail)
      go_wp2_with fail
      refine bodyPost_ret (v := .agg #[.string (bs t.text), .int .i64 (t.at' : Int)]) (by simp [results, Try.results76, go_sem, q0, q1]) rfl ?_
      exact ⟨rfl, (((HI1.out.alloc _).drewN _).setOther (by show w.heap.size ≠ rb; omega) _).setOther (by show w.heap.size ≠ rb; omega) _, ((((((Only.refl _ w).alloc _).trans ho1).alloc _).drewN _).setNew (Nat.le_refl _) _).setNew (Nat.le_refl _) _⟩

set_option maxRecDepth 100000 in
set_option maxHeartbeats 2000000 in
theorem all_any (n : Nat) (rb : Nat) (S : ByteArray) (i : Int) (x : Rd) (w : World) (hR : Rdr w rb S i x) (a : Option Addr) (cap : Nat) (hv : x.vC = .slice a n cap) (hn : n ≤ 24) :
    Calls Try.prog 96 #[.pointer (some ⟨rb, 0, none⟩)] w fun e w' => e = .returned (.int .u32 (Rl.whole n)) ∧ w' = w := by
  have d2 := hR.c2
  rw [hv] at d2
  have hn' : (n : Int) ≤ 24 := by omega
  go_enter Try.func96, Try.ntmps96
  go_wp2_with fail
  go_ret
  exact ⟨congrArg (fun z => Ending.returned (.int .u32 z)) (pow24 ⟨n, by omega⟩).1, rfl⟩
end Go.Proofs.Ytfbcijnacbfjpaa
namespace Go.Proofs.Ytfbcijnacbfjpaa
open Go.RowKit Go.Maps
set_option linter.unusedVariables false
set_option linter.unusedSimpArgs false

/-- a reader with so many things read. -/
def Rd.withPl (x : Rd) (p : Int) : Rd := { x with pl := p }
theorem Rdr.set8 {w : World} {rb : Nat} {S : ByteArray} {i : Int} {x : Rd} (h : Rdr w rb S i x) (v : Int) : Rdr (w.setCell ⟨rb, 8, none⟩ (.int .i64 v)) rb S i (x.withPl v) := heap_setCell_at h _
theorem In.set8 {w : World} {rb : Nat} {S : ByteArray} {x : Rd} {ts : List Rl.Tk} (h : In w rb S x ts) (v : Int) : In (w.setCell ⟨rb, 8, none⟩ (.int .i64 v)) rb S (x.withPl v) ts := by
  obtain ⟨i, h1, h2⟩ := h
  exact ⟨i, h1.set8 v, h2⟩
theorem Mp.setOther {w : World} {mb : Nat} {E : Rl.Env} (h : Mp w mb E) {p : Addr} (hp : p.block ≠ mb) (v : Value) : Mp (w.setCell p v) mb E := h.only ((Only.refl (· = p.block) w).setCell (p := p) rfl v) (fun e => hp e.symm)
/-- how some ends. -/
def someP (rb : Nat) (S : ByteArray) (x : Rd) (w : World) (F : Rl.R (Int × List Rl.Tk × Nat)) (e : Ending) (w' : World) : Prop :=
  match F with
  | .error f => e = .panicked (thr f.1 f.2) ∧ Only (· = rb) w w'
  | .ok (b, ts, p) => e = .returned (.int .u32 b) ∧ In w' rb S (x.withPl p) ts ∧ Only (· = rb) w w'
theorem took_cons (c : UInt8) (t : Rl.Tk) (ts : List Rl.Tk) : Rl.took c (t :: ts) = if t.bad = true then .error (20, t.at') else if t.text = [c] then .ok (true, ts) else .ok (false, t :: ts) := rfl
theorem some_cons (E : Rl.Env) (nc : Nat) (t : Rl.Tk) (ts : List Rl.Tk) (p : Nat) : Rl.some' E nc (t :: ts) p = if p = 200 then .error (26, t.at') else if t.text = [46] then .ok (Rl.whole nc, ts, p + 1) else if t.text = [91] then
      match Rl.took 94 ts with
      | .error f => .error f
      | .ok (no, ts1) => match Rl.names E ts1 0 with
        | .error f => .error f
        | .ok (b, ts2) => match Rl.want 93 ts2 with
          | .error f => .error f
          | .ok ts3 => .ok (if no = true then Rl.without (Rl.whole nc) b else b, ts3, p + 1)
    else match Rl.find E t.text with
      | none => .error (22, t.at')
      | some b => .ok (b, ts, p + 1) := rfl

set_option maxRecDepth 100000 in
set_option maxHeartbeats 4000000 in
theorem some_any (E : Rl.Env) (nc p : Nat) (rb : Nat) (S : ByteArray) (x : Rd) (t : Rl.Tk) (ts : List Rl.Tk) (w : World) (h : In w rb S x (t :: ts)) (hS : S.size ≤ 4096) (hM : Mp w x.mb E) (hmb : x.mb ≠ rb)
    (hb : ¬ t.bad = true) (hbeg : Rl.beg t = true) (hno : t.text ≠ [40]) (hp : x.pl = (p : Int)) (hp2 : p ≤ 200) (a : Option Addr) (cap : Nat) (hv : x.vC = .slice a nc cap) (hnc : nc ≤ 24) :
    Calls Try.prog 95 #[.pointer (some ⟨rb, 0, none⟩)] w (someP rb S x w (Rl.some' E nc (t :: ts) p)) := by
  have HI : Hid (In w rb S x (t :: ts)) := h
  obtain ⟨i, hR, hs, hi⟩ := h
  have c8 := hR.c8
  have f8 := hR.fz 8
  rw [hp] at c8
  have HB : Hid (¬ t.bad = true) := hb
  clear hs hi hR
  rw [some_cons]
  by_cases h200 : p = 200
  · rw [if_pos h200]
    have q : ((p : Int) == 200) = true := by simp; omega
    clear h200
    go_enter Try.func95, Try.ntmps95
    go_wp2_with (go_at_call 51; refine (next_ok rb S x t ts _ HI.out hS HB.out).mono ?_; rintro e w2 ⟨rfl, hR2, hs2, he2, ho2⟩)
    rename_i hK
    refine hK _ _ ?_
    go_wp2_with (go_at_call 52; refine (throw_any 26 t.at' _).mono ?_; rintro e w3 ⟨rfl, rfl⟩)
    exact ⟨rfl, rfl, ho2⟩
  · rw [if_neg h200]
    have q : ((p : Int) == 200) = false := by simp; omega
    obtain ⟨y, hy⟩ : ∃ y, y = x.withPl ((p + 1 : Nat) : Int) := ⟨_, rfl⟩
    have HI1 : Hid (In (w.setCell ⟨rb, 8, none⟩ (.int .i64 ((p : Int) + 1))) rb S y (t :: ts)) := by
      rw [hy]
      have e1 : (p : Int) + 1 = ((p + 1 : Nat) : Int) := by omega
      rw [e1]
      exact HI.out.set8 _
    have HO1 : Hid (Only (· = rb) w (w.setCell ⟨rb, 8, none⟩ (.int .i64 ((p : Int) + 1)))) := (Only.refl (· = rb) w).setCell (p := ⟨rb, 8, none⟩) rfl _
    have HM1 : Hid (Mp (w.setCell ⟨rb, 8, none⟩ (.int .i64 ((p : Int) + 1))) y.mb E) := by rw [hy]; exact hM.setOther (fun e => hmb e.symm) _
    have hmy : y.mb ≠ rb := by rw [hy]; exact hmb
    have hvy : Hid (y.vC = .slice a nc cap) := by rw [hy]; exact hv
    have HY : Hid (y = x.withPl ((p + 1 : Nat) : Int)) := hy
    have hp1 : (p : Int) < 200 := by omega
    clear h200 hy hv hp
    by_cases h46 : t.text = [46]
    · rw [if_pos h46]
      have T1 : Hid (Rl.took 46 (t :: ts) = .ok (true, ts)) := by show Rl.took 46 (t :: ts) = .ok (true, ts); rw [took_cons, if_neg hb, if_pos h46]
      clear hb h46 hbeg hno
      go_enter Try.func95, Try.ntmps95
      go_wp2_with (first | (go_at_call 70; have hc := took_any 46 rb S y (t :: ts) _ HI1.out hS; rw [T1.out] at hc; refine hc.mono ?_; clear hc; rintro e w2 ⟨rfl, hI2, ho2⟩; have HI2 : Hid (In w2 rb S y ts) := hI2; obtain ⟨i2, hR2, _, _⟩ := hI2) | (go_at_call 96; refine (all_any nc rb S _ y _ hR2 a cap hvy.out hnc).mono ?_; rintro e w3 ⟨rfl, rfl⟩))
      go_ret
      refine ⟨rfl, ?_, HO1.out.trans ho2⟩
      rw [← HY.out]
      exact HI2.out
    · rw [if_neg h46]
      have T1 : Hid (Rl.took 46 (t :: ts) = .ok (false, t :: ts)) := by show Rl.took 46 (t :: ts) = .ok (false, t :: ts); rw [took_cons, if_neg hb, if_neg h46]
      by_cases h91 : t.text = [91]
      · rw [if_pos h91]
        have T2 : Hid (Rl.took 91 (t :: ts) = .ok (true, ts)) := by show Rl.took 91 (t :: ts) = .ok (true, ts); rw [took_cons, if_neg hb, if_pos h91]
        clear hb h46 h91 hbeg hno
        cases h94 : Rl.took 94 ts with
        | error f =>
          have T3 : Hid (Rl.took 94 ts = .error f) := h94
          clear h94
          simp only
          go_enter Try.func95, Try.ntmps95
          go_wp2_with (first | (go_at_call_of 70 (Value.string ⟨#[46]⟩); have hc := took_any 46 rb S y (t :: ts) _ HI1.out hS; rw [T1.out] at hc; refine hc.mono ?_; clear hc; rintro e w2 ⟨rfl, hI2, ho2⟩; have HI2 : Hid (In w2 rb S y (t :: ts)) := hI2; clear hI2) | (go_at_call_of 70 (Value.string ⟨#[91]⟩); have hc := took_any 91 rb S y (t :: ts) _ HI2.out hS; rw [T2.out] at hc; refine hc.mono ?_; clear hc; rintro e w3 ⟨rfl, hI3, ho3⟩; have HI3 : Hid (In w3 rb S y ts) := hI3; clear hI3) | (go_at_call_of 70 (Value.string ⟨#[94]⟩); have hc := took_any 94 rb S y ts _ HI3.out hS; rw [T3.out] at hc; refine hc.mono ?_; clear hc; rintro e w4 ⟨rfl, ho4⟩))
          exact ⟨rfl, rfl, HO1.out.trans (ho2.trans (ho3.trans ho4))⟩
        | ok r =>
          obtain ⟨no, ts1⟩ := r
          have T3 : Hid (Rl.took 94 ts = .ok (no, ts1)) := h94
          clear h94
          simp only
          cases hnm : Rl.names E ts1 0 with
          | error f =>
            have T4 : Hid (Rl.names E ts1 0 = .error f) := hnm
            clear hnm
            simp only
            go_enter Try.func95, Try.ntmps95
            go_wp2_with (first | (go_at_call_of 70 (Value.string ⟨#[46]⟩); have hc := took_any 46 rb S y (t :: ts) _ HI1.out hS; rw [T1.out] at hc; refine hc.mono ?_; clear hc; rintro e w2 ⟨rfl, hI2, ho2⟩; have HI2 : Hid (In w2 rb S y (t :: ts)) := hI2; clear hI2) | (go_at_call_of 70 (Value.string ⟨#[91]⟩); have hc := took_any 91 rb S y (t :: ts) _ HI2.out hS; rw [T2.out] at hc; refine hc.mono ?_; clear hc; rintro e w3 ⟨rfl, hI3, ho3⟩; have HI3 : Hid (In w3 rb S y ts) := hI3; clear hI3) | (go_at_call_of 70 (Value.string ⟨#[94]⟩); have hc := took_any 94 rb S y ts _ HI3.out hS; rw [T3.out] at hc; refine hc.mono ?_; clear hc; rintro e w4 ⟨rfl, hI4, ho4⟩; have HI4 : Hid (In w4 rb S y ts1) := hI4; clear hI4; have HO4 : Hid (Only (· = rb) w w4) := HO1.out.trans (ho2.trans (ho3.trans ho4)); have HM4 : Hid (Mp w4 y.mb E) := HM1.out.only (ho2.trans (ho3.trans ho4)) hmy) | (go_at_call 78; have hc := names_any E rb S y ts1 _ HI4.out hS HM4.out hmy; rw [T4.out] at hc; refine hc.mono ?_; clear hc; rintro e w5 ⟨rfl, ho5⟩))
            exact ⟨rfl, rfl, HO4.out.trans ho5⟩
          | ok r =>
            obtain ⟨b, ts2⟩ := r
            have T4 : Hid (Rl.names E ts1 0 = .ok (b, ts2)) := hnm
            clear hnm
            simp only
            cases hwt : Rl.want 93 ts2 with
            | error f =>
              have T5 : Hid (Rl.want 93 ts2 = .error f) := hwt
              clear hwt
              simp only
              go_enter Try.func95, Try.ntmps95
              go_wp2_with (first | (go_at_call_of 70 (Value.string ⟨#[46]⟩); have hc := took_any 46 rb S y (t :: ts) _ HI1.out hS; rw [T1.out] at hc; refine hc.mono ?_; clear hc; rintro e w2 ⟨rfl, hI2, ho2⟩; have HI2 : Hid (In w2 rb S y (t :: ts)) := hI2; clear hI2) | (go_at_call_of 70 (Value.string ⟨#[91]⟩); have hc := took_any 91 rb S y (t :: ts) _ HI2.out hS; rw [T2.out] at hc; refine hc.mono ?_; clear hc; rintro e w3 ⟨rfl, hI3, ho3⟩; have HI3 : Hid (In w3 rb S y ts) := hI3; clear hI3) | (go_at_call_of 70 (Value.string ⟨#[94]⟩); have hc := took_any 94 rb S y ts _ HI3.out hS; rw [T3.out] at hc; refine hc.mono ?_; clear hc; rintro e w4 ⟨rfl, hI4, ho4⟩; have HI4 : Hid (In w4 rb S y ts1) := hI4; clear hI4; have HO4 : Hid (Only (· = rb) w w4) := HO1.out.trans (ho2.trans (ho3.trans ho4)); have HM4 : Hid (Mp w4 y.mb E) := HM1.out.only (ho2.trans (ho3.trans ho4)) hmy) | (go_at_call 78; have hc := names_any E rb S y ts1 _ HI4.out hS HM4.out hmy; rw [T4.out] at hc; refine hc.mono ?_; clear hc; rintro e w5 ⟨rfl, hI5, ho5⟩; have HI5 : Hid (In w5 rb S y ts2) := hI5; clear hI5) | (go_at_call 54; have hc := want_any 93 rb S y ts2 _ HI5.out hS; rw [T5.out] at hc; refine hc.mono ?_; clear hc; rintro e w6 ⟨rfl, ho6⟩))
              exact ⟨rfl, rfl, HO4.out.trans (ho5.trans ho6)⟩
            | ok ts3 =>
              have T5 : Hid (Rl.want 93 ts2 = .ok ts3) := hwt
              clear hwt
              simp only
              cases no
              · go_enter Try.func95, Try.ntmps95
                go_wp2_with (first | (go_at_call_of 70 (Value.string ⟨#[46]⟩); have hc := took_any 46 rb S y (t :: ts) _ HI1.out hS; rw [T1.out] at hc; refine hc.mono ?_; clear hc; rintro e w2 ⟨rfl, hI2, ho2⟩; have HI2 : Hid (In w2 rb S y (t :: ts)) := hI2; clear hI2) | (go_at_call_of 70 (Value.string ⟨#[91]⟩); have hc := took_any 91 rb S y (t :: ts) _ HI2.out hS; rw [T2.out] at hc; refine hc.mono ?_; clear hc; rintro e w3 ⟨rfl, hI3, ho3⟩; have HI3 : Hid (In w3 rb S y ts) := hI3; clear hI3) | (go_at_call_of 70 (Value.string ⟨#[94]⟩); have hc := took_any 94 rb S y ts _ HI3.out hS; rw [T3.out] at hc; refine hc.mono ?_; clear hc; rintro e w4 ⟨rfl, hI4, ho4⟩; have HI4 : Hid (In w4 rb S y ts1) := hI4; clear hI4; have HO4 : Hid (Only (· = rb) w w4) := HO1.out.trans (ho2.trans (ho3.trans ho4)); have HM4 : Hid (Mp w4 y.mb E) := HM1.out.only (ho2.trans (ho3.trans ho4)) hmy) | (go_at_call 78; have hc := names_any E rb S y ts1 _ HI4.out hS HM4.out hmy; rw [T4.out] at hc; refine hc.mono ?_; clear hc; rintro e w5 ⟨rfl, hI5, ho5⟩; have HI5 : Hid (In w5 rb S y ts2) := hI5; clear hI5) | (go_at_call 54; have hc := want_any 93 rb S y ts2 _ HI5.out hS; rw [T5.out] at hc; refine hc.mono ?_; clear hc; rintro e w6 ⟨rfl, hI6, ho6⟩))
                go_ret
                refine ⟨rfl, ?_, HO4.out.trans (ho5.trans ho6)⟩
                rw [← HY.out]
                exact hI6
              · go_enter Try.func95, Try.ntmps95
                go_wp2_with (first | (go_at_call_of 70 (Value.string ⟨#[46]⟩); have hc := took_any 46 rb S y (t :: ts) _ HI1.out hS; rw [T1.out] at hc; refine hc.mono ?_; clear hc; rintro e w2 ⟨rfl, hI2, ho2⟩; have HI2 : Hid (In w2 rb S y (t :: ts)) := hI2; clear hI2) | (go_at_call_of 70 (Value.string ⟨#[91]⟩); have hc := took_any 91 rb S y (t :: ts) _ HI2.out hS; rw [T2.out] at hc; refine hc.mono ?_; clear hc; rintro e w3 ⟨rfl, hI3, ho3⟩; have HI3 : Hid (In w3 rb S y ts) := hI3; clear hI3) | (go_at_call_of 70 (Value.string ⟨#[94]⟩); have hc := took_any 94 rb S y ts _ HI3.out hS; rw [T3.out] at hc; refine hc.mono ?_; clear hc; rintro e w4 ⟨rfl, hI4, ho4⟩; have HI4 : Hid (In w4 rb S y ts1) := hI4; clear hI4; have HO4 : Hid (Only (· = rb) w w4) := HO1.out.trans (ho2.trans (ho3.trans ho4)); have HM4 : Hid (Mp w4 y.mb E) := HM1.out.only (ho2.trans (ho3.trans ho4)) hmy) | (go_at_call 78; have hc := names_any E rb S y ts1 _ HI4.out hS HM4.out hmy; rw [T4.out] at hc; refine hc.mono ?_; clear hc; rintro e w5 ⟨rfl, hI5, ho5⟩; have HI5 : Hid (In w5 rb S y ts2) := hI5; clear hI5) | (go_at_call 54; have hc := want_any 93 rb S y ts2 _ HI5.out hS; rw [T5.out] at hc; refine hc.mono ?_; clear hc; rintro e w6 ⟨rfl, hI6, ho6⟩; have HI6 : Hid (In w6 rb S y ts3) := hI6; obtain ⟨i6, hR6, _, _⟩ := hI6) | (go_at_call 96; refine (all_any nc rb S _ y _ hR6 a cap hvy.out hnc).mono ?_; rintro e w7 ⟨rfl, rfl⟩))
                go_ret
                refine ⟨rfl, ?_, HO4.out.trans (ho5.trans ho6)⟩
                rw [← HY.out]
                exact HI6.out
      · rw [if_neg h91]
        have T2 : Hid (Rl.took 91 (t :: ts) = .ok (false, t :: ts)) := by show Rl.took 91 (t :: ts) = .ok (false, t :: ts); rw [took_cons, if_neg hb, if_neg h91]
        have hnm : Rl.isNm t = true := by
          unfold Rl.beg at hbeg
          simpa [h46, h91, hno] using hbeg
        cases hf : Rl.find E t.text with
        | none =>
          have T3 : Hid (clsF E (t :: ts) = .error (22, t.at')) := clsF_none hb hnm hf
          clear hb h46 h91 hbeg hno hf hnm
          simp only
          go_enter Try.func95, Try.ntmps95
          go_wp2_with (first | (go_at_call_of 70 (Value.string ⟨#[46]⟩); have hc := took_any 46 rb S y (t :: ts) _ HI1.out hS; rw [T1.out] at hc; refine hc.mono ?_; clear hc; rintro e w2 ⟨rfl, hI2, ho2⟩; have HI2 : Hid (In w2 rb S y (t :: ts)) := hI2; clear hI2) | (go_at_call_of 70 (Value.string ⟨#[91]⟩); have hc := took_any 91 rb S y (t :: ts) _ HI2.out hS; rw [T2.out] at hc; refine hc.mono ?_; clear hc; rintro e w3 ⟨rfl, hI3, ho3⟩; have HI3 : Hid (In w3 rb S y (t :: ts)) := hI3; clear hI3; have HO3 : Hid (Only (· = rb) w w3) := HO1.out.trans (ho2.trans ho3); have HM3 : Hid (Mp w3 y.mb E) := HM1.out.only (ho2.trans ho3) hmy) | (go_at_call 86; have hc := classes_any E rb S y (t :: ts) _ HI3.out hS HM3.out hmy; rw [T3.out] at hc; refine hc.mono ?_; clear hc; rintro e w4 ⟨rfl, ho4⟩))
          exact ⟨rfl, rfl, HO3.out.trans ho4⟩
        | some b =>
          have T3 : Hid (clsF E (t :: ts) = .ok (b, ts)) := clsF_some hb hnm hf
          clear hb h46 h91 hbeg hno hf hnm
          simp only
          go_enter Try.func95, Try.ntmps95
          go_wp2_with (first | (go_at_call_of 70 (Value.string ⟨#[46]⟩); have hc := took_any 46 rb S y (t :: ts) _ HI1.out hS; rw [T1.out] at hc; refine hc.mono ?_; clear hc; rintro e w2 ⟨rfl, hI2, ho2⟩; have HI2 : Hid (In w2 rb S y (t :: ts)) := hI2; clear hI2) | (go_at_call_of 70 (Value.string ⟨#[91]⟩); have hc := took_any 91 rb S y (t :: ts) _ HI2.out hS; rw [T2.out] at hc; refine hc.mono ?_; clear hc; rintro e w3 ⟨rfl, hI3, ho3⟩; have HI3 : Hid (In w3 rb S y (t :: ts)) := hI3; clear hI3; have HO3 : Hid (Only (· = rb) w w3) := HO1.out.trans (ho2.trans ho3); have HM3 : Hid (Mp w3 y.mb E) := HM1.out.only (ho2.trans ho3) hmy) | (go_at_call 86; have hc := classes_any E rb S y (t :: ts) _ HI3.out hS HM3.out hmy; rw [T3.out] at hc; refine hc.mono ?_; clear hc; rintro e w4 ⟨rfl, hI4, ho4⟩))
          go_ret
          refine ⟨rfl, ?_, HO3.out.trans ho4⟩
          rw [← HY.out]
          exact hI4
end Go.Proofs.Ytfbcijnacbfjpaa
namespace Go.Proofs.Ytfbcijnacbfjpaa
open Go.RowKit Go.Maps
set_option linter.unusedVariables false
set_option linter.unusedSimpArgs false

mutual
/-- v is the expression, its kids in blocks of F. -/
def Tr (w : World) (F : Nat → Prop) : Rl.Ex → Value → Prop
  | .mk op set kids, v => ∃ (a : Option Addr) (cap : Nat), v = .agg #[.int .u8 op, .int .u32 set, .slice a kids.length cap] ∧ kids.length ≤ cap ∧
      (kids ≠ [] → ∃ b cs z, a = some ⟨b, 0, none⟩ ∧ F b ∧ w.heap[b]? = some (.cells cs 49 z) ∧ Trs w F kids (fun j => cs[j]?))
/-- these cells are these expressions. -/
def Trs (w : World) (F : Nat → Prop) : List Rl.Ex → (Nat → Option Value) → Prop
  | [], _ => True
  | e :: es, c => (∃ o s k, c 0 = some o ∧ c 1 = some s ∧ c 2 = some k ∧ Tr w F e (.agg #[o, s, k])) ∧ Trs w F es (fun j => c (j + 3))
end
theorem Tr.form {w : World} {F : Nat → Prop} {e : Rl.Ex} {v : Value} (h : Tr w F e v) : ∃ op set a n cap, v = .agg #[.int .u8 op, .int .u32 set, .slice a n cap] := by
  obtain ⟨op, set, kids⟩ := e
  unfold Tr at h
  obtain ⟨a, cap, h1, _⟩ := h
  exact ⟨op, set, a, kids.length, cap, h1⟩
mutual
theorem Tr.keepT {w w' : World} {F F' : Nat → Prop} (hk : ∀ b, F b → b < w.heap.size → (∃ cs z, w.heap[b]? = some (.cells cs 49 z)) → F' b ∧ w'.heap[b]? = w.heap[b]?) : ∀ (e : Rl.Ex) (v : Value), Tr w F e v → Tr w' F' e v
  | .mk op set kids, v, h => by
    unfold Tr at h ⊢
    obtain ⟨a, cap, h1, hc, h2⟩ := h
    refine ⟨a, cap, h1, hc, fun hn => ?_⟩
    obtain ⟨b, cs, z, h3, h4, h5, h6⟩ := h2 hn
    have hb := hk b h4 (Array.getElem?_eq_some_iff.1 h5).1 ⟨cs, z, h5⟩
    exact ⟨b, cs, z, h3, hb.1, hb.2.trans h5, Trs.keepT hk kids _ h6⟩
theorem Trs.keepT {w w' : World} {F F' : Nat → Prop} (hk : ∀ b, F b → b < w.heap.size → (∃ cs z, w.heap[b]? = some (.cells cs 49 z)) → F' b ∧ w'.heap[b]? = w.heap[b]?) : ∀ (es : List Rl.Ex) (c : Nat → Option Value), Trs w F es c → Trs w' F' es c
  | [], _, _ => by unfold Trs; trivial
  | e :: es, c, h => by
    unfold Trs at h ⊢
    obtain ⟨⟨o, s, k, h0, h1, h2, h3⟩, h4⟩ := h
    exact ⟨⟨o, s, k, h0, h1, h2, Tr.keepT hk e _ h3⟩, Trs.keepT hk es _ h4⟩
end
theorem Tr.keep {w w' : World} {F F' : Nat → Prop} (hk : ∀ b, F b → b < w.heap.size → F' b ∧ w'.heap[b]? = w.heap[b]?) (e : Rl.Ex) (v : Value) (h : Tr w F e v) : Tr w' F' e v := Tr.keepT (fun b h1 h2 _ => hk b h1 h2) e v h
theorem Trs.keep {w w' : World} {F F' : Nat → Prop} (hk : ∀ b, F b → b < w.heap.size → F' b ∧ w'.heap[b]? = w.heap[b]?) (es : List Rl.Ex) (c : Nat → Option Value) (h : Trs w F es c) : Trs w' F' es c := Trs.keepT (fun b h1 h2 _ => hk b h1 h2) es c h
theorem Trs.cong {w : World} {F : Nat → Prop} : ∀ (es : List Rl.Ex) {c c' : Nat → Option Value}, (∀ j, j < 3 * es.length → c j = c' j) → Trs w F es c → Trs w F es c'
  | [], _, _, _, _ => by unfold Trs; trivial
  | e :: es, c, c', hc, h => by
    unfold Trs at h ⊢
    simp only [List.length_cons] at hc
    obtain ⟨⟨o, s, k, h0, h1, h2, h3⟩, h4⟩ := h
    exact ⟨⟨o, s, k, (hc 0 (by omega)).symm.trans h0, (hc 1 (by omega)).symm.trans h1, (hc 2 (by omega)).symm.trans h2, h3⟩, Trs.cong es (fun j hj => hc (j + 3) (by omega)) h4⟩
theorem Trs.snoc {w : World} {F : Nat → Prop} {e : Rl.Ex} {o s k : Value} (he : Tr w F e (.agg #[o, s, k])) : ∀ (es : List Rl.Ex) (xs : List Value), xs.length = 3 * es.length → Trs w F es (fun j => xs[j]?) → Trs w F (es ++ [e]) (fun j => (xs ++ [o, s, k])[j]?)
  | [], xs, hl, _ => by
    obtain rfl : xs = [] := List.length_eq_zero_iff.1 (by simpa using hl)
    show Trs w F [e] _
    unfold Trs
    exact ⟨⟨o, s, k, rfl, rfl, rfl, he⟩, by unfold Trs; trivial⟩
  | d :: es, xs, hl, h => by
    rw [List.cons_append]
    unfold Trs at h ⊢
    simp only [List.length_cons] at hl
    match xs, hl, h with
    | a :: b :: c :: xs, hl, h =>
      obtain ⟨⟨o1, s1, k1, h0, h1, h2, h3⟩, h4⟩ := h
      refine ⟨⟨o1, s1, k1, h0, h1, h2, h3⟩, ?_⟩
      have := Trs.snoc he es xs (by simp at hl; omega) (Trs.cong es (fun j _ => by simp) h4)
      exact Trs.cong (es ++ [e]) (fun j _ => by simp) this
    | [_, _], hl, _ => simp at hl; omega
    | [_], hl, _ => simp at hl; omega
    | [], hl, _ => simp at hl
theorem Trs.one {w : World} {F : Nat → Prop} {e : Rl.Ex} {xs : List Value} (h : Trs w F [e] (fun j => xs[j]?)) (hl : xs.length = 3) : ∃ o s k, xs = [o, s, k] ∧ Tr w F e (.agg #[o, s, k]) := by
  unfold Trs at h
  obtain ⟨⟨o, s, k, h0, h1, h2, h3⟩, _⟩ := h
  match xs, hl, h0, h1, h2 with
  | [a, b, c], _, h0, h1, h2 =>
    simp at h0 h1 h2
    subst h0 h1 h2
    exact ⟨_, _, _, rfl, h3⟩
/-- a list of expressions that the call made, as an expression's kids. -/
theorem Tr.row {w : World} {F F' : Nat → Prop} {base : Nat} {v : Value} {es : List Rl.Ex} {xs : List Value} (op : Int) (ho : w.ownsRow base 49 3 v es.length xs) (ht : Trs w F es (fun j => xs[j]?)) (hv : ∀ g, v.ownBlock = some g → F' g) (hF : ∀ b, F b → F' b) (hne : es ≠ []) :
    Tr w F' (.mk op 0 es) (.agg #[.int .u8 op, .int .u32 0, v]) := by
  obtain ⟨hl, ⟨_, h0⟩ | ⟨g, cap, cur, rfl, h1, h2, h3, h4, h5, h6⟩⟩ := ho
  · exact absurd (List.length_eq_zero_iff.1 h0) hne
  · unfold Tr
    refine ⟨some ⟨g, 0, none⟩, cap, rfl, h3, fun _ => ⟨g, cur, (0, 0), rfl, hv g rfl, h2, ?_⟩⟩
    have h7 := Trs.keep (w' := w) (F' := F') (fun b hb _ => ⟨hF b hb, rfl⟩) es _ ht
    refine Trs.cong es (fun j hj => ?_) h7
    show xs[j]? = cur[j]?
    rw [← h6, List.getElem?_take, if_pos (by omega)]
    simp
theorem info50 : (Try.prog.info? 49).map (fun i => (i.zero, i.size, i.bytes)) = some (some (.agg #[.int .u8 0, .int .u32 0, .slice none 0 0]), 3, 32) := by kernel_rfl
theorem info_parts {P : Program} {e : TypeId} {z : Value} {n b : Nat} (h : (P.info? e).map (fun i => (i.zero, i.size, i.bytes)) = some (some z, n, b)) : ∃ i, P.info? e = some i ∧ i.zero = some z ∧ i.size = n ∧ i.bytes = b := by
  cases hi : P.info? e with
  | none => rw [hi] at h; cases h
  | some i =>
    rw [hi] at h
    simp only [Option.map_some, Option.some.injEq, Prod.mk.injEq] at h
    exact ⟨i, rfl, h.1, h.2.1, h.2.2⟩
theorem ex_news (wr : World) (o s : Int) (k : Value) : ∀ j u, [Value.int .u8 o, Value.int .u32 s, k][j]? = some u → (wr.alloc (.cells #[.int .u8 o, .int .u32 s, k] 49)).cell? ((⟨wr.heap.size, 0, none⟩ : Addr).add j) = some u := by
  intro j u hj
  rw [Addr.add_mid, Nat.zero_add, cell_of_row _ _ _ _ _ _ (heap_alloc_new _ _)]
  simpa using hj
theorem ex_cells (o s : Int) (a : Option Addr) (n c : Nat) : ∀ u ∈ [Value.int .u8 o, Value.int .u32 s, Value.slice a n c], u.oneCell' = true := by
  intro u hu
  simp at hu
  rcases hu with rfl | rfl | rfl <;> rfl
/-- an expression in a variable of its own. -/
def Xb (w : World) (b : Nat) (o s k : Value) : Prop := w.heap[b]? = some (.cells #[o, s, k] 49 (0, 0))
theorem Xb.new (w : World) (o s k : Value) : Xb (w.alloc (.cells #[o, s, k] 49)) w.heap.size o s k := heap_alloc_new _ _
theorem Xb.fz {w : World} {b : Nat} {o s k : Value} (h : Xb w b o s k) (j : Nat) : w.frozen? ⟨b, j, none⟩ = false := by simp [World.frozen?, show w.heap[b]? = _ from h]
theorem Xb.c0 {w : World} {b : Nat} {o s k : Value} (h : Xb w b o s k) : w.cell? ⟨b, 0, none⟩ = some o := (cell_of_row _ _ _ _ _ _ h).trans rfl
theorem Xb.c1 {w : World} {b : Nat} {o s k : Value} (h : Xb w b o s k) : w.cell? ⟨b, 1, none⟩ = some s := (cell_of_row _ _ _ _ _ _ h).trans rfl
theorem Xb.c2 {w : World} {b : Nat} {o s k : Value} (h : Xb w b o s k) : w.cell? ⟨b, 2, none⟩ = some k := (cell_of_row _ _ _ _ _ _ h).trans rfl
theorem Xb.lt {w : World} {b : Nat} {o s k : Value} (h : Xb w b o s k) : b < w.heap.size := (Array.getElem?_eq_some_iff.1 h).1
theorem Xb.only {w w' : World} {b : Nat} {o s k : Value} {P : Nat → Prop} (h : Xb w b o s k) (ho : Only P w w') (hn : ¬ P b) : Xb w' b o s k := (ho.block b h.lt hn).trans h
theorem Xb.alloc {w : World} {b : Nat} {o s k : Value} (h : Xb w b o s k) (ob : Obj) : Xb (w.alloc ob) b o s k := (Below.heap_alloc _ _ _ h.lt).trans h
/-- how an expression's reading ends. -/
def exprP (rb : Nat) (S : ByteArray) (x : Rd) (w : World) (F : Rl.R (Rl.Ex × List Rl.Tk × Nat)) (e : Ending) (w' : World) : Prop :=
  match F with
  | .error f => e = .panicked (thr f.1 f.2) ∧ Only (· = rb) w w'
  | .ok (ex, ts, p) => ∃ v, e = .returned v ∧ Tr w' (fun b => w.heap.size ≤ b) ex v ∧ In w' rb S (x.withPl p) ts ∧ Only (· = rb) w w'
/-- how often ends: the expression that it was given has its kids in blocks of F. -/
def oftP (rb : Nat) (S : ByteArray) (x : Rd) (F : Nat → Prop) (w : World) (R : Rl.R (Rl.Ex × List Rl.Tk)) (e : Ending) (w' : World) : Prop :=
  match R with
  | .error f => e = .panicked (thr f.1 f.2) ∧ Only (· = rb) w w'
  | .ok (ex, ts) => ∃ v, e = .returned v ∧ Tr w' (fun b => F b ∨ w.heap.size ≤ b) ex v ∧ In w' rb S x ts ∧ Only (· = rb) w w'
end Go.Proofs.Ytfbcijnacbfjpaa
namespace Go.Proofs.Ytfbcijnacbfjpaa
open Go.RowKit Go.Maps
set_option linter.unusedVariables false
set_option linter.unusedSimpArgs false

theorem often_cons (e : Rl.Ex) (t : Rl.Tk) (ts : List Rl.Tk) : Rl.often e (t :: ts) = if t.bad = true then .error (20, t.at') else if t.text = [42] then .ok (.mk 4 0 [e], ts) else if t.text = [43] then .ok (.mk 5 0 [e], ts) else if t.text = [63] then .ok (.mk 6 0 [e], ts) else .ok (e, t :: ts) := rfl
/-- one kid in a new block. -/
theorem Tr.one {w : World} {F F' : Nat → Prop} {ex : Rl.Ex} {o s k : Value} {g : Nat} (op : Int) (h : Tr w F ex (.agg #[o, s, k])) (hg : w.heap[g]? = some (.cells #[o, s, k] 49 (0, 0))) (hF : ∀ b, F b → F' b) (hF' : F' g) :
    Tr w F' (.mk op 0 [ex]) (.agg #[.int .u8 op, .int .u32 0, .slice (some ⟨g, 0, none⟩) 1 1]) := by
  unfold Tr
  refine ⟨some ⟨g, 0, none⟩, 1, rfl, Nat.le_refl _, fun _ => ⟨g, _, _, rfl, hF', hg, ?_⟩⟩
  unfold Trs
  exact ⟨⟨o, s, k, rfl, rfl, rfl, h.keep (fun b hb _ => ⟨hF b hb, rfl⟩)⟩, by unfold Trs; trivial⟩

/-- three cells of a block written. -/
def set3 (w : World) (z : Nat) (a b c : Value) : World := ((w.setCell ⟨z, 0, none⟩ a).setCell ⟨z, 1, none⟩ b).setCell ⟨z, 2, none⟩ c
theorem set3_size (w : World) (z : Nat) (a b c : Value) : (set3 w z a b c).heap.size = w.heap.size := by simp [set3, World.setCell]
theorem set3_other (w : World) {z g : Nat} (a b c : Value) (h : g ≠ z) : (set3 w z a b c).heap[g]? = w.heap[g]? :=
  (Below.heap_setCell _ _ _ _ (fun e => h e)).trans ((Below.heap_setCell _ _ _ _ (fun e => h e)).trans (Below.heap_setCell _ _ _ _ (fun e => h e)))
theorem Xb.set3 {w : World} {z : Nat} {o s k : Value} (h : Xb w z o s k) (a b c : Value) : Xb (set3 w z a b c) z a b c := heap_setCell_at (heap_setCell_at (heap_setCell_at h a) b) c
theorem results_x {fn : Func} {p : Tmp} (h : fn.results = #[.cell p 49]) (tmps : Array Value) {w : World} {g : Nat} {o s k : Value} (hp : tmps.getD p undef = .pointer (some ⟨g, 0, none⟩)) (hg : Xb w g o s k) : (results fn tmps).run Try.prog w = .ok (.agg #[o, s, k]) w := by
  obtain ⟨i, hi, _, hz, _⟩ := info_parts info50
  exact results_cell_row h tmps w g 49 _ (0, 0) _ hp hg Try.underlying49 rfl (by rw [hi]; simp [hz])
theorem In.set3 {w : World} {rb : Nat} {S : ByteArray} {x : Rd} {ts : List Rl.Tk} (h : In w rb S x ts) {z : Nat} (hz : z ≠ rb) (a b c : Value) : In (set3 w z a b c) rb S x ts := ((h.setOther hz a).setOther hz b).setOther hz c
theorem Only.set3 {P : Nat → Prop} {w0 w : World} (h : Only P w0 w) {z : Nat} (hz : w0.heap.size ≤ z) (a b c : Value) : Only P w0 (set3 w z a b c) := ((h.setNew (p := ⟨z, 0, none⟩) hz a).setNew (p := ⟨z, 1, none⟩) hz b).setNew (p := ⟨z, 2, none⟩) hz c
theorem Tr.later {w w' : World} {F F' : Nat → Prop} {rb : Nat} {ex : Rl.Ex} {v : Value} (h : Tr w F ex v) (ho : Only (· = rb) w w') (hF : ∀ b, F b → b ≠ rb) (hF' : ∀ b, F b → F' b) : Tr w' F' ex v :=
  h.keep fun b hb hl => ⟨hF' b hb, ho.block b hl (hF b hb)⟩

set_option maxRecDepth 100000 in
set_option maxHeartbeats 4000000 in
theorem often_any (rb : Nat) (S : ByteArray) (x : Rd) (F : Nat → Prop) (ex : Rl.Ex) (v : Value) (ts : List Rl.Tk) (w : World) (h : In w rb S x ts) (hS : S.size ≤ 4096) (hT : Tr w F ex v) (hF : ∀ b, F b → b ≠ rb) :
    Calls Try.prog 92 #[.pointer (some ⟨rb, 0, none⟩), v] w (oftP rb S x F w (Rl.often ex ts)) := by
  obtain ⟨o, s, a, n, c, rfl⟩ := hT.form
  cases ts with
  | nil => obtain ⟨i, _, h2, _⟩ := h; exact h2.elim
  | cons t ts =>
    have hlt := h.lt
    have HT : Hid (Tr w F ex (.agg #[.int .u8 o, .int .u32 s, .slice a n c])) := hT
    have HF : Hid (∀ b, F b → b ≠ rb) := hF
    have HI : Hid (In ((w.alloc (.cells #[.int .u8 o, .int .u32 s, .slice a n c] 49)).alloc (.cells #[.int .u8 0, .int .u32 0, .slice none 0 0] 49)) rb S x (t :: ts)) := (h.alloc _).alloc _
    have HO0 : Hid (Only (· = rb) w ((w.alloc (.cells #[.int .u8 o, .int .u32 s, .slice a n c] 49)).alloc (.cells #[.int .u8 0, .int .u32 0, .slice none 0 0] 49))) := ((Only.refl (· = rb) w).alloc _).alloc _
    have X0 : Hid (Xb ((w.alloc (.cells #[.int .u8 o, .int .u32 s, .slice a n c] 49)).alloc (.cells #[.int .u8 0, .int .u32 0, .slice none 0 0] 49)) w.heap.size (.int .u8 o) (.int .u32 s) (.slice a n c)) := (Xb.new w _ _ _).alloc _
    have Z0 : Hid (Xb ((w.alloc (.cells #[.int .u8 o, .int .u32 s, .slice a n c] 49)).alloc (.cells #[.int .u8 0, .int .u32 0, .slice none 0 0] 49)) (w.heap.size + 1) (.int .u8 0) (.int .u32 0) (.slice none 0 0)) := heap_alloc2_new _ _ _
    rw [often_cons]
    clear h hT hF
    by_cases hb : t.bad = true
    · rw [if_pos hb]
      have T1 : Hid (Rl.took 42 (t :: ts) = .error (20, t.at')) := by show Rl.took 42 (t :: ts) = .error (20, t.at'); rw [took_cons, if_pos hb]
      clear hb
      go_enter Try.func92, Try.ntmps92
      go_wp2_with (go_at_call 70; have hc := took_any 42 rb S x (t :: ts) _ HI.out hS; rw [T1.out] at hc; refine hc.mono ?_; clear hc; rintro e w2 ⟨rfl, ho2⟩)
      exact ⟨rfl, rfl, HO0.out.trans ho2⟩
    · rw [if_neg hb]
      by_cases h42 : t.text = [42]
      · rw [if_pos h42]
        have T1 : Hid (Rl.took 42 (t :: ts) = .ok (true, ts)) := by show Rl.took 42 (t :: ts) = .ok (true, ts); rw [took_cons, if_neg hb, if_pos h42]
        clear hb h42
        go_enter Try.func92, Try.ntmps92
        go_wp2_with (go_at_call_of 70 (Value.string ⟨#[42]⟩); have hc := took_any 42 rb S x (t :: ts) _ HI.out hS; rw [T1.out] at hc; refine hc.mono ?_; clear hc; rintro e w2 ⟨rfl, hI2, ho2⟩; have HI2 : Hid (In w2 rb S x (ts)) := hI2; clear hI2; have X2 : Hid (Xb w2 w.heap.size (.int .u8 o) (.int .u32 s) (.slice a n c)) := X0.out.only ho2 (by omega); have Z2 : Hid (Xb w2 (w.heap.size + 1) (.int .u8 0) (.int .u32 0) (.slice none 0 0)) := Z0.out.only ho2 (by omega); have HO2 : Hid (Only (· = rb) w w2) := HO0.out.trans ho2; clear ho2; have x0 := X2.out.c0; have x1 := X2.out.c1; have x2 := X2.out.c2; have z0 := Z2.out.c0; have z1 := Z2.out.c1; have z2 := Z2.out.c2; have zf0 := Z2.out.fz 0; have zf1 := Z2.out.fz 1; have zf2 := Z2.out.fz 2; have hl2 := Z2.out.lt)
        refine bodyPost_ret (v := .agg #[.int .u8 4, .int .u32 0, .slice (some ⟨w2.heap.size, 0, none⟩) 1 1]) (results_x rfl _ rfl ((Z2.out.set3 _ _ _).alloc _)) rfl ?_
        refine ⟨_, rfl, ?_, (HI2.out.set3 (z := w.heap.size + 1) (by omega) _ _ _).alloc _, (HO2.out.set3 (z := w.heap.size + 1) (by omega) _ _ _).alloc _⟩
        have hg := heap_alloc_new (set3 w2 (w.heap.size + 1) (.int .u8 4) (.int .u32 0) (.slice (some ⟨w2.heap.size, 0, none⟩) 1 1)) (.cells #[.int .u8 o, .int .u32 s, .slice a n c] 49)
        rw [set3_size] at hg
        exact Tr.one 4 (HT.out.later ((HO2.out.set3 (z := w.heap.size + 1) (by omega) _ _ _).alloc _) HF.out (fun b hb => hb)) hg (fun b hb => Or.inl hb) (Or.inr (by omega))
      · rw [if_neg h42]
        have T1 : Hid (Rl.took 42 (t :: ts) = .ok (false, t :: ts)) := by show Rl.took 42 (t :: ts) = .ok (false, t :: ts); rw [took_cons, if_neg hb, if_neg h42]
        by_cases h43 : t.text = [43]
        · rw [if_pos h43]
          have T2 : Hid (Rl.took 43 (t :: ts) = .ok (true, ts)) := by show Rl.took 43 (t :: ts) = .ok (true, ts); rw [took_cons, if_neg hb, if_pos h43]
          clear hb h42 h43
          go_enter Try.func92, Try.ntmps92
          go_wp2_with (first | (go_at_call_of 70 (Value.string ⟨#[42]⟩); have hc := took_any 42 rb S x (t :: ts) _ HI.out hS; rw [T1.out] at hc; refine hc.mono ?_; clear hc; rintro e w2 ⟨rfl, hI2, ho2⟩; have HI2 : Hid (In w2 rb S x (t :: ts)) := hI2; clear hI2; have X2 : Hid (Xb w2 w.heap.size (.int .u8 o) (.int .u32 s) (.slice a n c)) := X0.out.only ho2 (by omega); have Z2 : Hid (Xb w2 (w.heap.size + 1) (.int .u8 0) (.int .u32 0) (.slice none 0 0)) := Z0.out.only ho2 (by omega); have HO2 : Hid (Only (· = rb) w w2) := HO0.out.trans ho2; clear ho2) | (go_at_call_of 70 (Value.string ⟨#[43]⟩); have hc := took_any 43 rb S x (t :: ts) _ HI2.out hS; rw [T2.out] at hc; refine hc.mono ?_; clear hc; rintro e w3 ⟨rfl, hI3, ho3⟩; have HI3 : Hid (In w3 rb S x (ts)) := hI3; clear hI3; have X3 : Hid (Xb w3 w.heap.size (.int .u8 o) (.int .u32 s) (.slice a n c)) := X2.out.only ho3 (by omega); have Z3 : Hid (Xb w3 (w.heap.size + 1) (.int .u8 0) (.int .u32 0) (.slice none 0 0)) := Z2.out.only ho3 (by omega); have HO3 : Hid (Only (· = rb) w w3) := HO2.out.trans ho3; clear ho3; have x0 := X3.out.c0; have x1 := X3.out.c1; have x2 := X3.out.c2; have z0 := Z3.out.c0; have z1 := Z3.out.c1; have z2 := Z3.out.c2; have zf0 := Z3.out.fz 0; have zf1 := Z3.out.fz 1; have zf2 := Z3.out.fz 2; have hl3 := Z3.out.lt))
          refine bodyPost_ret (v := .agg #[.int .u8 5, .int .u32 0, .slice (some ⟨w3.heap.size, 0, none⟩) 1 1]) (results_x rfl _ rfl ((Z3.out.set3 _ _ _).alloc _)) rfl ?_
          refine ⟨_, rfl, ?_, (HI3.out.set3 (z := w.heap.size + 1) (by omega) _ _ _).alloc _, (HO3.out.set3 (z := w.heap.size + 1) (by omega) _ _ _).alloc _⟩
          have hg := heap_alloc_new (set3 w3 (w.heap.size + 1) (.int .u8 5) (.int .u32 0) (.slice (some ⟨w3.heap.size, 0, none⟩) 1 1)) (.cells #[.int .u8 o, .int .u32 s, .slice a n c] 49)
          rw [set3_size] at hg
          exact Tr.one 5 (HT.out.later ((HO3.out.set3 (z := w.heap.size + 1) (by omega) _ _ _).alloc _) HF.out (fun b hb => hb)) hg (fun b hb => Or.inl hb) (Or.inr (by omega))
        · rw [if_neg h43]
          have T2 : Hid (Rl.took 43 (t :: ts) = .ok (false, t :: ts)) := by show Rl.took 43 (t :: ts) = .ok (false, t :: ts); rw [took_cons, if_neg hb, if_neg h43]
          by_cases h63 : t.text = [63]
          · rw [if_pos h63]
            have T3 : Hid (Rl.took 63 (t :: ts) = .ok (true, ts)) := by show Rl.took 63 (t :: ts) = .ok (true, ts); rw [took_cons, if_neg hb, if_pos h63]
            clear hb h42 h43 h63
            go_enter Try.func92, Try.ntmps92
            go_wp2_with (first | (go_at_call_of 70 (Value.string ⟨#[42]⟩); have hc := took_any 42 rb S x (t :: ts) _ HI.out hS; rw [T1.out] at hc; refine hc.mono ?_; clear hc; rintro e w2 ⟨rfl, hI2, ho2⟩; have HI2 : Hid (In w2 rb S x (t :: ts)) := hI2; clear hI2; have X2 : Hid (Xb w2 w.heap.size (.int .u8 o) (.int .u32 s) (.slice a n c)) := X0.out.only ho2 (by omega); have Z2 : Hid (Xb w2 (w.heap.size + 1) (.int .u8 0) (.int .u32 0) (.slice none 0 0)) := Z0.out.only ho2 (by omega); have HO2 : Hid (Only (· = rb) w w2) := HO0.out.trans ho2; clear ho2) | (go_at_call_of 70 (Value.string ⟨#[43]⟩); have hc := took_any 43 rb S x (t :: ts) _ HI2.out hS; rw [T2.out] at hc; refine hc.mono ?_; clear hc; rintro e w3 ⟨rfl, hI3, ho3⟩; have HI3 : Hid (In w3 rb S x (t :: ts)) := hI3; clear hI3; have X3 : Hid (Xb w3 w.heap.size (.int .u8 o) (.int .u32 s) (.slice a n c)) := X2.out.only ho3 (by omega); have Z3 : Hid (Xb w3 (w.heap.size + 1) (.int .u8 0) (.int .u32 0) (.slice none 0 0)) := Z2.out.only ho3 (by omega); have HO3 : Hid (Only (· = rb) w w3) := HO2.out.trans ho3; clear ho3) | (go_at_call_of 70 (Value.string ⟨#[63]⟩); have hc := took_any 63 rb S x (t :: ts) _ HI3.out hS; rw [T3.out] at hc; refine hc.mono ?_; clear hc; rintro e w4 ⟨rfl, hI4, ho4⟩; have HI4 : Hid (In w4 rb S x (ts)) := hI4; clear hI4; have X4 : Hid (Xb w4 w.heap.size (.int .u8 o) (.int .u32 s) (.slice a n c)) := X3.out.only ho4 (by omega); have Z4 : Hid (Xb w4 (w.heap.size + 1) (.int .u8 0) (.int .u32 0) (.slice none 0 0)) := Z3.out.only ho4 (by omega); have HO4 : Hid (Only (· = rb) w w4) := HO3.out.trans ho4; clear ho4; have x0 := X4.out.c0; have x1 := X4.out.c1; have x2 := X4.out.c2; have z0 := Z4.out.c0; have z1 := Z4.out.c1; have z2 := Z4.out.c2; have zf0 := Z4.out.fz 0; have zf1 := Z4.out.fz 1; have zf2 := Z4.out.fz 2; have hl4 := Z4.out.lt))
            refine bodyPost_ret (v := .agg #[.int .u8 6, .int .u32 0, .slice (some ⟨w4.heap.size, 0, none⟩) 1 1]) (results_x rfl _ rfl ((Z4.out.set3 _ _ _).alloc _)) rfl ?_
            refine ⟨_, rfl, ?_, (HI4.out.set3 (z := w.heap.size + 1) (by omega) _ _ _).alloc _, (HO4.out.set3 (z := w.heap.size + 1) (by omega) _ _ _).alloc _⟩
            have hg := heap_alloc_new (set3 w4 (w.heap.size + 1) (.int .u8 6) (.int .u32 0) (.slice (some ⟨w4.heap.size, 0, none⟩) 1 1)) (.cells #[.int .u8 o, .int .u32 s, .slice a n c] 49)
            rw [set3_size] at hg
            exact Tr.one 6 (HT.out.later ((HO4.out.set3 (z := w.heap.size + 1) (by omega) _ _ _).alloc _) HF.out (fun b hb => hb)) hg (fun b hb => Or.inl hb) (Or.inr (by omega))
          · rw [if_neg h63]
            have T3 : Hid (Rl.took 63 (t :: ts) = .ok (false, t :: ts)) := by show Rl.took 63 (t :: ts) = .ok (false, t :: ts); rw [took_cons, if_neg hb, if_neg h63]
            clear hb h42 h43 h63
            go_enter Try.func92, Try.ntmps92
            go_wp2_with (first | (go_at_call_of 70 (Value.string ⟨#[42]⟩); have hc := took_any 42 rb S x (t :: ts) _ HI.out hS; rw [T1.out] at hc; refine hc.mono ?_; clear hc; rintro e w2 ⟨rfl, hI2, ho2⟩; have HI2 : Hid (In w2 rb S x (t :: ts)) := hI2; clear hI2; have X2 : Hid (Xb w2 w.heap.size (.int .u8 o) (.int .u32 s) (.slice a n c)) := X0.out.only ho2 (by omega); have Z2 : Hid (Xb w2 (w.heap.size + 1) (.int .u8 0) (.int .u32 0) (.slice none 0 0)) := Z0.out.only ho2 (by omega); have HO2 : Hid (Only (· = rb) w w2) := HO0.out.trans ho2; clear ho2) | (go_at_call_of 70 (Value.string ⟨#[43]⟩); have hc := took_any 43 rb S x (t :: ts) _ HI2.out hS; rw [T2.out] at hc; refine hc.mono ?_; clear hc; rintro e w3 ⟨rfl, hI3, ho3⟩; have HI3 : Hid (In w3 rb S x (t :: ts)) := hI3; clear hI3; have X3 : Hid (Xb w3 w.heap.size (.int .u8 o) (.int .u32 s) (.slice a n c)) := X2.out.only ho3 (by omega); have Z3 : Hid (Xb w3 (w.heap.size + 1) (.int .u8 0) (.int .u32 0) (.slice none 0 0)) := Z2.out.only ho3 (by omega); have HO3 : Hid (Only (· = rb) w w3) := HO2.out.trans ho3; clear ho3) | (go_at_call_of 70 (Value.string ⟨#[63]⟩); have hc := took_any 63 rb S x (t :: ts) _ HI3.out hS; rw [T3.out] at hc; refine hc.mono ?_; clear hc; rintro e w4 ⟨rfl, hI4, ho4⟩; have HI4 : Hid (In w4 rb S x (t :: ts)) := hI4; clear hI4; have X4 : Hid (Xb w4 w.heap.size (.int .u8 o) (.int .u32 s) (.slice a n c)) := X3.out.only ho4 (by omega); have Z4 : Hid (Xb w4 (w.heap.size + 1) (.int .u8 0) (.int .u32 0) (.slice none 0 0)) := Z3.out.only ho4 (by omega); have HO4 : Hid (Only (· = rb) w w4) := HO3.out.trans ho4; clear ho4; have x0 := X4.out.c0; have x1 := X4.out.c1; have x2 := X4.out.c2; have z0 := Z4.out.c0; have z1 := Z4.out.c1; have z2 := Z4.out.c2; have zf0 := Z4.out.fz 0; have zf1 := Z4.out.fz 1; have zf2 := Z4.out.fz 2; have hl4 := Z4.out.lt))
            refine bodyPost_ret (v := .agg #[.int .u8 o, .int .u32 s, .slice a n c]) (results_x rfl _ rfl ((Z4.out.set3 _ _ _))) rfl ?_
            exact ⟨_, rfl, HT.out.later (HO4.out.set3 (z := w.heap.size + 1) (by omega) _ _ _) HF.out (fun b hb => Or.inl hb), HI4.out.set3 (z := w.heap.size + 1) (by omega) _ _ _, HO4.out.set3 (z := w.heap.size + 1) (by omega) _ _ _⟩
end Go.Proofs.Ytfbcijnacbfjpaa
namespace Go.Proofs.Ytfbcijnacbfjpaa
set_option linter.unusedVariables false
set_option linter.unusedSimpArgs false
namespace Rl
theorem took_len {c : UInt8} {ts ts' : List Tk} {b : Bool} (h : took c ts = .ok (b, ts')) : ts'.length ≤ ts.length ∧ (b = true → ts'.length < ts.length) := by
  cases ts with
  | nil => cases h
  | cons t ts =>
    simp only [took] at h
    split at h
    · cases h
    · split at h
      · cases h; simp
      · cases h; simp
theorem want_len {c : UInt8} {ts ts' : List Tk} (h : want c ts = .ok ts') : ts'.length < ts.length := by
  cases ts with
  | nil => cases h
  | cons t ts =>
    simp only [want] at h
    split at h
    · cases h
    · split at h
      · cases h; simp
      · cases h
theorem names_len {E : Env} : ∀ {ts ts' : List Tk} {a b : Int}, names E ts a = .ok (b, ts') → ts'.length ≤ ts.length
  | [], _, _, _, h => by cases h
  | t :: ts, ts', a, b, h => by
    simp only [names] at h
    split at h
    · cases h
    · split at h
      · split at h
        · cases h
        · have := names_len h
          simp only [List.length_cons]
          omega
      · cases h; simp
theorem often_len {e e' : Ex} {ts ts' : List Tk} (h : often e ts = .ok (e', ts')) : ts'.length ≤ ts.length := by
  cases ts with
  | nil => cases h
  | cons t ts =>
    simp only [often] at h
    split at h
    · cases h
    · split at h
      · cases h; simp
      · split at h
        · cases h; simp
        · split at h
          · cases h; simp
          · cases h; simp
theorem some_len {E : Env} {nc p p' : Nat} {ts ts' : List Tk} {b : Int} (h : some' E nc ts p = .ok (b, ts', p')) (hp : p ≤ 200) : ts'.length < ts.length ∧ p' ≤ 200 := by
  cases ts with
  | nil => cases h
  | cons t ts =>
    simp only [some'] at h
    split at h
    · cases h
    · split at h
      · cases h; simp; omega
      · split at h
        · split at h
          · cases h
          · rename_i h1
            split at h
            · cases h
            · rename_i h2
              split at h
              · cases h
              · rename_i h3
                cases h
                have := took_len h1
                have := names_len h2
                have := want_len h3
                simp only [List.length_cons]
                omega
        · split at h
          · cases h
          · cases h; simp; omega
theorem expr_len (E : Env) (nc : Nat) : ∀ n,
    (∀ d ts p e ts' p', either E nc n d ts p = .ok (e, ts', p') → p ≤ 200 → ts'.length ≤ ts.length ∧ p' ≤ 200) ∧
    (∀ d ts p l e ts' p', alts E nc n d ts p l = .ok (e, ts', p') → p ≤ 200 → ts'.length ≤ ts.length ∧ p' ≤ 200) ∧
    (∀ d ts p l e ts' p', row E nc n d ts p l = .ok (e, ts', p') → p ≤ 200 → ts'.length ≤ ts.length ∧ p' ≤ 200) ∧
    (∀ d ts p e ts' p', thing E nc n d ts p = .ok (e, ts', p') → p ≤ 200 → ts'.length < ts.length ∧ p' ≤ 200)
  | 0 => by
    refine ⟨fun _ _ _ _ _ _ h => ?_, fun _ _ _ _ _ _ _ h => ?_, fun _ _ _ _ _ _ _ h => ?_, fun _ _ _ _ _ _ h => ?_⟩ <;> simp [either, alts, row, thing] at h
  | n + 1 => by
    obtain ⟨hE, hA, hR, hT⟩ := expr_len E nc n
    refine ⟨fun d ts p e ts' p' h hp => ?_, fun d ts p l e ts' p' h hp => ?_, fun d ts p l e ts' p' h hp => ?_, fun d ts p e ts' p' h hp => ?_⟩
    · simp only [either] at h
      split at h
      · cases h
      · rename_i h1
        have a1 := hR _ _ _ _ _ _ _ h1 hp
        have a2 := hA _ _ _ _ _ _ _ h a1.2
        omega
    · simp only [alts] at h
      split at h
      · cases h
      · rename_i h1
        cases h
        have := took_len h1
        omega
      · rename_i h1
        split at h
        · cases h
        · rename_i h2
          have a0 := took_len h1
          have a1 := hR _ _ _ _ _ _ _ h2 hp
          have a2 := hA _ _ _ _ _ _ _ h a1.2
          omega
    · cases ts with
      | nil => simp [row, thing] at h
      | cons t ts =>
        simp only [row] at h
        split at h
        · cases h
        · split at h
          · split at h
            · cases h
            · rename_i h1
              split at h
              · cases h
              · rename_i h2
                have a1 := hT _ _ _ _ _ _ h1 hp
                have a2 := often_len h2
                have a3 := hR _ _ _ _ _ _ _ h a1.2
                omega
          · cases h
            exact ⟨Nat.le_refl _, hp⟩
    · cases ts with
      | nil => simp [row, thing] at h
      | cons t ts =>
        simp only [thing] at h
        split at h
        · split at h
          · cases h
          · split at h
            · cases h
            · rename_i h1
              split at h
              · cases h
              · rename_i h2
                cases h
                have a1 := hE _ _ _ _ _ _ h1 hp
                have a2 := want_len h2
                simp only [List.length_cons]
                omega
        · split at h
          · cases h
          · rename_i h1
            cases h
            exact some_len h1 hp
end Rl
end Go.Proofs.Ytfbcijnacbfjpaa
namespace Go.Proofs.Ytfbcijnacbfjpaa
open Go.RowKit Go.Maps
set_option linter.unusedVariables false
set_option linter.unusedSimpArgs false

def Rd.withOp (x : Rd) (d : Int) : Rd := { x with op := d }
theorem Rdr.set9 {w : World} {rb : Nat} {S : ByteArray} {i : Int} {x : Rd} (h : Rdr w rb S i x) (v : Int) : Rdr (w.setCell ⟨rb, 9, none⟩ (.int .i64 v)) rb S i (x.withOp v) := heap_setCell_at h _
theorem In.set9 {w : World} {rb : Nat} {S : ByteArray} {x : Rd} {ts : List Rl.Tk} (h : In w rb S x ts) (v : Int) : In (w.setCell ⟨rb, 9, none⟩ (.int .i64 v)) rb S (x.withOp v) ts := by
  obtain ⟨i, h1, h2⟩ := h
  exact ⟨i, h1.set9 v, h2⟩
structure Cx (nc : Nat) (rb : Nat) (x : Rd) (p d : Nat) : Prop where
  mb : x.mb ≠ rb
  pl : x.pl = (p : Int)
  p200 : p ≤ 200
  op : x.op = (d : Int)
  d16 : d ≤ 16
  vC : ∃ a cap, x.vC = .slice a nc cap
  nc24 : nc ≤ 24
theorem Cx.withPl {nc rb : Nat} {x : Rd} {p d : Nat} (h : Cx nc rb x p d) {q : Nat} (hq : q ≤ 200) : Cx nc rb (x.withPl q) q d := ⟨h.mb, rfl, hq, h.op, h.d16, h.vC, h.nc24⟩
theorem Cx.withOp {nc rb : Nat} {x : Rd} {p d : Nat} (h : Cx nc rb x p d) {q : Nat} (hq : q ≤ 16) : Cx nc rb (x.withOp q) p q := ⟨h.mb, h.pl, h.p200, rfl, hq, h.vC, h.nc24⟩
def EitherOk (E : Rl.Env) (nc rb : Nat) (S : ByteArray) (n : Nat) : Prop := ∀ (d p : Nat) (x : Rd) (ts : List Rl.Tk) (w : World), In w rb S x ts → Mp w x.mb E → Cx nc rb x p d → 4 * ts.length + 3 ≤ n →
  Calls Try.prog 88 #[.pointer (some ⟨rb, 0, none⟩)] w (exprP rb S x w (Rl.either E nc n d ts p))
def RowOk (E : Rl.Env) (nc rb : Nat) (S : ByteArray) (n : Nat) : Prop := ∀ (d p : Nat) (x : Rd) (ts : List Rl.Tk) (w : World), In w rb S x ts → Mp w x.mb E → Cx nc rb x p d → 4 * ts.length + 2 ≤ n →
  Calls Try.prog 90 #[.pointer (some ⟨rb, 0, none⟩)] w (exprP rb S x w (Rl.row E nc n d ts p []))
def ThingOk (E : Rl.Env) (nc rb : Nat) (S : ByteArray) (n : Nat) : Prop := ∀ (d p : Nat) (x : Rd) (t : Rl.Tk) (ts : List Rl.Tk) (w : World), In w rb S x (t :: ts) → Mp w x.mb E → Cx nc rb x p d → ¬ t.bad = true → Rl.beg t = true → 4 * (ts.length + 1) + 1 ≤ n →
  Calls Try.prog 93 #[.pointer (some ⟨rb, 0, none⟩)] w (exprP rb S x w (Rl.thing E nc n d (t :: ts) p))
/-- what a bracket reads as. -/
def brF (E : Rl.Env) (nc n d : Nat) (t : Rl.Tk) (ts : List Rl.Tk) (p : Nat) : Rl.R (Rl.Ex × List Rl.Tk × Nat) :=
  if d = 16 then .error (25, t.at') else match Rl.either E nc n (d + 1) ts p with
    | .error f => .error f
    | .ok (e, ts1, p1) => match Rl.want 41 ts1 with
      | .error f => .error f
      | .ok ts2 => .ok (e, ts2, p1)
theorem thing_cons (E : Rl.Env) (nc n d : Nat) (t : Rl.Tk) (ts : List Rl.Tk) (p : Nat) : Rl.thing E nc (n + 1) d (t :: ts) p = if t.text = [40] then brF E nc n d t ts p else
    match Rl.some' E nc (t :: ts) p with
    | .error f => .error f
    | .ok (b, ts1, p1) => .ok (.mk 1 b [], ts1, p1) := by simp only [Rl.thing, brF]; rfl
theorem Tr.leaf (w : World) (F : Nat → Prop) (op s : Int) : Tr w F (.mk op s []) (.agg #[.int .u8 op, .int .u32 s, .slice none 0 0]) := by
  unfold Tr
  exact ⟨none, 0, rfl, Nat.le_refl _, fun h => absurd rfl h⟩

set_option maxRecDepth 100000 in
set_option maxHeartbeats 4000000 in
theorem bracket_any (E : Rl.Env) (nc n d p rb : Nat) (S : ByteArray) (x : Rd) (t : Rl.Tk) (ts : List Rl.Tk) (i : Int) (w : World) (hR : Rdr w rb S i x) (hs : Rl.Strm S.data.toList t.at' (t :: ts)) (ht : t.at' + t.text.length ≤ S.size) (hS : S.size ≤ 4096)
    (hM : Mp w x.mb E) (hC : Cx nc rb x p d) (hne : t.text ≠ []) (hE : EitherOk E nc rb S n) (hn : 4 * ts.length + 3 ≤ n) :
    Calls Try.prog 94 #[.pointer (some ⟨rb, 0, none⟩), .agg #[.string (bs t.text), .int .i64 (t.at' : Int)]] w (exprP rb S x w (brF E nc n d t ts p)) := by
  have hlt := hR.lt
  have c9 := hR.c9
  have f9 := hR.fz 9
  rw [hC.op] at c9
  have HC : Hid (Cx nc rb x p d) := hC
  have HR : Hid (Rdr w rb S i x) := hR
  have HM : Hid (Mp w x.mb E) := hM
  have Hs : Hid (Rl.Strm S.data.toList t.at' (t :: ts)) := hs
  have HE : Hid (EitherOk E nc rb S n) := hE
  have Hne : Hid (t.text ≠ []) := hne
  have hd16 := hC.d16
  have HO0 : Hid (Only (· = rb) w ((w.alloc (.cells #[.string (bs t.text), .int .i64 (t.at' : Int)] 124)).alloc (.cells #[.int .u8 0, .int .u32 0, .slice none 0 0] 49))) := ((Only.refl (· = rb) w).alloc _).alloc _
  have P0 : Hid (Pb ((w.alloc (.cells #[.string (bs t.text), .int .i64 (t.at' : Int)] 124)).alloc (.cells #[.int .u8 0, .int .u32 0, .slice none 0 0] 49)) w.heap.size t.text t.at') := (Pb.new w _ _).alloc _
  have Z0 : Hid (Xb ((w.alloc (.cells #[.string (bs t.text), .int .i64 (t.at' : Int)] 124)).alloc (.cells #[.int .u8 0, .int .u32 0, .slice none 0 0] 49)) (w.heap.size + 1) (.int .u8 0) (.int .u32 0) (.slice none 0 0)) := heap_alloc2_new _ _ _
  clear hR hM hC hs hE hne
  unfold brF
  by_cases h16 : d = 16
  · rw [if_pos h16]
    have q : ((d : Int) == 16) = true := by simp; omega
    clear h16
    go_enter Try.func94, Try.ntmps94
    go_wp2_with (go_at_call 52; refine (throw_any 25 t.at' _).mono ?_; rintro e w3 ⟨rfl, rfl⟩)
    exact ⟨rfl, rfl, HO0.out⟩
  · rw [if_neg h16]
    have q : ((d : Int) == 16) = false := by simp; omega
    have hd1 : (d : Int) < 16 := by omega
    clear h16
    cases he : Rl.either E nc n (d + 1) ts p with
    | error f =>
      have T1 : Hid (Rl.either E nc n (d + 1) ts p = .error f) := he
      clear he
      simp only
      go_enter Try.func94, Try.ntmps94
      go_wp2_with (first | (go_at_call 53; refine (take_any rb S i t.at' t.text x _ ((HR.out.alloc _).alloc _) (by omega)).mono ?_; rintro e w1 ⟨rfl, hR1, ho1⟩; have d9 := hR1.c9; rw [HC.out.op] at d9; have g9 := hR1.fz 9; have HR1 : Hid (Rdr w1 rb S ((t.at' + t.text.length : Nat) : Int) x) := hR1; clear hR1; have HO1 : Hid (Only (· = rb) w w1) := HO0.out.trans ho1) | (go_at_call 88; have hc := HE.out (d + 1) p (x.withOp ((d + 1 : Nat) : Int)) ts (w1.setCell ⟨rb, 9, none⟩ (.int .i64 ((d : Int) + 1))) ⟨_, HR1.out.set9 ((d : Int) + 1), Rl.strm_tail Hs.out Hne.out, ht⟩ ((HM.out.only HO1.out HC.out.mb).setOther (fun e => HC.out.mb e.symm) _) (HC.out.withOp (by omega)) (by omega); rw [T1.out] at hc; refine hc.mono ?_; clear hc; rintro e w2 ⟨rfl, ho2⟩))
      exact ⟨rfl, rfl, (HO1.out.setCell (p := ⟨rb, 9, none⟩) rfl _).trans ho2⟩
    | ok r =>
      obtain ⟨ex, ts1, p1⟩ := r
      have T1 : Hid (Rl.either E nc n (d + 1) ts p = .ok (ex, ts1, p1)) := he
      clear he
      simp only
      cases hw : Rl.want 41 ts1 with
      | error f =>
        have T2 : Hid (Rl.want 41 ts1 = .error f) := hw
        clear hw
        simp only
        go_enter Try.func94, Try.ntmps94
        go_wp2_with (first | (go_at_call 53; refine (take_any rb S i t.at' t.text x _ ((HR.out.alloc _).alloc _) (by omega)).mono ?_; rintro e w1 ⟨rfl, hR1, ho1⟩; have d9 := hR1.c9; rw [HC.out.op] at d9; have g9 := hR1.fz 9; have HR1 : Hid (Rdr w1 rb S ((t.at' + t.text.length : Nat) : Int) x) := hR1; clear hR1; have HO1 : Hid (Only (· = rb) w w1) := HO0.out.trans ho1) | (go_at_call 88; have hc := HE.out (d + 1) p (x.withOp ((d + 1 : Nat) : Int)) ts (w1.setCell ⟨rb, 9, none⟩ (.int .i64 ((d : Int) + 1))) ⟨_, HR1.out.set9 ((d : Int) + 1), Rl.strm_tail Hs.out Hne.out, ht⟩ ((HM.out.only HO1.out HC.out.mb).setOther (fun e => HC.out.mb e.symm) _) (HC.out.withOp (by omega)) (by omega); rw [T1.out] at hc; refine hc.mono ?_; clear hc; rintro e w2 ⟨v, rfl, hT2, hI2, ho2⟩; obtain ⟨o, s, a, k, c, rfl⟩ := hT2.form) | (go_at_call 54; have hc := want_any 41 rb S ((x.withOp ((d + 1 : Nat) : Int)).withPl p1) ts1 _ (hI2.alloc (.cells #[.int .u8 o, .int .u32 s, .slice a k c] 49)) hS; rw [T2.out] at hc; refine hc.mono ?_; clear hc; rintro e w3 ⟨rfl, ho3⟩))
        exact ⟨rfl, rfl, (((HO1.out.setCell (p := ⟨rb, 9, none⟩) rfl _).trans ho2).alloc _).trans ho3⟩
      | ok ts2 =>
        have T2 : Hid (Rl.want 41 ts1 = .ok ts2) := hw
        clear hw
        simp only
        have hdd : (d : Int) + 1 - 1 = (d : Int) := by omega
        go_enter Try.func94, Try.ntmps94
        go_wp2_with (first | (go_at_call 53; refine (take_any rb S i t.at' t.text x _ ((HR.out.alloc _).alloc _) (by omega)).mono ?_; rintro e w1 ⟨rfl, hR1, ho1⟩; have d9 := hR1.c9; rw [HC.out.op] at d9; have g9 := hR1.fz 9; have HR1 : Hid (Rdr w1 rb S ((t.at' + t.text.length : Nat) : Int) x) := hR1; clear hR1; have HO1 : Hid (Only (· = rb) w w1) := HO0.out.trans ho1; have Z1 : Hid (Xb w1 (w.heap.size + 1) (.int .u8 0) (.int .u32 0) (.slice none 0 0)) := Z0.out.only ho1 (by omega); have hl1 := Z1.out.lt) | (go_at_call 88; have hc := HE.out (d + 1) p (x.withOp ((d + 1 : Nat) : Int)) ts (w1.setCell ⟨rb, 9, none⟩ (.int .i64 ((d : Int) + 1))) ⟨_, HR1.out.set9 ((d : Int) + 1), Rl.strm_tail Hs.out Hne.out, ht⟩ ((HM.out.only HO1.out HC.out.mb).setOther (fun e => HC.out.mb e.symm) _) (HC.out.withOp (by omega)) (by omega); rw [T1.out] at hc; refine hc.mono ?_; clear hc; rintro e w2 ⟨v, rfl, hT2, hI2, ho2⟩; obtain ⟨o, s, a, k, c, rfl⟩ := hT2.form; have HT2 : Hid (Tr w2 (fun b => w1.heap.size ≤ b) ex (.agg #[.int .u8 o, .int .u32 s, .slice a k c])) := (by have := hT2; simp only [World.setCell, Array.size_modify] at this; exact this); have HI2 : Hid (In w2 rb S ((x.withOp ((d + 1 : Nat) : Int)).withPl p1) ts1) := hI2; clear hT2 hI2; have HO2 : Hid (Only (· = rb) w w2) := (HO1.out.setCell (p := ⟨rb, 9, none⟩) rfl _).trans ho2; have Z2 : Hid (Xb w2 (w.heap.size + 1) (.int .u8 0) (.int .u32 0) (.slice none 0 0)) := (Z1.out.only ((Only.refl (· = rb) w1).setCell (p := ⟨rb, 9, none⟩) rfl _) (by omega)).only ho2 (by omega); have hl2 := Z2.out.lt) | (go_at_call 54; have hc := want_any 41 rb S ((x.withOp ((d + 1 : Nat) : Int)).withPl p1) ts1 _ (HI2.out.alloc (.cells #[.int .u8 o, .int .u32 s, .slice a k c] 49)) hS; rw [T2.out] at hc; refine hc.mono ?_; clear hc; rintro e w3 ⟨rfl, hI3, ho3⟩; have HI3 : Hid (In w3 rb S ((x.withOp ((d + 1 : Nat) : Int)).withPl p1) ts2) := hI3; obtain ⟨i3, hR3, _, _⟩ := hI3; have d9 : w3.cell? ⟨rb, 9, none⟩ = some (.int .i64 ((d : Int) + 1)) := hR3.c9; have g9 := hR3.fz 9; clear hR3; have HO3 : Hid (Only (· = rb) w w3) := (HO2.out.alloc _).trans ho3; have Z3 : Hid (Xb w3 (w.heap.size + 1) (.int .u8 0) (.int .u32 0) (.slice none 0 0)) := (Z2.out.alloc _).only ho3 (by omega); have C3 : Hid (Xb w3 w2.heap.size (.int .u8 o) (.int .u32 s) (.slice a k c)) := (Xb.new w2 _ _ _).only ho3 (by omega); have x0 := C3.out.c0; have x1 := C3.out.c1; have x2 := C3.out.c2; have z0 := Z3.out.c0; have z1 := Z3.out.c1; have z2 := Z3.out.c2; have zf0 := Z3.out.fz 0; have zf1 := Z3.out.fz 1; have zf2 := Z3.out.fz 2; have hl3 := Z3.out.lt; have HT3 : Hid (Tr w3 (fun b => w1.heap.size ≤ b) ex (.agg #[.int .u8 o, .int .u32 s, .slice a k c])) := HT2.out.later (((Only.refl (· = rb) w2).alloc _).trans ho3) (fun b hb => by omega) (fun b hb => hb)))
        have hX : (((x.withOp ((d + 1 : Nat) : Int)).withPl p1).withOp (d : Int)) = x.withPl p1 := by
          have := HC.out.op
          cases x
          simp only [Rd.withOp, Rd.withPl] at this ⊢
          rw [this]
        refine bodyPost_ret (v := .agg #[.int .u8 o, .int .u32 s, .slice a k c]) (results_x rfl _ rfl (((Z3.out.only ((Only.refl (· = rb) w3).setCell (p := ⟨rb, 9, none⟩) rfl (.int .i64 (d : Int))) (by omega))).set3 _ _ _)) rfl ?_
        refine ⟨_, rfl, ?_, ?_, (HO3.out.setCell (p := ⟨rb, 9, none⟩) rfl _).set3 (z := w.heap.size + 1) (by omega) _ _ _⟩
        · refine HT3.out.keep fun b hb hl => ⟨by omega, ?_⟩
          rw [show ∀ W : World, (((W.setCell ⟨w.heap.size + 1, 0, none⟩ (.int .u8 o)).setCell ⟨w.heap.size + 1, 1, none⟩ (.int .u32 s)).setCell ⟨w.heap.size + 1, 2, none⟩ (.slice a k c)) = set3 W (w.heap.size + 1) (.int .u8 o) (.int .u32 s) (.slice a k c) from fun _ => rfl]
          exact (set3_other _ _ _ _ (by omega)).trans (Below.heap_setCell _ _ _ _ (by show ¬ b = rb; omega))
        · rw [← hX]
          exact (HI3.out.set9 _).set3 (by omega) _ _ _
end Go.Proofs.Ytfbcijnacbfjpaa
namespace Go.Proofs.Ytfbcijnacbfjpaa
open Go.RowKit Go.Maps
set_option linter.unusedVariables false
set_option linter.unusedSimpArgs false

set_option maxRecDepth 100000 in
set_option maxHeartbeats 4000000 in
theorem thing_step (E : Rl.Env) (nc rb : Nat) (S : ByteArray) (n : Nat) (hS : S.size ≤ 4096) (hE : EitherOk E nc rb S n) : ThingOk E nc rb S (n + 1) := by
  intro d p x t ts w hI hM hC hb hbeg hn
  have hlt := hI.lt
  have HC : Hid (Cx nc rb x p d) := hC
  have HI : Hid (In w rb S x (t :: ts)) := hI
  have HM : Hid (Mp w x.mb E) := hM
  have HE : Hid (EitherOk E nc rb S n) := hE
  have HB : Hid (¬ t.bad = true) := hb
  have HBg : Hid (Rl.beg t = true) := hbeg
  have Z0 : Hid (Xb (w.alloc (.cells #[.int .u8 0, .int .u32 0, .slice none 0 0] 49)) w.heap.size (.int .u8 0) (.int .u32 0) (.slice none 0 0)) := Xb.new w _ _ _
  have ht := bs_toList t.text
  have h40 : (⟨#[40]⟩ : ByteArray).toList = [40] := by rw [Lib.toList_data]
  rw [thing_cons]
  clear hI hM hC hE hb hbeg
  by_cases htx : t.text = [40]
  · rw [if_pos htx]
    have q : (t.text == [40]) = true := by rw [htx]; simp
    have Hne : Hid (t.text ≠ []) := (by rw [htx]; simp : t.text ≠ [])
    clear htx
    cases hF : brF E nc n d t ts p with
    | error f =>
      have T1 : Hid (brF E nc n d t ts p = .error f) := hF
      clear hF
      go_enter Try.func93, Try.ntmps93
      go_wp2_with (first | (go_at_call 51; refine (next_ok rb S x t ts _ (HI.out.alloc _) hS HB.out).mono ?_; rintro e w1 ⟨rfl, hR1, hs1, he1, ho1⟩; have HS1 : Hid (Rl.Strm S.data.toList t.at' (t :: ts)) := hs1; have HR1 : Hid (Rdr w1 rb S (t.at' : Int) x) := hR1; clear hs1 hR1; have HO1 : Hid (Only (· = rb) w w1) := ((Only.refl (· = rb) w).alloc _).trans ho1) | (go_at_call 94; have hc := bracket_any E nc n d p rb S x t ts t.at' _ (HR1.out.alloc (.cells #[.string (bs t.text), .int .i64 (t.at' : Int)] 124)) HS1.out he1 hS ((HM.out.only HO1.out HC.out.mb).alloc _) HC.out Hne.out HE.out (by omega); rw [T1.out] at hc; refine hc.mono ?_; clear hc; rintro e w2 ⟨rfl, ho2⟩))
      exact ⟨rfl, rfl, (HO1.out.alloc _).trans ho2⟩
    | ok r =>
      obtain ⟨ex, ts2, p2⟩ := r
      have T1 : Hid (brF E nc n d t ts p = .ok (ex, ts2, p2)) := hF
      clear hF
      go_enter Try.func93, Try.ntmps93
      go_wp2_with (first | (go_at_call 51; refine (next_ok rb S x t ts _ (HI.out.alloc _) hS HB.out).mono ?_; rintro e w1 ⟨rfl, hR1, hs1, he1, ho1⟩; have HS1 : Hid (Rl.Strm S.data.toList t.at' (t :: ts)) := hs1; have HR1 : Hid (Rdr w1 rb S (t.at' : Int) x) := hR1; clear hs1 hR1; have HO1 : Hid (Only (· = rb) w w1) := ((Only.refl (· = rb) w).alloc _).trans ho1; have Z1 : Hid (Xb w1 w.heap.size (.int .u8 0) (.int .u32 0) (.slice none 0 0)) := Z0.out.only ho1 (by omega); have hl1 := Z1.out.lt) | (go_at_call 94; have hc := bracket_any E nc n d p rb S x t ts t.at' _ (HR1.out.alloc (.cells #[.string (bs t.text), .int .i64 (t.at' : Int)] 124)) HS1.out he1 hS ((HM.out.only HO1.out HC.out.mb).alloc _) HC.out Hne.out HE.out (by omega); rw [T1.out] at hc; refine hc.mono ?_; clear hc; rintro e w2 ⟨v, rfl, hT2, hI2, ho2⟩; obtain ⟨o, s, a, k, c, rfl⟩ := hT2.form; have Z2 : Hid (Xb w2 w.heap.size (.int .u8 0) (.int .u32 0) (.slice none 0 0)) := (Z1.out.alloc _).only ho2 (by omega); have z0 := Z2.out.c0; have z1 := Z2.out.c1; have z2 := Z2.out.c2; have zf0 := Z2.out.fz 0; have zf1 := Z2.out.fz 1; have zf2 := Z2.out.fz 2; have HT2 : Hid (Tr w2 (fun b => w1.heap.size + 1 ≤ b) ex (.agg #[.int .u8 o, .int .u32 s, .slice a k c])) := (by have := hT2; simp only [World.alloc, Array.size_push] at this; exact this); have HI2 : Hid (In w2 rb S (x.withPl p2) ts2) := hI2; clear hT2 hI2; have HO2 : Hid (Only (· = rb) w w2) := (HO1.out.alloc _).trans ho2))
      refine bodyPost_ret (v := .agg #[.int .u8 o, .int .u32 s, .slice a k c]) (results_x rfl _ rfl (Z2.out.set3 _ _ _)) rfl ?_
      refine ⟨_, rfl, ?_, HI2.out.set3 (z := w.heap.size) (by omega) _ _ _, HO2.out.set3 (z := w.heap.size) (Nat.le_refl _) _ _ _⟩
      refine HT2.out.keep fun b hb hl => ⟨by omega, ?_⟩
      exact set3_other w2 (z := w.heap.size) _ _ _ (by omega)
  · rw [if_neg htx]
    have q : (t.text == [40]) = false := by simpa using htx
    have Hno : Hid (t.text ≠ [40]) := htx
    clear htx
    obtain ⟨a, cap, hv⟩ := HC.out.vC
    have Hv : Hid (x.vC = .slice a nc cap) := hv
    clear hv
    cases hF : Rl.some' E nc (t :: ts) p with
    | error f =>
      have T1 : Hid (Rl.some' E nc (t :: ts) p = .error f) := hF
      clear hF
      simp only
      go_enter Try.func93, Try.ntmps93
      go_wp2_with (first | (go_at_call 51; refine (next_ok rb S x t ts _ (HI.out.alloc _) hS HB.out).mono ?_; rintro e w1 ⟨rfl, hR1, hs1, he1, ho1⟩; have HI1 : Hid (In w1 rb S x (t :: ts)) := ⟨_, hR1, hs1, by omega⟩; clear hs1 hR1; have HO1 : Hid (Only (· = rb) w w1) := ((Only.refl (· = rb) w).alloc _).trans ho1) | (go_at_call 95; have hc := some_any E nc p rb S x t ts _ (HI1.out.alloc (.cells #[.string (bs t.text), .int .i64 (t.at' : Int)] 124)) hS ((HM.out.only HO1.out HC.out.mb).alloc _) HC.out.mb HB.out HBg.out Hno.out HC.out.pl HC.out.p200 a cap Hv.out HC.out.nc24; rw [T1.out] at hc; refine hc.mono ?_; clear hc; rintro e w2 ⟨rfl, ho2⟩))
      exact ⟨rfl, rfl, (HO1.out.alloc _).trans ho2⟩
    | ok r =>
      obtain ⟨b, ts2, p2⟩ := r
      have T1 : Hid (Rl.some' E nc (t :: ts) p = .ok (b, ts2, p2)) := hF
      clear hF
      simp only
      go_enter Try.func93, Try.ntmps93
      go_wp2_with (first | (go_at_call 51; refine (next_ok rb S x t ts _ (HI.out.alloc _) hS HB.out).mono ?_; rintro e w1 ⟨rfl, hR1, hs1, he1, ho1⟩; have HI1 : Hid (In w1 rb S x (t :: ts)) := ⟨_, hR1, hs1, by omega⟩; clear hs1 hR1; have HO1 : Hid (Only (· = rb) w w1) := ((Only.refl (· = rb) w).alloc _).trans ho1; have Z1 : Hid (Xb w1 w.heap.size (.int .u8 0) (.int .u32 0) (.slice none 0 0)) := Z0.out.only ho1 (by omega)) | (go_at_call 95; have hc := some_any E nc p rb S x t ts _ (HI1.out.alloc (.cells #[.string (bs t.text), .int .i64 (t.at' : Int)] 124)) hS ((HM.out.only HO1.out HC.out.mb).alloc _) HC.out.mb HB.out HBg.out Hno.out HC.out.pl HC.out.p200 a cap Hv.out HC.out.nc24; rw [T1.out] at hc; refine hc.mono ?_; clear hc; rintro e w2 ⟨rfl, hI2, ho2⟩; have Z2 : Hid (Xb w2 w.heap.size (.int .u8 0) (.int .u32 0) (.slice none 0 0)) := (Z1.out.alloc _).only ho2 (by omega); have z0 := Z2.out.c0; have z1 := Z2.out.c1; have z2 := Z2.out.c2; have zf0 := Z2.out.fz 0; have zf1 := Z2.out.fz 1; have zf2 := Z2.out.fz 2; have HI2 : Hid (In w2 rb S (x.withPl p2) ts2) := hI2; clear hI2; have HO2 : Hid (Only (· = rb) w w2) := (HO1.out.alloc _).trans ho2))
      refine bodyPost_ret (v := .agg #[.int .u8 1, .int .u32 b, .slice none 0 0]) (results_x rfl _ rfl (Z2.out.set3 _ _ _)) rfl ?_
      exact ⟨_, rfl, Tr.leaf _ _ _ _, HI2.out.set3 (z := w.heap.size) (by omega) _ _ _, HO2.out.set3 (z := w.heap.size) (Nat.le_refl _) _ _ _⟩
end Go.Proofs.Ytfbcijnacbfjpaa
namespace Go.Proofs.Ytfbcijnacbfjpaa
open Go.RowKit Go.Maps
set_option linter.unusedVariables false
set_option linter.unusedSimpArgs false

theorem row_cons (E : Rl.Env) (nc n d : Nat) (t : Rl.Tk) (ts : List Rl.Tk) (p : Nat) (l : List Rl.Ex) : Rl.row E nc (n + 1) d (t :: ts) p l = if t.bad = true then .error (20, t.at') else if Rl.beg t = true then
        match Rl.thing E nc n d (t :: ts) p with
        | .error f => .error f
        | .ok (e, ts1, p1) => match Rl.often e ts1 with
          | .error f => .error f
          | .ok (e2, ts2) => Rl.row E nc n d ts2 p1 (l ++ [e2])
      else .ok (Rl.mkSeq l, t :: ts, p) := by simp only [Rl.row]; rfl
theorem own_form {w : World} {base e size n : Nat} {v : Value} {xs : List Value} (h : w.ownsRow base e size v n xs) : ∃ a cap, v = .slice a n cap := by
  obtain ⟨hl, ⟨hv, h0⟩ | ⟨g, cap, cur, hv, _⟩⟩ := h
  · subst h0; exact ⟨none, 0, hv⟩
  · exact ⟨_, cap, hv⟩
theorem own_only {w w' : World} {base e size n : Nat} {v : Value} {xs : List Value} {P : Nat → Prop} (h : w.ownsRow base e size v n xs) (ho : Only P w w') (hP : ∀ g, base ≤ g → ¬ P g) : w'.ownsRow base e size v n xs := by
  obtain ⟨hl, h | ⟨g, cap, cur, hv, hb, hh, h1⟩⟩ := h
  · exact ⟨hl, Or.inl h⟩
  · exact ⟨hl, Or.inr ⟨g, cap, cur, hv, hb, (ho.block g (Array.getElem?_eq_some_iff.1 hh).1 (hP g hb)).trans hh, h1⟩⟩
theorem row_form {w : World} {base e size n : Nat} {v : Value} {xs : List Value} (h : w.ownsRow base e size v n xs) (hn : 0 < n) :
    ∃ g cap, v = .slice (some ⟨g, 0, none⟩) n cap ∧ base ≤ g ∧ g < w.heap.size ∧ n ≤ cap ∧ ∀ j, j < n * size → w.cell? ⟨g, j, none⟩ = xs[j]? := by
  obtain ⟨hl, ⟨hv, h0⟩ | ⟨g, cap, cur, hv, h1, h2, h3, h4, h5, h6⟩⟩ := h
  · omega
  · refine ⟨g, cap, hv, h1, (Array.getElem?_eq_some_iff.1 h2).1, h3, fun j hj => ?_⟩
    rw [cell_of_row w g j cur e (0, 0) h2, ← h6, List.getElem?_take, if_pos hj]
    simp
theorem strm_len {l : Rl.Str} : ∀ {ts : List Rl.Tk} {i : Nat}, Rl.Strm l i ts → i ≤ l.length → ts.length + i ≤ l.length + 1
  | [], _, h, _ => h.elim
  | t :: ts, i, h, hi => by
    have h2 := h.2
    by_cases e : t.text = []
    · rw [if_pos e] at h2
      subst h2
      simp; omega
    · rw [if_neg e] at h2
      have h3 := Rl.tk_end l i hi
      rw [← h.1] at h3
      have h4 : 0 < t.text.length := List.length_pos_iff.2 e
      have h5 : i ≤ t.at' := by rw [h.1]; exact Rl.nx_ge l i
      have h6 := strm_len h2 h3
      simp only [List.length_cons]
      omega
theorem In.len {w : World} {rb : Nat} {S : ByteArray} {x : Rd} {ts : List Rl.Tk} (h : In w rb S x ts) : ts.length ≤ S.size + 1 := by
  obtain ⟨i, _, hs, hi⟩ := h
  have := strm_len hs (by rw [← Lib.size_eq]; exact hi)
  rw [← Lib.size_eq] at this
  omega
/-- the blocks in which the kids of a list lie that the call makes: none is the list's own. -/
def Kb (base : Nat) (v : Value) (b : Nat) : Prop := base ≤ b ∧ v.ownBlock ≠ some b
/-- a list of expressions that the call makes. -/
def Es (w : World) (base : Nat) (v : Value) (l : List Rl.Ex) : Prop := ∃ xs, w.ownsRow base 49 3 v l.length xs ∧ Trs w (Kb base v) l (fun j => xs[j]?)
theorem Es.nil (w : World) (base : Nat) : Es w base (.slice none 0 0) [] := ⟨[], World.ownsRow_nil _ _ _ _, by unfold Trs; trivial⟩
theorem Es.only {w w' : World} {base : Nat} {v : Value} {l : List Rl.Ex} {P : Nat → Prop} (h : Es w base v l) (ho : Only P w w') (hP : ∀ g, base ≤ g → ¬ P g) : Es w' base v l := by
  obtain ⟨xs, h1, h2⟩ := h
  exact ⟨xs, own_only h1 ho hP, h2.keep (fun b hb hl => ⟨hb, ho.block b hl (hP b hb.1)⟩)⟩
/-- one more, laid by append. -/
theorem Es.snoc {w w' : World} {base : Nat} {v v' : Value} {l : List Rl.Ex} {xs : List Value} {e : Rl.Ex} {o s k : Value} {F : Nat → Prop} {ob : Obj} (h1 : w.ownsRow base 49 3 v l.length xs) (h2 : Trs w (Kb base v) l (fun j => xs[j]?)) (he : Tr w F e (.agg #[o, s, k]))
    (hF : ∀ b, F b → Kb base v b) (hown : w'.ownsRow base 49 3 v' (l.length + 1) (xs ++ [o, s, k])) (hg : (w.alloc ob).grownBy w' v.ownBlock) (hat : v'.ownBlock = v.ownBlock ∨ v'.ownBlock = some (w.alloc ob).heap.size) : Es w' base v' (l ++ [e]) := by
  refine ⟨xs ++ [o, s, k], by rw [List.length_append]; exact hown, ?_⟩
  have hk : ∀ b, Kb base v b → b < w.heap.size → Kb base v' b ∧ w'.heap[b]? = w.heap[b]? := fun b hb hl => by
    refine ⟨⟨hb.1, fun e => ?_⟩, (hg.block b (by simp; omega) (fun e => hb.2 e.symm)).trans (Below.heap_alloc _ _ _ hl)⟩
    rcases hat with h | h
    · exact hb.2 (h ▸ e)
    · rw [h] at e
      injection e with e
      simp at e
      omega
  exact Trs.snoc (he.keep (fun b hb hl => hk b (hF b hb) hl)) l xs (by rw [h1.1]; omega) (h2.keep hk)

set_option maxRecDepth 100000 in
set_option maxHeartbeats 8000000 in
theorem row_step (E : Rl.Env) (nc rb : Nat) (S : ByteArray) (n : Nat) (hS : S.size ≤ 4096) (hT : ∀ m, m < n → ThingOk E nc rb S m) : RowOk E nc rb S n := by
  intro d p x ts w hI hM hC hn
  obtain ⟨i0, hi, hz0, hz1, hz2⟩ := info_parts info50
  have hlt := hI.lt
  have htl : ts.length ≤ 5000 := by have := hI.len; omega
  have HC : Hid (Cx nc rb x p d) := hC
  have HI : Hid (In w rb S x ts) := hI
  have HM : Hid (Mp w x.mb E) := hM
  have HT : Hid (∀ m, m < n → ThingOk E nc rb S m) := hT
  have Z0 : Hid (Xb (w.alloc (.cells #[.int .u8 0, .int .u32 0, .slice none 0 0] 49)) w.heap.size (.int .u8 0) (.int .u32 0) (.slice none 0 0)) := Xb.new w _ _ _
  obtain ⟨F, hF⟩ : ∃ F, F = Rl.row E nc n d ts p [] := ⟨_, rfl⟩
  have HF : Hid (F = Rl.row E nc n d ts p []) := hF
  rw [← hF]
  have hpx : x = x.withPl p := by have := hC.pl; cases x; simp only [Rd.withPl] at this ⊢; rw [this]
  have Hpx : Hid (x = x.withPl p) := hpx
  have hp200 := hC.p200
  clear hF hI hM hC hT hpx
  go_enter Try.func90, Try.ntmps90
  go_wp2_with fail
  go_loopg [3] ts.length (fun g v wr => ∃ (tsr : List Rl.Tk) (m pr : Nat) (l : List Rl.Ex), g = tsr.length ∧ In wr rb S (x.withPl pr) tsr ∧ Only (· = rb) w wr ∧ Xb wr w.heap.size (.int .u8 0) (.int .u32 0) (.slice none 0 0) ∧ Es wr (w.heap.size + 1) v l ∧ pr ≤ 200 ∧ 4 * tsr.length + 2 ≤ m ∧ m ≤ n ∧ l.length + tsr.length ≤ ts.length ∧ Hid (F = Rl.row E nc m d tsr pr l))
  case atStart => exact ⟨ts, n, p, [], rfl, by rw [← Hpx.out]; exact HI.out.alloc _, (Only.refl (· = rb) w).alloc _, Z0.out, Es.nil _ _, hp200, hn, Nat.le_refl _, by simp, HF.out⟩
  case round =>
    obtain ⟨tsr, m, pr, l, rfl, hIr, hOr, hZr, hEr, hpr, hm1, hm2, hll, hFr⟩ := hrel
    cases tsr with
    | nil => obtain ⟨i, _, h2, _⟩ := hIr; exact h2.elim
    | cons t tsr =>
      obtain ⟨m, rfl⟩ : ∃ k, m = k + 1 := ⟨m - 1, by omega⟩
      have HIr : Hid (In wr rb S (x.withPl pr) (t :: tsr)) := hIr
      have HOr : Hid (Only (· = rb) w wr) := hOr
      have HMr : Hid (Mp wr x.mb E) := HM.out.only hOr HC.out.mb
      have HCr : Hid (Cx nc rb (x.withPl pr) pr d) := HC.out.withPl hpr
      have HZr : Hid (Xb wr w.heap.size (.int .u8 0) (.int .u32 0) (.slice none 0 0)) := hZr
      have HEr := hEr
      have hFr' := hFr.out
      have hlz := hZr.lt
      rw [row_cons] at hFr'
      simp only [List.length_cons] at hm1 hll
      clear hIr hOr hFr hZr hEr
      by_cases hb : t.bad = true
      · have HB : Hid (t.bad = true) := hb
        rw [if_pos hb] at hFr'
        have HE : Hid (F = .error (20, t.at')) := hFr'
        clear hb hFr' HEr
        go_wp2_with (go_at_call 51; refine (next_bad rb S _ t tsr _ HIr.out hS HB.out).mono ?_; rintro e w1 ⟨rfl, ho1⟩)
        refine ⟨rfl, ?_⟩
        rw [HE.out]
        exact ⟨rfl, HOr.out.trans ho1⟩
      · have HB : Hid (¬ t.bad = true) := hb
        rw [if_neg hb] at hFr'
        by_cases hbg : Rl.beg t = true
        · have HBg : Hid (Rl.beg t = true) := hbg
          rw [if_pos hbg] at hFr'
          cases hth : Rl.thing E nc m d (t :: tsr) pr with
          | error f =>
            rw [hth] at hFr'
            have HE : Hid (F = .error f) := hFr'
            have T1 : Hid (Rl.thing E nc m d (t :: tsr) pr = .error f) := hth
            clear hb hFr' HEr hth
            go_wp2_with (first | (go_at_call 51; refine (next_ok rb S _ t tsr _ HIr.out hS HB.out).mono ?_; rintro e w1 ⟨rfl, hR1, hs1, he1, ho1⟩; have HI1 : Hid (In w1 rb S (x.withPl pr) (t :: tsr)) := ⟨_, hR1, hs1, by omega⟩; clear hR1 hs1) | (go_at_call 91; refine (begins_any t _ (by omega)).mono ?_; rintro e w2 ⟨rfl, ho2⟩; have HI2 : Hid (In w2 rb S (x.withPl pr) (t :: tsr)) := HI1.out.only ho2 (fun h => h); have HO2 : Hid (Only (· = rb) wr w2) := ho1.trans (ho2.mono (fun _ h => h.elim))) | (go_at_call 93; have hc := HT.out m (by omega) d pr (x.withPl pr) t tsr _ HI2.out (HMr.out.only HO2.out HC.out.mb) HCr.out HB.out HBg.out (by omega); rw [T1.out] at hc; refine hc.mono ?_; clear hc; rintro e w3 ⟨rfl, ho3⟩))
            refine ⟨rfl, ?_⟩
            rw [HE.out]
            exact ⟨rfl, HOr.out.trans (HO2.out.trans ho3)⟩
          | ok r =>
            obtain ⟨e1, ts1, p1⟩ := r
            rw [hth] at hFr'
            have T1 : Hid (Rl.thing E nc m d (t :: tsr) pr = .ok (e1, ts1, p1)) := hth
            have hln := (Rl.expr_len E nc m).2.2.2 _ _ _ _ _ _ hth hpr
            simp only [List.length_cons] at hln hFr'
            cases hof : Rl.often e1 ts1 with
            | error f =>
              rw [hof] at hFr'
              have HE : Hid (F = .error f) := hFr'
              have T2 : Hid (Rl.often e1 ts1 = .error f) := hof
              clear hb hFr' HEr hth hof
              go_wp2_with (first | (go_at_call 51; refine (next_ok rb S _ t tsr _ HIr.out hS HB.out).mono ?_; rintro e w1 ⟨rfl, hR1, hs1, he1, ho1⟩; have HI1 : Hid (In w1 rb S (x.withPl pr) (t :: tsr)) := ⟨_, hR1, hs1, by omega⟩; clear hR1 hs1) | (go_at_call 91; refine (begins_any t _ (by omega)).mono ?_; rintro e w2 ⟨rfl, ho2⟩; have HI2 : Hid (In w2 rb S (x.withPl pr) (t :: tsr)) := HI1.out.only ho2 (fun h => h); have HO2 : Hid (Only (· = rb) wr w2) := ho1.trans (ho2.mono (fun _ h => h.elim)); have hl2 := HO2.out.size) | (go_at_call 93; have hc := HT.out m (by omega) d pr (x.withPl pr) t tsr _ HI2.out (HMr.out.only HO2.out HC.out.mb) HCr.out HB.out HBg.out (by omega); rw [T1.out] at hc; refine hc.mono ?_; clear hc; rintro e w3 ⟨v3, rfl, hT3, hI3, ho3⟩; have HI3 : Hid (In w3 rb S (x.withPl p1) ts1) := hI3; have HT3 : Hid (Tr w3 (fun b => w2.heap.size ≤ b) e1 v3) := hT3; clear hI3 hT3) | (go_at_call 92; have hc := often_any rb S (x.withPl p1) (fun b => w2.heap.size ≤ b) e1 v3 ts1 _ HI3.out hS HT3.out (fun b hb => by omega); rw [T2.out] at hc; refine hc.mono ?_; clear hc; rintro e w4 ⟨rfl, ho4⟩))
              refine ⟨rfl, ?_⟩
              rw [HE.out]
              exact ⟨rfl, HOr.out.trans (HO2.out.trans (ho3.trans ho4))⟩
            | ok r =>
              obtain ⟨e2, ts2⟩ := r
              rw [hof] at hFr'
              have HE : Hid (F = Rl.row E nc m d ts2 p1 (l ++ [e2])) := hFr'
              have T2 : Hid (Rl.often e1 ts1 = .ok (e2, ts2)) := hof
              have hln2 := Rl.often_len hof
              obtain ⟨xs, hown, hkids⟩ := HEr
              have HOwn : Hid (wr.ownsRow (w.heap.size + 1) 49 3 u3 l.length xs) := hown
              have HKid : Hid (Trs wr (Kb (w.heap.size + 1) u3) l (fun j => xs[j]?)) := hkids
              clear hb hFr' hth hof hown hkids
              go_wp2_with (first | (go_at_call 51; refine (next_ok rb S _ t tsr _ HIr.out hS HB.out).mono ?_; rintro e w1 ⟨rfl, hR1, hs1, he1, ho1⟩; have HI1 : Hid (In w1 rb S (x.withPl pr) (t :: tsr)) := ⟨_, hR1, hs1, by omega⟩; clear hR1 hs1) | (go_at_call 91; refine (begins_any t _ (by omega)).mono ?_; rintro e w2 ⟨rfl, ho2⟩; have HI2 : Hid (In w2 rb S (x.withPl pr) (t :: tsr)) := HI1.out.only ho2 (fun h => h); have HO2 : Hid (Only (· = rb) wr w2) := ho1.trans (ho2.mono (fun _ h => h.elim)); have hl2 := HO2.out.size) | (go_at_call 93; have hc := HT.out m (by omega) d pr (x.withPl pr) t tsr _ HI2.out (HMr.out.only HO2.out HC.out.mb) HCr.out HB.out HBg.out (by omega); rw [T1.out] at hc; refine hc.mono ?_; clear hc; rintro e w3 ⟨v3, rfl, hT3, hI3, ho3⟩; have HI3 : Hid (In w3 rb S (x.withPl p1) ts1) := hI3; have HT3 : Hid (Tr w3 (fun b => w2.heap.size ≤ b) e1 v3) := hT3; clear hI3 hT3; have hl3 := ho3.size) | (go_at_call 92; have hc := often_any rb S (x.withPl p1) (fun b => w2.heap.size ≤ b) e1 v3 ts1 _ HI3.out hS HT3.out (fun b hb => by omega); rw [T2.out] at hc; refine hc.mono ?_; clear hc; rintro e w4 ⟨v4, rfl, hT4, hI4, ho4⟩; obtain ⟨o, s, a, k, c, rfl⟩ := hT4.form; have HI4 : Hid (In w4 rb S (x.withPl p1) ts2) := hI4; have HT4 : Hid (Tr w4 (fun b => w2.heap.size ≤ b ∨ w3.heap.size ≤ b) e2 (.agg #[.int .u8 o, .int .u32 s, .slice a k c])) := hT4; clear hI4 hT4; have HO4 : Hid (Only (· = rb) wr w4) := HO2.out.trans (ho3.trans ho4); have hl4 := HO4.out.size; have HOwn4 : Hid (w4.ownsRow (w.heap.size + 1) 49 3 u3 l.length xs) := own_only HOwn.out HO4.out (fun g hg => by omega); have HKid4 : Hid (Trs w4 (Kb (w.heap.size + 1) u3) l (fun j => xs[j]?)) := HKid.out.keep (fun b hb hl => ⟨hb, HO4.out.block b hl (by have := hb.1; omega)⟩)) | (at_builtin; refine wpList_append_own_at _ rfl _ _ 27 rfl (w.heap.size + 1) 49 i0 (.agg #[.int .u8 0, .int .u32 0, .slice none 0 0]) 3 32 Try.underlying27 hi hz0 hz1 hz2 rfl (by decide) _ _ _ rfl (HOwn4.out.alloc _) ⟨w4.heap.size, 0, none⟩ 1 1 [.int .u8 o, .int .u32 s, .slice a k c] rfl rfl (ex_news _ _ _ _) (ex_cells _ _ _ _ _) (by unfold maxLen; omega) (by omega) (by simp; omega) ?_; intro v5 w5 hown5 hg5 _ hat5))
              go_roundg ts2.length
              case measure => simp only [List.length_cons]; omega
              case rel =>
                have hO5 : Only (· = rb) w w5 := by
                  refine ⟨hg5.os.trans (HOr.out.trans HO4.out).os, hg5.tape.trans (HOr.out.trans HO4.out).tape, hg5.output.trans (HOr.out.trans HO4.out).output, Nat.le_trans (Nat.le_trans (HOr.out.trans HO4.out).size (by simp)) hg5.size, fun g hgl hgn => ?_⟩
                  have hlw := (HOr.out.trans HO4.out).size
                  rw [hg5.block g (by simp; omega) (fun e => by have := (HOwn4.out.lt g e.symm).1; omega), Below.heap_alloc _ _ _ (by omega)]
                  exact (HOr.out.trans HO4.out).block g hgl hgn
                have hk5 : ∀ g, g < w4.heap.size → g < w.heap.size + 1 → w5.heap[g]? = w4.heap[g]? := fun g h1 h2 => by
                  rw [hg5.block g (by simp; omega) (fun e => by have := (HOwn4.out.lt g e.symm).1; omega), Below.heap_alloc _ _ _ (by omega)]
                obtain ⟨i4, hR4, hs4, hi4⟩ := HI4.out
                refine ⟨ts2, m, p1, l ++ [e2], rfl, ⟨i4, (hk5 rb hR4.lt (by omega)).trans hR4, hs4, hi4⟩, hO5, (hk5 w.heap.size (by omega) (by omega)).trans (HZr.out.only HO4.out (by omega)), ?_, hln.2, by omega, by omega, by simp; omega, HE.out⟩
                refine Es.snoc HOwn4.out HKid4.out HT4.out (fun b hb => ⟨by omega, fun e => ?_⟩) hown5 hg5 hat5
                have := (HOwn.out.lt b e).2
                omega
        · have hbgf : Rl.beg t = false := by simpa using hbg
          have HBg : Hid (Rl.beg t = false) := hbgf
          rw [if_neg hbg] at hFr'
          have HE : Hid (F = .ok (Rl.mkSeq l, t :: tsr, pr)) := hFr'
          clear hb hFr' hbg
          have HEs : Hid (Es wr (w.heap.size + 1) u3 l) := HEr
          obtain ⟨xs, hown, hkids⟩ := HEr
          match l, HEs, HE, hown, hkids with
          | [], HEs, HE, hown, hkids =>
            obtain ⟨a, cap, rfl⟩ := own_form hown
            clear hown hkids
            go_wp2_with (first | (go_at_call 51; refine (next_ok rb S _ t tsr _ HIr.out hS HB.out).mono ?_; rintro e w1 ⟨rfl, hR1, hs1, he1, ho1⟩; have HI1 : Hid (In w1 rb S (x.withPl pr) (t :: tsr)) := ⟨_, hR1, hs1, by omega⟩; clear hR1 hs1) | (go_at_call 91; refine (begins_any t _ (by omega)).mono ?_; rintro e w2 ⟨rfl, ho2⟩; have HI2 : Hid (In w2 rb S (x.withPl pr) (t :: tsr)) := HI1.out.only ho2 (fun h => h); have HO2 : Hid (Only (· = rb) wr w2) := ho1.trans (ho2.mono (fun _ h => h.elim)); have Z2 : Hid (Xb w2 w.heap.size (.int .u8 0) (.int .u32 0) (.slice none 0 0)) := HZr.out.only HO2.out (by omega); have z0 := Z2.out.c0; have z1 := Z2.out.c1; have z2 := Z2.out.c2; have zf0 := Z2.out.fz 0; have zf1 := Z2.out.fz 1; have zf2 := Z2.out.fz 2))
            refine bodyPost_ret (v := .agg #[.int .u8 0, .int .u32 0, .slice none 0 0]) (results_x rfl _ rfl (Z2.out.set3 _ _ _)) rfl ?_
            rw [HE.out]
            exact ⟨_, rfl, Tr.leaf _ _ _ _, HI2.out.set3 (z := w.heap.size) (by omega) _ _ _, (HOr.out.trans HO2.out).set3 (z := w.heap.size) (Nat.le_refl _) _ _ _⟩
          | [e1], HEs, HE, hown, hkids =>
            obtain ⟨o, s, k, rfl, hT1⟩ := hkids.one hown.1
            obtain ⟨g, cap, rfl, hgb, hgl, hcap, hcells⟩ := row_form hown (by simp)
            have HT1 : Hid (Tr wr (Kb (w.heap.size + 1) (.slice (some ⟨g, 0, none⟩) 1 cap)) e1 (.agg #[o, s, k])) := hT1
            have k0 : wr.cell? ⟨g, 0, none⟩ = some o := hcells 0 (by simp)
            have k1 : wr.cell? ⟨g, 1, none⟩ = some s := hcells 1 (by simp)
            have k2 : wr.cell? ⟨g, 2, none⟩ = some k := hcells 2 (by simp)
            have K0 : Hid (wr.cell? ⟨g, 0, none⟩ = some o) := k0
            have K1 : Hid (wr.cell? ⟨g, 1, none⟩ = some s) := k1
            have K2 : Hid (wr.cell? ⟨g, 2, none⟩ = some k) := k2
            obtain ⟨op, st, a, n', c', hform⟩ := hT1.form
            simp only [Value.agg.injEq, Array.mk.injEq, List.cons.injEq, and_true] at hform
            obtain ⟨rfl, rfl, rfl⟩ := hform
            clear hown hkids hcells k0 k1 k2 hT1
            go_wp2_with (first | (go_at_call 51; refine (next_ok rb S _ t tsr _ HIr.out hS HB.out).mono ?_; rintro e w1 ⟨rfl, hR1, hs1, he1, ho1⟩; have HI1 : Hid (In w1 rb S (x.withPl pr) (t :: tsr)) := ⟨_, hR1, hs1, by omega⟩; clear hR1 hs1) | (go_at_call 91; refine (begins_any t _ (by omega)).mono ?_; rintro e w2 ⟨rfl, ho2⟩; have HI2 : Hid (In w2 rb S (x.withPl pr) (t :: tsr)) := HI1.out.only ho2 (fun h => h); have HO2 : Hid (Only (· = rb) wr w2) := ho1.trans (ho2.mono (fun _ h => h.elim)); have Z2 : Hid (Xb w2 w.heap.size (.int .u8 0) (.int .u32 0) (.slice none 0 0)) := HZr.out.only HO2.out (by omega); have z0 := Z2.out.c0; have z1 := Z2.out.c1; have z2 := Z2.out.c2; have zf0 := Z2.out.fz 0; have zf1 := Z2.out.fz 1; have zf2 := Z2.out.fz 2; have j0 := (World.cell?_of_block (a := ⟨g, 0, none⟩) (HO2.out.block g hgl (by omega))).trans K0.out; have j1 := (World.cell?_of_block (a := ⟨g, 1, none⟩) (HO2.out.block g hgl (by omega))).trans K1.out; have j2 := (World.cell?_of_block (a := ⟨g, 2, none⟩) (HO2.out.block g hgl (by omega))).trans K2.out))
            refine bodyPost_ret (v := .agg #[.int .u8 op, .int .u32 st, .slice a n' c']) (results_x rfl _ rfl (Z2.out.set3 _ _ _)) rfl ?_
            rw [HE.out]
            refine ⟨_, rfl, ?_, HI2.out.set3 (z := w.heap.size) (by omega) _ _ _, (HOr.out.trans HO2.out).set3 (z := w.heap.size) (Nat.le_refl _) _ _ _⟩
            refine HT1.out.keep fun b hb hl => ⟨by have := hb.1; omega, ?_⟩
            exact (set3_other w2 (z := w.heap.size) _ _ _ (by have := hb.1; omega)).trans (HO2.out.block b hl (by have := hb.1; omega))
          | e1 :: e2 :: l2, HEs, HE, hown, hkids =>
            obtain ⟨a, cap, rfl⟩ := own_form hown
            have q0 : (((e1 :: e2 :: l2).length : Int) == 0) = false := by simp; omega
            have q1 : (((e1 :: e2 :: l2).length : Int) == 1) = false := by simp; omega
            have Hown : Hid (wr.ownsRow (w.heap.size + 1) 49 3 (.slice a (e1 :: e2 :: l2).length cap) (e1 :: e2 :: l2).length xs) := hown
            have Hkids : Hid (Trs wr (Kb (w.heap.size + 1) (.slice a (e1 :: e2 :: l2).length cap)) (e1 :: e2 :: l2) (fun j => xs[j]?)) := hkids
            clear hown hkids
            generalize hL : e1 :: e2 :: l2 = L at *
            have HL : Hid (e1 :: e2 :: l2 = L) := hL
            clear hL
            go_wp2_with (first | (go_at_call 51; refine (next_ok rb S _ t tsr _ HIr.out hS HB.out).mono ?_; rintro e w1 ⟨rfl, hR1, hs1, he1, ho1⟩; have HI1 : Hid (In w1 rb S (x.withPl pr) (t :: tsr)) := ⟨_, hR1, hs1, by omega⟩; clear hR1 hs1) | (go_at_call 91; refine (begins_any t _ (by omega)).mono ?_; rintro e w2 ⟨rfl, ho2⟩; have HI2 : Hid (In w2 rb S (x.withPl pr) (t :: tsr)) := HI1.out.only ho2 (fun h => h); have HO2 : Hid (Only (· = rb) wr w2) := ho1.trans (ho2.mono (fun _ h => h.elim)); have Z2 : Hid (Xb w2 w.heap.size (.int .u8 0) (.int .u32 0) (.slice none 0 0)) := HZr.out.only HO2.out (by omega); have z0 := Z2.out.c0; have z1 := Z2.out.c1; have z2 := Z2.out.c2; have zf0 := Z2.out.fz 0; have zf1 := Z2.out.fz 1; have zf2 := Z2.out.fz 2))
            refine bodyPost_ret (v := .agg #[.int .u8 2, .int .u32 0, .slice a L.length cap]) (results_x rfl _ rfl (Z2.out.set3 _ _ _)) rfl ?_
            have hmk : Rl.mkSeq L = .mk 2 0 L := by rw [← HL.out]; rfl
            rw [HE.out, hmk]
            refine ⟨_, rfl, ?_, HI2.out.set3 (z := w.heap.size) (by omega) _ _ _, (HOr.out.trans HO2.out).set3 (z := w.heap.size) (Nat.le_refl _) _ _ _⟩
            have hT := Tr.row (F' := fun b => w.heap.size + 1 ≤ b) 2 Hown.out Hkids.out (fun g hg => (Hown.out.lt g hg).1) (fun b hb => hb.1) (by rw [← HL.out]; simp)
            refine hT.keep fun b hb hl => ⟨by omega, ?_⟩
            exact (set3_other w2 (z := w.heap.size) _ _ _ (by omega)).trans (HO2.out.block b hl (by omega))
end Go.Proofs.Ytfbcijnacbfjpaa
