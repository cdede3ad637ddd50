/-
  take, took, want, isName, name of the rules' reader.
-/
import Derived.Test.YtfbcijnacbfjpaaNext
namespace Go.Proofs.Ytfbcijnacbfjpaa
open Go.RowKit
set_option linter.unusedVariables false
set_option linter.unusedSimpArgs false

/-- the reader stands ahead of these pieces. -/
def In (w : World) (rb : Nat) (S : ByteArray) (x : Rd) (ts : List Rl.Tk) : Prop := ∃ i : Nat, Rdr w rb S i x ∧ Rl.Strm S.data.toList i ts ∧ i ≤ S.size
theorem In.only {w w' : World} {rb : Nat} {S : ByteArray} {x : Rd} {ts : List Rl.Tk} {P : Nat → Prop} (h : In w rb S x ts) (ho : Only P w w') (hn : ¬ P rb) : In w' rb S x ts := by
  obtain ⟨i, h1, h2⟩ := h
  exact ⟨i, h1.only ho hn, h2⟩
theorem In.lt {w : World} {rb : Nat} {S : ByteArray} {x : Rd} {ts : List Rl.Tk} (h : In w rb S x ts) : rb < w.heap.size := by
  obtain ⟨i, h1, h2⟩ := h
  exact h1.lt
theorem In.alloc {w : World} {rb : Nat} {S : ByteArray} {x : Rd} {ts : List Rl.Tk} (h : In w rb S x ts) (o : Obj) : In (w.alloc o) rb S x ts := by
  obtain ⟨i, h1, h2⟩ := h
  exact ⟨i, h1.alloc o, h2⟩
theorem next_in (rb : Nat) (S : ByteArray) (x : Rd) (t : Rl.Tk) (ts : List Rl.Tk) (w : World) (h : In w rb S x (t :: ts)) (hS : S.size ≤ 4096) :
    Calls Try.prog 51 #[.pointer (some ⟨rb, 0, none⟩)] w fun e w' => e = nextE t ∧ Rdr w' rb S (t.at' : Int) x ∧ Rl.Strm S.data.toList t.at' (t :: ts) ∧ t.at' + t.text.length ≤ S.size ∧ Only (· = rb) w w' := by
  obtain ⟨i, h1, h2, h3⟩ := h
  refine (next_any rb S i x t ts w h1 h2 h3 hS).mono ?_
  rintro e w' ⟨h4, h5, h6⟩
  have e1 := Rl.strm_at h2
  refine ⟨h4, h5, by rw [e1]; exact Rl.strm_nx h2, ?_, h6⟩
  have := Rl.tk_end S.data.toList i (by rw [← Lib.size_eq]; exact h3)
  rw [h2.1, ← Lib.size_eq] at *
  exact this
theorem nextE_bad {t : Rl.Tk} (h : t.bad = true) : nextE t = .panicked (thr 20 t.at') := if_pos h
theorem nextE_ok {t : Rl.Tk} (h : ¬ t.bad = true) : nextE t = .returned (.agg #[.string (bs t.text), .int .i64 (t.at' : Int)]) := if_neg h
theorem bs_size (l : Rl.Str) : (bs l).size = l.length := by rw [Lib.size_eq, bs_data]
theorem bs_toList (l : Rl.Str) : (bs l).toList = l := by rw [Lib.toList_data, bs_data]

set_option maxRecDepth 100000 in
set_option maxHeartbeats 2000000 in
theorem take_any (rb : Nat) (S : ByteArray) (i : Int) (a : Nat) (s : Rl.Str) (x : Rd) (w : World) (hR : Rdr w rb S i x) (ha : a + s.length ≤ 4096) :
    Calls Try.prog 53 #[.pointer (some ⟨rb, 0, none⟩), .agg #[.string (bs s), .int .i64 (a : Int)]] w fun e w' => e = .returned (.tuple #[]) ∧ Rdr w' rb S ((a + s.length : Nat) : Int) x ∧ Only (· = rb) w w' := by
  have c1 := hR.c1
  have hf1 := hR.fz 1
  have hlt := hR.lt
  have HR : Hid (Rdr w rb S i x) := hR
  have hsz := bs_size s
  have h0 : 0 ≤ (a : Int) := by omega
  have h1 : (a : Int) + (s.length : Int) ≤ 4096 := by omega
  clear hR
  go_enter Try.func53, Try.ntmps53
  go_wp2
  go_end0
  have e1 : ((a + s.length : Nat) : Int) = (a : Int) + (s.length : Int) := by omega
  rw [e1]
  exact ⟨rfl, (HR.out.set1 _).alloc _, ((Only.refl (· = rb) w).setCell (p := ⟨rb, 1, none⟩) rfl _).alloc _⟩

set_option maxRecDepth 100000 in
set_option maxHeartbeats 2000000 in
theorem isName_any (s : Rl.Str) (a : Int) (w : World) (hs : s.length ≤ 4096) : Calls Try.prog 75 #[.agg #[.string (bs s), .int .i64 a]] w fun e w' => e = .returned (.bool (decide (0 < Rl.nml s))) ∧ Only (fun _ => False) w w' := by
  have hnl := nameLen_any (bs s)
  rw [bs_data] at hnl
  obtain ⟨n, hn⟩ : ∃ n, n = Rl.nml s := ⟨_, rfl⟩
  rw [← hn] at hnl ⊢
  have Hnl : Hid (∀ w, Calls Try.prog 68 #[.string (bs s)] w (fun e w' => e = .returned (.int .i64 (n : Int)) ∧ w' = w)) := fun w => hnl w (by rw [bs_size]; omega)
  clear hn hnl
  go_enter Try.func75, Try.ntmps75
  go_wp2_with (go_at_call 68; refine (Hnl.out _).mono ?_; rintro e w' ⟨rfl, rfl⟩)
  go_ret
  exact ⟨rfl, (Only.refl _ w).alloc _⟩

theorem next_bad (rb : Nat) (S : ByteArray) (x : Rd) (t : Rl.Tk) (ts : List Rl.Tk) (w : World) (h : In w rb S x (t :: ts)) (hS : S.size ≤ 4096) (hb : t.bad = true) :
    Calls Try.prog 51 #[.pointer (some ⟨rb, 0, none⟩)] w fun e w' => e = .panicked (thr 20 t.at') ∧ Only (· = rb) w w' := by
  refine (next_in rb S x t ts w h hS).mono ?_
  rintro e w' ⟨h4, h5, h6, h7, h8⟩
  exact ⟨h4.trans (nextE_bad hb), h8⟩
theorem next_ok (rb : Nat) (S : ByteArray) (x : Rd) (t : Rl.Tk) (ts : List Rl.Tk) (w : World) (h : In w rb S x (t :: ts)) (hS : S.size ≤ 4096) (hb : ¬ t.bad = true) :
    Calls Try.prog 51 #[.pointer (some ⟨rb, 0, none⟩)] w fun e w' => e = .returned (.agg #[.string (bs t.text), .int .i64 (t.at' : Int)]) ∧ Rdr w' rb S (t.at' : Int) x ∧ Rl.Strm S.data.toList t.at' (t :: ts) ∧ t.at' + t.text.length ≤ S.size ∧ Only (· = rb) w w' := by
  refine (next_in rb S x t ts w h hS).mono ?_
  rintro e w' ⟨h4, h5⟩
  exact ⟨h4.trans (nextE_ok hb), h5⟩
/-- a piece in a variable of its own. -/
def Pb (w : World) (b : Nat) (s : Rl.Str) (a : Nat) : Prop := w.heap[b]? = some (.cells #[.string (bs s), .int .i64 (a : Int)] 124 (0, 0))
theorem Pb.new (w : World) (s : Rl.Str) (a : Nat) : Pb (w.alloc (.cells #[.string (bs s), .int .i64 (a : Int)] 124)) w.heap.size s a := heap_alloc_new _ _
theorem Pb.zero (w : World) : Pb (w.alloc (.cells #[.string ⟨#[]⟩, .int .i64 0] 124)) w.heap.size [] 0 := heap_alloc_new _ _
theorem Pb.fz {w : World} {b : Nat} {s : Rl.Str} {a : Nat} (h : Pb w b s a) (k : Nat) : w.frozen? ⟨b, k, none⟩ = false := by simp [World.frozen?, show w.heap[b]? = _ from h]
theorem Pb.c0 {w : World} {b : Nat} {s : Rl.Str} {a : Nat} (h : Pb w b s a) : w.cell? ⟨b, 0, none⟩ = some (.string (bs s)) := (cell_of_row _ _ _ _ _ _ h).trans rfl
theorem Pb.c1 {w : World} {b : Nat} {s : Rl.Str} {a : Nat} (h : Pb w b s a) : w.cell? ⟨b, 1, none⟩ = some (.int .i64 (a : Int)) := (cell_of_row _ _ _ _ _ _ h).trans rfl
theorem Pb.lt {w : World} {b : Nat} {s : Rl.Str} {a : Nat} (h : Pb w b s a) : b < w.heap.size := (Array.getElem?_eq_some_iff.1 h).1
theorem Pb.only {w w' : World} {b : Nat} {s : Rl.Str} {a : Nat} {P : Nat → Prop} (h : Pb w b s a) (ho : Only P w w') (hn : ¬ P b) : Pb w' b s a := (ho.block b h.lt hn).trans h
theorem Pb.alloc {w : World} {b : Nat} {s : Rl.Str} {a : Nat} (h : Pb w b s a) (o : Obj) : Pb (w.alloc o) b s a := (Below.heap_alloc _ _ _ h.lt).trans h
/-- how took ends. -/
def tookP (rb : Nat) (S : ByteArray) (x : Rd) (w : World) (F : Rl.R (Bool × List Rl.Tk)) (e : Ending) (w' : World) : Prop :=
  match F with
  | .error f => e = .panicked (thr f.1 f.2) ∧ Only (· = rb) w w'
  | .ok (b, ts) => e = .returned (.bool b) ∧ In w' rb S x ts ∧ Only (· = rb) w w'

set_option maxRecDepth 100000 in
set_option maxHeartbeats 2000000 in
theorem took_any (c : UInt8) (rb : Nat) (S : ByteArray) (x : Rd) (ts : List Rl.Tk) (w : World) (h : In w rb S x ts) (hS : S.size ≤ 4096) :
    Calls Try.prog 70 #[.pointer (some ⟨rb, 0, none⟩), .string ⟨#[c]⟩] w (tookP rb S x w (Rl.took c ts)) := by
  cases ts with
  | nil => obtain ⟨i, _, h2, _⟩ := h; exact h2.elim
  | cons t ts =>
    have hlt := h.lt
    by_cases hb : t.bad = true
    · have hn := next_bad rb S x t ts w h hS hb
      have hF : Rl.took c (t :: ts) = .error (20, t.at') := by show (if _ then _ else _) = _; rw [if_pos hb]
      rw [hF]
      have HN : Hid (Calls Try.prog 51 #[.pointer (some ⟨rb, 0, none⟩)] w fun e w' => e = .panicked (thr 20 t.at') ∧ Only (· = rb) w w') := hn
      clear hF hn h
      go_enter Try.func70, Try.ntmps70
      go_wp2_with (go_at_call 51; refine HN.out.mono ?_; rintro e w1 ⟨rfl, ho1⟩)
      exact ⟨rfl, rfl, ho1⟩
    · have hn := next_ok rb S x t ts w h hS hb
      have HN : Hid (Calls Try.prog 51 #[.pointer (some ⟨rb, 0, none⟩)] w fun e w' => e = .returned (.agg #[.string (bs t.text), .int .i64 (t.at' : Int)]) ∧ Rdr w' rb S (t.at' : Int) x ∧ Rl.Strm S.data.toList t.at' (t :: ts) ∧ t.at' + t.text.length ≤ S.size ∧ Only (· = rb) w w') := hn
      have ht := bs_toList t.text
      have hc0 : (⟨#[c]⟩ : ByteArray).toList = [c] := by rw [Lib.toList_data]
      by_cases htx : t.text = [c]
      · have hF : Rl.took c (t :: ts) = .ok (true, ts) := by show (if _ then _ else _) = _; rw [if_neg hb, if_pos htx]
        rw [hF]
        have q : (t.text == [c]) = true := by rw [htx]; simp
        have hne : Hid (t.text ≠ []) := (by rw [htx]; simp : t.text ≠ [])
        clear hF hn h hb htx
        go_enter Try.func70, Try.ntmps70
        go_wp2_with (first | (go_at_call 51; refine HN.out.mono ?_; rintro e w1 ⟨rfl, hR1, hs1, he1, ho1⟩; have HS1 : Hid (Rl.Strm S.data.toList t.at' (t :: ts)) := hs1; clear hs1) | (go_at_call 53; refine (take_any rb S t.at' t.at' t.text x _ (hR1.alloc _) (by omega)).mono ?_; rintro e w2 ⟨rfl, hR2, ho2⟩))
        go_ret
        exact ⟨rfl, ⟨_, hR2, Rl.strm_tail HS1.out hne.out, he1⟩, (ho1.alloc _).trans ho2⟩
      · have hF : Rl.took c (t :: ts) = .ok (false, t :: ts) := by show (if _ then _ else _) = _; rw [if_neg hb, if_neg htx]
        rw [hF]
        have q : (t.text == [c]) = false := by simpa using htx
        clear hF hn h hb htx
        go_enter Try.func70, Try.ntmps70
        go_wp2_with (go_at_call 51; refine HN.out.mono ?_; rintro e w1 ⟨rfl, hR1, hs1, he1, ho1⟩; have HS1 : Hid (Rl.Strm S.data.toList t.at' (t :: ts)) := hs1; clear hs1)
        go_ret
        exact ⟨rfl, ⟨_, hR1.alloc _, HS1.out, by omega⟩, ho1.alloc _⟩
/-- how want ends. -/
def wantP (rb : Nat) (S : ByteArray) (x : Rd) (w : World) (F : Rl.R (List Rl.Tk)) (e : Ending) (w' : World) : Prop :=
  match F with
  | .error f => e = .panicked (thr f.1 f.2) ∧ Only (· = rb) w w'
  | .ok ts => e = .returned (.tuple #[]) ∧ In w' rb S x ts ∧ Only (· = rb) w w'
set_option maxRecDepth 100000 in
set_option maxHeartbeats 2000000 in
theorem want_any (c : UInt8) (rb : Nat) (S : ByteArray) (x : Rd) (ts : List Rl.Tk) (w : World) (h : In w rb S x ts) (hS : S.size ≤ 4096) :
    Calls Try.prog 54 #[.pointer (some ⟨rb, 0, none⟩), .string ⟨#[c]⟩] w (wantP rb S x w (Rl.want c ts)) := by
  cases ts with
  | nil => obtain ⟨i, _, h2, _⟩ := h; exact h2.elim
  | cons t ts =>
    have ht := took_any c rb S x (t :: ts) w h hS
    by_cases hb : t.bad = true
    · have hF : Rl.want c (t :: ts) = .error (20, t.at') := by show (if _ then _ else _) = _; rw [if_pos hb]
      have hF2 : Rl.took c (t :: ts) = .error (20, t.at') := by show (if _ then _ else _) = _; rw [if_pos hb]
      rw [hF]
      rw [hF2] at ht
      have HT : Hid (Calls Try.prog 70 #[.pointer (some ⟨rb, 0, none⟩), .string ⟨#[c]⟩] w (tookP rb S x w (.error (20, t.at')))) := ht
      clear hF hF2 ht h
      go_enter Try.func54, Try.ntmps54
      go_wp2_with (go_at_call 70; refine HT.out.mono ?_; rintro e w1 ⟨rfl, ho1⟩)
      exact ⟨rfl, rfl, ho1⟩
    · by_cases htx : t.text = [c]
      · have hF : Rl.want c (t :: ts) = .ok ts := by show (if _ then _ else _) = _; rw [if_neg hb, if_pos htx]
        have hF2 : Rl.took c (t :: ts) = .ok (true, ts) := by show (if _ then _ else _) = _; rw [if_neg hb, if_pos htx]
        rw [hF]
        rw [hF2] at ht
        have HT : Hid (Calls Try.prog 70 #[.pointer (some ⟨rb, 0, none⟩), .string ⟨#[c]⟩] w (tookP rb S x w (.ok (true, ts)))) := ht
        clear hF hF2 ht h
        go_enter Try.func54, Try.ntmps54
        go_wp2_with (go_at_call 70; refine HT.out.mono ?_; rintro e w1 ⟨rfl, hi1, ho1⟩)
        go_end0
        exact ⟨rfl, hi1, ho1⟩
      · have hF : Rl.want c (t :: ts) = .error (21, t.at') := by show (if _ then _ else _) = _; rw [if_neg hb, if_neg htx]
        have hF2 : Rl.took c (t :: ts) = .ok (false, t :: ts) := by show (if _ then _ else _) = _; rw [if_neg hb, if_neg htx]
        rw [hF]
        rw [hF2] at ht
        have HT : Hid (Calls Try.prog 70 #[.pointer (some ⟨rb, 0, none⟩), .string ⟨#[c]⟩] w (tookP rb S x w (.ok (false, t :: ts)))) := ht
        have HB : Hid (¬ t.bad = true) := hb
        clear hF hF2 ht h hb htx
        go_enter Try.func54, Try.ntmps54
        go_wp2_with (first | (go_at_call 70; refine HT.out.mono ?_; rintro e w1 ⟨rfl, hi1, ho1⟩) | (go_at_call 51; refine (next_ok rb S x t ts _ hi1 hS HB.out).mono ?_; rintro e w2 ⟨rfl, hR2, hs2, he2, ho2⟩) | (go_at_call 52; refine (throw_any 21 t.at' _).mono ?_; rintro e w3 ⟨rfl, rfl⟩))
        rename_i hK
        refine hK _ _ ?_
        go_wp2_with (go_at_call 52; refine (throw_any 21 t.at' _).mono ?_; rintro e w3 ⟨rfl, rfl⟩)
        exact ⟨rfl, rfl, ho1.trans ho2⟩
/-- how name ends. -/
def nameP (rb : Nat) (S : ByteArray) (x : Rd) (w : World) (F : Rl.R (Rl.Tk × List Rl.Tk)) (e : Ending) (w' : World) : Prop :=
  match F with
  | .error f => e = .panicked (thr f.1 f.2) ∧ Only (· = rb) w w'
  | .ok (t, ts) => e = .returned (.agg #[.string (bs t.text), .int .i64 (t.at' : Int)]) ∧ In w' rb S x ts ∧ Only (· = rb) w w'
theorem isNm_iff (t : Rl.Tk) : Rl.isNm t = decide (0 < Rl.nml t.text) := rfl
theorem isNm_ne {t : Rl.Tk} (h : Rl.isNm t = true) : t.text ≠ [] := by
  intro e
  rw [isNm_iff, e] at h
  simp [Rl.nml] at h
set_option maxRecDepth 100000 in
set_option maxHeartbeats 2000000 in
theorem name_any (rb : Nat) (S : ByteArray) (x : Rd) (ts : List Rl.Tk) (w : World) (h : In w rb S x ts) (hS : S.size ≤ 4096) :
    Calls Try.prog 84 #[.pointer (some ⟨rb, 0, none⟩)] w (nameP rb S x w (Rl.name ts)) := by
  cases ts with
  | nil => obtain ⟨i, _, h2, _⟩ := h; exact h2.elim
  | cons t ts =>
    have HI : Hid (In w rb S x (t :: ts)) := h
    have hlt := h.lt
    clear h
    by_cases hb : t.bad = true
    · have hF : Rl.name (t :: ts) = .error (20, t.at') := by show (if _ then _ else _) = _; rw [if_pos hb]
      rw [hF]
      clear hF
      have HB : Hid (t.bad = true) := hb
      clear hb
      go_enter Try.func84, Try.ntmps84
      go_wp2_with (go_at_call 51; refine (next_bad rb S x t ts _ (HI.out.alloc _) hS HB.out).mono ?_; rintro e w1 ⟨rfl, ho1⟩)
      exact ⟨rfl, rfl, ((Only.refl _ w).alloc _).trans ho1⟩
    · have HB : Hid (¬ t.bad = true) := hb
      by_cases hnm : Rl.isNm t = true
      · have hF : Rl.name (t :: ts) = .ok (t, ts) := by show (if _ then _ else _) = _; rw [if_neg hb, if_pos hnm]
        rw [hF]
        have HM : Hid (Rl.isNm t = true) := hnm
        have hq : decide (0 < Rl.nml t.text) = true := hnm
        clear hF hb hnm
        go_enter Try.func84, Try.ntmps84
        go_wp2_with (first | (go_at_call 51; refine (next_ok rb S x t ts _ (HI.out.alloc _) hS HB.out).mono ?_; rintro e w1 ⟨rfl, hR1, hs1, he1, ho1⟩; have HS1 : Hid (Rl.Strm S.data.toList t.at' (t :: ts)) := hs1; clear hs1; have hl1 := ho1.size; simp at hl1) | (go_at_call 75; refine (isName_any t.text _ _ (by omega)).mono ?_; rintro e w2 ⟨rfl, ho2⟩; have hR2 := (hR1.alloc _).only ho2 (fun h => h); have P2 : Hid (Pb w2 w1.heap.size t.text t.at') := (Pb.new w1 _ _).only ho2 (fun h => h); have p0 := P2.out.c0; have p1 := P2.out.c1) | (go_at_call 53; refine (take_any rb S t.at' t.at' t.text x _ hR2 (by omega)).mono ?_; rintro e w3 ⟨rfl, hR3, ho3⟩; have P3 : Hid (Pb w3 w1.heap.size t.text t.at') := P2.out.only ho3 (by omega); have p0 := P3.out.c0; have p1 := P3.out.c1; have Q3 : Hid (Pb w3 w.heap.size [] 0) := ((((Pb.zero w).only ho1 (by omega)).alloc _).only ho2 (fun h => h)).only ho3 (by omega); have q0 := Q3.out.c0; have q1 := Q3.out.c1; have qf0 := Q3.out.fz 0; have qf1 := Q3.out.fz 1; have HO : Hid (Only (· = rb) w w3) := ((((Only.refl (· = rb) w).alloc _).trans ho1).alloc _).trans ((ho2.mono (fun _ h => h.elim)).trans ho3)))
        refine bodyPost_ret (v := .agg #[.string (bs t.text), .int .i64 (t.at' : Int)]) (by simp [results, Try.results84, go_sem, q0, q1]) rfl ?_
        exact ⟨rfl, ⟨_, (hR3.setOther (by show w.heap.size ≠ rb; omega) _).setOther (by show w.heap.size ≠ rb; omega) _, Rl.strm_tail HS1.out (isNm_ne HM.out), he1⟩, (HO.out.setNew (Nat.le_refl _) _).setNew (Nat.le_refl _) _⟩
      · have hF : Rl.name (t :: ts) = .error (21, t.at') := by show (if _ then _ else _) = _; rw [if_neg hb, if_neg hnm]
        rw [hF]
        have hq : decide (0 < Rl.nml t.text) = false := by simpa [isNm_iff] using hnm
        clear hF hb hnm
        go_enter Try.func84, Try.ntmps84
        go_wp2_with (first | (go_at_call 51; refine (next_ok rb S x t ts _ (HI.out.alloc _) hS HB.out).mono ?_; rintro e w1 ⟨rfl, hR1, hs1, he1, ho1⟩; have HS1 : Hid (Rl.Strm S.data.toList t.at' (t :: ts)) := hs1; clear hs1; have hl1 := ho1.size; simp at hl1) | (go_at_call 75; refine (isName_any t.text _ _ (by omega)).mono ?_; rintro e w2 ⟨rfl, ho2⟩; have P2 : Hid (Pb w2 w1.heap.size t.text t.at') := (Pb.new w1 _ _).only ho2 (fun h => h); have p0 := P2.out.c0; have p1 := P2.out.c1) | (go_at_call 52; refine (throw_any 21 t.at' _).mono ?_; rintro e w3 ⟨rfl, rfl⟩))
        exact ⟨rfl, rfl, ((((Only.refl (· = rb) w).alloc _).trans ho1).alloc _).trans (ho2.mono (fun _ h => h.elim))⟩
end Go.Proofs.Ytfbcijnacbfjpaa
