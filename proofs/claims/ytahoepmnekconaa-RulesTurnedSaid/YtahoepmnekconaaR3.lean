/-
  sign, want, word of the document's own parser.
-/
import Derived.Test.YtahoepmnekconaaR2
import Derived.Test.YtahoepmnekconaaTok
namespace Go.Proofs.Ytahoepmnekconaa
open Go.RowKit
set_option linter.unusedVariables false
set_option linter.unusedSimpArgs false
/-- the classes' slice has its form. -/
def Vc (x : Rq) : Prop := ∃ a n cap, x.vC = .slice a n cap ∧ n ≤ 24
theorem Rpr.qb {w : World} {rb : Nat} {S : ByteArray} {i : Int} {x : Rq} {c t : Nat} (h : Rpr w rb S i x c t) (hc : c ≠ 0) (hv : Vc x) : Qb w rb S (c, t) := ⟨i, x, h, hc, hv⟩
/-- the byte that a piece begins with; 0: none. -/
def hdB (t : Rl.Tk) : UInt8 := match t.text with | [] => 0 | c :: _ => c
theorem hd_eq (t : Rl.Tk) : hd t = ((hdB t).toNat : Int) := by
  unfold hd hdB
  split <;> simp_all
theorem isNm_hd (t : Rl.Tk) : Rl.isNm t = Rl.isN (hdB t) := by
  unfold Rl.isNm hdB
  cases t.text with
  | nil => rfl
  | cons c cs =>
    rw [Rl.nml_cons]
    by_cases h : Rl.isN c = true
    · simp only [h, if_true]; simp; omega
    · simp only [h]
      simp at h
      simp [h]
theorem tk_sign {l : Rl.Str} {i : Nat} {t : Rl.Tk} {c : UInt8} (ht : t = Rl.tk l i) (hc : Rl.signs.contains c = true) (hn : Rl.isN c = false) : (hd t = (c.toNat : Int)) ↔ t.text = [c] := by
  have h0 : c ≠ 0 := by rintro rfl; exact absurd hc (by decide)
  constructor
  · intro h
    have hh : hdB t = c := by rw [hd_eq] at h; exact UInt8.toNat_inj.1 (by omega)
    have hnm : ¬ Rl.isNm t = true := by rw [isNm_hd, hh, hn]; simp
    have htx : t.text = (l.drop (Rl.nx l i)).take (Rl.plen (l.drop (Rl.nx l i))) := by rw [ht]; rfl
    generalize l.drop (Rl.nx l i) = r at htx
    cases r with
    | nil =>
      simp at htx
      unfold hdB at hh; rw [htx] at hh
      exact absurd hh.symm h0
    | cons b r =>
      by_cases hb : Rl.isN b = true
      · have hp : 0 < Rl.nml (b :: r) := by rw [Rl.nml_cons, if_pos hb]; omega
        have hpl : Rl.plen (b :: r) = 1 + Rl.nml r := by unfold Rl.plen; rw [if_pos hp, Rl.nml_cons, if_pos hb]
        rw [hpl, Nat.add_comm, List.take_succ_cons] at htx
        unfold hdB at hh; rw [htx] at hh
        simp only at hh
        rw [hh, hn] at hb; cases hb
      · have hp : ¬ 0 < Rl.nml (b :: r) := by rw [Rl.nml_cons, if_neg hb]; omega
        have hpl : Rl.plen (b :: r) = if Rl.signs.contains b = true then 1 else 0 := by unfold Rl.plen; rw [if_neg hp]
        rw [hpl] at htx
        split at htx
        · simp at htx
          unfold hdB at hh; rw [htx] at hh
          rw [htx]; simp only at hh; rw [hh]
        · simp at htx
          unfold hdB at hh; rw [htx] at hh
          exact absurd hh.symm h0
  · intro h
    unfold hd; rw [h]
set_option maxRecDepth 100000 in
set_option maxHeartbeats 2000000 in
theorem sign_bad (c : Int) (rb : Nat) (S : ByteArray) (f : Rl.Ft) (w : World) (h : Qb w rb S f) :
    Calls Try.prog 34 #[.pointer (some ⟨rb, 0, none⟩), .int .u8 c] w fun e w' => e = .returned (.bool false) ∧ Qb w' rb S f ∧ Only (fun _ => False) w w' := by
  have HB : Hid (Qb w rb S f) := h
  obtain ⟨i, x, hR, hc, _⟩ := h
  have q : ((f.1 : Int) != 0) = true := by simpa using hc
  have HR : Hid (Rpr w rb S i x f.1 f.2) := hR
  clear hR hc
  go_enter Try.func34, Try.ntmps34
  go_wp2_with (go_at_call 23; refine (here_bad rb S f _ HB.out).mono ?_; rintro e w1 ⟨rfl, ho1⟩; have d11 := (HR.out.only ho1 (fun h => h)).c11)
  go_ret
  exact ⟨rfl, HB.out.only ho1 (fun h => h), ho1⟩
/-- how sign ends. -/
def signP (rb : Nat) (S : ByteArray) (x : Rq) (w : World) (F : Rl.R (Bool × List Rl.Tk)) (e : Ending) (w' : World) : Prop :=
  match F with
  | .error f => e = .returned (.bool false) ∧ Qb w' rb S f ∧ Only (· = rb) w w'
  | .ok (b, ts) => e = .returned (.bool b) ∧ Qn w' rb S x ts ∧ Only (· = rb) w w'
theorem here_bd (rb : Nat) (S : ByteArray) (x : Rq) (t : Rl.Tk) (ts : List Rl.Tk) (w : World) (h : Qn w rb S x (t :: ts)) (hS : S.size ≤ 4096) (hv : Vc x) (hb : t.bad = true) :
    Calls Try.prog 23 #[.pointer (some ⟨rb, 0, none⟩)] w fun e w' => e = .returned (.int .u8 0) ∧ Rpr w' rb S (t.at' : Int) x ((20 : Nat) : Int) (t.at' : Int) ∧ Only (· = rb) w w' := by
  obtain ⟨i, h1, h2, h3⟩ := h
  refine (here_any rb S i x t w h1 h2.1 h3 hS).mono ?_
  rintro e w' ⟨⟨_, h4, h5⟩ | ⟨h4, _⟩, h6⟩
  · exact ⟨h4, h5, h6⟩
  · exact absurd hb h4
theorem here_ok (rb : Nat) (S : ByteArray) (x : Rq) (t : Rl.Tk) (ts : List Rl.Tk) (w : World) (h : Qn w rb S x (t :: ts)) (hS : S.size ≤ 4096) (hb : ¬ t.bad = true) :
    Calls Try.prog 23 #[.pointer (some ⟨rb, 0, none⟩)] w fun e w' => e = .returned (.int .u8 (hd t)) ∧ Rpr w' rb S (t.at' : Int) x 0 0 ∧ Rl.Strm S.data.toList t.at' (t :: ts) ∧ t.at' + t.text.length ≤ S.size ∧ Only (· = rb) w w' := by
  obtain ⟨i, h1, h2, h3⟩ := h
  refine (here_any rb S i x t w h1 h2.1 h3 hS).mono ?_
  rintro e w' ⟨⟨h4, _⟩ | ⟨_, h4, h5⟩, h6⟩
  · exact absurd h4 hb
  · have e1 := Rl.strm_at h2
    refine ⟨h4, h5, by rw [e1]; exact Rl.strm_nx h2, ?_, h6⟩
    have := Rl.tk_end S.data.toList i (by rw [← Lib.size_eq]; exact h3)
    rw [h2.1, ← Lib.size_eq] at *
    exact this
theorem strm_tk {w : World} {rb : Nat} {S : ByteArray} {x : Rq} {t : Rl.Tk} {ts : List Rl.Tk} (h : Qn w rb S x (t :: ts)) : ∃ i, t = Rl.tk S.data.toList i := by
  obtain ⟨i, _, h2, _⟩ := h
  exact ⟨i, h2.1⟩
set_option maxRecDepth 100000 in
set_option maxHeartbeats 2000000 in
theorem sign_any (c : UInt8) (rb : Nat) (S : ByteArray) (x : Rq) (ts : List Rl.Tk) (w : World) (h : Qn w rb S x ts) (hS : S.size ≤ 4096) (hv : Vc x) (hc : Rl.signs.contains c = true) (hn : Rl.isN c = false) :
    Calls Try.prog 34 #[.pointer (some ⟨rb, 0, none⟩), .int .u8 (c.toNat : Int)] w (signP rb S x w (Rl.took c ts)) := by
  cases ts with
  | nil => obtain ⟨i, _, h2, _⟩ := h; exact h2.elim
  | cons t ts =>
    have HI : Hid (Qn w rb S x (t :: ts)) := h
    obtain ⟨i0, ht⟩ := strm_tk h
    have htx := tk_sign ht hc hn
    have hlt := h.lt
    clear h ht
    by_cases hb : t.bad = true
    · have hF : Rl.took c (t :: ts) = .error (20, t.at') := by show (if _ then _ else _) = _; rw [if_pos hb]
      rw [hF]
      have HB : Hid (t.bad = true) := hb
      have HV : Hid (Vc x) := hv
      clear hF hb hv htx
      go_enter Try.func34, Try.ntmps34
      go_wp2_with (go_at_call 23; refine (here_bd rb S x t ts _ HI.out hS HV.out HB.out).mono ?_; rintro e w1 ⟨rfl, hR1, ho1⟩; have d11 : w1.cell? ⟨rb, 11, none⟩ = some (.int .i64 20) := hR1.c11; have HR1 : Hid (Rpr w1 rb S (t.at' : Int) x ((20 : Nat) : Int) (t.at' : Int)) := hR1; clear hR1)
      go_ret
      exact ⟨rfl, HR1.out.qb (by decide) HV.out, ho1⟩
    · have HB : Hid (¬ t.bad = true) := hb
      by_cases he : t.text = [c]
      · have hF : Rl.took c (t :: ts) = .ok (true, ts) := by show (if _ then _ else _) = _; rw [if_neg hb, if_pos he]
        rw [hF]
        have q : (hd t != (c.toNat : Int)) = false := by rw [htx.2 he]; simp
        have hl1 : t.text.length = 1 := by rw [he]; rfl
        have Hne : Hid (t.text ≠ []) := (by rw [he]; simp : t.text ≠ [])
        clear hF hb htx he
        go_enter Try.func34, Try.ntmps34
        go_wp2_with (go_at_call 23; refine (here_ok rb S x t ts _ HI.out hS HB.out).mono ?_; rintro e w1 ⟨rfl, hR1, hs1, he1, ho1⟩; have d11 := hR1.c11; have d1 := hR1.c1; have f1 := hR1.fz 1; have HR1 : Hid (Rpr w1 rb S (t.at' : Int) x 0 0) := hR1; have HS1 : Hid (Rl.Strm S.data.toList t.at' (t :: ts)) := hs1; have hat : (t.at' : Int) + 1 ≤ 4096 := (by omega); clear hR1 hs1)
        go_ret
        have hs2 := Rl.strm_tail HS1.out Hne.out
        rw [hl1] at hs2
        exact ⟨rfl, ⟨t.at' + 1, (by have := HR1.out.set1 ((t.at' : Int) + 1); exact this), hs2, by omega⟩, ho1.setCell (p := ⟨rb, 1, none⟩) rfl _⟩
      · have hF : Rl.took c (t :: ts) = .ok (false, t :: ts) := by show (if _ then _ else _) = _; rw [if_neg hb, if_neg he]
        rw [hF]
        have q : (hd t != (c.toNat : Int)) = true := by
          simp only [bne_iff_ne, ne_eq]
          exact fun h => he (htx.1 h)
        clear hF hb htx he
        go_enter Try.func34, Try.ntmps34
        go_wp2_with (go_at_call 23; refine (here_ok rb S x t ts _ HI.out hS HB.out).mono ?_; rintro e w1 ⟨rfl, hR1, hs1, he1, ho1⟩; have d11 := hR1.c11; have HR1 : Hid (Rpr w1 rb S (t.at' : Int) x 0 0) := hR1; have HS1 : Hid (Rl.Strm S.data.toList t.at' (t :: ts)) := hs1; clear hR1 hs1)
        go_ret
        exact ⟨rfl, ⟨_, HR1.out, HS1.out, by omega⟩, ho1⟩
set_option maxRecDepth 100000 in
set_option maxHeartbeats 2000000 in
theorem rwant_bad (c : Int) (rb : Nat) (S : ByteArray) (f : Rl.Ft) (w : World) (h : Qb w rb S f) :
    Calls Try.prog 37 #[.pointer (some ⟨rb, 0, none⟩), .int .u8 c] w fun e w' => e = .returned (.tuple #[]) ∧ Qb w' rb S f ∧ Only (fun _ => False) w w' := by
  have HB : Hid (Qb w rb S f) := h
  clear h
  go_enter Try.func37, Try.ntmps37
  go_wp2_with (first | (go_at_call 34; refine (sign_bad c rb S f _ HB.out).mono ?_; rintro e w1 ⟨rfl, hb1, ho1⟩; have HB1 : Hid (Qb w1 rb S f) := hb1; obtain ⟨i1, x1, hR1, hc1, _⟩ := hb1; have d1 := hR1.c1; have HR1 : Hid (Rpr w1 rb S i1 x1 f.1 f.2) := hR1; have HC1 : Hid (f.1 ≠ 0) := hc1; clear hR1 hc1) | (go_at_call 32; refine (bad_later rb S i1 x1 f.1 f.2 _ _ _ HR1.out (by have := HC1.out; omega)).mono ?_; rintro e w2 ⟨rfl, rfl⟩))
  go_end0
  exact ⟨rfl, HB1.out, ho1⟩
/-- how want ends. -/
def rwantP (rb : Nat) (S : ByteArray) (x : Rq) (w : World) (F : Rl.R (List Rl.Tk)) (e : Ending) (w' : World) : Prop :=
  match F with
  | .error f => e = .returned (.tuple #[]) ∧ Qb w' rb S f ∧ Only (· = rb) w w'
  | .ok ts => e = .returned (.tuple #[]) ∧ Qn w' rb S x ts ∧ Only (· = rb) w w'
set_option maxRecDepth 100000 in
set_option maxHeartbeats 2000000 in
theorem rwant_any (c : UInt8) (rb : Nat) (S : ByteArray) (x : Rq) (ts : List Rl.Tk) (w : World) (h : Qn w rb S x ts) (hS : S.size ≤ 4096) (hv : Vc x) (hc : Rl.signs.contains c = true) (hn : Rl.isN c = false) :
    Calls Try.prog 37 #[.pointer (some ⟨rb, 0, none⟩), .int .u8 (c.toNat : Int)] w (rwantP rb S x w (Rl.want c ts)) := by
  cases ts with
  | nil => obtain ⟨i, _, h2, _⟩ := h; exact h2.elim
  | cons t ts =>
    have ht := sign_any c rb S x (t :: ts) w h hS hv hc hn
    have HV : Hid (Vc x) := hv
    by_cases hb : t.bad = true
    · have hF : Rl.want c (t :: ts) = .error (20, t.at') := by show (if _ then _ else _) = _; rw [if_pos hb]
      have hF2 : Rl.took c (t :: ts) = .error (20, t.at') := by show (if _ then _ else _) = _; rw [if_pos hb]
      rw [hF]
      rw [hF2] at ht
      have HT : Hid (Calls Try.prog 34 #[.pointer (some ⟨rb, 0, none⟩), .int .u8 (c.toNat : Int)] w (signP rb S x w (.error (20, t.at')))) := ht
      clear hF hF2 ht h hv hc hn
      go_enter Try.func37, Try.ntmps37
      go_wp2_with (first | (go_at_call 34; refine HT.out.mono ?_; rintro e w1 ⟨rfl, hb1, ho1⟩; have HB1 : Hid (Qb w1 rb S (20, t.at')) := hb1; obtain ⟨i1, x1, hR1, hc1, _⟩ := hb1; have d1 := hR1.c1; have HR1 : Hid (Rpr w1 rb S i1 x1 ((20 : Nat) : Int) (t.at' : Int)) := hR1; clear hR1 hc1) | (go_at_call 32; refine (bad_later rb S i1 x1 20 t.at' _ _ _ HR1.out (by decide)).mono ?_; rintro e w2 ⟨rfl, rfl⟩))
      go_end0
      exact ⟨rfl, HB1.out, ho1⟩
    · by_cases htx : t.text = [c]
      · have hF : Rl.want c (t :: ts) = .ok ts := by show (if _ then _ else _) = _; rw [if_neg hb, if_pos htx]
        have hF2 : Rl.took c (t :: ts) = .ok (true, ts) := by show (if _ then _ else _) = _; rw [if_neg hb, if_pos htx]
        rw [hF]
        rw [hF2] at ht
        have HT : Hid (Calls Try.prog 34 #[.pointer (some ⟨rb, 0, none⟩), .int .u8 (c.toNat : Int)] w (signP rb S x w (.ok (true, ts)))) := ht
        clear hF hF2 ht h hv hc hn
        go_enter Try.func37, Try.ntmps37
        go_wp2_with (go_at_call 34; refine HT.out.mono ?_; rintro e w1 ⟨rfl, hi1, ho1⟩)
        go_end0
        exact ⟨rfl, hi1, ho1⟩
      · have hF : Rl.want c (t :: ts) = .error (21, t.at') := by show (if _ then _ else _) = _; rw [if_neg hb, if_neg htx]
        rw [hF]
        have HI : Hid (Qn w rb S x (t :: ts)) := h
        have HB : Hid (¬ t.bad = true) := hb
        obtain ⟨i0, ht0⟩ := strm_tk h
        have htx2 := tk_sign ht0 hc hn
        have q : (hd t != (c.toNat : Int)) = true := by
          simp only [bne_iff_ne, ne_eq]
          exact fun h => htx (htx2.1 h)
        clear hF ht h hv hc hn hb htx ht0 htx2
        go_enter Try.func37, Try.ntmps37
        go_wp2_with (first | (go_at_call 34; go_in) | (go_at_call 23; refine (here_ok rb S x t ts _ HI.out hS HB.out).mono ?_; rintro e w1 ⟨rfl, hR1, hs1, he1, ho1⟩; have d11 := hR1.c11; have d1 := hR1.c1; have HR1 : Hid (Rpr w1 rb S (t.at' : Int) x 0 0) := hR1; clear hR1 hs1) | (go_at_call 32; refine (bad_first rb S t.at' x 21 t.at' _ HR1.out).mono ?_; rintro e w2 ⟨rfl, hR2, ho2⟩))
        go_end0
        exact ⟨rfl, (show Rpr w2 rb S (t.at' : Int) x ((21 : Nat) : Int) (t.at' : Int) from hR2).qb (by decide) HV.out, ho1.trans ho2⟩
end Go.Proofs.Ytahoepmnekconaa
