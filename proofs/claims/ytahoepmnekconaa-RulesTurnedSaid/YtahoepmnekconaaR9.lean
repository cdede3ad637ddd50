/-
  row of the document's own parser, given what thing does with less.
-/
import Derived.Test.YtahoepmnekconaaR8
namespace Go.Proofs.Ytahoepmnekconaa
open Go.RowKit Go.Maps
set_option linter.unusedVariables false
set_option linter.unusedSimpArgs false
theorem ex_newsG (W : World) (g : Nat) (hg : g = W.heap.size) (o s : Int) (k : Value) : ∀ j u, [Value.int .u8 o, Value.int .u32 s, k][j]? = some u → (W.alloc (.cells #[.int .u8 o, .int .u32 s, k] 50)).cell? ((⟨g, 0, none⟩ : Addr).add j) = some u := by
  subst hg
  exact ex_news W o s k
theorem app_keep {W w' : World} {base e size n : Nat} {ob : Obj} {v : Value} {xs : List Value} (hown : W.ownsRow base e size v n xs) (hg : (W.alloc ob).grownBy w' v.ownBlock) : ∀ g, g < W.heap.size → g < base → w'.heap[g]? = W.heap[g]? := fun g h1 h2 => by
  rw [hg.block g (by simp; omega) (fun e => by have := (hown.lt g e.symm).1; omega), Below.heap_alloc _ _ _ (by omega)]
theorem app_only {w W w' : World} {rb base e size n : Nat} {ob : Obj} {v : Value} {xs : List Value} (hO : Only (· = rb) w W) (hown : W.ownsRow base e size v n xs) (hb : w.heap.size ≤ base) (hg : (W.alloc ob).grownBy w' v.ownBlock) : Only (· = rb) w w' := by
  have hs := hO.size
  refine ⟨hg.os.trans hO.os, hg.tape.trans hO.tape, hg.output.trans hO.output, Nat.le_trans (Nat.le_trans hs (by simp)) hg.size, fun g hgl hgn => ?_⟩
  exact (app_keep hown hg g (by omega) (by omega)).trans (hO.block g hgl hgn)
theorem Qn.at {w w' : World} {rb : Nat} {S : ByteArray} {x : Rq} {ts : List Rl.Tk} (h : Qn w rb S x ts) (he : w'.heap[rb]? = w.heap[rb]?) : Qn w' rb S x ts := by
  obtain ⟨i, h1, h2⟩ := h
  exact ⟨i, he.trans h1, h2⟩
theorem Qb.at {w w' : World} {rb : Nat} {S : ByteArray} {f : Rl.Ft} (h : Qb w rb S f) (he : w'.heap[rb]? = w.heap[rb]?) : Qb w' rb S f := by
  obtain ⟨i, x, h1, h2⟩ := h
  exact ⟨i, x, he.trans h1, h2⟩
theorem Qn.len {w : World} {rb : Nat} {S : ByteArray} {x : Rq} {ts : List Rl.Tk} (h : Qn w rb S x ts) : ts.length ≤ S.size + 1 := by
  obtain ⟨i, _, hs, hi⟩ := h
  have := strm_len hs (by rw [← Lib.size_eq]; exact hi)
  rw [← Lib.size_eq] at this
  omega
theorem hdB_sign {l : Rl.Str} {i : Nat} {t : Rl.Tk} {c : UInt8} (ht : t = Rl.tk l i) (hc : Rl.signs.contains c = true) (hn : Rl.isN c = false) : (hdB t = c) ↔ t.text = [c] := by
  rw [← tk_sign ht hc hn, hd_eq]
  constructor
  · intro h; rw [h]
  · intro h; exact UInt8.toNat_inj.1 (by omega)
/-- one expression has its form. -/
def Frm (k : Nat) (xs : List Value) : Prop := k = 1 → ∃ o s a q c, xs = [Value.int .u8 o, .int .u32 s, .slice a q c]
theorem Es.frm {w : World} {base : Nat} {v : Value} {l : List Rl.Ex} {xs : List Value} (h1 : w.ownsRow base 50 3 v l.length xs) (h2 : Trs w (Kb base v) l (fun j => xs[j]?)) : Frm l.length xs := by
  intro hk
  match l, hk, h1, h2 with
  | [e], _, h1, h2 =>
    obtain ⟨o, s, k, rfl, hT⟩ := h2.one h1.1
    obtain ⟨op, st, a, n', c', hform⟩ := hT.form
    simp only [Value.agg.injEq, Array.mk.injEq, List.cons.injEq, and_true] at hform
    obtain ⟨rfl, rfl, rfl⟩ := hform
    exact ⟨_, _, _, _, _, rfl⟩
theorem Frm.snoc {w : World} {base e : Nat} {v : Value} {n : Nat} {xs : List Value} {o s : Int} {a : Option Addr} {q c : Nat} (h : w.ownsRow base e 3 v n xs) : Frm (n + 1) (xs ++ [.int .u8 o, .int .u32 s, .slice a q c]) := by
  intro hk
  have h0 : n = 0 := by omega
  have hx : xs = [] := List.length_eq_zero_iff.1 (by rw [h.1, h0])
  subst hx
  exact ⟨_, _, _, _, _, rfl⟩
set_option maxRecDepth 100000 in
set_option maxHeartbeats 16000000 in
theorem rrow_step (E : Rl.Env) (nc rb : Nat) (S : ByteArray) (n : Nat) (hS : S.size ≤ 4096) (hT : ∀ m, m < n → RThingOk E nc rb S m) : RRowOk E nc rb S n := by
  intro d p x ts w hI hM hC hn
  obtain ⟨i0, hi, hz0, hz1, hz2⟩ := info_parts info50
  have hlt := hI.lt
  have htl : ts.length ≤ 5000 := by have := hI.len; omega
  have HC : Hid (Cr nc x p d) := hC
  have HI : Hid (Qn w rb S x ts) := hI
  have HD : Hid (Dec w rb x E) := hM
  have HT : Hid (∀ m, m < n → RThingOk E nc rb S m) := hT
  have Z0 : Hid (Xb (w.alloc (.cells #[.int .u8 0, .int .u32 0, .slice none 0 0] 50)) w.heap.size (.int .u8 0) (.int .u32 0) (.slice none 0 0)) := Xb.new w _ _ _
  obtain ⟨F, hF⟩ : ∃ F, F = Rl.row E nc n d ts p [] := ⟨_, rfl⟩
  have HF : Hid (F = Rl.row E nc n d ts p []) := hF
  rw [← hF]
  have hpx : x = x.withPl p := by have := hC.pl; cases x; simp only [Rq.withPl] at this ⊢; rw [this]
  have Hpx : Hid (x = x.withPl p) := hpx
  have hp200 := hC.p200
  clear hF hI hM hC hT hpx
  go_enter Try.func64, Try.ntmps64
  go_wp2_with fail
  go_loopg [3] (ts.length + 1) (fun g v wr => (∃ (tsr : List Rl.Tk) (m pr : Nat) (l : List Rl.Ex) (W : World), W = wr ∧ g = tsr.length + 1 ∧ Qn W rb S (x.withPl pr) tsr ∧ Only (· = rb) w W ∧ Xb W w.heap.size (.int .u8 0) (.int .u32 0) (.slice none 0 0) ∧ Es W (w.heap.size + 1) v l ∧ pr ≤ 200 ∧ 4 * tsr.length + 2 ≤ m ∧ m ≤ n ∧ l.length + tsr.length ≤ ts.length ∧ Hid (F = Rl.row E nc m d tsr pr l)) ∨ (∃ (f : Rl.Ft) (k : Nat) (xs : List Value) (W : World), W = wr ∧ g = 0 ∧ Qb W rb S f ∧ Only (· = rb) w W ∧ Xb W w.heap.size (.int .u8 0) (.int .u32 0) (.slice none 0 0) ∧ W.ownsRow (w.heap.size + 1) 50 3 v k xs ∧ Frm k xs ∧ k ≤ 5001 ∧ Hid (F = .error f)))
  case atStart => exact Or.inl ⟨ts, n, p, [], _, rfl, rfl, by rw [← Hpx.out]; exact HI.out.alloc _, (Only.refl (· = rb) w).alloc _, Z0.out, Es.nil _ _, hp200, hn, Nat.le_refl _, by simp, HF.out⟩
  case round =>
    rcases hrel with ⟨tsr, m, pr, l, W, hW, rfl, hIr, hOr, hZr, hEr, hpr, hm1, hm2, hll, hFr⟩ | ⟨f, k, xs, W, hW, rfl, hBr, hOr, hZr, hown, hfm, hk5, hFr⟩
    · subst hW
      cases tsr with
      | nil => obtain ⟨i, _, h2, _⟩ := hIr; exact h2.elim
      | cons t tsr =>
        obtain ⟨m, rfl⟩ : ∃ k, m = k + 1 := ⟨m - 1, by omega⟩
        have HIr : Hid (Qn W rb S (x.withPl pr) (t :: tsr)) := hIr
        have HOr : Hid (Only (· = rb) w W) := hOr
        have HDr : Hid (Dec W rb (x.withPl pr) E) := (HD.out.only hOr).withPl _
        have HCr : Hid (Cr nc (x.withPl pr) pr d) := HC.out.withPl hpr
        have HZr : Hid (Xb W w.heap.size (.int .u8 0) (.int .u32 0) (.slice none 0 0)) := hZr
        have HEr := hEr
        have hFr' := hFr.out
        have hlz := hZr.lt
        have hlr := hIr.lt
        obtain ⟨it, htk⟩ := strm_tk hIr
        rw [row_cons] at hFr'
        simp only [List.length_cons] at hm1 hll
        clear hIr hOr hFr hZr hEr
        by_cases hb : t.bad = true
        · have HB : Hid (t.bad = true) := hb
          rw [if_pos hb] at hFr'
          have HE : Hid (F = .error (20, t.at')) := hFr'
          obtain ⟨xs, hown, hkids⟩ := HEr
          have HFm : Hid (Frm l.length xs) := Es.frm hown hkids
          obtain ⟨k, hkl⟩ : ∃ k, k = l.length := ⟨_, rfl⟩
          rw [← hkl] at hown HFm
          have HOwn : Hid (W.ownsRow (w.heap.size + 1) 50 3 u3 k xs) := hown
          clear hb hFr' hkids hown hkl htk
          rcases Nat.lt_or_ge 1 k with hk | hk
          · obtain ⟨a', cap, rfl⟩ := own_form HOwn.out
            have q0 : ((k : Int) == 0) = false := by simp; omega
            have q1 : ((k : Int) == 1) = false := by simp; omega
            go_wp2_with (go_at_call 23; refine (here_bd rb S _ t tsr _ HIr.out hS (HC.out.vc.withPl _) HB.out).mono ?_; rintro e w1 ⟨rfl, hR1, ho1⟩; have d11 : w1.cell? ⟨rb, 11, none⟩ = some (.int .i64 20) := hR1.c11; have HBx1 : Hid (Qb w1 rb S (20, t.at')) := hR1.qb (by decide) (HC.out.vc.withPl _); clear hR1; have HOy1 : Hid (Only (· = rb) W w1) := ho1; clear ho1; have HOx1 : Hid (Only (· = rb) w w1) := HOr.out.trans HOy1.out; have Z1 : Hid (Xb w1 w.heap.size (.int .u8 0) (.int .u32 0) (.slice none 0 0)) := HZr.out.only HOy1.out (by omega); have z0 := Z1.out.c0; have z1 := Z1.out.c1; have z2 := Z1.out.c2; have zf0 := Z1.out.fz 0; have zf1 := Z1.out.fz 1; have zf2 := Z1.out.fz 2)
            refine bodyPost_ret (v := .agg #[.int .u8 2, .int .u32 0, .slice a' k cap]) (results_x rfl _ rfl (Z1.out.set3 _ _ _)) rfl ?_
            rw [HE.out]
            exact ⟨⟨_, _, _, _, _, rfl⟩, HBx1.out.set3 (z := w.heap.size) (by omega) _ _ _, HOx1.out.set3 (z := w.heap.size) (Nat.le_refl _) _ _ _⟩
          · rcases Nat.lt_or_ge 0 k with hk0 | hk0
            · obtain rfl : k = 1 := by omega
              obtain ⟨o, s, a, q, c, rfl⟩ := HFm.out rfl
              obtain ⟨g, cap, rfl, hgb, hgl, hcap, hcells⟩ := row_form HOwn.out (by omega)
              have K0 : Hid (W.cell? ⟨g, 0, none⟩ = some (.int .u8 o)) := hcells 0 (by simp)
              have K1 : Hid (W.cell? ⟨g, 1, none⟩ = some (.int .u32 s)) := hcells 1 (by simp)
              have K2 : Hid (W.cell? ⟨g, 2, none⟩ = some (.slice a q c)) := hcells 2 (by simp)
              clear hcells
              go_wp2_with (go_at_call 23; refine (here_bd rb S _ t tsr _ HIr.out hS (HC.out.vc.withPl _) HB.out).mono ?_; rintro e w1 ⟨rfl, hR1, ho1⟩; have d11 : w1.cell? ⟨rb, 11, none⟩ = some (.int .i64 20) := hR1.c11; have HBx1 : Hid (Qb w1 rb S (20, t.at')) := hR1.qb (by decide) (HC.out.vc.withPl _); clear hR1; have HOy1 : Hid (Only (· = rb) W w1) := ho1; clear ho1; have HOx1 : Hid (Only (· = rb) w w1) := HOr.out.trans HOy1.out; have Z1 : Hid (Xb w1 w.heap.size (.int .u8 0) (.int .u32 0) (.slice none 0 0)) := HZr.out.only HOy1.out (by omega); have z0 := Z1.out.c0; have z1 := Z1.out.c1; have z2 := Z1.out.c2; have zf0 := Z1.out.fz 0; have zf1 := Z1.out.fz 1; have zf2 := Z1.out.fz 2; have j0 := (World.cell?_of_block (a := ⟨g, 0, none⟩) (HOy1.out.block g hgl (by omega))).trans K0.out; have j1 := (World.cell?_of_block (a := ⟨g, 1, none⟩) (HOy1.out.block g hgl (by omega))).trans K1.out; have j2 := (World.cell?_of_block (a := ⟨g, 2, none⟩) (HOy1.out.block g hgl (by omega))).trans K2.out)
              refine bodyPost_ret (v := .agg #[.int .u8 o, .int .u32 s, .slice a q c]) (results_x rfl _ rfl (Z1.out.set3 _ _ _)) rfl ?_
              rw [HE.out]
              exact ⟨⟨_, _, _, _, _, rfl⟩, HBx1.out.set3 (z := w.heap.size) (by omega) _ _ _, HOx1.out.set3 (z := w.heap.size) (Nat.le_refl _) _ _ _⟩
            · obtain rfl : k = 0 := by omega
              obtain ⟨a', cap, rfl⟩ := own_form HOwn.out
              go_wp2_with (go_at_call 23; refine (here_bd rb S _ t tsr _ HIr.out hS (HC.out.vc.withPl _) HB.out).mono ?_; rintro e w1 ⟨rfl, hR1, ho1⟩; have d11 : w1.cell? ⟨rb, 11, none⟩ = some (.int .i64 20) := hR1.c11; have HBx1 : Hid (Qb w1 rb S (20, t.at')) := hR1.qb (by decide) (HC.out.vc.withPl _); clear hR1; have HOy1 : Hid (Only (· = rb) W w1) := ho1; clear ho1; have HOx1 : Hid (Only (· = rb) w w1) := HOr.out.trans HOy1.out; have Z1 : Hid (Xb w1 w.heap.size (.int .u8 0) (.int .u32 0) (.slice none 0 0)) := HZr.out.only HOy1.out (by omega); have z0 := Z1.out.c0; have z1 := Z1.out.c1; have z2 := Z1.out.c2; have zf0 := Z1.out.fz 0; have zf1 := Z1.out.fz 1; have zf2 := Z1.out.fz 2)
              refine bodyPost_ret (v := .agg #[.int .u8 0, .int .u32 0, .slice none 0 0]) (results_x rfl _ rfl (Z1.out.set3 _ _ _)) rfl ?_
              rw [HE.out]
              exact ⟨⟨_, _, _, _, _, rfl⟩, HBx1.out.set3 (z := w.heap.size) (by omega) _ _ _, HOx1.out.set3 (z := w.heap.size) (Nat.le_refl _) _ _ _⟩
        · have HB : Hid (¬ t.bad = true) := hb
          rw [if_neg hb] at hFr'
          have HDH : Hid (hd t = ((hdB t).toNat : Int)) := hd_eq t
          have s46 := hdB_sign (c := 46) htk (by decide) (by decide)
          have s91 := hdB_sign (c := 91) htk (by decide) (by decide)
          have s40 := hdB_sign (c := 40) htk (by decide) (by decide)
          have hbg : Rl.beg t = (Rl.isN (hdB t) || decide (hdB t = 46) || decide (hdB t = 91) || decide (hdB t = 40)) := by
            unfold Rl.beg
            rw [isNm_hd, decide_eq_decide.2 s46, decide_eq_decide.2 s91, decide_eq_decide.2 s40]
          have HBG : Hid (Rl.beg t = (Rl.isN (hdB t) || decide (hdB t = 46) || decide (hdB t = 91) || decide (hdB t = 40))) := hbg
          clear s46 s91 s40 hbg htk
          clear hb
          go_upto_region 3 with (go_at_call 23; refine (here_ok rb S _ t tsr _ HIr.out hS HB.out).mono ?_; rintro e w1 ⟨rfl, hR1, hs1, he1, ho1⟩; have d11 := hR1.c11; have HR1 : Hid (Rpr w1 rb S (t.at' : Int) (x.withPl pr) 0 0) := hR1; have HS1 : Hid (Rl.Strm S.data.toList t.at' (t :: tsr)) := hs1; clear hR1 hs1; have HO1 : Hid (Only (· = rb) W w1) := ho1; clear ho1)
          rw [HDH.out]
          go_cut [29] from 6 to 50 (fun v wc => v = .bool (!Rl.beg t) ∧ w1 = wc)
          case first =>
            by_cases c0 : Rl.isN (hdB t) = true
            · have hbt : Rl.beg t = true := by rw [HBG.out, c0]; rfl
              go_wp2_with (go_at_call 31; refine (letter_any (hdB t) _).mono ?_; rintro e w2 ⟨rfl, rfl⟩)
              go_meet
              case rel => exact ⟨by rw [hbt]; rfl, rfl⟩
            · have c0' : Rl.isN (hdB t) = false := by simpa using c0
              by_cases c1 : hdB t = 40
              · have hbt : Rl.beg t = true := by rw [HBG.out, c0', c1]; rfl
                have q1 : (((hdB t).toNat : Int) != 40) = false := by rw [c1]; rfl
                clear c1 c0
                go_wp2_with (go_at_call 31; refine (letter_any (hdB t) _).mono ?_; rintro e w2 ⟨rfl, rfl⟩)
                go_meet
                case rel => exact ⟨by rw [hbt]; rfl, rfl⟩
              · have q1 : (((hdB t).toNat : Int) != 40) = true := by
                  simp only [bne_iff_ne, ne_eq]; intro h; exact c1 (UInt8.toNat_inj.1 (by show _ = 40; omega))
                by_cases c2 : hdB t = 91
                · have hbt : Rl.beg t = true := by rw [HBG.out, c0', c2]; rfl
                  have q2 : (((hdB t).toNat : Int) != 91) = false := by rw [c2]; rfl
                  clear c1 c0 c2
                  go_wp2_with (go_at_call 31; refine (letter_any (hdB t) _).mono ?_; rintro e w2 ⟨rfl, rfl⟩)
                  go_meet
                  case rel => exact ⟨by rw [hbt]; rfl, rfl⟩
                · have q2 : (((hdB t).toNat : Int) != 91) = true := by
                    simp only [bne_iff_ne, ne_eq]; intro h; exact c2 (UInt8.toNat_inj.1 (by show _ = 91; omega))
                  by_cases c3 : hdB t = 46
                  · have hbt : Rl.beg t = true := by rw [HBG.out, c0', c3]; rfl
                    have q3 : (((hdB t).toNat : Int) != 46) = false := by rw [c3]; rfl
                    clear c1 c0 c2 c3
                    go_wp2_with (go_at_call 31; refine (letter_any (hdB t) _).mono ?_; rintro e w2 ⟨rfl, rfl⟩)
                    go_meet
                    case rel => exact ⟨by rw [hbt]; rfl, rfl⟩
                  · have q3 : (((hdB t).toNat : Int) != 46) = true := by
                      simp only [bne_iff_ne, ne_eq]; intro h; exact c3 (UInt8.toNat_inj.1 (by show _ = 46; omega))
                    have hbt : Rl.beg t = false := by rw [HBG.out, c0', decide_eq_false c1, decide_eq_false c2, decide_eq_false c3]; rfl
                    clear c1 c0 c2 c3
                    go_wp2_with (go_at_call 31; refine (letter_any (hdB t) _).mono ?_; rintro e w2 ⟨rfl, rfl⟩)
                    go_meet
                    case rel => exact ⟨by rw [hbt]; rfl, rfl⟩
          case rest =>
            obtain ⟨rfl, rfl⟩ := hcut
            by_cases hbg : Rl.beg t = true
            · have HBg : Hid (Rl.beg t = true) := hbg
              have hnb : (!Rl.beg t) = false := by rw [hbg]; rfl
              rw [if_pos hbg] at hFr'
              rw [hnb]
              clear hnb hbg
              obtain ⟨xs, hown, hkids⟩ := HEr
              have HOwn : Hid (W.ownsRow (w.heap.size + 1) 50 3 u3 l.length xs) := hown
              have HKid : Hid (Trs W (Kb (w.heap.size + 1) u3) l (fun j => xs[j]?)) := hkids
              clear hown hkids
              have hl1 := HO1.out.size
              cases hth : Rl.thing E nc m d (t :: tsr) pr with
              | error f =>
                rw [hth] at hFr'
                have HE : Hid (F = .error f) := hFr'
                have T1 : Hid (Rl.thing E nc m d (t :: tsr) pr = .error f) := hth
                clear hFr' hth
                go_wp2_with (first | (go_at_call 71; have hc := HT.out m (by omega) d pr (x.withPl pr) t tsr _ HR1.out HS1.out (by omega) (HDr.out.only HO1.out) HCr.out HB.out HBg.out (by omega); rw [T1.out] at hc; refine hc.mono ?_; clear hc; rintro e w3 ⟨⟨o, s, a, k, c, rfl⟩, hb3, ho3⟩; have HBx3 : Hid (Qb w3 rb S f) := hb3; clear hb3; have HO3 : Hid (Only (· = rb) W w3) := HO1.out.trans ho3; have hl13 := ho3.size; clear ho3; have hl3 := HO3.out.size; have X3 : Hid (Xb (w3.alloc (.cells #[.int .u8 o, .int .u32 s, .slice a k c] 50)) w3.heap.size (.int .u8 o) (.int .u32 s) (.slice a k c)) := Xb.new w3 _ _ _; have HO3' : Hid (Only (· = rb) W (w3.alloc (.cells #[.int .u8 o, .int .u32 s, .slice a k c] 50))) := HO3.out.alloc _) | (go_at_call_of 34 (Value.int .u8 42); refine (sign_bad _ rb S f _ (HBx3.out.alloc (.cells #[.int .u8 o, .int .u32 s, .slice a k c] 50))).mono ?_; rintro e w4 ⟨rfl, hb4, ho4⟩; have HBx4 : Hid (Qb w4 rb S f) := hb4; clear hb4; have HO4 : Hid (Only (· = rb) W w4) := HO3'.out.trans (ho4.mono (fun _ h => h.elim)); have X4 : Hid (Xb w4 w3.heap.size (.int .u8 o) (.int .u32 s) (.slice a k c)) := X3.out.only ho4 (fun h => h); have x0 := X4.out.c0; have x1 := X4.out.c1; have x2 := X4.out.c2; have xf0 := X4.out.fz 0; have xf1 := X4.out.fz 1; have xf2 := X4.out.fz 2; have hl4 := HO4.out.size; have hlx4 := X4.out.lt) | (go_at_call_of 34 (Value.int .u8 43); refine (sign_bad _ rb S f _ HBx4.out).mono ?_; rintro e w5 ⟨rfl, hb5, ho5⟩; have HBx5 : Hid (Qb w5 rb S f) := hb5; clear hb5; have HO5 : Hid (Only (· = rb) W w5) := HO4.out.trans (ho5.mono (fun _ h => h.elim)); have X5 : Hid (Xb w5 w3.heap.size (.int .u8 o) (.int .u32 s) (.slice a k c)) := X4.out.only ho5 (fun h => h); have x0 := X5.out.c0; have x1 := X5.out.c1; have x2 := X5.out.c2; have xf0 := X5.out.fz 0; have xf1 := X5.out.fz 1; have xf2 := X5.out.fz 2; have hl5 := HO5.out.size; have hlx5 := X5.out.lt) | (go_at_call_of 34 (Value.int .u8 63); refine (sign_bad _ rb S f _ HBx5.out).mono ?_; rintro e w6 ⟨rfl, hb6, ho6⟩; have HBx6 : Hid (Qb w6 rb S f) := hb6; clear hb6; have HO6 : Hid (Only (· = rb) W w6) := HO5.out.trans (ho6.mono (fun _ h => h.elim)); have X6 : Hid (Xb w6 w3.heap.size (.int .u8 o) (.int .u32 s) (.slice a k c)) := X5.out.only ho6 (fun h => h); have x0 := X6.out.c0; have x1 := X6.out.c1; have x2 := X6.out.c2; have xf0 := X6.out.fz 0; have xf1 := X6.out.fz 1; have xf2 := X6.out.fz 2; have hl6 := HO6.out.size; have hlx6 := X6.out.lt) | (at_builtin; have HOwn6 : Hid (w6.ownsRow (w.heap.size + 1) 50 3 u3 l.length xs) := own_only HOwn.out HO6.out (fun g hg => by omega); refine wpList_append_own_at _ rfl _ _ 48 rfl (w.heap.size + 1) 50 i0 (.agg #[.int .u8 0, .int .u32 0, .slice none 0 0]) 3 32 Try.underlying48 hi hz0 hz1 hz2 rfl (by decide) _ _ _ rfl (HOwn6.out.alloc _) ⟨w6.heap.size, 0, none⟩ 1 1 [.int .u8 o, .int .u32 s, .slice a k c] rfl rfl (ex_news _ _ _ _) (ex_cells _ _ _ _ _) (by unfold maxLen; omega) (by omega) (by simp; omega) ?_; intro v9 w9 hown9 hg9 _ hat9))
                go_roundg 0
                case measure => omega
                case rel =>
                  have hW : w6.ownsRow (w.heap.size + 1) 50 3 u3 l.length xs := own_only HOwn.out HO6.out (fun g hg => by omega)
                  have hkp := app_keep hW hg9
                  exact Or.inr ⟨f, l.length + 1, _, _, rfl, rfl, HBx6.out.at (hkp rb HBx6.out.lt (by omega)), app_only (HOr.out.trans HO6.out) hW (by omega) hg9, (hkp w.heap.size (by omega) (by omega)).trans (HZr.out.only HO6.out (by omega)), hown9, Frm.snoc hW, by omega, HE.out⟩
              | ok r =>
                obtain ⟨e1, ts1, p1⟩ := r
                rw [hth] at hFr'
                have T1 : Hid (Rl.thing E nc m d (t :: tsr) pr = .ok (e1, ts1, p1)) := hth
                have hln := (Rl.expr_len E nc m).2.2.2 _ _ _ _ _ _ hth hpr
                simp only [List.length_cons] at hln hFr'
                clear hth
                cases ts1 with
                | nil =>
                  clear hFr'
                  go_wp2_with (go_at_call 71; have hc := HT.out m (by omega) d pr (x.withPl pr) t tsr _ HR1.out HS1.out (by omega) (HDr.out.only HO1.out) HCr.out HB.out HBg.out (by omega); rw [T1.out] at hc; refine hc.mono ?_; clear hc; rintro e w3 ⟨v3, rfl, hT3, hI3, ho3⟩; obtain ⟨o, s, a, k, c, rfl⟩ := hT3.form; have HI3 : Hid (Qn w3 rb S (x.withPl p1) []) := hI3; have HT3 : Hid (Tr w3 (fun b => w1.heap.size ≤ b) e1 (.agg #[.int .u8 o, .int .u32 s, .slice a k c])) := hT3; clear hI3 hT3; have HO3 : Hid (Only (· = rb) W w3) := HO1.out.trans ho3; have hl13 := ho3.size; clear ho3; have hl3 := HO3.out.size; have X3 : Hid (Xb (w3.alloc (.cells #[.int .u8 o, .int .u32 s, .slice a k c] 50)) w3.heap.size (.int .u8 o) (.int .u32 s) (.slice a k c)) := Xb.new w3 _ _ _; have HO3' : Hid (Only (· = rb) W (w3.alloc (.cells #[.int .u8 o, .int .u32 s, .slice a k c] 50))) := HO3.out.alloc _; (obtain ⟨_, _, hf3, _⟩ := HI3.out; exact hf3.elim))
                | cons t1 ts1' =>
                  rw [often_cons] at hFr'
                  simp only [List.length_cons] at hln
                  by_cases hb1 : t1.bad = true
                  · rw [if_pos hb1] at hFr'
                    obtain ⟨f, hfd⟩ : ∃ f : Rl.Ft, f = (20, t1.at') := ⟨_, rfl⟩
                    have HE : Hid (F = .error f) := by rw [hfd]; exact hFr'
                    have T42 : Hid (Rl.took 42 (t1 :: ts1') = .error f) := by show Rl.took 42 (t1 :: ts1') = .error f; rw [rtook_cons, if_pos hb1, hfd]
                    clear hFr' hb1 hfd
                    go_wp2_with (first | (go_at_call 71; have hc := HT.out m (by omega) d pr (x.withPl pr) t tsr _ HR1.out HS1.out (by omega) (HDr.out.only HO1.out) HCr.out HB.out HBg.out (by omega); rw [T1.out] at hc; refine hc.mono ?_; clear hc; rintro e w3 ⟨v3, rfl, hT3, hI3, ho3⟩; obtain ⟨o, s, a, k, c, rfl⟩ := hT3.form; have HI3 : Hid (Qn w3 rb S (x.withPl p1) (t1 :: ts1')) := hI3; have HT3 : Hid (Tr w3 (fun b => w1.heap.size ≤ b) e1 (.agg #[.int .u8 o, .int .u32 s, .slice a k c])) := hT3; clear hI3 hT3; have HO3 : Hid (Only (· = rb) W w3) := HO1.out.trans ho3; have hl13 := ho3.size; clear ho3; have hl3 := HO3.out.size; have X3 : Hid (Xb (w3.alloc (.cells #[.int .u8 o, .int .u32 s, .slice a k c] 50)) w3.heap.size (.int .u8 o) (.int .u32 s) (.slice a k c)) := Xb.new w3 _ _ _; have HO3' : Hid (Only (· = rb) W (w3.alloc (.cells #[.int .u8 o, .int .u32 s, .slice a k c] 50))) := HO3.out.alloc _) | (go_at_call_of 34 (Value.int .u8 42); have hc := sign_any 42 rb S (x.withPl p1) (t1 :: ts1') _ (HI3.out.alloc (.cells #[.int .u8 o, .int .u32 s, .slice a k c] 50)) hS (HC.out.vc.withPl _) (by decide) (by decide); rw [T42.out] at hc; refine hc.mono ?_; clear hc; rintro e w4 ⟨rfl, hb4, ho4⟩; have HBx4 : Hid (Qb w4 rb S f) := hb4; clear hb4; have HO4 : Hid (Only (· = rb) W w4) := HO3'.out.trans ho4; have X4 : Hid (Xb w4 w3.heap.size (.int .u8 o) (.int .u32 s) (.slice a k c)) := X3.out.only ho4 (by omega); have x0 := X4.out.c0; have x1 := X4.out.c1; have x2 := X4.out.c2; have xf0 := X4.out.fz 0; have xf1 := X4.out.fz 1; have xf2 := X4.out.fz 2; have hl4 := HO4.out.size; have hlx4 := X4.out.lt) | (go_at_call_of 34 (Value.int .u8 43); refine (sign_bad _ rb S f _ HBx4.out).mono ?_; rintro e w5 ⟨rfl, hb5, ho5⟩; have HBx5 : Hid (Qb w5 rb S f) := hb5; clear hb5; have HO5 : Hid (Only (· = rb) W w5) := HO4.out.trans (ho5.mono (fun _ h => h.elim)); have X5 : Hid (Xb w5 w3.heap.size (.int .u8 o) (.int .u32 s) (.slice a k c)) := X4.out.only ho5 (fun h => h); have x0 := X5.out.c0; have x1 := X5.out.c1; have x2 := X5.out.c2; have xf0 := X5.out.fz 0; have xf1 := X5.out.fz 1; have xf2 := X5.out.fz 2; have hl5 := HO5.out.size; have hlx5 := X5.out.lt) | (go_at_call_of 34 (Value.int .u8 63); refine (sign_bad _ rb S f _ HBx5.out).mono ?_; rintro e w6 ⟨rfl, hb6, ho6⟩; have HBx6 : Hid (Qb w6 rb S f) := hb6; clear hb6; have HO6 : Hid (Only (· = rb) W w6) := HO5.out.trans (ho6.mono (fun _ h => h.elim)); have X6 : Hid (Xb w6 w3.heap.size (.int .u8 o) (.int .u32 s) (.slice a k c)) := X5.out.only ho6 (fun h => h); have x0 := X6.out.c0; have x1 := X6.out.c1; have x2 := X6.out.c2; have xf0 := X6.out.fz 0; have xf1 := X6.out.fz 1; have xf2 := X6.out.fz 2; have hl6 := HO6.out.size; have hlx6 := X6.out.lt) | (at_builtin; have HOwn6 : Hid (w6.ownsRow (w.heap.size + 1) 50 3 u3 l.length xs) := own_only HOwn.out HO6.out (fun g hg => by omega); refine wpList_append_own_at _ rfl _ _ 48 rfl (w.heap.size + 1) 50 i0 (.agg #[.int .u8 0, .int .u32 0, .slice none 0 0]) 3 32 Try.underlying48 hi hz0 hz1 hz2 rfl (by decide) _ _ _ rfl (HOwn6.out.alloc _) ⟨w6.heap.size, 0, none⟩ 1 1 [.int .u8 o, .int .u32 s, .slice a k c] rfl rfl (ex_news _ _ _ _) (ex_cells _ _ _ _ _) (by unfold maxLen; omega) (by omega) (by simp; omega) ?_; intro v9 w9 hown9 hg9 _ hat9))
                    go_roundg 0
                    case measure => omega
                    case rel =>
                      have hW : w6.ownsRow (w.heap.size + 1) 50 3 u3 l.length xs := own_only HOwn.out HO6.out (fun g hg => by omega)
                      have hkp := app_keep hW hg9
                      exact Or.inr ⟨f, l.length + 1, _, _, rfl, rfl, HBx6.out.at (hkp rb HBx6.out.lt (by omega)), app_only (HOr.out.trans HO6.out) hW (by omega) hg9, (hkp w.heap.size (by omega) (by omega)).trans (HZr.out.only HO6.out (by omega)), hown9, Frm.snoc hW, by omega, HE.out⟩
                  · rw [if_neg hb1] at hFr'
                    by_cases h42 : t1.text = [42]
                    · rw [if_pos h42] at hFr'
                      have HE : Hid (F = Rl.row E nc m d ts1' p1 (l ++ [.mk 4 0 [e1]])) := hFr'
                      have T42 : Hid (Rl.took 42 (t1 :: ts1') = .ok (true, ts1')) := by show Rl.took 42 (t1 :: ts1') = .ok (true, ts1'); rw [rtook_cons, if_neg hb1, if_pos h42]
                      clear hFr' hb1 h42
                      go_wp2_with (first | (go_at_call 71; have hc := HT.out m (by omega) d pr (x.withPl pr) t tsr _ HR1.out HS1.out (by omega) (HDr.out.only HO1.out) HCr.out HB.out HBg.out (by omega); rw [T1.out] at hc; refine hc.mono ?_; clear hc; rintro e w3 ⟨v3, rfl, hT3, hI3, ho3⟩; obtain ⟨o, s, a, k, c, rfl⟩ := hT3.form; have HI3 : Hid (Qn w3 rb S (x.withPl p1) (t1 :: ts1')) := hI3; have HT3 : Hid (Tr w3 (fun b => w1.heap.size ≤ b) e1 (.agg #[.int .u8 o, .int .u32 s, .slice a k c])) := hT3; clear hI3 hT3; have HO3 : Hid (Only (· = rb) W w3) := HO1.out.trans ho3; have hl13 := ho3.size; clear ho3; have hl3 := HO3.out.size; have X3 : Hid (Xb (w3.alloc (.cells #[.int .u8 o, .int .u32 s, .slice a k c] 50)) w3.heap.size (.int .u8 o) (.int .u32 s) (.slice a k c)) := Xb.new w3 _ _ _; have HO3' : Hid (Only (· = rb) W (w3.alloc (.cells #[.int .u8 o, .int .u32 s, .slice a k c] 50))) := HO3.out.alloc _) | (go_at_call_of 34 (Value.int .u8 42); have hc := sign_any 42 rb S (x.withPl p1) (t1 :: ts1') _ (HI3.out.alloc (.cells #[.int .u8 o, .int .u32 s, .slice a k c] 50)) hS (HC.out.vc.withPl _) (by decide) (by decide); rw [T42.out] at hc; refine hc.mono ?_; clear hc; rintro e w4 ⟨rfl, hi4, ho4⟩; have HI4 : Hid (Qn w4 rb S (x.withPl p1) ts1') := hi4; clear hi4; have HO4 : Hid (Only (· = rb) W w4) := HO3'.out.trans ho4; have X4 : Hid (Xb w4 w3.heap.size (.int .u8 o) (.int .u32 s) (.slice a k c)) := X3.out.only ho4 (by omega); have HT4 : Hid (Tr w4 (fun b => w1.heap.size ≤ b) e1 (.agg #[.int .u8 o, .int .u32 s, .slice a k c])) := HT3.out.later (((Only.refl (· = rb) w3).alloc _).trans ho4) (fun b hb => by omega) (fun b hb => hb); have x0 := X4.out.c0; have x1 := X4.out.c1; have x2 := X4.out.c2; have xf0 := X4.out.fz 0; have xf1 := X4.out.fz 1; have xf2 := X4.out.fz 2; have hl4 := HO4.out.size; have hlx4 := X4.out.lt; have HP4 : Hid (Only (· = rb) w3 w4) := ((Only.refl (· = rb) w3).alloc _).trans ho4) | (at_builtin; have HO8 : Hid (Only (· = rb) W ((set3 w4 w3.heap.size (.int .u8 4) (.int .u32 0) (.slice (some ⟨w4.heap.size, 0, none⟩) 1 1)).alloc (.cells #[.int .u8 o, .int .u32 s, .slice a k c] 50))) := (HO4.out.set3 (z := w3.heap.size) (by omega) _ _ _).alloc _; have HOwn8 : Hid (((set3 w4 w3.heap.size (.int .u8 4) (.int .u32 0) (.slice (some ⟨w4.heap.size, 0, none⟩) 1 1)).alloc (.cells #[.int .u8 o, .int .u32 s, .slice a k c] 50)).ownsRow (w.heap.size + 1) 50 3 u3 l.length xs) := own_only HOwn.out HO8.out (fun g hg => by omega); refine wpList_append_own_at _ rfl _ _ 48 rfl (w.heap.size + 1) 50 i0 (.agg #[.int .u8 0, .int .u32 0, .slice none 0 0]) 3 32 Try.underlying48 hi hz0 hz1 hz2 rfl (by decide) _ _ _ rfl (HOwn8.out.alloc _) ⟨w4.heap.size + 1, 0, none⟩ 1 1 [.int .u8 4, .int .u32 0, .slice (some ⟨w4.heap.size, 0, none⟩) 1 1] rfl rfl (ex_newsG ((set3 w4 w3.heap.size (.int .u8 4) (.int .u32 0) (.slice (some ⟨w4.heap.size, 0, none⟩) 1 1)).alloc (.cells #[.int .u8 o, .int .u32 s, .slice a k c] 50)) _ (by simp [set3_size]) _ _ _) (ex_cells _ _ _ _ _) (by unfold maxLen; omega) (by omega) (by simp; omega) ?_; intro v9 w9 hown9 hg9 _ hat9))
                      go_roundg (ts1'.length + 1)
                      case measure => simp only [List.length_cons]; omega
                      case rel =>
                        have hO8 : Only (· = rb) W ((set3 w4 w3.heap.size (.int .u8 4) (.int .u32 0) (.slice (some ⟨w4.heap.size, 0, none⟩) 1 1)).alloc (.cells #[.int .u8 o, .int .u32 s, .slice a k c] 50)) := (HO4.out.set3 (z := w3.heap.size) (by omega) _ _ _).alloc _
                        have hW : ((set3 w4 w3.heap.size (.int .u8 4) (.int .u32 0) (.slice (some ⟨w4.heap.size, 0, none⟩) 1 1)).alloc (.cells #[.int .u8 o, .int .u32 s, .slice a k c] 50)).ownsRow (w.heap.size + 1) 50 3 u3 l.length xs := own_only HOwn.out hO8 (fun g hg => by omega)
                        have hkp := app_keep hW hg9
                        have hs8 := hO8.size
                        have hpn := HP4.out.size
                        have hI8 : Qn ((set3 w4 w3.heap.size (.int .u8 4) (.int .u32 0) (.slice (some ⟨w4.heap.size, 0, none⟩) 1 1)).alloc (.cells #[.int .u8 o, .int .u32 s, .slice a k c] 50)) rb S (x.withPl p1) ts1' := (HI4.out.set3 (z := w3.heap.size) (by omega) _ _ _).alloc _
                        refine Or.inl ⟨ts1', m, p1, l ++ [Rl.Ex.mk 4 0 [e1]], _, rfl, rfl, hI8.at (hkp rb hI8.lt (by omega)), app_only (HOr.out.trans hO8) hW (by omega) hg9, (hkp w.heap.size (by omega) (by omega)).trans (HZr.out.only hO8 (by omega)), ?_, hln.2, by omega, by omega, by simp; omega, HE.out⟩
                        have hT8 : Tr ((set3 w4 w3.heap.size (.int .u8 4) (.int .u32 0) (.slice (some ⟨w4.heap.size, 0, none⟩) 1 1)).alloc (.cells #[.int .u8 o, .int .u32 s, .slice a k c] 50)) (fun b => w1.heap.size ≤ b) (.mk 4 0 [e1]) (.agg #[.int .u8 4, .int .u32 0, .slice (some ⟨w4.heap.size, 0, none⟩) 1 1]) := by
                          have hg := heap_alloc_new (set3 w4 w3.heap.size (.int .u8 4) (.int .u32 0) (.slice (some ⟨w4.heap.size, 0, none⟩) 1 1)) (.cells #[.int .u8 o, .int .u32 s, .slice a k c] 50)
                          rw [set3_size] at hg
                          refine Tr.one 4 (HT3.out.keep fun b hb hl => ⟨hb, ?_⟩) hg (fun b hb => hb) (by omega)
                          exact (Below.heap_alloc _ _ _ (by rw [set3_size]; omega)).trans ((set3_other _ _ _ _ (by omega)).trans (HP4.out.block b hl (by omega)))
                        refine Es.snoc hW (HKid.out.keep (fun b hb hl => ⟨hb, hO8.block b hl (by have := hb.1; omega)⟩)) hT8 (fun b hb => ⟨by omega, fun e => ?_⟩) hown9 hg9 hat9
                        have := (HOwn.out.lt b e).2
                        omega
                    · rw [if_neg h42] at hFr'
                      have T42 : Hid (Rl.took 42 (t1 :: ts1') = .ok (false, t1 :: ts1')) := by show Rl.took 42 (t1 :: ts1') = .ok (false, t1 :: ts1'); rw [rtook_cons, if_neg hb1, if_neg h42]
                      by_cases h43 : t1.text = [43]
                      · rw [if_pos h43] at hFr'
                        have HE : Hid (F = Rl.row E nc m d ts1' p1 (l ++ [.mk 5 0 [e1]])) := hFr'
                        have T43 : Hid (Rl.took 43 (t1 :: ts1') = .ok (true, ts1')) := by show Rl.took 43 (t1 :: ts1') = .ok (true, ts1'); rw [rtook_cons, if_neg hb1, if_pos h43]
                        clear hFr' hb1 h42 h43
                        go_wp2_with (first | (go_at_call 71; have hc := HT.out m (by omega) d pr (x.withPl pr) t tsr _ HR1.out HS1.out (by omega) (HDr.out.only HO1.out) HCr.out HB.out HBg.out (by omega); rw [T1.out] at hc; refine hc.mono ?_; clear hc; rintro e w3 ⟨v3, rfl, hT3, hI3, ho3⟩; obtain ⟨o, s, a, k, c, rfl⟩ := hT3.form; have HI3 : Hid (Qn w3 rb S (x.withPl p1) (t1 :: ts1')) := hI3; have HT3 : Hid (Tr w3 (fun b => w1.heap.size ≤ b) e1 (.agg #[.int .u8 o, .int .u32 s, .slice a k c])) := hT3; clear hI3 hT3; have HO3 : Hid (Only (· = rb) W w3) := HO1.out.trans ho3; have hl13 := ho3.size; clear ho3; have hl3 := HO3.out.size; have X3 : Hid (Xb (w3.alloc (.cells #[.int .u8 o, .int .u32 s, .slice a k c] 50)) w3.heap.size (.int .u8 o) (.int .u32 s) (.slice a k c)) := Xb.new w3 _ _ _; have HO3' : Hid (Only (· = rb) W (w3.alloc (.cells #[.int .u8 o, .int .u32 s, .slice a k c] 50))) := HO3.out.alloc _) | (go_at_call_of 34 (Value.int .u8 42); have hc := sign_any 42 rb S (x.withPl p1) (t1 :: ts1') _ (HI3.out.alloc (.cells #[.int .u8 o, .int .u32 s, .slice a k c] 50)) hS (HC.out.vc.withPl _) (by decide) (by decide); rw [T42.out] at hc; refine hc.mono ?_; clear hc; rintro e w4 ⟨rfl, hi4, ho4⟩; have HI4 : Hid (Qn w4 rb S (x.withPl p1) (t1 :: ts1')) := hi4; clear hi4; have HO4 : Hid (Only (· = rb) W w4) := HO3'.out.trans ho4; have X4 : Hid (Xb w4 w3.heap.size (.int .u8 o) (.int .u32 s) (.slice a k c)) := X3.out.only ho4 (by omega); have HT4 : Hid (Tr w4 (fun b => w1.heap.size ≤ b) e1 (.agg #[.int .u8 o, .int .u32 s, .slice a k c])) := HT3.out.later (((Only.refl (· = rb) w3).alloc _).trans ho4) (fun b hb => by omega) (fun b hb => hb); have x0 := X4.out.c0; have x1 := X4.out.c1; have x2 := X4.out.c2; have xf0 := X4.out.fz 0; have xf1 := X4.out.fz 1; have xf2 := X4.out.fz 2; have hl4 := HO4.out.size; have hlx4 := X4.out.lt; have HP4 : Hid (Only (· = rb) w3 w4) := ((Only.refl (· = rb) w3).alloc _).trans ho4) | (go_at_call_of 34 (Value.int .u8 43); have hc := sign_any 43 rb S (x.withPl p1) (t1 :: ts1') _ HI4.out hS (HC.out.vc.withPl _) (by decide) (by decide); rw [T43.out] at hc; refine hc.mono ?_; clear hc; rintro e w5 ⟨rfl, hi5, ho5⟩; have HI5 : Hid (Qn w5 rb S (x.withPl p1) ts1') := hi5; clear hi5; have HO5 : Hid (Only (· = rb) W w5) := HO4.out.trans ho5; have X5 : Hid (Xb w5 w3.heap.size (.int .u8 o) (.int .u32 s) (.slice a k c)) := X4.out.only ho5 (by omega); have HT5 : Hid (Tr w5 (fun b => w1.heap.size ≤ b) e1 (.agg #[.int .u8 o, .int .u32 s, .slice a k c])) := HT4.out.later ho5 (fun b hb => by omega) (fun b hb => hb); have x0 := X5.out.c0; have x1 := X5.out.c1; have x2 := X5.out.c2; have xf0 := X5.out.fz 0; have xf1 := X5.out.fz 1; have xf2 := X5.out.fz 2; have hl5 := HO5.out.size; have hlx5 := X5.out.lt; have HP5 : Hid (Only (· = rb) w3 w5) := HP4.out.trans ho5) | (at_builtin; have HO8 : Hid (Only (· = rb) W ((set3 w5 w3.heap.size (.int .u8 5) (.int .u32 0) (.slice (some ⟨w5.heap.size, 0, none⟩) 1 1)).alloc (.cells #[.int .u8 o, .int .u32 s, .slice a k c] 50))) := (HO5.out.set3 (z := w3.heap.size) (by omega) _ _ _).alloc _; have HOwn8 : Hid (((set3 w5 w3.heap.size (.int .u8 5) (.int .u32 0) (.slice (some ⟨w5.heap.size, 0, none⟩) 1 1)).alloc (.cells #[.int .u8 o, .int .u32 s, .slice a k c] 50)).ownsRow (w.heap.size + 1) 50 3 u3 l.length xs) := own_only HOwn.out HO8.out (fun g hg => by omega); refine wpList_append_own_at _ rfl _ _ 48 rfl (w.heap.size + 1) 50 i0 (.agg #[.int .u8 0, .int .u32 0, .slice none 0 0]) 3 32 Try.underlying48 hi hz0 hz1 hz2 rfl (by decide) _ _ _ rfl (HOwn8.out.alloc _) ⟨w5.heap.size + 1, 0, none⟩ 1 1 [.int .u8 5, .int .u32 0, .slice (some ⟨w5.heap.size, 0, none⟩) 1 1] rfl rfl (ex_newsG ((set3 w5 w3.heap.size (.int .u8 5) (.int .u32 0) (.slice (some ⟨w5.heap.size, 0, none⟩) 1 1)).alloc (.cells #[.int .u8 o, .int .u32 s, .slice a k c] 50)) _ (by simp [set3_size]) _ _ _) (ex_cells _ _ _ _ _) (by unfold maxLen; omega) (by omega) (by simp; omega) ?_; intro v9 w9 hown9 hg9 _ hat9))
                        go_roundg (ts1'.length + 1)
                        case measure => simp only [List.length_cons]; omega
                        case rel =>
                          have hO8 : Only (· = rb) W ((set3 w5 w3.heap.size (.int .u8 5) (.int .u32 0) (.slice (some ⟨w5.heap.size, 0, none⟩) 1 1)).alloc (.cells #[.int .u8 o, .int .u32 s, .slice a k c] 50)) := (HO5.out.set3 (z := w3.heap.size) (by omega) _ _ _).alloc _
                          have hW : ((set3 w5 w3.heap.size (.int .u8 5) (.int .u32 0) (.slice (some ⟨w5.heap.size, 0, none⟩) 1 1)).alloc (.cells #[.int .u8 o, .int .u32 s, .slice a k c] 50)).ownsRow (w.heap.size + 1) 50 3 u3 l.length xs := own_only HOwn.out hO8 (fun g hg => by omega)
                          have hkp := app_keep hW hg9
                          have hs8 := hO8.size
                          have hpn := HP5.out.size
                          have hI8 : Qn ((set3 w5 w3.heap.size (.int .u8 5) (.int .u32 0) (.slice (some ⟨w5.heap.size, 0, none⟩) 1 1)).alloc (.cells #[.int .u8 o, .int .u32 s, .slice a k c] 50)) rb S (x.withPl p1) ts1' := (HI5.out.set3 (z := w3.heap.size) (by omega) _ _ _).alloc _
                          refine Or.inl ⟨ts1', m, p1, l ++ [Rl.Ex.mk 5 0 [e1]], _, rfl, rfl, hI8.at (hkp rb hI8.lt (by omega)), app_only (HOr.out.trans hO8) hW (by omega) hg9, (hkp w.heap.size (by omega) (by omega)).trans (HZr.out.only hO8 (by omega)), ?_, hln.2, by omega, by omega, by simp; omega, HE.out⟩
                          have hT8 : Tr ((set3 w5 w3.heap.size (.int .u8 5) (.int .u32 0) (.slice (some ⟨w5.heap.size, 0, none⟩) 1 1)).alloc (.cells #[.int .u8 o, .int .u32 s, .slice a k c] 50)) (fun b => w1.heap.size ≤ b) (.mk 5 0 [e1]) (.agg #[.int .u8 5, .int .u32 0, .slice (some ⟨w5.heap.size, 0, none⟩) 1 1]) := by
                            have hg := heap_alloc_new (set3 w5 w3.heap.size (.int .u8 5) (.int .u32 0) (.slice (some ⟨w5.heap.size, 0, none⟩) 1 1)) (.cells #[.int .u8 o, .int .u32 s, .slice a k c] 50)
                            rw [set3_size] at hg
                            refine Tr.one 5 (HT3.out.keep fun b hb hl => ⟨hb, ?_⟩) hg (fun b hb => hb) (by omega)
                            exact (Below.heap_alloc _ _ _ (by rw [set3_size]; omega)).trans ((set3_other _ _ _ _ (by omega)).trans (HP5.out.block b hl (by omega)))
                          refine Es.snoc hW (HKid.out.keep (fun b hb hl => ⟨hb, hO8.block b hl (by have := hb.1; omega)⟩)) hT8 (fun b hb => ⟨by omega, fun e => ?_⟩) hown9 hg9 hat9
                          have := (HOwn.out.lt b e).2
                          omega
                      · rw [if_neg h43] at hFr'
                        have T43 : Hid (Rl.took 43 (t1 :: ts1') = .ok (false, t1 :: ts1')) := by show Rl.took 43 (t1 :: ts1') = .ok (false, t1 :: ts1'); rw [rtook_cons, if_neg hb1, if_neg h43]
                        by_cases h63 : t1.text = [63]
                        · rw [if_pos h63] at hFr'
                          have HE : Hid (F = Rl.row E nc m d ts1' p1 (l ++ [.mk 6 0 [e1]])) := hFr'
                          have T63 : Hid (Rl.took 63 (t1 :: ts1') = .ok (true, ts1')) := by show Rl.took 63 (t1 :: ts1') = .ok (true, ts1'); rw [rtook_cons, if_neg hb1, if_pos h63]
                          clear hFr' hb1 h42 h43 h63
                          go_wp2_with (first | (go_at_call 71; have hc := HT.out m (by omega) d pr (x.withPl pr) t tsr _ HR1.out HS1.out (by omega) (HDr.out.only HO1.out) HCr.out HB.out HBg.out (by omega); rw [T1.out] at hc; refine hc.mono ?_; clear hc; rintro e w3 ⟨v3, rfl, hT3, hI3, ho3⟩; obtain ⟨o, s, a, k, c, rfl⟩ := hT3.form; have HI3 : Hid (Qn w3 rb S (x.withPl p1) (t1 :: ts1')) := hI3; have HT3 : Hid (Tr w3 (fun b => w1.heap.size ≤ b) e1 (.agg #[.int .u8 o, .int .u32 s, .slice a k c])) := hT3; clear hI3 hT3; have HO3 : Hid (Only (· = rb) W w3) := HO1.out.trans ho3; have hl13 := ho3.size; clear ho3; have hl3 := HO3.out.size; have X3 : Hid (Xb (w3.alloc (.cells #[.int .u8 o, .int .u32 s, .slice a k c] 50)) w3.heap.size (.int .u8 o) (.int .u32 s) (.slice a k c)) := Xb.new w3 _ _ _; have HO3' : Hid (Only (· = rb) W (w3.alloc (.cells #[.int .u8 o, .int .u32 s, .slice a k c] 50))) := HO3.out.alloc _) | (go_at_call_of 34 (Value.int .u8 42); have hc := sign_any 42 rb S (x.withPl p1) (t1 :: ts1') _ (HI3.out.alloc (.cells #[.int .u8 o, .int .u32 s, .slice a k c] 50)) hS (HC.out.vc.withPl _) (by decide) (by decide); rw [T42.out] at hc; refine hc.mono ?_; clear hc; rintro e w4 ⟨rfl, hi4, ho4⟩; have HI4 : Hid (Qn w4 rb S (x.withPl p1) (t1 :: ts1')) := hi4; clear hi4; have HO4 : Hid (Only (· = rb) W w4) := HO3'.out.trans ho4; have X4 : Hid (Xb w4 w3.heap.size (.int .u8 o) (.int .u32 s) (.slice a k c)) := X3.out.only ho4 (by omega); have HT4 : Hid (Tr w4 (fun b => w1.heap.size ≤ b) e1 (.agg #[.int .u8 o, .int .u32 s, .slice a k c])) := HT3.out.later (((Only.refl (· = rb) w3).alloc _).trans ho4) (fun b hb => by omega) (fun b hb => hb); have x0 := X4.out.c0; have x1 := X4.out.c1; have x2 := X4.out.c2; have xf0 := X4.out.fz 0; have xf1 := X4.out.fz 1; have xf2 := X4.out.fz 2; have hl4 := HO4.out.size; have hlx4 := X4.out.lt; have HP4 : Hid (Only (· = rb) w3 w4) := ((Only.refl (· = rb) w3).alloc _).trans ho4) | (go_at_call_of 34 (Value.int .u8 43); have hc := sign_any 43 rb S (x.withPl p1) (t1 :: ts1') _ HI4.out hS (HC.out.vc.withPl _) (by decide) (by decide); rw [T43.out] at hc; refine hc.mono ?_; clear hc; rintro e w5 ⟨rfl, hi5, ho5⟩; have HI5 : Hid (Qn w5 rb S (x.withPl p1) (t1 :: ts1')) := hi5; clear hi5; have HO5 : Hid (Only (· = rb) W w5) := HO4.out.trans ho5; have X5 : Hid (Xb w5 w3.heap.size (.int .u8 o) (.int .u32 s) (.slice a k c)) := X4.out.only ho5 (by omega); have HT5 : Hid (Tr w5 (fun b => w1.heap.size ≤ b) e1 (.agg #[.int .u8 o, .int .u32 s, .slice a k c])) := HT4.out.later ho5 (fun b hb => by omega) (fun b hb => hb); have x0 := X5.out.c0; have x1 := X5.out.c1; have x2 := X5.out.c2; have xf0 := X5.out.fz 0; have xf1 := X5.out.fz 1; have xf2 := X5.out.fz 2; have hl5 := HO5.out.size; have hlx5 := X5.out.lt; have HP5 : Hid (Only (· = rb) w3 w5) := HP4.out.trans ho5) | (go_at_call_of 34 (Value.int .u8 63); have hc := sign_any 63 rb S (x.withPl p1) (t1 :: ts1') _ HI5.out hS (HC.out.vc.withPl _) (by decide) (by decide); rw [T63.out] at hc; refine hc.mono ?_; clear hc; rintro e w6 ⟨rfl, hi6, ho6⟩; have HI6 : Hid (Qn w6 rb S (x.withPl p1) ts1') := hi6; clear hi6; have HO6 : Hid (Only (· = rb) W w6) := HO5.out.trans ho6; have X6 : Hid (Xb w6 w3.heap.size (.int .u8 o) (.int .u32 s) (.slice a k c)) := X5.out.only ho6 (by omega); have HT6 : Hid (Tr w6 (fun b => w1.heap.size ≤ b) e1 (.agg #[.int .u8 o, .int .u32 s, .slice a k c])) := HT5.out.later ho6 (fun b hb => by omega) (fun b hb => hb); have x0 := X6.out.c0; have x1 := X6.out.c1; have x2 := X6.out.c2; have xf0 := X6.out.fz 0; have xf1 := X6.out.fz 1; have xf2 := X6.out.fz 2; have hl6 := HO6.out.size; have hlx6 := X6.out.lt; have HP6 : Hid (Only (· = rb) w3 w6) := HP5.out.trans ho6) | (at_builtin; have HO8 : Hid (Only (· = rb) W ((set3 w6 w3.heap.size (.int .u8 6) (.int .u32 0) (.slice (some ⟨w6.heap.size, 0, none⟩) 1 1)).alloc (.cells #[.int .u8 o, .int .u32 s, .slice a k c] 50))) := (HO6.out.set3 (z := w3.heap.size) (by omega) _ _ _).alloc _; have HOwn8 : Hid (((set3 w6 w3.heap.size (.int .u8 6) (.int .u32 0) (.slice (some ⟨w6.heap.size, 0, none⟩) 1 1)).alloc (.cells #[.int .u8 o, .int .u32 s, .slice a k c] 50)).ownsRow (w.heap.size + 1) 50 3 u3 l.length xs) := own_only HOwn.out HO8.out (fun g hg => by omega); refine wpList_append_own_at _ rfl _ _ 48 rfl (w.heap.size + 1) 50 i0 (.agg #[.int .u8 0, .int .u32 0, .slice none 0 0]) 3 32 Try.underlying48 hi hz0 hz1 hz2 rfl (by decide) _ _ _ rfl (HOwn8.out.alloc _) ⟨w6.heap.size + 1, 0, none⟩ 1 1 [.int .u8 6, .int .u32 0, .slice (some ⟨w6.heap.size, 0, none⟩) 1 1] rfl rfl (ex_newsG ((set3 w6 w3.heap.size (.int .u8 6) (.int .u32 0) (.slice (some ⟨w6.heap.size, 0, none⟩) 1 1)).alloc (.cells #[.int .u8 o, .int .u32 s, .slice a k c] 50)) _ (by simp [set3_size]) _ _ _) (ex_cells _ _ _ _ _) (by unfold maxLen; omega) (by omega) (by simp; omega) ?_; intro v9 w9 hown9 hg9 _ hat9))
                          go_roundg (ts1'.length + 1)
                          case measure => simp only [List.length_cons]; omega
                          case rel =>
                            have hO8 : Only (· = rb) W ((set3 w6 w3.heap.size (.int .u8 6) (.int .u32 0) (.slice (some ⟨w6.heap.size, 0, none⟩) 1 1)).alloc (.cells #[.int .u8 o, .int .u32 s, .slice a k c] 50)) := (HO6.out.set3 (z := w3.heap.size) (by omega) _ _ _).alloc _
                            have hW : ((set3 w6 w3.heap.size (.int .u8 6) (.int .u32 0) (.slice (some ⟨w6.heap.size, 0, none⟩) 1 1)).alloc (.cells #[.int .u8 o, .int .u32 s, .slice a k c] 50)).ownsRow (w.heap.size + 1) 50 3 u3 l.length xs := own_only HOwn.out hO8 (fun g hg => by omega)
                            have hkp := app_keep hW hg9
                            have hs8 := hO8.size
                            have hpn := HP6.out.size
                            have hI8 : Qn ((set3 w6 w3.heap.size (.int .u8 6) (.int .u32 0) (.slice (some ⟨w6.heap.size, 0, none⟩) 1 1)).alloc (.cells #[.int .u8 o, .int .u32 s, .slice a k c] 50)) rb S (x.withPl p1) ts1' := (HI6.out.set3 (z := w3.heap.size) (by omega) _ _ _).alloc _
                            refine Or.inl ⟨ts1', m, p1, l ++ [Rl.Ex.mk 6 0 [e1]], _, rfl, rfl, hI8.at (hkp rb hI8.lt (by omega)), app_only (HOr.out.trans hO8) hW (by omega) hg9, (hkp w.heap.size (by omega) (by omega)).trans (HZr.out.only hO8 (by omega)), ?_, hln.2, by omega, by omega, by simp; omega, HE.out⟩
                            have hT8 : Tr ((set3 w6 w3.heap.size (.int .u8 6) (.int .u32 0) (.slice (some ⟨w6.heap.size, 0, none⟩) 1 1)).alloc (.cells #[.int .u8 o, .int .u32 s, .slice a k c] 50)) (fun b => w1.heap.size ≤ b) (.mk 6 0 [e1]) (.agg #[.int .u8 6, .int .u32 0, .slice (some ⟨w6.heap.size, 0, none⟩) 1 1]) := by
                              have hg := heap_alloc_new (set3 w6 w3.heap.size (.int .u8 6) (.int .u32 0) (.slice (some ⟨w6.heap.size, 0, none⟩) 1 1)) (.cells #[.int .u8 o, .int .u32 s, .slice a k c] 50)
                              rw [set3_size] at hg
                              refine Tr.one 6 (HT3.out.keep fun b hb hl => ⟨hb, ?_⟩) hg (fun b hb => hb) (by omega)
                              exact (Below.heap_alloc _ _ _ (by rw [set3_size]; omega)).trans ((set3_other _ _ _ _ (by omega)).trans (HP6.out.block b hl (by omega)))
                            refine Es.snoc hW (HKid.out.keep (fun b hb hl => ⟨hb, hO8.block b hl (by have := hb.1; omega)⟩)) hT8 (fun b hb => ⟨by omega, fun e => ?_⟩) hown9 hg9 hat9
                            have := (HOwn.out.lt b e).2
                            omega
                        · rw [if_neg h63] at hFr'
                          have HE : Hid (F = Rl.row E nc m d (t1 :: ts1') p1 (l ++ [e1])) := hFr'
                          have T63 : Hid (Rl.took 63 (t1 :: ts1') = .ok (false, t1 :: ts1')) := by show Rl.took 63 (t1 :: ts1') = .ok (false, t1 :: ts1'); rw [rtook_cons, if_neg hb1, if_neg h63]
                          clear hFr' hb1 h42 h43 h63
                          go_wp2_with (first | (go_at_call 71; have hc := HT.out m (by omega) d pr (x.withPl pr) t tsr _ HR1.out HS1.out (by omega) (HDr.out.only HO1.out) HCr.out HB.out HBg.out (by omega); rw [T1.out] at hc; refine hc.mono ?_; clear hc; rintro e w3 ⟨v3, rfl, hT3, hI3, ho3⟩; obtain ⟨o, s, a, k, c, rfl⟩ := hT3.form; have HI3 : Hid (Qn w3 rb S (x.withPl p1) (t1 :: ts1')) := hI3; have HT3 : Hid (Tr w3 (fun b => w1.heap.size ≤ b) e1 (.agg #[.int .u8 o, .int .u32 s, .slice a k c])) := hT3; clear hI3 hT3; have HO3 : Hid (Only (· = rb) W w3) := HO1.out.trans ho3; have hl13 := ho3.size; clear ho3; have hl3 := HO3.out.size; have X3 : Hid (Xb (w3.alloc (.cells #[.int .u8 o, .int .u32 s, .slice a k c] 50)) w3.heap.size (.int .u8 o) (.int .u32 s) (.slice a k c)) := Xb.new w3 _ _ _; have HO3' : Hid (Only (· = rb) W (w3.alloc (.cells #[.int .u8 o, .int .u32 s, .slice a k c] 50))) := HO3.out.alloc _) | (go_at_call_of 34 (Value.int .u8 42); have hc := sign_any 42 rb S (x.withPl p1) (t1 :: ts1') _ (HI3.out.alloc (.cells #[.int .u8 o, .int .u32 s, .slice a k c] 50)) hS (HC.out.vc.withPl _) (by decide) (by decide); rw [T42.out] at hc; refine hc.mono ?_; clear hc; rintro e w4 ⟨rfl, hi4, ho4⟩; have HI4 : Hid (Qn w4 rb S (x.withPl p1) (t1 :: ts1')) := hi4; clear hi4; have HO4 : Hid (Only (· = rb) W w4) := HO3'.out.trans ho4; have X4 : Hid (Xb w4 w3.heap.size (.int .u8 o) (.int .u32 s) (.slice a k c)) := X3.out.only ho4 (by omega); have HT4 : Hid (Tr w4 (fun b => w1.heap.size ≤ b) e1 (.agg #[.int .u8 o, .int .u32 s, .slice a k c])) := HT3.out.later (((Only.refl (· = rb) w3).alloc _).trans ho4) (fun b hb => by omega) (fun b hb => hb); have x0 := X4.out.c0; have x1 := X4.out.c1; have x2 := X4.out.c2; have xf0 := X4.out.fz 0; have xf1 := X4.out.fz 1; have xf2 := X4.out.fz 2; have hl4 := HO4.out.size; have hlx4 := X4.out.lt; have HP4 : Hid (Only (· = rb) w3 w4) := ((Only.refl (· = rb) w3).alloc _).trans ho4) | (go_at_call_of 34 (Value.int .u8 43); have hc := sign_any 43 rb S (x.withPl p1) (t1 :: ts1') _ HI4.out hS (HC.out.vc.withPl _) (by decide) (by decide); rw [T43.out] at hc; refine hc.mono ?_; clear hc; rintro e w5 ⟨rfl, hi5, ho5⟩; have HI5 : Hid (Qn w5 rb S (x.withPl p1) (t1 :: ts1')) := hi5; clear hi5; have HO5 : Hid (Only (· = rb) W w5) := HO4.out.trans ho5; have X5 : Hid (Xb w5 w3.heap.size (.int .u8 o) (.int .u32 s) (.slice a k c)) := X4.out.only ho5 (by omega); have HT5 : Hid (Tr w5 (fun b => w1.heap.size ≤ b) e1 (.agg #[.int .u8 o, .int .u32 s, .slice a k c])) := HT4.out.later ho5 (fun b hb => by omega) (fun b hb => hb); have x0 := X5.out.c0; have x1 := X5.out.c1; have x2 := X5.out.c2; have xf0 := X5.out.fz 0; have xf1 := X5.out.fz 1; have xf2 := X5.out.fz 2; have hl5 := HO5.out.size; have hlx5 := X5.out.lt; have HP5 : Hid (Only (· = rb) w3 w5) := HP4.out.trans ho5) | (go_at_call_of 34 (Value.int .u8 63); have hc := sign_any 63 rb S (x.withPl p1) (t1 :: ts1') _ HI5.out hS (HC.out.vc.withPl _) (by decide) (by decide); rw [T63.out] at hc; refine hc.mono ?_; clear hc; rintro e w6 ⟨rfl, hi6, ho6⟩; have HI6 : Hid (Qn w6 rb S (x.withPl p1) (t1 :: ts1')) := hi6; clear hi6; have HO6 : Hid (Only (· = rb) W w6) := HO5.out.trans ho6; have X6 : Hid (Xb w6 w3.heap.size (.int .u8 o) (.int .u32 s) (.slice a k c)) := X5.out.only ho6 (by omega); have HT6 : Hid (Tr w6 (fun b => w1.heap.size ≤ b) e1 (.agg #[.int .u8 o, .int .u32 s, .slice a k c])) := HT5.out.later ho6 (fun b hb => by omega) (fun b hb => hb); have x0 := X6.out.c0; have x1 := X6.out.c1; have x2 := X6.out.c2; have xf0 := X6.out.fz 0; have xf1 := X6.out.fz 1; have xf2 := X6.out.fz 2; have hl6 := HO6.out.size; have hlx6 := X6.out.lt; have HP6 : Hid (Only (· = rb) w3 w6) := HP5.out.trans ho6) | (at_builtin; have HOwn6 : Hid (w6.ownsRow (w.heap.size + 1) 50 3 u3 l.length xs) := own_only HOwn.out HO6.out (fun g hg => by omega); refine wpList_append_own_at _ rfl _ _ 48 rfl (w.heap.size + 1) 50 i0 (.agg #[.int .u8 0, .int .u32 0, .slice none 0 0]) 3 32 Try.underlying48 hi hz0 hz1 hz2 rfl (by decide) _ _ _ rfl (HOwn6.out.alloc _) ⟨w6.heap.size, 0, none⟩ 1 1 [.int .u8 o, .int .u32 s, .slice a k c] rfl rfl (ex_news _ _ _ _) (ex_cells _ _ _ _ _) (by unfold maxLen; omega) (by omega) (by simp; omega) ?_; intro v9 w9 hown9 hg9 _ hat9))
                          go_roundg ((t1 :: ts1').length + 1)
                          case measure => simp only [List.length_cons]; omega
                          case rel =>
                            have hW : w6.ownsRow (w.heap.size + 1) 50 3 u3 l.length xs := own_only HOwn.out HO6.out (fun g hg => by omega)
                            have hkp := app_keep hW hg9
                            refine Or.inl ⟨(t1 :: ts1'), m, p1, l ++ [e1], _, rfl, rfl, HI6.out.at (hkp rb HI6.out.lt (by omega)), app_only (HOr.out.trans HO6.out) hW (by omega) hg9, (hkp w.heap.size (by omega) (by omega)).trans (HZr.out.only HO6.out (by omega)), ?_, hln.2, by first | omega | (simp only [List.length_cons]; omega), by omega, by simp; omega, HE.out⟩
                            refine Es.snoc hW (HKid.out.keep (fun b hb hl => ⟨hb, HO6.out.block b hl (by have := hb.1; omega)⟩)) HT6.out (fun b hb => ⟨by omega, fun e => ?_⟩) hown9 hg9 hat9
                            have := (HOwn.out.lt b e).2
                            omega
            · have hbg' : Rl.beg t = false := by simpa using hbg
              have hnb : (!Rl.beg t) = true := by rw [hbg']; rfl
              rw [if_neg hbg] at hFr'
              have HE : Hid (F = .ok (Rl.mkSeq l, t :: tsr, pr)) := hFr'
              rw [hnb]
              clear hFr' hbg hnb hbg'
              have Z1 : Hid (Xb w1 w.heap.size (.int .u8 0) (.int .u32 0) (.slice none 0 0)) := HZr.out.only HO1.out (by omega)
              have HI1 : Hid (Qn w1 rb S (x.withPl pr) (t :: tsr)) := ⟨_, HR1.out, HS1.out, by omega⟩
              have z0 := Z1.out.c0
              have z1 := Z1.out.c1
              have z2 := Z1.out.c2
              have zf0 := Z1.out.fz 0
              have zf1 := Z1.out.fz 1
              have zf2 := Z1.out.fz 2
              obtain ⟨xs, hown, hkids⟩ := HEr
              match l, HE, hown, hkids with
              | [], HE, hown, hkids =>
                obtain ⟨a, cap, rfl⟩ := own_form hown
                clear hown hkids
                go_wp2_with fail
                refine bodyPost_ret (v := .agg #[.int .u8 0, .int .u32 0, .slice none 0 0]) (results_x rfl _ rfl (Z1.out.set3 _ _ _)) rfl ?_
                rw [HE.out]
                exact ⟨_, rfl, Tr.leaf _ _ _ _, HI1.out.set3 (z := w.heap.size) (by omega) _ _ _, (HOr.out.trans HO1.out).set3 (z := w.heap.size) (Nat.le_refl _) _ _ _⟩
              | [e1], HE, hown, hkids =>
                obtain ⟨o, s, k, rfl, hT1⟩ := hkids.one hown.1
                obtain ⟨g, cap, rfl, hgb, hgl, hcap, hcells⟩ := row_form hown (by simp)
                have HT1 : Hid (Tr W (Kb (w.heap.size + 1) (.slice (some ⟨g, 0, none⟩) 1 cap)) e1 (.agg #[o, s, k])) := hT1
                have j0 := (World.cell?_of_block (a := ⟨g, 0, none⟩) (HO1.out.block g hgl (by omega))).trans (hcells 0 (by simp))
                have j1 := (World.cell?_of_block (a := ⟨g, 1, none⟩) (HO1.out.block g hgl (by omega))).trans (hcells 1 (by simp))
                have j2 := (World.cell?_of_block (a := ⟨g, 2, none⟩) (HO1.out.block g hgl (by omega))).trans (hcells 2 (by simp))
                simp at j0 j1 j2
                obtain ⟨op, st, a, n', c', hform⟩ := hT1.form
                simp only [Value.agg.injEq, Array.mk.injEq, List.cons.injEq, and_true] at hform
                obtain ⟨rfl, rfl, rfl⟩ := hform
                clear hown hkids hcells hT1
                go_wp2_with fail
                refine bodyPost_ret (v := .agg #[.int .u8 op, .int .u32 st, .slice a n' c']) (results_x rfl _ rfl (Z1.out.set3 _ _ _)) rfl ?_
                rw [HE.out]
                refine ⟨_, rfl, ?_, HI1.out.set3 (z := w.heap.size) (by omega) _ _ _, (HOr.out.trans HO1.out).set3 (z := w.heap.size) (Nat.le_refl _) _ _ _⟩
                refine HT1.out.keep fun b hb hl => ⟨by have := hb.1; omega, ?_⟩
                exact (set3_other w1 (z := w.heap.size) _ _ _ (by have := hb.1; omega)).trans (HO1.out.block b hl (by have := hb.1; omega))
              | e1 :: e2 :: l2, HE, hown, hkids =>
                obtain ⟨a, cap, rfl⟩ := own_form hown
                have q0 : (((e1 :: e2 :: l2).length : Int) == 0) = false := by simp; omega
                have q1 : (((e1 :: e2 :: l2).length : Int) == 1) = false := by simp; omega
                have Hown : Hid (W.ownsRow (w.heap.size + 1) 50 3 (.slice a (e1 :: e2 :: l2).length cap) (e1 :: e2 :: l2).length xs) := hown
                have Hkids : Hid (Trs W (Kb (w.heap.size + 1) (.slice a (e1 :: e2 :: l2).length cap)) (e1 :: e2 :: l2) (fun j => xs[j]?)) := hkids
                clear hown hkids
                generalize hL : e1 :: e2 :: l2 = L at *
                have HL : Hid (e1 :: e2 :: l2 = L) := hL
                clear hL
                go_wp2_with fail
                refine bodyPost_ret (v := .agg #[.int .u8 2, .int .u32 0, .slice a L.length cap]) (results_x rfl _ rfl (Z1.out.set3 _ _ _)) rfl ?_
                have hmk : Rl.mkSeq L = .mk 2 0 L := by rw [← HL.out]; rfl
                rw [HE.out, hmk]
                refine ⟨_, rfl, ?_, HI1.out.set3 (z := w.heap.size) (by omega) _ _ _, (HOr.out.trans HO1.out).set3 (z := w.heap.size) (Nat.le_refl _) _ _ _⟩
                have hT := Tr.row (F' := fun b => w.heap.size + 1 ≤ b) 2 Hown.out Hkids.out (fun g hg => (Hown.out.lt g hg).1) (fun b hb => hb.1) (by rw [← HL.out]; simp)
                refine hT.keep fun b hb hl => ⟨by omega, ?_⟩
                exact (set3_other w1 (z := w.heap.size) _ _ _ (by omega)).trans (HO1.out.block b hl (by omega))
    · subst hW
      have HBr : Hid (Qb W rb S f) := hBr
      have HOr : Hid (Only (· = rb) w W) := hOr
      have HZr : Hid (Xb W w.heap.size (.int .u8 0) (.int .u32 0) (.slice none 0 0)) := hZr
      have HOwn : Hid (W.ownsRow (w.heap.size + 1) 50 3 u3 k xs) := hown
      have HFm : Hid (Frm k xs) := hfm
      have HE : Hid (F = .error f) := hFr.out
      obtain ⟨i1, x1, hR1, hc1, _⟩ := hBr
      have HR1 : Hid (Rpr W rb S i1 x1 f.1 f.2) := hR1
      have q : ((f.1 : Int) != 0) = true := by simpa using hc1
      have hlz := hZr.lt
      have hlr := hR1.lt
      clear hOr hZr hown hfm hFr hR1 hc1
      rcases Nat.lt_or_ge 1 k with hk | hk
      · obtain ⟨a', cap, rfl⟩ := own_form HOwn.out
        have q0 : ((k : Int) == 0) = false := by simp; omega
        have q1 : ((k : Int) == 1) = false := by simp; omega
        go_wp2_with (go_at_call 23; refine (here_bad rb S f _ HBr.out).mono ?_; rintro e w1 ⟨rfl, ho1⟩; have d11 := (HR1.out.only ho1 (fun h => h)).c11; have HBx1 : Hid (Qb w1 rb S f) := HBr.out.only ho1 (fun h => h); have HOy1 : Hid (Only (· = rb) W w1) := ho1.mono (fun _ h => h.elim); clear ho1; have HOx1 : Hid (Only (· = rb) w w1) := HOr.out.trans HOy1.out; have Z1 : Hid (Xb w1 w.heap.size (.int .u8 0) (.int .u32 0) (.slice none 0 0)) := HZr.out.only HOy1.out (by omega); have z0 := Z1.out.c0; have z1 := Z1.out.c1; have z2 := Z1.out.c2; have zf0 := Z1.out.fz 0; have zf1 := Z1.out.fz 1; have zf2 := Z1.out.fz 2)
        refine bodyPost_ret (v := .agg #[.int .u8 2, .int .u32 0, .slice a' k cap]) (results_x rfl _ rfl (Z1.out.set3 _ _ _)) rfl ?_
        rw [HE.out]
        exact ⟨⟨_, _, _, _, _, rfl⟩, HBx1.out.set3 (z := w.heap.size) (by omega) _ _ _, HOx1.out.set3 (z := w.heap.size) (Nat.le_refl _) _ _ _⟩
      · rcases Nat.lt_or_ge 0 k with hk0 | hk0
        · obtain rfl : k = 1 := by omega
          obtain ⟨o, s, a, q, c, rfl⟩ := HFm.out rfl
          obtain ⟨g, cap, rfl, hgb, hgl, hcap, hcells⟩ := row_form HOwn.out (by omega)
          have K0 : Hid (W.cell? ⟨g, 0, none⟩ = some (.int .u8 o)) := hcells 0 (by simp)
          have K1 : Hid (W.cell? ⟨g, 1, none⟩ = some (.int .u32 s)) := hcells 1 (by simp)
          have K2 : Hid (W.cell? ⟨g, 2, none⟩ = some (.slice a q c)) := hcells 2 (by simp)
          clear hcells
          go_wp2_with (go_at_call 23; refine (here_bad rb S f _ HBr.out).mono ?_; rintro e w1 ⟨rfl, ho1⟩; have d11 := (HR1.out.only ho1 (fun h => h)).c11; have HBx1 : Hid (Qb w1 rb S f) := HBr.out.only ho1 (fun h => h); have HOy1 : Hid (Only (· = rb) W w1) := ho1.mono (fun _ h => h.elim); clear ho1; have HOx1 : Hid (Only (· = rb) w w1) := HOr.out.trans HOy1.out; have Z1 : Hid (Xb w1 w.heap.size (.int .u8 0) (.int .u32 0) (.slice none 0 0)) := HZr.out.only HOy1.out (by omega); have z0 := Z1.out.c0; have z1 := Z1.out.c1; have z2 := Z1.out.c2; have zf0 := Z1.out.fz 0; have zf1 := Z1.out.fz 1; have zf2 := Z1.out.fz 2; have j0 := (World.cell?_of_block (a := ⟨g, 0, none⟩) (HOy1.out.block g hgl (by omega))).trans K0.out; have j1 := (World.cell?_of_block (a := ⟨g, 1, none⟩) (HOy1.out.block g hgl (by omega))).trans K1.out; have j2 := (World.cell?_of_block (a := ⟨g, 2, none⟩) (HOy1.out.block g hgl (by omega))).trans K2.out)
          refine bodyPost_ret (v := .agg #[.int .u8 o, .int .u32 s, .slice a q c]) (results_x rfl _ rfl (Z1.out.set3 _ _ _)) rfl ?_
          rw [HE.out]
          exact ⟨⟨_, _, _, _, _, rfl⟩, HBx1.out.set3 (z := w.heap.size) (by omega) _ _ _, HOx1.out.set3 (z := w.heap.size) (Nat.le_refl _) _ _ _⟩
        · obtain rfl : k = 0 := by omega
          obtain ⟨a', cap, rfl⟩ := own_form HOwn.out
          go_wp2_with (go_at_call 23; refine (here_bad rb S f _ HBr.out).mono ?_; rintro e w1 ⟨rfl, ho1⟩; have d11 := (HR1.out.only ho1 (fun h => h)).c11; have HBx1 : Hid (Qb w1 rb S f) := HBr.out.only ho1 (fun h => h); have HOy1 : Hid (Only (· = rb) W w1) := ho1.mono (fun _ h => h.elim); clear ho1; have HOx1 : Hid (Only (· = rb) w w1) := HOr.out.trans HOy1.out; have Z1 : Hid (Xb w1 w.heap.size (.int .u8 0) (.int .u32 0) (.slice none 0 0)) := HZr.out.only HOy1.out (by omega); have z0 := Z1.out.c0; have z1 := Z1.out.c1; have z2 := Z1.out.c2; have zf0 := Z1.out.fz 0; have zf1 := Z1.out.fz 1; have zf2 := Z1.out.fz 2)
          refine bodyPost_ret (v := .agg #[.int .u8 0, .int .u32 0, .slice none 0 0]) (results_x rfl _ rfl (Z1.out.set3 _ _ _)) rfl ?_
          rw [HE.out]
          exact ⟨⟨_, _, _, _, _, rfl⟩, HBx1.out.set3 (z := w.heap.size) (by omega) _ _ _, HOx1.out.set3 (z := w.heap.size) (Nat.le_refl _) _ _ _⟩
end Go.Proofs.Ytahoepmnekconaa
