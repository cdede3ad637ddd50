/-
  rule of the document's own parser.
-/
import Derived.Test.YtahoepmnekconaaR12
namespace Go.Proofs.Ytahoepmnekconaa
open Go.RowKit Go.Maps
set_option linter.unusedVariables false
set_option linter.unusedSimpArgs false
/-- a rule, and the sign behind it. -/
def ruleF (does : Int) (ti : Nat) (ts : List Rl.Tk) (s : Rl.St) : Rl.R (List Rl.Tk × Rl.St) :=
  match Rl.rule' does ti ts s with
  | .error f => .error f
  | .ok (ts1, s1) => match Rl.want 59 ts1 with
    | .error f => .error f
    | .ok ts2 => .ok (ts2, s1)
/-- how a line's reading ends. -/
def rlineP (rb : Nat) (S : ByteArray) (w : World) (F : Rl.R (List Rl.Tk × Rl.St)) (e : Ending) (w' : World) : Prop :=
  match F with
  | .error f => e = .returned (.tuple #[]) ∧ Qb w' rb S f ∧ Up rb w w'
  | .ok (ts, s) => e = .returned (.tuple #[]) ∧ ∃ x, Qn w' rb S x ts ∧ Sr w' rb x s ∧ Up rb w w'
/-- one rule more. -/
theorem Sr.rule {wa wb w' : World} {rb : Nat} {x : Rq} {s : Rl.St} {does o st o' st' : Int} {k k' v' : Value} {l r : Rl.Ex} {xs : List Value} (h : Sr wa rb x s) (hwb : Only (fun _ => False) wa wb) (hl : Tr wa (fun b => rb + 1 ≤ b) l (.agg #[.int .u8 o, .int .u32 st, k])) (hr : Tr wa (fun b => rb + 1 ≤ b) r (.agg #[.int .u8 o', .int .u32 st', k']))
    (hx : wa.ownsRow (rb + 1) 52 7 x.vL s.list.length xs) (hxr : Rcs wa (fun b => rb + 1 ≤ b) s.list (fun j => xs[j]?)) (hown : w'.ownsRow (rb + 1) 52 7 v' (s.list.length + 1) (xs ++ [.int .u8 does, .int .u8 o, .int .u32 st, k, .int .u8 o', .int .u32 st', k'])) (hg : wb.grownBy w' x.vL.ownBlock) (hn : s.list.length < 24) :
    Sr (w'.setCell ⟨rb, 6, none⟩ v') rb { x with vL := v' } { s with list := s.list ++ [⟨does, l, r⟩] } ∧ Up rb wa (w'.setCell ⟨rb, 6, none⟩ v') ∧ (rb < wa.heap.size → w'.heap[rb]? = wa.heap[rb]?) := by
  have hO : Only (fun g => x.vL.ownBlock = some g) wa w' := grown_only hwb hg
  have hOl := own_low hx
  have hset := setRb (w := w') (rb := rb) 6 v'
  have hk : ∀ b, rb + 1 ≤ b → b < wa.heap.size → (∃ cs z, wa.heap[b]? = some (.cells cs 50 z)) → rb + 1 ≤ b ∧ w'.heap[b]? = wa.heap[b]? := fun b hb hbl hc => ⟨hb, hO.block b hbl (fun e => by obtain ⟨cs, z, hc⟩ := hc; exact own_notag hx 50 (by decide) b e _ _ hc)⟩
  have hp : Sp w' rb { x with vL := v' } { s with list := s.list ++ [⟨does, l, r⟩] } (s.env.map Prod.fst) (s.env.map Prod.snd) s.cls s.treat :=
    ⟨own_keepB h.p.nm hO (own_two h.p.nm hx (by decide)), own_keepB h.p.bt hO (own_two h.p.bt hx (by decide)), own_keepB h.p.cls hO (own_two h.p.cls hx (by decide)), own_keepB h.p.trt hO (own_two h.p.trt hx (by decide)),
      ⟨xs ++ [.int .u8 does, .int .u8 o, .int .u32 st, k, .int .u8 o', .int .u32 st', k'], by rw [List.length_append]; exact hown, Rcs.snoc (r := ⟨does, l, r⟩) (hl.keepT hk) (hr.keepT hk) s.list xs (by rw [hx.1]; omega) (hxr.keepT hk)⟩, h.p.jn, h.p.af, h.p.pl, h.p.dp, by simp; omega, h.p.p200, h.p.ap⟩
  exact ⟨⟨hp.only hset, h.c24, h.tl, h.e5⟩, (hO.upOwn hx).trans hset.up, fun hrb => hO.block rb hrb (fun e => by have := hOl _ e; omega)⟩
theorem Qn.drew {w : World} {rb : Nat} {S : ByteArray} {x : Rq} {ts : List Rl.Tk} (h : Qn w rb S x ts) : Qn w.drew rb S x ts := h
set_option maxRecDepth 100000 in
set_option maxHeartbeats 8000000 in
theorem rrule_any (does : Int) (rb : Nat) (S : ByteArray) (x : Rq) (s : Rl.St) (ts : List Rl.Tk) (w : World) (h : Qn w rb S x ts) (hS : S.size ≤ 4096) (hT : Sr w rb x s) (ti : Nat) :
    Calls Try.prog 40 #[.pointer (some ⟨rb, 0, none⟩), .int .u8 does, .int .i64 (ti : Int)] w (rlineP rb S w (ruleF does ti ts s)) := by
  obtain ⟨i0, hi, hz0, hz1, hz2⟩ := info_parts info52
  have hlt := h.lt
  have HI : Hid (Qn w rb S x ts) := h
  have HS : Hid (Sr w rb x s) := hT
  obtain ⟨F, hF⟩ : ∃ F, F = ruleF does ti ts s := ⟨_, rfl⟩
  have HF : Hid (F = ruleF does ti ts s) := hF
  rw [← hF]
  obtain ⟨xs, hown, hrcs⟩ := hT.p.lst
  obtain ⟨aL, capL, hvL⟩ := own_form hown
  have HvL : Hid (x.vL = .slice aL s.list.length capL) := hvL
  have hl24 := hT.p.l24
  obtain ⟨i, hR, _, _⟩ := h
  have c6 : w.cell? ⟨rb, 6, none⟩ = some (.slice aL s.list.length capL) := by rw [← hvL]; exact hR.c6
  have HR : Hid (Rpr w rb S i x 0 0) := hR
  clear hF hT hown hrcs hvL hR
  by_cases h24 : s.list.length = 24
  · have HE0 : F = .error (24, ti) := (by rw [HF.out]; unfold ruleF Rl.rule'; rw [if_pos h24] : F = .error (24, ti))
    obtain ⟨f, hfd⟩ : ∃ f : Rl.Ft, f = (24, ti) := ⟨_, rfl⟩
    have HE : Hid (F = .error f) := by rw [hfd]; exact HE0
    have Hfd : Hid (f = (24, ti)) := hfd
    have q : ((s.list.length : Int) == 24) = true := by simp; omega
    clear h24 HE0 hfd
    go_enter Try.func40, Try.ntmps40
    go_wp2_with (first | (go_at_call 32; refine (bad_first rb S i x 24 ti _ HR.out).mono ?_; rintro e w1 ⟨rfl, hR1, ho1⟩; have HB1 : Hid (Qb w1 rb S f) := (by rw [Hfd.out]; exact (show Rpr w1 rb S (i : Int) x ((24 : Nat) : Int) (ti : Int) from hR1).qb (by decide) HS.out.vc); clear hR1; have HO1 : Hid (Only (· = rb) w w1) := ho1; clear ho1) | (go_at_call_of 37 (Value.int .u8 47); refine (rwant_bad _ rb S f _ (HB2.out.alloc (.cells #[.int .u8 0, .int .u32 0, .slice none 0 0] 50))).mono ?_; rintro e w3 ⟨rfl, hb3, ho3⟩; have HB3 : Hid (Qb w3 rb S f) := hb3; clear hb3; have HO3 : Hid (Only (· = rb) w w3) := (HO2.out.alloc _).trans (ho3.mono (fun _ h => h.elim)); clear ho3) | (go_at_call_of 37 (Value.int .u8 59); refine (rwant_bad _ rb S f _ (HB4.out.alloc (.cells #[.int .u8 0, .int .u32 0, .slice none 0 0] 50))).mono ?_; rintro e w5 ⟨rfl, hb5, ho5⟩; have HB5 : Hid (Qb w5 rb S f) := hb5; clear hb5; have HO5 : Hid (Only (· = rb) w w5) := (HO4.out.alloc _).trans (ho5.mono (fun _ h => h.elim)); clear ho5; have hq5 := HB5.out; obtain ⟨i5, x5, hR5, hc5, _⟩ := hq5; have d11 := hR5.c11; have qf : ((f.1 : Int) == 0) = false := (by simpa using hc5); clear hR5 hc5) | (go_at_call 55; refine (reither_bad rb S f _ HB3.out).mono ?_; rintro e w4 ⟨rfl, hb4, ho4⟩; have HB4 : Hid (Qb w4 rb S f) := hb4; clear hb4; have HO4 : Hid (Only (· = rb) w w4) := HO3.out.trans (ho4.mono (fun _ h => h.elim)); clear ho4) | (go_at_call 55; refine (reither_bad rb S f _ HB1.out).mono ?_; rintro e w2 ⟨rfl, hb2, ho2⟩; have HB2 : Hid (Qb w2 rb S f) := hb2; clear hb2; have HO2 : Hid (Only (· = rb) w w2) := HO1.out.trans (ho2.mono (fun _ h => h.elim)); clear ho2))
    go_end0
    rw [HE.out]
    exact ⟨rfl, HB5.out, HO5.out.up⟩
  · have q : ((s.list.length : Int) == 24) = false := by simp; omega
    have hEi : ∀ (y : Rq) (p : Nat) (us : List Rl.Tk) (W : World), Qn W rb S y us → Dec W rb y s.env → Cr s.cls.length y p 0 → Calls Try.prog 55 #[.pointer (some ⟨rb, 0, none⟩)] W (rexprP rb S y W (Rl.either s.env s.cls.length (Rl.fuel us) 0 us p)) := fun y p us W h1 h2 h3 => reither_any s.env s.cls.length rb S hS (Rl.fuel us) 0 p y us W h1 h2 h3 (by unfold Rl.fuel; omega)
    have HEi : Hid (∀ (y : Rq) (p : Nat) (us : List Rl.Tk) (W : World), Qn W rb S y us → Dec W rb y s.env → Cr s.cls.length y p 0 → Calls Try.prog 55 #[.pointer (some ⟨rb, 0, none⟩)] W (rexprP rb S y W (Rl.either s.env s.cls.length (Rl.fuel us) 0 us p))) := hEi
    have hn24 : s.list.length < 24 := by omega
    clear hEi
    cases he1 : Rl.either s.env s.cls.length (Rl.fuel ts) 0 ts s.places with
    | error f =>
      have T1 : Hid (Rl.either s.env s.cls.length (Rl.fuel ts) 0 ts s.places = .error f) := he1
      have HE : Hid (F = .error f) := (by rw [HF.out]; unfold ruleF Rl.rule'; rw [if_neg h24]; simp only [he1] : F = .error f)
      clear he1 h24
      go_enter Try.func40, Try.ntmps40
      go_wp2_with (first | (go_at_call_of 37 (Value.int .u8 47); refine (rwant_bad _ rb S f _ (HB1.out.alloc (.cells #[.int .u8 o, .int .u32 st, .slice a k c] 50))).mono ?_; rintro e w2 ⟨rfl, hb2, ho2⟩; have HB2 : Hid (Qb w2 rb S f) := hb2; clear hb2; have HO2 : Hid (Only (· = rb) w w2) := (HO1.out.alloc _).trans (ho2.mono (fun _ h => h.elim)); clear ho2) | (go_at_call_of 37 (Value.int .u8 59); refine (rwant_bad _ rb S f _ (HB3.out.alloc (.cells #[.int .u8 0, .int .u32 0, .slice none 0 0] 50))).mono ?_; rintro e w4 ⟨rfl, hb4, ho4⟩; have HB4 : Hid (Qb w4 rb S f) := hb4; clear hb4; have HO4 : Hid (Only (· = rb) w w4) := (HO3.out.alloc _).trans (ho4.mono (fun _ h => h.elim)); clear ho4; have hq4 := HB4.out; obtain ⟨i4, x4, hR4, hc4, _⟩ := hq4; have d11 := hR4.c11; have qf : ((f.1 : Int) == 0) = false := (by simpa using hc4); clear hR4 hc4) | (go_at_call 55; refine (reither_bad rb S f _ HB2.out).mono ?_; rintro e w3 ⟨rfl, hb3, ho3⟩; have HB3 : Hid (Qb w3 rb S f) := hb3; clear hb3; have HO3 : Hid (Only (· = rb) w w3) := HO2.out.trans (ho3.mono (fun _ h => h.elim)); clear ho3) | (go_at_call 55; have hc := HEi.out x s.places ts w HI.out HS.out.dec HS.out.cr; rw [T1.out] at hc; refine hc.mono ?_; clear hc; rintro e w1 ⟨⟨o, st, a, k, c, rfl⟩, hb1, ho1⟩; have HB1 : Hid (Qb w1 rb S f) := hb1; clear hb1; have HO1 : Hid (Only (· = rb) w w1) := ho1; clear ho1; have hl1 := HO1.out.size))
      go_end0
      rw [HE.out]
      exact ⟨rfl, HB4.out, HO4.out.up⟩
    | ok r =>
      obtain ⟨ea, ts1, p1⟩ := r
      have T1 : Hid (Rl.either s.env s.cls.length (Rl.fuel ts) 0 ts s.places = .ok (ea, ts1, p1)) := he1
      have hp1 := ((Rl.expr_len s.env s.cls.length _).1 _ _ _ _ _ _ he1 HS.out.p.p200).2
      clear he1
      cases hw : Rl.want 47 ts1 with
      | error f =>
        have T2 : Hid (Rl.want 47 ts1 = .error f) := hw
        have HE : Hid (F = .error f) := (by rw [HF.out]; unfold ruleF Rl.rule'; rw [if_neg h24]; simp only [T1.out, hw] : F = .error f)
        clear hw h24
        go_enter Try.func40, Try.ntmps40
        go_wp2_with (first | (go_at_call_of 37 (Value.int .u8 47); have hc := rwant_any 47 rb S (x.withPl p1) ts1 _ (HI1.out.alloc (.cells #[.int .u8 o, .int .u32 st, .slice a k c] 50)) hS (HS.out.vc.withPl _) (by decide) (by decide); rw [T2.out] at hc; refine hc.mono ?_; clear hc; rintro e w2 ⟨rfl, hb2, ho2⟩; have HB2 : Hid (Qb w2 rb S f) := hb2; clear hb2; have HO2 : Hid (Only (· = rb) w w2) := (HO1.out.alloc _).trans ho2; clear ho2) | (go_at_call_of 37 (Value.int .u8 59); refine (rwant_bad _ rb S f _ (HB3.out.alloc (.cells #[.int .u8 0, .int .u32 0, .slice none 0 0] 50))).mono ?_; rintro e w4 ⟨rfl, hb4, ho4⟩; have HB4 : Hid (Qb w4 rb S f) := hb4; clear hb4; have HO4 : Hid (Only (· = rb) w w4) := (HO3.out.alloc _).trans (ho4.mono (fun _ h => h.elim)); clear ho4; have hq4 := HB4.out; obtain ⟨i4, x4, hR4, hc4, _⟩ := hq4; have d11 := hR4.c11; have qf : ((f.1 : Int) == 0) = false := (by simpa using hc4); clear hR4 hc4) | (go_at_call 55; refine (reither_bad rb S f _ HB2.out).mono ?_; rintro e w3 ⟨rfl, hb3, ho3⟩; have HB3 : Hid (Qb w3 rb S f) := hb3; clear hb3; have HO3 : Hid (Only (· = rb) w w3) := HO2.out.trans (ho3.mono (fun _ h => h.elim)); clear ho3) | (go_at_call 55; have hc := HEi.out x s.places ts w HI.out HS.out.dec HS.out.cr; rw [T1.out] at hc; refine hc.mono ?_; clear hc; rintro e w1 ⟨v1, rfl, hT1, hI1, ho1⟩; obtain ⟨o, st, a, k, c, rfl⟩ := hT1.form; have HI1 : Hid (Qn w1 rb S (x.withPl p1) ts1) := hI1; have TL1 : Hid (Tr w1 (fun b => rb + 1 ≤ b) ea (.agg #[.int .u8 o, .int .u32 st, .slice a k c])) := hT1.keep (fun b hb _ => ⟨by omega, rfl⟩); clear hI1 hT1; have HO1 : Hid (Only (· = rb) w w1) := ho1; clear ho1; have hl1 := HO1.out.size))
        go_end0
        rw [HE.out]
        exact ⟨rfl, HB4.out, HO4.out.up⟩
      | ok ts2 =>
        have T2 : Hid (Rl.want 47 ts1 = .ok ts2) := hw
        clear hw
        cases he2 : Rl.either s.env s.cls.length (Rl.fuel ts2) 0 ts2 p1 with
        | error f =>
          have T3 : Hid (Rl.either s.env s.cls.length (Rl.fuel ts2) 0 ts2 p1 = .error f) := he2
          have HE : Hid (F = .error f) := (by rw [HF.out]; unfold ruleF Rl.rule'; rw [if_neg h24]; simp only [T1.out, T2.out, he2] : F = .error f)
          clear he2 h24
          go_enter Try.func40, Try.ntmps40
          go_wp2_with (first | (go_at_call_of 37 (Value.int .u8 47); have hc := rwant_any 47 rb S (x.withPl p1) ts1 _ (HI1.out.alloc (.cells #[.int .u8 o, .int .u32 st, .slice a k c] 50)) hS (HS.out.vc.withPl _) (by decide) (by decide); rw [T2.out] at hc; refine hc.mono ?_; clear hc; rintro e w2 ⟨rfl, hI2, ho2⟩; have HI2 : Hid (Qn w2 rb S (x.withPl p1) ts2) := hI2; clear hI2; have HO2 : Hid (Only (· = rb) w w2) := (HO1.out.alloc _).trans ho2; have X2 : Hid (Xb w2 w1.heap.size (.int .u8 o) (.int .u32 st) (.slice a k c)) := (Xb.new w1 _ _ _).only ho2 (by omega); have TL2 : Hid (Tr w2 (fun b => rb + 1 ≤ b) ea (.agg #[.int .u8 o, .int .u32 st, .slice a k c])) := TL1.out.later (((Only.refl (· = rb) w1).alloc _).trans ho2) (fun b hb => by omega) (fun b hb => hb); have hl2 := HO2.out.size; clear ho2) | (go_at_call_of 37 (Value.int .u8 59); refine (rwant_bad _ rb S f _ (HB3.out.alloc (.cells #[.int .u8 o', .int .u32 st', .slice a' k' c'] 50))).mono ?_; rintro e w4 ⟨rfl, hb4, ho4⟩; have HB4 : Hid (Qb w4 rb S f) := hb4; clear hb4; have HO4 : Hid (Only (· = rb) w w4) := (HO3.out.alloc _).trans (ho4.mono (fun _ h => h.elim)); clear ho4; have hq4 := HB4.out; obtain ⟨i4, x4, hR4, hc4, _⟩ := hq4; have d11 := hR4.c11; have qf : ((f.1 : Int) == 0) = false := (by simpa using hc4); clear hR4 hc4) | (go_at_call 55; have hc := HEi.out (x.withPl p1) p1 ts2 _ HI2.out ((HS.out.only HO2.out).dec.withPl _) ((HS.out.only HO2.out).cr.withPl hp1); rw [T3.out] at hc; refine hc.mono ?_; clear hc; rintro e w3 ⟨⟨o', st', a', k', c', rfl⟩, hb3, ho3⟩; have HB3 : Hid (Qb w3 rb S f) := hb3; clear hb3; have HO3 : Hid (Only (· = rb) w w3) := HO2.out.trans ho3; clear ho3) | (go_at_call 55; have hc := HEi.out x s.places ts w HI.out HS.out.dec HS.out.cr; rw [T1.out] at hc; refine hc.mono ?_; clear hc; rintro e w1 ⟨v1, rfl, hT1, hI1, ho1⟩; obtain ⟨o, st, a, k, c, rfl⟩ := hT1.form; have HI1 : Hid (Qn w1 rb S (x.withPl p1) ts1) := hI1; have TL1 : Hid (Tr w1 (fun b => rb + 1 ≤ b) ea (.agg #[.int .u8 o, .int .u32 st, .slice a k c])) := hT1.keep (fun b hb _ => ⟨by omega, rfl⟩); clear hI1 hT1; have HO1 : Hid (Only (· = rb) w w1) := ho1; clear ho1; have hl1 := HO1.out.size))
          go_end0
          rw [HE.out]
          exact ⟨rfl, HB4.out, HO4.out.up⟩
        | ok r =>
          obtain ⟨eb, ts3, p3⟩ := r
          have T3 : Hid (Rl.either s.env s.cls.length (Rl.fuel ts2) 0 ts2 p1 = .ok (eb, ts3, p3)) := he2
          have hp3 := ((Rl.expr_len s.env s.cls.length _).1 _ _ _ _ _ _ he2 hp1).2
          cases hw2 : Rl.want 59 ts3 with
          | error f =>
            have T4 : Hid (Rl.want 59 ts3 = .error f) := hw2
            have HE : Hid (F = .error f) := (by rw [HF.out]; unfold ruleF Rl.rule'; rw [if_neg h24]; simp only [T1.out, T2.out, he2, hw2] : F = .error f)
            clear he2 h24 hw2
            go_enter Try.func40, Try.ntmps40
            go_wp2_with (first | (go_at_call_of 37 (Value.int .u8 47); have hc := rwant_any 47 rb S (x.withPl p1) ts1 _ (HI1.out.alloc (.cells #[.int .u8 o, .int .u32 st, .slice a k c] 50)) hS (HS.out.vc.withPl _) (by decide) (by decide); rw [T2.out] at hc; refine hc.mono ?_; clear hc; rintro e w2 ⟨rfl, hI2, ho2⟩; have HI2 : Hid (Qn w2 rb S (x.withPl p1) ts2) := hI2; clear hI2; have HO2 : Hid (Only (· = rb) w w2) := (HO1.out.alloc _).trans ho2; have X2 : Hid (Xb w2 w1.heap.size (.int .u8 o) (.int .u32 st) (.slice a k c)) := (Xb.new w1 _ _ _).only ho2 (by omega); have TL2 : Hid (Tr w2 (fun b => rb + 1 ≤ b) ea (.agg #[.int .u8 o, .int .u32 st, .slice a k c])) := TL1.out.later (((Only.refl (· = rb) w1).alloc _).trans ho2) (fun b hb => by omega) (fun b hb => hb); have hl2 := HO2.out.size; clear ho2) | (go_at_call_of 37 (Value.int .u8 59); have hc := rwant_any 59 rb S ((x.withPl p1).withPl p3) ts3 _ (HI3.out.alloc (.cells #[.int .u8 o', .int .u32 st', .slice a' k' c'] 50)) hS ((HS.out.vc.withPl _).withPl _) (by decide) (by decide); rw [T4.out] at hc; refine hc.mono ?_; clear hc; rintro e w4 ⟨rfl, hb4, ho4⟩; have HB4 : Hid (Qb w4 rb S f) := hb4; clear hb4; have HO4 : Hid (Only (· = rb) w w4) := (HO3.out.alloc _).trans ho4; clear ho4; have hq4 := HB4.out; obtain ⟨i4, x4, hR4, hc4, _⟩ := hq4; have d11 := hR4.c11; have qf : ((f.1 : Int) == 0) = false := (by simpa using hc4); clear hR4 hc4) | (go_at_call 55; have hc := HEi.out (x.withPl p1) p1 ts2 _ HI2.out ((HS.out.only HO2.out).dec.withPl _) ((HS.out.only HO2.out).cr.withPl hp1); rw [T3.out] at hc; refine hc.mono ?_; clear hc; rintro e w3 ⟨v3, rfl, hT3, hI3, ho3⟩; obtain ⟨o', st', a', k', c', rfl⟩ := hT3.form; have HI3 : Hid (Qn w3 rb S ((x.withPl p1).withPl p3) ts3) := hI3; have TR3 : Hid (Tr w3 (fun b => rb + 1 ≤ b) eb (.agg #[.int .u8 o', .int .u32 st', .slice a' k' c'])) := hT3.keep (fun b hb _ => ⟨by omega, rfl⟩); clear hI3 hT3; have X3 : Hid (Xb w3 w1.heap.size (.int .u8 o) (.int .u32 st) (.slice a k c)) := X2.out.only ho3 (by omega); have TL3 : Hid (Tr w3 (fun b => rb + 1 ≤ b) ea (.agg #[.int .u8 o, .int .u32 st, .slice a k c])) := TL2.out.later ho3 (fun b hb => by omega) (fun b hb => hb); have hl3 := X3.out.lt; have HO3 : Hid (Only (· = rb) w w3) := HO2.out.trans ho3; clear ho3) | (go_at_call 55; have hc := HEi.out x s.places ts w HI.out HS.out.dec HS.out.cr; rw [T1.out] at hc; refine hc.mono ?_; clear hc; rintro e w1 ⟨v1, rfl, hT1, hI1, ho1⟩; obtain ⟨o, st, a, k, c, rfl⟩ := hT1.form; have HI1 : Hid (Qn w1 rb S (x.withPl p1) ts1) := hI1; have TL1 : Hid (Tr w1 (fun b => rb + 1 ≤ b) ea (.agg #[.int .u8 o, .int .u32 st, .slice a k c])) := hT1.keep (fun b hb _ => ⟨by omega, rfl⟩); clear hI1 hT1; have HO1 : Hid (Only (· = rb) w w1) := ho1; clear ho1; have hl1 := HO1.out.size))
            go_end0
            rw [HE.out]
            exact ⟨rfl, HB4.out, HO4.out.up⟩
          | ok ts4 =>
            have T4 : Hid (Rl.want 59 ts3 = .ok ts4) := hw2
            have HE : Hid (F = .ok (ts4, { s with places := p3, list := s.list ++ [⟨does, ea, eb⟩] })) := (by rw [HF.out]; unfold ruleF Rl.rule'; rw [if_neg h24]; simp only [T1.out, T2.out, he2, hw2] : F = .ok (ts4, { s with places := p3, list := s.list ++ [⟨does, ea, eb⟩] }))
            clear he2 h24 hw2
            go_enter Try.func40, Try.ntmps40
            go_wp2_with (first | (go_at_call_of 37 (Value.int .u8 47); have hc := rwant_any 47 rb S (x.withPl p1) ts1 _ (HI1.out.alloc (.cells #[.int .u8 o, .int .u32 st, .slice a k c] 50)) hS (HS.out.vc.withPl _) (by decide) (by decide); rw [T2.out] at hc; refine hc.mono ?_; clear hc; rintro e w2 ⟨rfl, hI2, ho2⟩; have HI2 : Hid (Qn w2 rb S (x.withPl p1) ts2) := hI2; clear hI2; have HO2 : Hid (Only (· = rb) w w2) := (HO1.out.alloc _).trans ho2; have X2 : Hid (Xb w2 w1.heap.size (.int .u8 o) (.int .u32 st) (.slice a k c)) := (Xb.new w1 _ _ _).only ho2 (by omega); have TL2 : Hid (Tr w2 (fun b => rb + 1 ≤ b) ea (.agg #[.int .u8 o, .int .u32 st, .slice a k c])) := TL1.out.later (((Only.refl (· = rb) w1).alloc _).trans ho2) (fun b hb => by omega) (fun b hb => hb); have hl2 := HO2.out.size; clear ho2) | (go_at_call_of 37 (Value.int .u8 59); have hc := rwant_any 59 rb S ((x.withPl p1).withPl p3) ts3 _ (HI3.out.alloc (.cells #[.int .u8 o', .int .u32 st', .slice a' k' c'] 50)) hS ((HS.out.vc.withPl _).withPl _) (by decide) (by decide); rw [T4.out] at hc; refine hc.mono ?_; clear hc; rintro e w4 ⟨rfl, hI4, ho4⟩; have HI4 : Hid (Qn w4 rb S (x.withPl p3) ts4) := hI4; clear hI4; have HO4 : Hid (Only (· = rb) w w4) := (HO3.out.alloc _).trans ho4; have X4 : Hid (Xb w4 w1.heap.size (.int .u8 o) (.int .u32 st) (.slice a k c)) := (X3.out.alloc _).only ho4 (by omega); have Y4 : Hid (Xb w4 w3.heap.size (.int .u8 o') (.int .u32 st') (.slice a' k' c')) := (Xb.new w3 _ _ _).only ho4 (by omega); have TL4 : Hid (Tr w4 (fun b => rb + 1 ≤ b) ea (.agg #[.int .u8 o, .int .u32 st, .slice a k c])) := TL3.out.later (((Only.refl (· = rb) w3).alloc _).trans ho4) (fun b hb => by omega) (fun b hb => hb); have TR4 : Hid (Tr w4 (fun b => rb + 1 ≤ b) eb (.agg #[.int .u8 o', .int .u32 st', .slice a' k' c'])) := TR3.out.later (((Only.refl (· = rb) w3).alloc _).trans ho4) (fun b hb => by omega) (fun b hb => hb); have hl4 := Y4.out.lt; clear ho4; have hq4 := HI4.out; obtain ⟨i4, hR4, _, _⟩ := hq4; have d11 := hR4.c11; clear hR4) | (go_at_call 55; have hc := HEi.out (x.withPl p1) p1 ts2 _ HI2.out ((HS.out.only HO2.out).dec.withPl _) ((HS.out.only HO2.out).cr.withPl hp1); rw [T3.out] at hc; refine hc.mono ?_; clear hc; rintro e w3 ⟨v3, rfl, hT3, hI3, ho3⟩; obtain ⟨o', st', a', k', c', rfl⟩ := hT3.form; have HI3 : Hid (Qn w3 rb S ((x.withPl p1).withPl p3) ts3) := hI3; have TR3 : Hid (Tr w3 (fun b => rb + 1 ≤ b) eb (.agg #[.int .u8 o', .int .u32 st', .slice a' k' c'])) := hT3.keep (fun b hb _ => ⟨by omega, rfl⟩); clear hI3 hT3; have X3 : Hid (Xb w3 w1.heap.size (.int .u8 o) (.int .u32 st) (.slice a k c)) := X2.out.only ho3 (by omega); have TL3 : Hid (Tr w3 (fun b => rb + 1 ≤ b) ea (.agg #[.int .u8 o, .int .u32 st, .slice a k c])) := TL2.out.later ho3 (fun b hb => by omega) (fun b hb => hb); have hl3 := X3.out.lt; have HO3 : Hid (Only (· = rb) w w3) := HO2.out.trans ho3; clear ho3) | (go_at_call 55; have hc := HEi.out x s.places ts w HI.out HS.out.dec HS.out.cr; rw [T1.out] at hc; refine hc.mono ?_; clear hc; rintro e w1 ⟨v1, rfl, hT1, hI1, ho1⟩; obtain ⟨o, st, a, k, c, rfl⟩ := hT1.form; have HI1 : Hid (Qn w1 rb S (x.withPl p1) ts1) := hI1; have TL1 : Hid (Tr w1 (fun b => rb + 1 ≤ b) ea (.agg #[.int .u8 o, .int .u32 st, .slice a k c])) := hT1.keep (fun b hb _ => ⟨by omega, rfl⟩); clear hI1 hT1; have HO1 : Hid (Only (· = rb) w w1) := ho1; clear ho1; have hl1 := HO1.out.size))
            obtain ⟨i6, hR6, hs6⟩ := HI4.out.drew
            have HR0 : Hid (Rpr w4.drew rb S (i6 : Int) (x.withPl p3) 0 0) := hR6
            have Hs6 : Hid (Rl.Strm S.data.toList i6 ts4 ∧ i6 ≤ S.size) := hs6
            have c6' : w4.drew.cell? ⟨rb, 6, none⟩ = some (.slice aL s.list.length capL) := by rw [← HvL.out]; exact hR6.c6
            have c6'' : (w4.drew.alloc (.cells #[.int .u8 does, .int .u8 o, .int .u32 st, .slice a k c, .int .u8 o', .int .u32 st', .slice a' k' c'] 52)).cell? ⟨rb, 6, none⟩ = some (.slice aL s.list.length capL) := by rw [← HvL.out]; exact (hR6.alloc _).c6
            have c6''' : (w4.alloc (.cells #[.int .u8 does, .int .u8 o, .int .u32 st, .slice a k c, .int .u8 o', .int .u32 st', .slice a' k' c'] 52)).cell? ⟨rb, 6, none⟩ = some (.slice aL s.list.length capL) := c6''
            have HS0 : Hid (Sr w4.drew rb (x.withPl p3) { s with places := p3 }) := (HS.out.only HO4.out.drew).withPl hp3
            have XL0 : Hid (Xb w4.drew w1.heap.size (.int .u8 o) (.int .u32 st) (.slice a k c)) := X4.out
            have XR0 : Hid (Xb w4.drew w3.heap.size (.int .u8 o') (.int .u32 st') (.slice a' k' c')) := Y4.out
            have TL0 : Hid (Tr w4.drew (fun b => rb + 1 ≤ b) ea (.agg #[.int .u8 o, .int .u32 st, .slice a k c])) := TL4.out.later ((Only.refl (· = rb) w4).drew) (fun b hb => by omega) (fun b hb => hb)
            have TR0 : Hid (Tr w4.drew (fun b => rb + 1 ≤ b) eb (.agg #[.int .u8 o', .int .u32 st', .slice a' k' c'])) := TR4.out.later ((Only.refl (· = rb) w4).drew) (fun b hb => by omega) (fun b hb => hb)
            obtain ⟨xs, hown0, hrcs0⟩ := HS0.out.p.lst
            have Hown0 : Hid (w4.drew.ownsRow (rb + 1) 52 7 (.slice aL s.list.length capL) s.list.length xs) := by rw [← HvL.out]; exact hown0
            have Hrcs0 : Hid (Rcs w4.drew (fun b => rb + 1 ≤ b) s.list (fun j => xs[j]?)) := hrcs0
            have Hnews : Hid (∀ j u, [Value.int .u8 does, Value.int .u8 o, Value.int .u32 st, Value.slice a k c, Value.int .u8 o', Value.int .u32 st', Value.slice a' k' c'][j]? = some u → (w4.drew.alloc (.cells #[.int .u8 does, .int .u8 o, .int .u32 st, .slice a k c, .int .u8 o', .int .u32 st', .slice a' k' c'] 52)).cell? ((⟨w4.heap.size, 0, none⟩ : Addr).add j) = some u) := (by
              have h := rule_news w4.drew does o st (.slice a k c) o' st' (.slice a' k' c')
              rw [show w4.drew.heap.size = w4.heap.size from rfl] at h
              exact h : ∀ j u, [Value.int .u8 does, Value.int .u8 o, Value.int .u32 st, Value.slice a k c, Value.int .u8 o', Value.int .u32 st', Value.slice a' k' c'][j]? = some u → (w4.drew.alloc (.cells #[.int .u8 does, .int .u8 o, .int .u32 st, .slice a k c, .int .u8 o', .int .u32 st', .slice a' k' c'] 52)).cell? ((⟨w4.heap.size, 0, none⟩ : Addr).add j) = some u)
            have HSa : Hid (Xb (w4.drew.alloc (.cells #[.int .u8 does, .int .u8 o, .int .u32 st, .slice a k c, .int .u8 o', .int .u32 st', .slice a' k' c'] 52)) w1.heap.size (.int .u8 o) (.int .u32 st) (.slice a k c) ∧ Xb (w4.drew.alloc (.cells #[.int .u8 does, .int .u8 o, .int .u32 st, .slice a k c, .int .u8 o', .int .u32 st', .slice a' k' c'] 52)) w3.heap.size (.int .u8 o') (.int .u32 st') (.slice a' k' c')) := ⟨XL0.out.alloc _, XR0.out.alloc _⟩
            clear hR6 hs6 hown0 hrcs0
            refine wp_region_held_drew (S := fun w' => Xb w' w1.heap.size (.int .u8 o) (.int .u32 st) (.slice a k c) ∧ Xb w' w3.heap.size (.int .u8 o') (.int .u32 st') (.slice a' k' c')) (by kernel_rfl) ⟨XL0.out, XR0.out⟩ (fun hHeld => ?_)
            refine wpAnyH_take (i := 0) (v := Value.pointer (some ⟨rb, 0, none⟩)) rfl (by kernel_rfl) (by kernel_rfl) (by kernel_rfl) (fun _ _ _ h => h) (Or.inl ⟨by rfl, fun w hSw => by first | (go_simp; done) | go_simp⟩) (by assumption) ?_
            simp only [Act.put, List.setIfInBounds_toArray, List.set_cons_zero, List.set_cons_succ]
            refine wpAnyH_take (i := 1) (v := Value.pointer (some ⟨rb, 0, none⟩)) rfl (by kernel_rfl) (by kernel_rfl) (by kernel_rfl) (fun _ _ _ h => h) (Or.inl ⟨by rfl, fun w hSw => by first | (go_simp; done) | go_simp⟩) (by assumption) ?_
            simp only [Act.put, List.setIfInBounds_toArray, List.set_cons_zero, List.set_cons_succ]
            refine wpAnyH_take (i := 2) (v := Value.pointer (some ⟨rb, 0, none⟩)) rfl (by kernel_rfl) (by kernel_rfl) (by kernel_rfl) (fun _ _ _ h => h) (Or.inl ⟨by rfl, fun w hSw => by first | (go_simp; done) | go_simp⟩) (by assumption) ?_
            simp only [Act.put, List.setIfInBounds_toArray, List.set_cons_zero, List.set_cons_succ]
            refine wpAnyH_take (i := 3) (v := Value.pointer (some ⟨rb, 2, none⟩)) rfl (by kernel_rfl) (by kernel_rfl) (by kernel_rfl) (fun _ _ _ h => h) (Or.inl ⟨by rfl, fun w hSw => by first | (go_simp; done) | go_simp⟩) (by assumption) ?_
            simp only [Act.put, List.setIfInBounds_toArray, List.set_cons_zero, List.set_cons_succ]
            refine wpAnyH_take (i := 4) (v := Value.pointer (some ⟨rb, 6, none⟩)) rfl (by kernel_rfl) (by kernel_rfl) (by kernel_rfl) (fun _ _ _ h => h) (Or.inl ⟨by rfl, fun w hSw => by first | (go_simp; done) | go_simp⟩) (by assumption) ?_
            simp only [Act.put, List.setIfInBounds_toArray, List.set_cons_zero, List.set_cons_succ]
            refine wpAnyH_take (i := 6) (v := Value.int .u8 does) rfl (by kernel_rfl) (by kernel_rfl) (by kernel_rfl) (fun _ _ _ h => h) (Or.inl ⟨by rfl, fun w hSw => by first | (go_simp; done) | go_simp⟩) (by assumption) ?_
            simp only [Act.put, List.setIfInBounds_toArray, List.set_cons_zero, List.set_cons_succ]
            refine wpAnyH_take (i := 7) (v := Value.agg #[.int .u8 o, .int .u32 st, .slice a k c]) rfl (by kernel_rfl) (by kernel_rfl) (by kernel_rfl) (fun _ _ _ h => h) (Or.inl ⟨by rfl, fun w hSw => by obtain ⟨h1, h2⟩ := hSw; have q0 := h1.c0; have q1 := h1.c1; have q2 := h1.c2; have q3 := h2.c0; have q4 := h2.c1; have q5 := h2.c2; clear h1 h2; go_simp⟩) (by assumption) ?_
            simp only [Act.put, List.setIfInBounds_toArray, List.set_cons_zero, List.set_cons_succ]
            refine wpAnyH_take (i := 8) (v := Value.agg #[.int .u8 o', .int .u32 st', .slice a' k' c']) rfl (by kernel_rfl) (by kernel_rfl) (by kernel_rfl) (fun _ _ _ h => h) (Or.inl ⟨by rfl, fun w hSw => by obtain ⟨h1, h2⟩ := hSw; have q0 := h1.c0; have q1 := h1.c1; have q2 := h1.c2; have q3 := h2.c0; have q4 := h2.c1; have q5 := h2.c2; clear h1 h2; go_simp⟩) (by assumption) ?_
            simp only [Act.put, List.setIfInBounds_toArray, List.set_cons_zero, List.set_cons_succ]
            refine wpAnyH_take (i := 9) (v := Value.agg #[.int .u8 does, .int .u8 o, .int .u32 st, .slice a k c, .int .u8 o', .int .u32 st', .slice a' k' c']) rfl (by kernel_rfl) (by kernel_rfl) (by kernel_rfl) (fun _ _ _ h => h) (Or.inl ⟨by rfl, fun w hSw => by first | (go_simp; done) | go_simp⟩) (by assumption) ?_
            simp only [Act.put, List.setIfInBounds_toArray, List.set_cons_zero, List.set_cons_succ]
            refine wpAnyH_ready (rs := [5, 10]) (by kernel_rfl) (by simp) ?_
            refine AllReadyH.cons rfl (fun K hK => ?_) (AllReadyH.cons rfl (fun K hK => ?_) AllReadyH.nil)
            · rw [if_pos (by rfl)]
              go_simp
              refine hK.out _ _ ⟨XL0.out, XR0.out⟩ (fun hHeld2 => ?_)
              clear hK
              refine wpAnyH_ready (rs := [10]) (by kernel_rfl) (by simp) ?_
              refine AllReadyH.cons rfl (fun K hK => ?_) AllReadyH.nil
              rw [if_pos (by rfl)]
              go_simp
              refine hK.out _ _ HSa.out (fun hHeld3 => ?_)
              clear hK
              refine wpAnyH_ready (rs := [11]) (by kernel_rfl) (by simp) ?_
              refine AllReadyH.cons rfl (fun K hK => ?_) AllReadyH.nil
              refine step_of_wp rfl (wp_append_at _ _ _ 35 rfl (rb + 1) 52 i0 (.agg #[.int .u8 0, .int .u8 0, .int .u32 0, .slice none 0 0, .int .u8 0, .int .u32 0, .slice none 0 0]) 7 72 Try.underlying35 hi hz0 hz1 hz2 rfl (by decide) (.slice aL s.list.length capL) s.list.length xs rfl (Hown0.out.alloc _) ⟨w4.heap.size, 0, none⟩ 1 1 [.int .u8 does, .int .u8 o, .int .u32 st, .slice a k c, .int .u8 o', .int .u32 st', .slice a' k' c'] rfl rfl Hnews.out (rule_cells _ _ _ _ _ _ _ _ _ _ _) (by unfold maxLen; omega) (by omega) (by simp; omega) ?_)
              intro v5 w5 hown5 hg5
              obtain ⟨gv, capv, rfl, hgb5, hgl5, hgc5, _⟩ := row_form hown5 (by omega)
              have hg5' : (w4.drew.alloc (.cells #[.int .u8 does, .int .u8 o, .int .u32 st, .slice a k c, .int .u8 o', .int .u32 st', .slice a' k' c'] 52)).grownBy w5 (x.withPl p3).vL.ownBlock := by rw [show (x.withPl p3).vL = x.vL from rfl, HvL.out]; exact hg5
              obtain ⟨hSt5, hLo5, hrb5⟩ := Sr.rule (does := does) HS0.out ((Only.refl (fun _ => False) _).alloc (.cells #[.int .u8 does, .int .u8 o, .int .u32 st, .slice a k c, .int .u8 o', .int .u32 st', .slice a' k' c'] 52)) TL0.out TR0.out (by rw [show (x.withPl p3).vL = x.vL from rfl, HvL.out]; exact Hown0.out) Hrcs0.out hown5 hg5' hn24
              have hR5 : Rpr w5 rb S (i6 : Int) (x.withPl p3) 0 0 := (hrb5 HR0.out.lt).trans HR0.out
              have e6 : w5.cell? ⟨rb, 6, none⟩ = some (.slice aL s.list.length capL) := by rw [← HvL.out]; exact hR5.c6
              have g6 := hR5.fz 6
              have hXL5 : ∀ g o1 s1 k1, Xb w4.drew g o1 s1 k1 → Xb w5 g o1 s1 k1 := fun g o1 s1 k1 hX => by
                have hl := hX.lt
                refine (hg5.block g (by simp only [World.alloc, Array.size_push, World.drew] at hl ⊢; omega) (fun e => ?_)).trans ((Below.heap_alloc _ _ _ hl).trans hX)
                obtain ⟨_, ⟨hv, _⟩ | ⟨g', cap', cur', hv, hb, hh', _⟩⟩ := Hown0.out
                · rw [hv] at e; cases e
                · rw [hv] at e
                  injection e with e
                  simp only at e
                  subst e
                  rw [show w4.drew.heap[g]? = _ from hX] at hh'
                  injection hh' with hh'
                  injection hh' with _ h2
                  exact absurd h2 (by decide)
              refine hK.out _ _ ⟨hXL5 _ _ _ _ XL0.out, hXL5 _ _ _ _ XR0.out⟩ (fun hHeldA => ?_)
              clear hK
              try simp only [Act.put, List.setIfInBounds_toArray, List.set_cons_zero, List.set_cons_succ]
              refine wpAnyH_take (i := 12) (v := Value.pointer (some ⟨rb, 0, none⟩)) rfl (by kernel_rfl) (by kernel_rfl) (by kernel_rfl) (fun _ _ _ h => h) (Or.inl ⟨by rfl, fun w hSw => by first | (go_simp; done) | go_simp⟩) (by assumption) ?_
              simp only [Act.put, List.setIfInBounds_toArray, List.set_cons_zero, List.set_cons_succ]
              refine wpAnyH_take (i := 13) (v := Value.pointer (some ⟨rb, 2, none⟩)) rfl (by kernel_rfl) (by kernel_rfl) (by kernel_rfl) (fun _ _ _ h => h) (Or.inl ⟨by rfl, fun w hSw => by first | (go_simp; done) | go_simp⟩) (by assumption) ?_
              simp only [Act.put, List.setIfInBounds_toArray, List.set_cons_zero, List.set_cons_succ]
              refine wpAnyH_take (i := 14) (v := Value.pointer (some ⟨rb, 6, none⟩)) rfl (by kernel_rfl) (by kernel_rfl) (by kernel_rfl) (fun _ _ _ h => h) (Or.inl ⟨by rfl, fun w hSw => by first | (go_simp; done) | go_simp⟩) (by assumption) ?_
              simp only [Act.put, List.setIfInBounds_toArray, List.set_cons_zero, List.set_cons_succ]
              refine wpAnyH_ready (rs := [15]) (by kernel_rfl) (by simp) ?_
              refine AllReadyH.cons rfl (fun K hK => ?_) AllReadyH.nil
              rw [if_pos (by rfl)]
              go_simp
              refine hK.out _ _ ⟨(hXL5 _ _ _ _ XL0.out).only (P := (· = rb)) ((Only.refl (· = rb) w5).setCell (p := ⟨rb, 6, none⟩) rfl _) (by omega), (hXL5 _ _ _ _ XR0.out).only (P := (· = rb)) ((Only.refl (· = rb) w5).setCell (p := ⟨rb, 6, none⟩) rfl _) (by omega)⟩ (fun hHeldB => ?_)
              clear hK
              refine wpAnyH_done (by kernel_rfl) ?_ _
              clear hHeldA hHeldB
              go_wp2_with fail
              go_end0
              rw [HE.out]
              exact ⟨rfl, { x.withPl p3 with vL := .slice (some ⟨gv, 0, none⟩) (s.list.length + 1) capv }, ⟨i6, hR5.set6 _, Hs6.out⟩, hSt5, HO4.out.drew.up.trans hLo5⟩
            · rw [if_pos (by rfl)]
              go_simp
              refine hK.out _ _ HSa.out (fun hHeld2 => ?_)
              clear hK
              refine wpAnyH_ready (rs := [5]) (by kernel_rfl) (by simp) ?_
              refine AllReadyH.cons rfl (fun K hK => ?_) AllReadyH.nil
              rw [if_pos (by rfl)]
              go_simp
              refine hK.out _ _ HSa.out (fun hHeld3 => ?_)
              clear hK
              refine wpAnyH_ready (rs := [11]) (by kernel_rfl) (by simp) ?_
              refine AllReadyH.cons rfl (fun K hK => ?_) AllReadyH.nil
              refine step_of_wp rfl (wp_append_at _ _ _ 35 rfl (rb + 1) 52 i0 (.agg #[.int .u8 0, .int .u8 0, .int .u32 0, .slice none 0 0, .int .u8 0, .int .u32 0, .slice none 0 0]) 7 72 Try.underlying35 hi hz0 hz1 hz2 rfl (by decide) (.slice aL s.list.length capL) s.list.length xs rfl (Hown0.out.alloc _) ⟨w4.heap.size, 0, none⟩ 1 1 [.int .u8 does, .int .u8 o, .int .u32 st, .slice a k c, .int .u8 o', .int .u32 st', .slice a' k' c'] rfl rfl Hnews.out (rule_cells _ _ _ _ _ _ _ _ _ _ _) (by unfold maxLen; omega) (by omega) (by simp; omega) ?_)
              intro v5 w5 hown5 hg5
              obtain ⟨gv, capv, rfl, hgb5, hgl5, hgc5, _⟩ := row_form hown5 (by omega)
              have hg5' : (w4.drew.alloc (.cells #[.int .u8 does, .int .u8 o, .int .u32 st, .slice a k c, .int .u8 o', .int .u32 st', .slice a' k' c'] 52)).grownBy w5 (x.withPl p3).vL.ownBlock := by rw [show (x.withPl p3).vL = x.vL from rfl, HvL.out]; exact hg5
              obtain ⟨hSt5, hLo5, hrb5⟩ := Sr.rule (does := does) HS0.out ((Only.refl (fun _ => False) _).alloc (.cells #[.int .u8 does, .int .u8 o, .int .u32 st, .slice a k c, .int .u8 o', .int .u32 st', .slice a' k' c'] 52)) TL0.out TR0.out (by rw [show (x.withPl p3).vL = x.vL from rfl, HvL.out]; exact Hown0.out) Hrcs0.out hown5 hg5' hn24
              have hR5 : Rpr w5 rb S (i6 : Int) (x.withPl p3) 0 0 := (hrb5 HR0.out.lt).trans HR0.out
              have e6 : w5.cell? ⟨rb, 6, none⟩ = some (.slice aL s.list.length capL) := by rw [← HvL.out]; exact hR5.c6
              have g6 := hR5.fz 6
              have hXL5 : ∀ g o1 s1 k1, Xb w4.drew g o1 s1 k1 → Xb w5 g o1 s1 k1 := fun g o1 s1 k1 hX => by
                have hl := hX.lt
                refine (hg5.block g (by simp only [World.alloc, Array.size_push, World.drew] at hl ⊢; omega) (fun e => ?_)).trans ((Below.heap_alloc _ _ _ hl).trans hX)
                obtain ⟨_, ⟨hv, _⟩ | ⟨g', cap', cur', hv, hb, hh', _⟩⟩ := Hown0.out
                · rw [hv] at e; cases e
                · rw [hv] at e
                  injection e with e
                  simp only at e
                  subst e
                  rw [show w4.drew.heap[g]? = _ from hX] at hh'
                  injection hh' with hh'
                  injection hh' with _ h2
                  exact absurd h2 (by decide)
              refine hK.out _ _ ⟨hXL5 _ _ _ _ XL0.out, hXL5 _ _ _ _ XR0.out⟩ (fun hHeldA => ?_)
              clear hK
              try simp only [Act.put, List.setIfInBounds_toArray, List.set_cons_zero, List.set_cons_succ]
              refine wpAnyH_take (i := 12) (v := Value.pointer (some ⟨rb, 0, none⟩)) rfl (by kernel_rfl) (by kernel_rfl) (by kernel_rfl) (fun _ _ _ h => h) (Or.inl ⟨by rfl, fun w hSw => by first | (go_simp; done) | go_simp⟩) (by assumption) ?_
              simp only [Act.put, List.setIfInBounds_toArray, List.set_cons_zero, List.set_cons_succ]
              refine wpAnyH_take (i := 13) (v := Value.pointer (some ⟨rb, 2, none⟩)) rfl (by kernel_rfl) (by kernel_rfl) (by kernel_rfl) (fun _ _ _ h => h) (Or.inl ⟨by rfl, fun w hSw => by first | (go_simp; done) | go_simp⟩) (by assumption) ?_
              simp only [Act.put, List.setIfInBounds_toArray, List.set_cons_zero, List.set_cons_succ]
              refine wpAnyH_take (i := 14) (v := Value.pointer (some ⟨rb, 6, none⟩)) rfl (by kernel_rfl) (by kernel_rfl) (by kernel_rfl) (fun _ _ _ h => h) (Or.inl ⟨by rfl, fun w hSw => by first | (go_simp; done) | go_simp⟩) (by assumption) ?_
              simp only [Act.put, List.setIfInBounds_toArray, List.set_cons_zero, List.set_cons_succ]
              refine wpAnyH_ready (rs := [15]) (by kernel_rfl) (by simp) ?_
              refine AllReadyH.cons rfl (fun K hK => ?_) AllReadyH.nil
              rw [if_pos (by rfl)]
              go_simp
              refine hK.out _ _ ⟨(hXL5 _ _ _ _ XL0.out).only (P := (· = rb)) ((Only.refl (· = rb) w5).setCell (p := ⟨rb, 6, none⟩) rfl _) (by omega), (hXL5 _ _ _ _ XR0.out).only (P := (· = rb)) ((Only.refl (· = rb) w5).setCell (p := ⟨rb, 6, none⟩) rfl _) (by omega)⟩ (fun hHeldB => ?_)
              clear hK
              refine wpAnyH_done (by kernel_rfl) ?_ _
              clear hHeldA hHeldB
              go_wp2_with fail
              go_end0
              rw [HE.out]
              exact ⟨rfl, { x.withPl p3 with vL := .slice (some ⟨gv, 0, none⟩) (s.list.length + 1) capv }, ⟨i6, hR5.set6 _, Hs6.out⟩, hSt5, HO4.out.drew.up.trans hLo5⟩
end Go.Proofs.Ytahoepmnekconaa
