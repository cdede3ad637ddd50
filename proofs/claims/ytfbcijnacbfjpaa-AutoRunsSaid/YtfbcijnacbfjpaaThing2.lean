/-
  thing of the rules' reader, given what either does with less.
-/
import Derived.Test.YtfbcijnacbfjpaaThing
namespace Go.Proofs.Ytfbcijnacbfjpaa
open Go.RowKit Go.Maps
set_option linter.unusedVariables false
set_option linter.unusedSimpArgs false

set_option maxRecDepth 100000 in
set_option maxHeartbeats 4000000 in
theorem thing_step (E : Rl.Env) (nc rb : Nat) (S : ByteArray) (n : Nat) (hS : S.size ≤ 4096) (hE : EitherOk E nc rb S n) : ThingOk E nc rb S (n + 1) := by
  intro d p x t ts w hI hM hC hb hbeg hn
  have hlt := hI.lt
  have HC : Hid (Cx nc rb x p d) := hC
  have HI : Hid (In w rb S x (t :: ts)) := hI
  have HM : Hid (Mp w x.mb E) := hM
  have HE : Hid (EitherOk E nc rb S n) := hE
  have HB : Hid (¬ t.bad = true) := hb
  have HBg : Hid (Rl.beg t = true) := hbeg
  have Z0 : Hid (Xb (w.alloc (.cells #[.int .u8 0, .int .u32 0, .slice none 0 0] 49)) w.heap.size (.int .u8 0) (.int .u32 0) (.slice none 0 0)) := Xb.new w _ _ _
  have ht := bs_toList t.text
  have h40 : (⟨#[40]⟩ : ByteArray).toList = [40] := by rw [Lib.toList_data]
  rw [thing_cons]
  clear hI hM hC hE hb hbeg
  by_cases htx : t.text = [40]
  · rw [if_pos htx]
    have q : (t.text == [40]) = true := by rw [htx]; simp
    have Hne : Hid (t.text ≠ []) := (by rw [htx]; simp : t.text ≠ [])
    clear htx
    cases hF : brF E nc n d t ts p with
    | error f =>
      have T1 : Hid (brF E nc n d t ts p = .error f) := hF
      clear hF
      go_enter Try.func93, Try.ntmps93
      go_wp2_with (first | (go_at_call 51; refine (next_ok rb S x t ts _ (HI.out.alloc _) hS HB.out).mono ?_; rintro e w1 ⟨rfl, hR1, hs1, he1, ho1⟩; have HS1 : Hid (Rl.Strm S.data.toList t.at' (t :: ts)) := hs1; have HR1 : Hid (Rdr w1 rb S (t.at' : Int) x) := hR1; clear hs1 hR1; have HO1 : Hid (Only (· = rb) w w1) := ((Only.refl (· = rb) w).alloc _).trans ho1) | (go_at_call 94; have hc := bracket_any E nc n d p rb S x t ts t.at' _ (HR1.out.alloc (.cells #[.string (bs t.text), .int .i64 (t.at' : Int)] 124)) HS1.out he1 hS ((HM.out.only HO1.out HC.out.mb).alloc _) HC.out Hne.out HE.out (by omega); rw [T1.out] at hc; refine hc.mono ?_; clear hc; rintro e w2 ⟨rfl, ho2⟩))
      exact ⟨rfl, rfl, (HO1.out.alloc _).trans ho2⟩
    | ok r =>
      obtain ⟨ex, ts2, p2⟩ := r
      have T1 : Hid (brF E nc n d t ts p = .ok (ex, ts2, p2)) := hF
      clear hF
      go_enter Try.func93, Try.ntmps93
      go_wp2_with (first | (go_at_call 51; refine (next_ok rb S x t ts _ (HI.out.alloc _) hS HB.out).mono ?_; rintro e w1 ⟨rfl, hR1, hs1, he1, ho1⟩; have HS1 : Hid (Rl.Strm S.data.toList t.at' (t :: ts)) := hs1; have HR1 : Hid (Rdr w1 rb S (t.at' : Int) x) := hR1; clear hs1 hR1; have HO1 : Hid (Only (· = rb) w w1) := ((Only.refl (· = rb) w).alloc _).trans ho1; have Z1 : Hid (Xb w1 w.heap.size (.int .u8 0) (.int .u32 0) (.slice none 0 0)) := Z0.out.only ho1 (by omega); have hl1 := Z1.out.lt) | (go_at_call 94; have hc := bracket_any E nc n d p rb S x t ts t.at' _ (HR1.out.alloc (.cells #[.string (bs t.text), .int .i64 (t.at' : Int)] 124)) HS1.out he1 hS ((HM.out.only HO1.out HC.out.mb).alloc _) HC.out Hne.out HE.out (by omega); rw [T1.out] at hc; refine hc.mono ?_; clear hc; rintro e w2 ⟨v, rfl, hT2, hI2, ho2⟩; obtain ⟨o, s, a, k, c, rfl⟩ := hT2.form; have Z2 : Hid (Xb w2 w.heap.size (.int .u8 0) (.int .u32 0) (.slice none 0 0)) := (Z1.out.alloc _).only ho2 (by omega); have z0 := Z2.out.c0; have z1 := Z2.out.c1; have z2 := Z2.out.c2; have zf0 := Z2.out.fz 0; have zf1 := Z2.out.fz 1; have zf2 := Z2.out.fz 2; have HT2 : Hid (Tr w2 (fun b => w1.heap.size + 1 ≤ b) ex (.agg #[.int .u8 o, .int .u32 s, .slice a k c])) := (by have := hT2; simp only [World.alloc, Array.size_push] at this; exact this); have HI2 : Hid (In w2 rb S (x.withPl p2) ts2) := hI2; clear hT2 hI2; have HO2 : Hid (Only (· = rb) w w2) := (HO1.out.alloc _).trans ho2))
      refine bodyPost_ret (v := .agg #[.int .u8 o, .int .u32 s, .slice a k c]) (results_x rfl _ rfl (Z2.out.set3 _ _ _)) rfl ?_
      refine ⟨_, rfl, ?_, HI2.out.set3 (z := w.heap.size) (by omega) _ _ _, HO2.out.set3 (z := w.heap.size) (Nat.le_refl _) _ _ _⟩
      refine HT2.out.keep fun b hb hl => ⟨by omega, ?_⟩
      exact set3_other w2 (z := w.heap.size) _ _ _ (by omega)
  · rw [if_neg htx]
    have q : (t.text == [40]) = false := by simpa using htx
    have Hno : Hid (t.text ≠ [40]) := htx
    clear htx
    obtain ⟨a, cap, hv⟩ := HC.out.vC
    have Hv : Hid (x.vC = .slice a nc cap) := hv
    clear hv
    cases hF : Rl.some' E nc (t :: ts) p with
    | error f =>
      have T1 : Hid (Rl.some' E nc (t :: ts) p = .error f) := hF
      clear hF
      simp only
      go_enter Try.func93, Try.ntmps93
      go_wp2_with (first | (go_at_call 51; refine (next_ok rb S x t ts _ (HI.out.alloc _) hS HB.out).mono ?_; rintro e w1 ⟨rfl, hR1, hs1, he1, ho1⟩; have HI1 : Hid (In w1 rb S x (t :: ts)) := ⟨_, hR1, hs1, by omega⟩; clear hs1 hR1; have HO1 : Hid (Only (· = rb) w w1) := ((Only.refl (· = rb) w).alloc _).trans ho1) | (go_at_call 95; have hc := some_any E nc p rb S x t ts _ (HI1.out.alloc (.cells #[.string (bs t.text), .int .i64 (t.at' : Int)] 124)) hS ((HM.out.only HO1.out HC.out.mb).alloc _) HC.out.mb HB.out HBg.out Hno.out HC.out.pl HC.out.p200 a cap Hv.out HC.out.nc24; rw [T1.out] at hc; refine hc.mono ?_; clear hc; rintro e w2 ⟨rfl, ho2⟩))
      exact ⟨rfl, rfl, (HO1.out.alloc _).trans ho2⟩
    | ok r =>
      obtain ⟨b, ts2, p2⟩ := r
      have T1 : Hid (Rl.some' E nc (t :: ts) p = .ok (b, ts2, p2)) := hF
      clear hF
      simp only
      go_enter Try.func93, Try.ntmps93
      go_wp2_with (first | (go_at_call 51; refine (next_ok rb S x t ts _ (HI.out.alloc _) hS HB.out).mono ?_; rintro e w1 ⟨rfl, hR1, hs1, he1, ho1⟩; have HI1 : Hid (In w1 rb S x (t :: ts)) := ⟨_, hR1, hs1, by omega⟩; clear hs1 hR1; have HO1 : Hid (Only (· = rb) w w1) := ((Only.refl (· = rb) w).alloc _).trans ho1; have Z1 : Hid (Xb w1 w.heap.size (.int .u8 0) (.int .u32 0) (.slice none 0 0)) := Z0.out.only ho1 (by omega)) | (go_at_call 95; have hc := some_any E nc p rb S x t ts _ (HI1.out.alloc (.cells #[.string (bs t.text), .int .i64 (t.at' : Int)] 124)) hS ((HM.out.only HO1.out HC.out.mb).alloc _) HC.out.mb HB.out HBg.out Hno.out HC.out.pl HC.out.p200 a cap Hv.out HC.out.nc24; rw [T1.out] at hc; refine hc.mono ?_; clear hc; rintro e w2 ⟨rfl, hI2, ho2⟩; have Z2 : Hid (Xb w2 w.heap.size (.int .u8 0) (.int .u32 0) (.slice none 0 0)) := (Z1.out.alloc _).only ho2 (by omega); have z0 := Z2.out.c0; have z1 := Z2.out.c1; have z2 := Z2.out.c2; have zf0 := Z2.out.fz 0; have zf1 := Z2.out.fz 1; have zf2 := Z2.out.fz 2; have HI2 : Hid (In w2 rb S (x.withPl p2) ts2) := hI2; clear hI2; have HO2 : Hid (Only (· = rb) w w2) := (HO1.out.alloc _).trans ho2))
      refine bodyPost_ret (v := .agg #[.int .u8 1, .int .u32 b, .slice none 0 0]) (results_x rfl _ rfl (Z2.out.set3 _ _ _)) rfl ?_
      exact ⟨_, rfl, Tr.leaf _ _ _ _, HI2.out.set3 (z := w.heap.size) (by omega) _ _ _, HO2.out.set3 (z := w.heap.size) (Nat.le_refl _) _ _ _⟩
end Go.Proofs.Ytfbcijnacbfjpaa
