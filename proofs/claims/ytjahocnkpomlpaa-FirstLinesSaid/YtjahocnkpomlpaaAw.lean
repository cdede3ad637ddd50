/-
  Layer 14's Awake.
-/
import Derived.Test.YtjahocnkpomlpaaTx
import Derived.Test.YtjahocnkpomlpaaFc
import Derived.Test.YtjahocnkpomlpaaCf
namespace Go.Proofs.Ytjahocnkpomlpaa
open Go.RowKit Go.Maps
set_option linter.unusedVariables false
set_option linter.unusedSimpArgs false
def s14a : ByteArray := { data := #[97, 97, 32, 98, 98] }
def s14b : ByteArray := { data := #[97, 97, 97, 97] }
theorem lines14a : Sp.lines (Pa.cts (txB s14a) 0) (Pa.ops (txB s14a) 5 ++ [2]) 8 3 0 5 = [⟨0, 3, 2, 1⟩, ⟨3, 5, 2, 2⟩] := by kernel_rfl
theorem lines14b : Sp.lines (Pa.cts (txB s14b) 0) (Pa.ops (txB s14b) 4 ++ [2]) 8 3 0 4 = [⟨0, 3, 3, 4⟩, ⟨3, 4, 1, 2⟩] := by kernel_rfl
theorem box6s (w : World) (u0 u1 u2 u3 u4 u5 v0 v1 v2 v3 v4 v5 : Value) (t : TypeId) : ∃ R w0, (w.alloc (.cells #[u0, u1, u2, u3, u4, u5] t)).setRow w.heap.size #[v0, v1, v2, v3, v4, v5] = w0 ∧ w.heap.size = R ∧ Hid (∀ W', Only (fun _ => False) w0 W' → W'.cell? ⟨R, 0, none⟩ = some v0 ∧ W'.cell? ⟨R, 1, none⟩ = some v1 ∧ W'.cell? ⟨R, 2, none⟩ = some v2 ∧ W'.cell? ⟨R, 3, none⟩ = some v3 ∧ W'.cell? ⟨R, 4, none⟩ = some v4 ∧ W'.cell? ⟨R, 5, none⟩ = some v5) ∧ Hid (Only (fun _ => False) w w0) :=
  ⟨_, _, rfl, rfl, fun W' ho => blk_six (blk_keep ho (setRow_heap _ _ _ _ _ _ (heap_alloc_new w _))), ((Only.refl _ _).alloc _).setRowNew (Nat.le_refl _) _⟩
set_option maxRecDepth 100000 in
set_option maxHeartbeats 4000000 in
theorem awake14_any (w : World) : Calls Try.prog 8 #[] w fun e w' => e = .returned (.bool true) ∧ Only (fun _ => False) w w' := by
  have HTA : Hid (∀ W, Calls Try.prog 17 #[.string { data := #[97, 97, 32, 98, 98] }] W fun e w' => ∃ aC aO cC cO, e = .returned (.agg #[.slice aC 5 cC, .slice aO 6 cO]) ∧ Pv w' (Pa.cts (txB s14a) 0) (Pa.ops (txB s14a) 5 ++ [2]) 5 6 aC aO cC cO ∧ Only (fun _ => False) W w') := fun W => text_any s14a 5 W rfl (by decide)
  have HTB : Hid (∀ W, Calls Try.prog 17 #[.string { data := #[97, 97, 97, 97] }] W fun e w' => ∃ aC aO cC cO, e = .returned (.agg #[.slice aC 4 cC, .slice aO 5 cO]) ∧ Pv w' (Pa.cts (txB s14b) 0) (Pa.ops (txB s14b) 4 ++ [2]) 4 5 aC aO cC cO ∧ Only (fun _ => False) W w') := fun W => text_any s14b 4 W rfl (by decide)
  have HBA : Hid (∀ W aC aO cC cO, Pv W (Pa.cts (txB s14a) 0) (Pa.ops (txB s14a) 5 ++ [2]) 5 6 aC aO cC cO → Calls Try.prog 13 #[.agg #[.slice aC 5 cC, .slice aO 6 cO], .int .i64 0, .int .i64 5, .agg #[.int .i64 3, .int .i64 8, .int .u8 0, .int .i64 0, .int .i64 0, .float .f64 0]] W fun e w' => ∃ (a : Option Addr) (c : Nat), e = .returned (.slice a 2 c) ∧ Vw w' a (lnC [⟨0, 3, 2, 1⟩, ⟨3, 5, 2, 2⟩]) ∧ Only (fun _ => False) W w') := fun W aC aO cC cO hP => by
    refine (break_any _ _ 5 6 aC aO cC cO 0 5 3 8 0 0 0 0 W hP (by decide) (by decide) (by decide) (by decide) (by decide) (by decide)).mono ?_
    rintro e w' ⟨n, a, c, hn, he, hown, ho⟩
    rw [lines14a] at hn hown
    have hn2 : n = 2 := hn
    subst hn2
    exact ⟨a, c, he, own_vw hown, ho⟩
  have HBB : Hid (∀ W aC aO cC cO, Pv W (Pa.cts (txB s14b) 0) (Pa.ops (txB s14b) 4 ++ [2]) 4 5 aC aO cC cO → Calls Try.prog 13 #[.agg #[.slice aC 4 cC, .slice aO 5 cO], .int .i64 0, .int .i64 4, .agg #[.int .i64 3, .int .i64 8, .int .u8 0, .int .i64 0, .int .i64 0, .float .f64 0]] W fun e w' => ∃ (a : Option Addr) (c : Nat), e = .returned (.slice a 2 c) ∧ Vw w' a (lnC [⟨0, 3, 3, 4⟩, ⟨3, 4, 1, 2⟩]) ∧ Only (fun _ => False) W w') := fun W aC aO cC cO hP => by
    refine (break_any _ _ 4 5 aC aO cC cO 0 4 3 8 0 0 0 0 W hP (by decide) (by decide) (by decide) (by decide) (by decide) (by decide)).mono ?_
    rintro e w' ⟨n, a, c, hn, he, hown, ho⟩
    rw [lines14b] at hn hown
    have hn2 : n = 2 := hn
    subst hn2
    exact ⟨a, c, he, own_vw hown, ho⟩
  go_enter Try.func8, Try.ntmps8
  go_wp2_with (refine wpList_store_row rfl 35 _ _ rfl w.heap.size #[.int .i64 3, .int .i64 8, .int .u8 0, .int .i64 0, .int .i64 0, .float .f64 0] rfl rfl 35 _ (heap_alloc_new w _) (by kernel_rfl) rfl (cfg_one _ _ _ _ _ _) ?_)
  obtain ⟨R, w0, hw0, hR, HS, HO⟩ := box6s w (.int .i64 0) (.int .i64 0) (.int .u8 0) (.int .i64 0) (.int .i64 0) (.float .f64 0) (.int .i64 3) (.int .i64 8) (.int .u8 0) (.int .i64 0) (.int .i64 0) (.float .f64 0) 35
  rw [hw0, hR]
  clear hw0 hR
  go_region_held3 (fun W' => W'.cell? ⟨R, 0, none⟩ = some (.int .i64 3) ∧ W'.cell? ⟨R, 1, none⟩ = some (.int .i64 8) ∧ W'.cell? ⟨R, 2, none⟩ = some (.int .u8 0) ∧ W'.cell? ⟨R, 3, none⟩ = some (.int .i64 0) ∧ W'.cell? ⟨R, 4, none⟩ = some (.int .i64 0) ∧ W'.cell? ⟨R, 5, none⟩ = some (.float .f64 0)) ((first | exact HS.out _ (Only.refl _ _).drew | exact HS.out _ H1.out.2 | exact HS.out _ H2.out.2 | exact HS.out _ H3.out.2.2 | exact HS.out _ H4.out.2.2)) ((first | (go_at_call 17; have hgd := H2.out; clear hgd; refine Calls.mono (HTB.out _) ?_; rintro e w3 ⟨aD, aP, cD, cP, rfl, hPv, ho3⟩; have H3 : Hid (Pv w3 (Pa.cts (txB s14b) 0) (Pa.ops (txB s14b) 4 ++ [2]) 4 5 aD aP cD cP ∧ Vw w3 aL (lnC [⟨0, 3, 2, 1⟩, ⟨3, 5, 2, 2⟩]) ∧ Only (fun _ => False) w0 w3) := ⟨hPv, H2.out.1.keep ho3, H2.out.2.trans ho3⟩; clear hPv ho3) | (go_at_call 13; have hgd := H3.out; clear hgd; refine Calls.mono (HBB.out _ _ _ _ _ H3.out.1) ?_; rintro e w4 ⟨aM, cM, rfl, hV, ho4⟩; have H4 : Hid (Vw w4 aM (lnC [⟨0, 3, 3, 4⟩, ⟨3, 4, 1, 2⟩]) ∧ Vw w4 aL (lnC [⟨0, 3, 2, 1⟩, ⟨3, 5, 2, 2⟩]) ∧ Only (fun _ => False) w0 w4) := ⟨hV, H3.out.2.1.keep ho4, H3.out.2.2.trans ho4⟩; clear hV ho4) | (go_at_call 13; refine Calls.mono (HBA.out _ _ _ _ _ H1.out.1) ?_; rintro e w2 ⟨aL, cL, rfl, hV, ho2⟩; have H2 : Hid (Vw w2 aL (lnC [⟨0, 3, 2, 1⟩, ⟨3, 5, 2, 2⟩]) ∧ Only (fun _ => False) w0 w2) := ⟨hV, H1.out.2.trans ho2⟩; clear hV ho2) | (go_at_call 17; refine Calls.mono (HTA.out _) ?_; rintro e w1 ⟨aC, aO, cC, cO, rfl, hPv, ho1⟩; have H1 : Hid (Pv w1 (Pa.cts (txB s14a) 0) (Pa.ops (txB s14a) 5 ++ [2]) 5 6 aC aO cC cO ∧ Only (fun _ => False) w0 w1) := ⟨hPv, (Only.refl _ _).drew.trans ho1⟩; clear hPv ho1)))
  obtain ⟨b, off, rfl, hb, c0, c1, c2, c3⟩ := H4.out.2.1.line (k := 0) rfl
  obtain ⟨b', off', rfl, hb', d0, d1, d2, d3⟩ := H4.out.1.line (k := 0) rfl
  obtain ⟨b2, off2, e2, hb2, f0, f1, f2, f3⟩ := H4.out.1.line (k := 1) rfl
  injection e2 with e2
  injection e2 with e3 e4
  subst e3 e4
  have c0' : w4.cell? ⟨b, off, none⟩ = some (.int .i64 0) := c0
  have c1' : w4.cell? ⟨b, off + 1, none⟩ = some (.int .i64 3) := c1
  have c2' : w4.cell? ⟨b, off + 2, none⟩ = some (.int .i64 2) := c2
  have c3' : w4.cell? ⟨b, off + 3, none⟩ = some (.int .u8 1) := c3
  have d2' : w4.cell? ⟨b', off' + 2, none⟩ = some (.int .i64 3) := d2
  have d3' : w4.cell? ⟨b', off' + 3, none⟩ = some (.int .u8 4) := d3
  have f2' : w4.cell? ⟨b', off' + 6, none⟩ = some (.int .i64 1) := f2
  have f2'' : w4.cell? ⟨b', off' + 4 + 2, none⟩ = some (.int .i64 1) := f2
  clear c0 c1 c2 c3 d0 d1 d2 d3 f0 f1 f2 f3
  go_wp2_with fail
  go_ret
  exact ⟨rfl, HO.out.trans H4.out.2.2⟩
end Go.Proofs.Ytjahocnkpomlpaa

