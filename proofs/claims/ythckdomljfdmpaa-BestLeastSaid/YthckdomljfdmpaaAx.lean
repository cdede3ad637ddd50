/-
  Layer 15's Awake.
-/
import Derived.Test.YthckdomljfdmpaaTx
import Derived.Test.YthckdomljfdmpaaBp
import Derived.Test.YthckdomljfdmpaaDq
namespace Go.Proofs.Ythckdomljfdmpaa
open Go.RowKit Go.Maps
set_option linter.unusedVariables false
set_option linter.unusedSimpArgs false
def s15 : ByteArray := { data := #[97, 97, 97, 32, 98, 98, 98, 32, 99, 32, 100, 100, 100, 100, 32, 101, 101, 101, 101, 101, 101, 101, 101, 101] }
def C15 : List Ct := Pa.cts (txB s15) 0
def O15 : List Nat := Pa.ops (txB s15) 24 ++ [2]
def f15 : Nat → Nat → Option Nat := bsF C15 O15 8 9 0 0 4741671816366391296 24
set_option maxRecDepth 100000 in
theorem tab15 : (Ds.tab f15 0 24)[24]? = some (some ([8, 15, 24], 8000300)) := by kernel_rfl
theorem best15 : Ds.Best f15 24 0 [8, 15, 24] 8000300 := Ds.tab_best tab15
set_option maxRecDepth 100000 in
theorem mk15 : mkL C15 O15 8 0 [8, 15, 24] = [⟨0, 8, 7, 1⟩, ⟨8, 15, 6, 1⟩, ⟨15, 24, 9, 2⟩] := by kernel_rfl
set_option maxRecDepth 100000 in
set_option maxHeartbeats 4000000 in
theorem awake15_any (w : World) : Calls Try.prog 10 #[] w fun e w' => e = .returned (.bool true) ∧ Only (fun _ => False) w w' := by
  have HT : Hid (∀ W, Calls Try.prog 23 #[.string { data := #[97, 97, 97, 32, 98, 98, 98, 32, 99, 32, 100, 100, 100, 100, 32, 101, 101, 101, 101, 101, 101, 101, 101, 101] }] W fun e w' => ∃ aC aO cC cO, e = .returned (.agg #[.slice aC 24 cC, .slice aO 25 cO]) ∧ Pv w' C15 O15 24 25 aC aO cC cO ∧ Only (fun _ => False) W w') := fun W => text_any s15 24 W rfl (by decide)
  have HB : Hid (∀ W aC aO cC cO, Pv W C15 O15 24 25 aC aO cC cO → Calls Try.prog 14 #[.agg #[.slice aC 24 cC, .slice aO 25 cO], .int .i64 0, .int .i64 24, .agg #[.int .i64 9, .int .i64 8, .int .u8 1, .int .i64 0, .int .i64 0, .float .f64 4741671816366391296]] W fun e w' => ∃ (a : Option Addr) (c : Nat), e = .returned (.tuple #[.slice a 3 c, .bool true]) ∧ Vw w' a (lnC [⟨0, 8, 7, 1⟩, ⟨8, 15, 6, 1⟩, ⟨15, 24, 9, 2⟩]) ∧ Only (fun _ => False) W w') := fun W aC aO cC cO hP => by
    refine (bbreak_any C15 O15 24 25 aC aO cC cO 0 24 9 8 1 0 0 4741671816366391296 W hP (by decide) (by decide) (by decide) (by decide) (by decide) (by decide) (by decide) (by decide)).mono ?_
    rintro e w' (⟨E, s, al, k, c, hB, hn, he, hown, ho⟩ | ⟨hN, he, ho⟩)
    · obtain ⟨hE, _⟩ := Ds.Best.one hB best15
      rw [hE, mk15] at hown
      have hn3 : k = 3 := by rw [hn, hE]; rfl
      subst hn3
      exact ⟨al, c, he, own_vw hown, ho⟩
    · exact (Ds.Best.no best15 hN).elim
  go_enter Try.func10, Try.ntmps10
  go_wp2_with fail
  refine Calls.mono (HT.out _) ?_
  rintro e w1 ⟨aC, aO, cC, cO, rfl, hPv, ho1⟩
  have H1 : Hid (Pv w1 C15 O15 24 25 aC aO cC cO ∧ Only (fun _ => False) w w1) := ⟨hPv, ho1⟩
  clear hPv ho1
  go_wp2_with fail
  refine Calls.mono (HB.out _ _ _ _ _ (H1.out.1.keep ((Only.refl _ _).alloc _))) ?_
  rintro e w2 ⟨aL, cL, rfl, hV, ho2⟩
  have H2 : Hid (Vw w2 aL (lnC [⟨0, 8, 7, 1⟩, ⟨8, 15, 6, 1⟩, ⟨15, 24, 9, 2⟩]) ∧ Only (fun _ => False) w w2) := ⟨hV, (H1.out.2.alloc _).trans ho2⟩
  clear hV ho2
  obtain ⟨b, off, rfl, hb, c0, c1, c2, c3⟩ := H2.out.1.line (k := 0) rfl
  obtain ⟨b2, off2, e2, hb2, f0, f1, f2, f3⟩ := H2.out.1.line (k := 1) rfl
  injection e2 with e2
  injection e2 with e3 e4
  subst e3 e4
  have c1' : w2.cell? ⟨b, off + 1, none⟩ = some (.int .i64 8) := c1
  have f1' : w2.cell? ⟨b, off + 5, none⟩ = some (.int .i64 15) := f1
  have f1'' : w2.cell? ⟨b, off + 4 + 1, none⟩ = some (.int .i64 15) := f1
  have f2' : w2.cell? ⟨b, off + 6, none⟩ = some (.int .i64 6) := f2
  have f2'' : w2.cell? ⟨b, off + 4 + 2, none⟩ = some (.int .i64 6) := f2
  clear c0 c1 c2 c3 f0 f1 f2 f3
  go_wp2_with fail
  go_ret
  exact ⟨rfl, H2.out.2⟩
end Go.Proofs.Ythckdomljfdmpaa

