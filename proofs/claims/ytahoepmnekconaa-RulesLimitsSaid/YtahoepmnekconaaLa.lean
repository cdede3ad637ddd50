/-
  As many classes, rules, places, brackets as may be, and one more: these eight texts, reckoned.
-/
import Derived.Test.YtahoepmnekconaaHa
namespace Go.Proofs.Ytahoepmnekconaa
open Go.RowKit Go.Maps
set_option linter.unusedVariables false
set_option linter.unusedSimpArgs false
namespace Rl
def rep (u : Str) : Nat → Str
  | 0 => []
  | k + 1 => rep u k ++ u
def cl : Nat → Str
  | 0 => []
  | k + 1 => cl k ++ [32, 99, (97 + k).toUInt8]
theorem rep_len (u : Str) : ∀ k, (rep u k).length = k * u.length
  | 0 => by simp [rep]
  | k + 1 => by rw [rep, List.length_append, rep_len u k, Nat.succ_mul]
theorem cl_len : ∀ k, (cl k).length = k * 3
  | 0 => rfl
  | k + 1 => by rw [cl, List.length_append, cl_len k]; simp; omega
def L0 (n : Nat) : Str := wClass ++ cl n ++ [59]
def L1 (n : Nat) : Str := wClass ++ [32, 65, 59] ++ rep [107, 101, 101, 112, 32, 65, 32, 47, 32, 65, 59] n
def L2 (n : Nat) : Str := wClass ++ [32, 65, 59, 32, 109, 97, 121, 32] ++ rep [65, 32] n ++ [47, 59]
def L3 (n : Nat) : Str := wClass ++ [32, 65, 59, 32, 109, 97, 121, 32] ++ rep [40] n ++ [65] ++ rep [41] n ++ [47, 59]
end Rl
def chkOk (F : Rl.R Rl.St) : Bool := match F with
  | .ok _ => true
  | .error _ => false
theorem chk_ok {F : Rl.R Rl.St} (h : chkOk F = true) : ∃ s, F = .ok s := by
  cases F with
  | ok s => exact ⟨s, rfl⟩
  | error f => cases h
theorem lim01 : Rl.plain (Rl.L0 25) = .error (24, 78) := chk_e (by kernel_rfl)
theorem lim11 : Rl.plain (Rl.L1 25) = .error (24, 272) := chk_e (by kernel_rfl)
theorem lim31 : Rl.plain (Rl.L3 17) = .error (25, 29) := chk_e (by kernel_rfl)
theorem lim00 : ∃ s, Rl.plain (Rl.L0 24) = .ok s := chk_ok (by kernel_rfl)
theorem lim10 : ∃ s, Rl.plain (Rl.L1 24) = .ok s := chk_ok (by kernel_rfl)
theorem lim30 : ∃ s, Rl.plain (Rl.L3 16) = .ok s := chk_ok (by kernel_rfl)
theorem lim21 : Rl.plain (Rl.L2 201) = .error (26, 413) := chk_e (by kernel_rfl)
theorem lim20 : ∃ s, Rl.plain (Rl.L2 200) = .ok s := chk_ok (by kernel_rfl)
end Go.Proofs.Ytahoepmnekconaa
namespace Go.Proofs.Ytahoepmnekconaa
open Go.RowKit Go.Maps
set_option linter.unusedVariables false
set_option linter.unusedSimpArgs false
namespace Rl
def e1 (k : Nat) : Str := [(97 + k).toUInt8]
def el (k : Nat) : Str := [32, 99, (97 + k).toUInt8]
def M0 (k : Nat) : Str := wClass ++ cl k
def M2 (k : Nat) : Str := wClass ++ [32, 65, 59, 32, 109, 97, 121, 32] ++ rep [65, 32] k
def M3 (k : Nat) : Str := wClass ++ [32, 65, 59, 32, 109, 97, 121, 32] ++ rep [40] k
def M4 (n k : Nat) : Str := wClass ++ [32, 65, 59, 32, 109, 97, 121, 32] ++ rep [40] n ++ [65] ++ rep [41] k
end Rl
theorem parse_e {l : Rl.Str} {c i : Nat} (h : Rl.plain l = .error (c, i)) (hl : l.length ≤ 4096) (w : World) : Calls Try.prog 12 #[.string (bs l)] w fun e w' => e = .returned (.tuple #[.agg #[.slice none 0 0, .int .u32 0, .int .u32 0, .slice none 0 0, .slice none 0 0], .agg #[.int .i64 (c : Int), .int .i64 (i : Int)]]) ∧ Only (fun _ => False) w w' := by
  refine (parse_all _ _ w (rdw h hl : rd (bs l) (.error (c, i)))).mono ?_
  rintro e w' ⟨h1, h2⟩
  exact ⟨h1, h2⟩
theorem parse_o {l : Rl.Str} {s : Rl.St} (h : Rl.plain l = .ok s) (hl : l.length ≤ 4096) (w : World) : Calls Try.prog 12 #[.string (bs l)] w fun e w' => ∃ aC nC cC aT nT cT aL nL cL j a, e = .returned (.tuple #[.agg #[.slice aC nC cC, .int .u32 j, .int .u32 a, .slice aT nT cT, .slice aL nL cL], .agg #[.int .i64 0, .int .i64 0]]) ∧ Only (fun _ => False) w w' := by
  refine (parse_all _ _ w (rdw h hl : rd (bs l) (.ok s))).mono ?_
  rintro e w' ⟨⟨v, B, rfl, hB, hV⟩, ho⟩
  obtain ⟨aC, aT, aL, cC, cT, cL, rfl, _⟩ := hV
  exact ⟨aC, _, cC, aT, _, cT, aL, _, cL, _, _, rfl, ho⟩
end Go.Proofs.Ytahoepmnekconaa
