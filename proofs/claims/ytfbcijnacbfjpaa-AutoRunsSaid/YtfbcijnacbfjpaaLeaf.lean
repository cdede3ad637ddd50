/-
  What the small functions on bytes return: isNameByte, letter, nameLen, blanks, strings.IndexByte.
-/
import Derived.Test.YtfbcijnacbfjpaaProg
import Derived.Test.YtfbcijnacbfjpaaMath
import Derived.WalkKit
import Derived.WalkSpells
import Derived.WalkLawsBesides
import Derived.Deep.QuietTactic
import Derived.BigQuiet
import Derived.Lib.Bytealg
namespace Go.Proofs.Ytfbcijnacbfjpaa
open Go.RowKit
set_option linter.unusedVariables false
set_option linter.unusedSimpArgs false

theorem u8_lt (c : UInt8) : c.toNat < 256 := c.toNat_lt

set_option maxRecDepth 100000 in
set_option maxHeartbeats 1000000 in
theorem isNameByte_any (c : UInt8) (w : World) : Calls Try.prog 81 #[.int .u8 (c.toNat : Int)] w fun e w' => e = .returned (.bool (Rl.isN c)) ∧ w' = w := by
  obtain ⟨n, hn⟩ : ∃ n : Int, n = (c.toNat : Int) := ⟨_, rfl⟩
  have HN : Hid (n = (c.toNat : Int)) := hn
  have h0 : 0 ≤ n := by omega
  have h1 : n < 256 := by have := u8_lt c; omega
  rw [← hn]
  clear hn
  go_enter Try.func81, Try.ntmps81
  go_wp2
  all_goals
    go_ret
    have hn := HN.out
    subst hn
    refine ⟨congrArg (fun b => Ending.returned (.bool b)) (?_ : _ = Rl.isN c), rfl⟩
    rw [Bool.eq_iff_iff]
    simp [Rl.isN]
    try omega
theorem drop_data {s : ByteArray} {k : Nat} (h : k < s.size) : s.data.toList.drop k = s[k] :: s.data.toList.drop (k + 1) := by
  have hl : k < s.data.toList.length := by rw [← Lib.size_eq]; exact h
  rw [List.drop_eq_getElem_cons hl]
  rfl
end Go.Proofs.Ytfbcijnacbfjpaa
