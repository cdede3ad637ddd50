/-
  cells.begins, kindOf.
-/
import Derived.Test.YtlcpfheocenjfaaVb
import Derived.Test.YtlcpfheocenjfaaCe0
namespace Go.Proofs.Ytlcpfheocenjfaa
open Go.RowKit Go.Maps
set_option linter.unusedVariables false
set_option linter.unusedSimpArgs false
def bgP (M : List Nat) (n : Nat) (w : World) (e : Ending) (w' : World) : Prop := ∃ (a : Option Addr) (c : Nat), e = .returned (.slice a (Ce.starts M n).length c) ∧ w'.ownsRow w.heap.size 3 1 (.slice a (Ce.starts M n).length c) (Ce.starts M n).length (natI (Ce.starts M n)) ∧ Only (fun _ => False) w w'
theorem cut_lt {M : List Nat} {i x : Nat} (h : M[i]? = some x) (hi : i ≠ 0) : Ce.cut M i = (x != 0) := by
  unfold Ce.cut
  rw [List.getD_eq_getElem?_getD, h]
  cases i with
  | zero => exact (hi rfl).elim
  | succ i => rfl
theorem cut_ge {M : List Nat} {i : Nat} (h : M.length ≤ i) (hi : i ≠ 0) : Ce.cut M i = false := by
  unfold Ce.cut
  rw [List.getD_eq_getElem?_getD, List.getElem?_eq_none h]
  cases i with
  | zero => exact (hi rfl).elim
  | succ i => rfl
set_option maxRecDepth 100000 in
set_option maxHeartbeats 4000000 in
theorem begins_cuts (n : Nat) (M : List Nat) (a0 : Option Addr) (c0 : Nat) (w : World) (hV : Vw w a0 (u8s M)) (hB : ∀ x ∈ M, x < 256) (hn : n ≤ 1000000) (hm : M.length ≤ maxLen) : Calls Try.prog 41 #[.int .i64 (n : Int), .slice a0 M.length c0] w (bgP M n w) := by
  obtain ⟨i3, g3, g30, g31, g32⟩ := info_parts info3
  have HV : Hid (Vw w a0 (u8s M)) := hV
  have HB : Hid (∀ x ∈ M, x < 256) := hB
  obtain ⟨m, hm'⟩ : ∃ m, m = M.length := ⟨_, rfl⟩
  have HM : Hid (m = M.length) := hm'
  rw [← hm'] at hm ⊢
  unfold maxLen at hm
  clear hV hB hm'
  go_enter Try.func41, Try.ntmps41
  go_wp2_with fail
  go_loopg [5, 8] n (fun gh v5 v8 wr => ∃ (i k : Nat) (a : Option Addr) (c : Nat) (W : World), W = wr ∧ gh = n - i ∧ i ≤ n ∧ v5 = .slice a k c ∧ v8 = .int .i64 (i : Int) ∧ k ≤ i ∧ k = (Ce.st M i).length ∧ W.ownsRow w.heap.size 3 1 (.slice a k c) k (natI (Ce.st M i)) ∧ Only (fun b => w.heap.size ≤ b) w W)
  case atStart => exact ⟨0, 0, none, 0, _, rfl, rfl, Nat.zero_le _, rfl, rfl, Nat.le_refl _, rfl, ⟨rfl, Or.inl ⟨rfl, rfl⟩⟩, Only.refl _ _⟩
  case round =>
    obtain ⟨i, k, a, c, W, hW, rfl, hi, rfl, rfl, hki, hk, hown, hoW⟩ := hrel
    subst hW
    have HG : Hid (W.ownsRow w.heap.size 3 1 (.slice a k c) k (natI (Ce.st M i)) ∧ Only (fun b => w.heap.size ≤ b) w W ∧ k = (Ce.st M i).length) := ⟨hown, hoW, hk⟩
    have hsz := hoW.size
    clear hown hoW hk
    have HVA : Hid ((W.alloc (.cells #[.int .i64 (i : Int)] 3)).heap[W.heap.size]? = some (.cells #[.int .i64 (i : Int)] 3 (0, 0)) ∧ (W.alloc (.cells #[.int .i64 (i : Int)] 3)).heap.size = W.heap.size + 1) := ⟨heap_alloc_new W _, by simp⟩
    by_cases hlt : i < n
    · have t1 : (i : Int) < (n : Int) := by omega
      by_cases h0 : i = 0
      · have t2 : ((i : Int) == 0) = true := by rw [beq_iff_eq]; omega
        have HC : Hid (Ce.cut M i = true) := (by rw [h0]; rfl : Ce.cut M i = true)
        have HI0 : Hid (i = 0) := h0
        clear h0
        go_wp2_with (at_builtin; (refine wpList_append_lies _ rfl _ _ 35 rfl w.heap.size 3 i3 (.int .i64 0) 1 8 Try.underlying35 g3 g30 g31 g32 rfl (by decide) (.slice a k c) k (natI (Ce.st M i)) rfl (HG.out.1.alloc _) ⟨W.heap.size, 0, none⟩ 1 1 [.int .i64 (i : Int)] rfl rfl (World.news_of_block (cs := #[.int .i64 (i : Int)]) HVA.out.1) (fun u hu => by simp at hu; rcases hu with rfl; rfl) (by decide) (by unfold maxLen; omega) (by omega) (by rw [HVA.out.2]; omega) (W.heap.size + 1) HVA.out.2 ?_; intro g5 cap5 w5 hown5 hgrow5 hat5 hlt5; have hoo : Only (fun b => (Value.slice a k c).ownBlock = some b) W w5 := (((Only.refl (fun b => (Value.slice a k c).ownBlock = some b) W).alloc _)).grown hgrow5 (fun k hk => hk); have H5 : Hid (w5.ownsRow w.heap.size 3 1 (.slice (some ⟨g5, 0, none⟩) (k + 1) cap5) (k + 1) (natI (Ce.st M (i + 1))) ∧ Only (fun b => w.heap.size ≤ b) w w5) := ⟨by rw [Ce.st_yes HC.out]; rw [natI_snoc]; exact hown5, HG.out.2.1.trans (hoo.mono (fun b hb => (own_own HG.out.1 hb).1))⟩; clear hown5 hgrow5 hat5 hoo))
        go_roundg (n - (i + 1))
        case measure => omega
        case rel => exact ⟨i + 1, k + 1, _, _, _, rfl, rfl, by omega, rfl, by go_num, by omega, by rw [Ce.st_yes HC.out, List.length_append, ← HG.out.2.2]; rfl, H5.out.1, H5.out.2⟩
      · have t2 : ((i : Int) == 0) = false := by rw [beq_eq_false_iff_ne]; omega
        have t3 : ¬ (i : Int) = 0 := by omega
        by_cases him : i < m
        · have t4 : (i : Int) < (m : Int) := by omega
          obtain ⟨x, hx⟩ : ∃ x, M[i]? = some x := ⟨_, List.getElem?_eq_getElem (by rw [← HM.out]; omega)⟩
          obtain ⟨b0, off, e0, hb0, hc⟩ := (HV.out.keep (HG.out.2.1.old (fun b hb => Or.inl hb))).cells (by rw [u8s_len, ← HM.out]; omega)
          subst e0
          have c1 := hc i _ (u8s_at hx)
          have hx8 : x < 256 := HB.out x (List.mem_of_getElem? hx)
          have HX : Hid (Ce.cut M i = (x != 0)) := cut_lt hx h0
          clear hx hc
          by_cases hx0 : x = 0
          · have t5 : ((x : Int) != 0) = false := by simp; omega
            have t6 : ((x : Int) == 0) = true := by rw [beq_iff_eq]; omega
            have HC : Hid (Ce.cut M i = false) := (by rw [HX.out, hx0]; rfl : Ce.cut M i = false)
            clear hx0
            go_wp2_with fail
            go_roundg (n - (i + 1))
            case measure => omega
            case rel => exact ⟨i + 1, k, _, _, _, rfl, rfl, by omega, rfl, by go_num, by omega, by rw [Ce.st_no HC.out, ← HG.out.2.2], by rw [Ce.st_no HC.out]; exact HG.out.1, HG.out.2.1⟩
          · have t5 : ((x : Int) != 0) = true := by simp; omega
            have t6 : ((x : Int) == 0) = false := by rw [beq_eq_false_iff_ne]; omega
            have HC : Hid (Ce.cut M i = true) := (by rw [HX.out]; simpa using hx0 : Ce.cut M i = true)
            clear hx0
            go_wp2_with (at_builtin; (refine wpList_append_lies _ rfl _ _ 35 rfl w.heap.size 3 i3 (.int .i64 0) 1 8 Try.underlying35 g3 g30 g31 g32 rfl (by decide) (.slice a k c) k (natI (Ce.st M i)) rfl (HG.out.1.alloc _) ⟨W.heap.size, 0, none⟩ 1 1 [.int .i64 (i : Int)] rfl rfl (World.news_of_block (cs := #[.int .i64 (i : Int)]) HVA.out.1) (fun u hu => by simp at hu; rcases hu with rfl; rfl) (by decide) (by unfold maxLen; omega) (by omega) (by rw [HVA.out.2]; omega) (W.heap.size + 1) HVA.out.2 ?_; intro g5 cap5 w5 hown5 hgrow5 hat5 hlt5; have hoo : Only (fun b => (Value.slice a k c).ownBlock = some b) W w5 := (((Only.refl (fun b => (Value.slice a k c).ownBlock = some b) W).alloc _)).grown hgrow5 (fun k hk => hk); have H5 : Hid (w5.ownsRow w.heap.size 3 1 (.slice (some ⟨g5, 0, none⟩) (k + 1) cap5) (k + 1) (natI (Ce.st M (i + 1))) ∧ Only (fun b => w.heap.size ≤ b) w w5) := ⟨by rw [Ce.st_yes HC.out]; rw [natI_snoc]; exact hown5, HG.out.2.1.trans (hoo.mono (fun b hb => (own_own HG.out.1 hb).1))⟩; clear hown5 hgrow5 hat5 hoo))
            go_roundg (n - (i + 1))
            case measure => omega
            case rel => exact ⟨i + 1, k + 1, _, _, _, rfl, rfl, by omega, rfl, by go_num, by omega, by rw [Ce.st_yes HC.out, List.length_append, ← HG.out.2.2]; rfl, H5.out.1, H5.out.2⟩
        · have t4 : decide ((i : Int) < (m : Int)) = false := decide_eq_false (by omega)
          have HC : Hid (Ce.cut M i = false) := cut_ge (by rw [← HM.out]; omega) h0
          go_wp2_with fail
          go_roundg (n - (i + 1))
          case measure => omega
          case rel => exact ⟨i + 1, k, _, _, _, rfl, rfl, by omega, rfl, by go_num, by omega, by rw [Ce.st_no HC.out, ← HG.out.2.2], by rw [Ce.st_no HC.out]; exact HG.out.1, HG.out.2.1⟩
    · have t1 : decide ((i : Int) < (n : Int)) = false := decide_eq_false (by omega)
      have hin : i = n := by omega
      subst hin
      go_wp2_with (at_builtin; (refine wpList_append_lies _ rfl _ _ 35 rfl w.heap.size 3 i3 (.int .i64 0) 1 8 Try.underlying35 g3 g30 g31 g32 rfl (by decide) (.slice a k c) k (natI (Ce.st M i)) rfl (HG.out.1.alloc _) ⟨W.heap.size, 0, none⟩ 1 1 [.int .i64 (i : Int)] rfl rfl (World.news_of_block (cs := #[.int .i64 (i : Int)]) HVA.out.1) (fun u hu => by simp at hu; rcases hu with rfl; rfl) (by decide) (by unfold maxLen; omega) (by omega) (by rw [HVA.out.2]; omega) (W.heap.size + 1) HVA.out.2 ?_; intro g5 cap5 w5 hown5 hgrow5 hat5 hlt5; have hoo : Only (fun b => (Value.slice a k c).ownBlock = some b) W w5 := (((Only.refl (fun b => (Value.slice a k c).ownBlock = some b) W).alloc _)).grown hgrow5 (fun k hk => hk); have H5 : Hid (w5.ownsRow w.heap.size 3 1 (.slice (some ⟨g5, 0, none⟩) (k + 1) cap5) (k + 1) (natI (Ce.starts M i)) ∧ Only (fun b => w.heap.size ≤ b) w w5) := ⟨by unfold Ce.starts; rw [natI_snoc]; exact hown5, HG.out.2.1.trans (hoo.mono (fun b hb => (own_own HG.out.1 hb).1))⟩; clear hown5 hgrow5 hat5 hoo))
      go_ret
      have e : (Ce.starts M i).length = k + 1 := by rw [Ce.starts_len, ← HG.out.2.2]
      unfold bgP
      rw [e]
      exact ⟨_, _, rfl, H5.out.1, H5.out.2.old (fun b hb => Or.inl hb)⟩
end Go.Proofs.Ytlcpfheocenjfaa
