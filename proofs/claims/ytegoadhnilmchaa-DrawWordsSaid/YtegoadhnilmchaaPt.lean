/-
  Parts of a text, and the document's; its bytes.
-/
import Derived.Test.YtegoadhnilmchaaVb
namespace Go.Proofs.Ytegoadhnilmchaa
open Go.RowKit Go.Maps
set_option linter.unusedVariables false
set_option linter.unusedSimpArgs false
namespace It
def parts (O : List Nat) (k : Nat) : List Nat := (List.range k).filter (fun i => O.getD i 0 == 2)
end It
namespace It
theorem parts_yes {O : List Nat} {k : Nat} (h : O.getD k 0 = 2) : parts O (k + 1) = parts O k ++ [k] := by
  unfold parts
  rw [List.range_succ, List.filter_append]
  have : (O.getD k 0 == 2) = true := beq_iff_eq.2 h
  simp only [List.filter_cons, this, List.filter_nil]
  simp
end It
namespace It
theorem parts_no {O : List Nat} {k : Nat} (h : O.getD k 0 ≠ 2) : parts O (k + 1) = parts O k := by
  unfold parts
  rw [List.range_succ, List.filter_append]
  have : (O.getD k 0 == 2) = false := beq_eq_false_iff_ne.2 h
  simp only [List.filter_cons, this, List.filter_nil]
  simp
end It
namespace It
theorem parts_len (O : List Nat) (k : Nat) : (parts O k).length ≤ k := by
  unfold parts
  have := List.length_filter_le (fun i => O.getD i 0 == 2) (List.range k)
  simpa using this
end It
def ptP (L : List Nat) (w : World) (e : Ending) (w' : World) : Prop := ∃ (a : Option Addr) (c : Nat), e = .returned (.slice a L.length c) ∧ w'.ownsRow w.heap.size 3 1 (.slice a L.length c) L.length (natI L) ∧ Only (fun _ => False) w w'
set_option maxRecDepth 100000 in
set_option maxHeartbeats 4000000 in
theorem refParts_any (nC : Nat) (aC : Option Addr) (cC : Nat) (O : List Nat) (aO : Option Addr) (cO : Nat) (w : World) (hV : Vw w aO (u8s O)) (hk : ∀ x ∈ O, x < 256) (hO : O.length ≤ 100000) :
    Calls Try.prog 22 #[.agg #[.slice aC nC cC, .slice aO O.length cO]] w (ptP (It.parts O O.length) w) := by
  obtain ⟨i3, g3, g30, g31, g32⟩ := info_parts info3
  have HV : Hid (Vw w aO (u8s O) ∧ ∀ x ∈ O, x < 256) := ⟨hV, hk⟩
  obtain ⟨n, hn'⟩ : ∃ n, n = O.length := ⟨_, rfl⟩
  have HN : Hid (n = O.length) := hn'
  rw [← hn'] at hO ⊢
  clear hV hk hn'
  go_enter Try.func22, Try.ntmps22
  go_wp2_with fail
  obtain ⟨w0, hw0⟩ : ∃ Z, Z = w.alloc (.cells #[.slice aC nC cC, .slice aO n cO] 31) := ⟨_, rfl⟩
  rw [← hw0]
  obtain ⟨R, hR⟩ : ∃ b, b = w.heap.size := ⟨_, rfl⟩
  rw [← hR]
  have H0 : Hid (Only (fun _ => False) w w0 ∧ w0.heap[R]? = some (.cells #[.slice aC nC cC, .slice aO n cO] 31 (0, 0)) ∧ R = w.heap.size) := by
    rw [hw0, hR]
    exact ⟨(Only.refl _ _).alloc _, heap_alloc_new w _, rfl⟩
  have hs0 := H0.out.1.size
  have lR0 : R < w0.heap.size := (Array.getElem?_eq_some_iff.1 H0.out.2.1).1
  clear hw0 hR
  go_loopg [3, 4] n (fun gh v3 v9 wr => ∃ (i k : Nat) (a : Option Addr) (c : Nat) (W : World), W = wr ∧ gh = n - i ∧ i ≤ n ∧ v3 = .slice a k c ∧ v9 = .int .i64 (i : Int) ∧ k ≤ i ∧ k = (It.parts O i).length ∧ W.ownsRow w0.heap.size 3 1 (.slice a k c) k (natI (It.parts O i)) ∧ Only (fun b => w0.heap.size ≤ b) w0 W)
  case atStart => exact ⟨0, 0, none, 0, _, rfl, rfl, Nat.zero_le _, rfl, rfl, Nat.le_refl _, rfl, ⟨rfl, Or.inl ⟨rfl, rfl⟩⟩, Only.refl _ _⟩
  case round =>
    obtain ⟨i, k, a, c, W, hW, rfl, hi, rfl, rfl, hki, hk, hown, hoW⟩ := hrel
    subst hW
    have HG : Hid (W.ownsRow w0.heap.size 3 1 (.slice a k c) k (natI (It.parts O i)) ∧ Only (fun b => w0.heap.size ≤ b) w0 W ∧ k = (It.parts O i).length ∧ Only (fun _ => False) w W) := ⟨hown, hoW, hk, H0.out.1.trans (hoW.old (fun b hb => Or.inl hb))⟩
    have hsz := hoW.size
    have hbR : W.heap[R]? = some (.cells #[.slice aC nC cC, .slice aO n cO] 31 (0, 0)) := (hoW.block R lR0 (by omega)).trans H0.out.2.1
    have r0 : W.cell? ⟨R, 1, none⟩ = some (.slice aO n cO) := cell_blk hbR
    have lRW : R < W.heap.size := by omega
    clear hown hoW hk hbR
    have HVA : Hid ((W.alloc (.cells #[.int .i64 (i : Int)] 3)).heap[W.heap.size]? = some (.cells #[.int .i64 (i : Int)] 3 (0, 0)) ∧ (W.alloc (.cells #[.int .i64 (i : Int)] 3)).heap.size = W.heap.size + 1) := ⟨heap_alloc_new W _, by simp⟩
    by_cases hlt : i < n
    · have t1 : (i : Int) < (n : Int) := by omega
      obtain ⟨x, hx⟩ : ∃ x, O[i]? = some x := ⟨_, List.getElem?_eq_getElem (by rw [← HN.out]; exact hlt)⟩
      obtain ⟨b0, off, e0, hb0, hc⟩ := (HV.out.1.keep HG.out.2.2.2).cells (by rw [u8s_len, ← HN.out]; omega)
      subst e0
      have c1 := hc i _ (u8s_at hx)
      have hx8 : x < 256 := HV.out.2 x (List.mem_of_getElem? hx)
      have hdx : O.getD i 0 = x := by rw [List.getD_eq_getElem?_getD, hx]; rfl
      by_cases hx2 : x = 2
      · have t2 : ((x : Int) == 2) = true := by rw [beq_iff_eq]; omega
        have HC : Hid (O.getD i 0 = 2) := (by rw [hdx]; exact hx2 : O.getD i 0 = 2)
        clear hx hc hdx hx2
        go_wp2_with (at_builtin; (refine wpList_append_lies _ rfl _ _ 58 rfl w0.heap.size 3 i3 (.int .i64 0) 1 8 Try.underlying58 g3 g30 g31 g32 rfl (by decide) (.slice a k c) k (natI (It.parts O i)) rfl (HG.out.1.alloc _) ⟨W.heap.size, 0, none⟩ 1 1 [.int .i64 (i : Int)] rfl rfl (World.news_of_block (cs := #[.int .i64 (i : Int)]) HVA.out.1) (fun u hu => by simp at hu; rcases hu with rfl; rfl) (by decide) (by unfold maxLen; omega) (by omega) (by rw [HVA.out.2]; omega) (W.heap.size + 1) HVA.out.2 ?_; intro g5 cap5 w5 hown5 hgrow5 hat5 hlt5; have hoo : Only (fun b => (Value.slice a k c).ownBlock = some b) W w5 := (((Only.refl (fun b => (Value.slice a k c).ownBlock = some b) W).alloc _)).grown hgrow5 (fun k hk => hk); have H5 : Hid (w5.ownsRow w0.heap.size 3 1 (.slice (some ⟨g5, 0, none⟩) (k + 1) cap5) (k + 1) (natI (It.parts O (i + 1))) ∧ Only (fun b => w0.heap.size ≤ b) w0 w5) := ⟨by rw [It.parts_yes HC.out, natI_snoc]; exact hown5, HG.out.2.1.trans (hoo.mono (fun b hb => (own_own HG.out.1 hb).1))⟩; clear hown5 hgrow5 hat5 hoo))
        go_roundg (n - (i + 1))
        case measure => omega
        case rel => exact ⟨i + 1, k + 1, _, _, _, rfl, rfl, by omega, rfl, by go_num, by omega, by rw [It.parts_yes HC.out, List.length_append, ← HG.out.2.2.1]; rfl, H5.out.1, H5.out.2⟩
      · have t2 : ((x : Int) == 2) = false := by rw [beq_eq_false_iff_ne]; omega
        have HC : Hid (O.getD i 0 ≠ 2) := (by rw [hdx]; exact hx2 : O.getD i 0 ≠ 2)
        clear hx hc hdx hx2
        go_wp2_with fail
        go_roundg (n - (i + 1))
        case measure => omega
        case rel => exact ⟨i + 1, k, _, _, _, rfl, rfl, by omega, rfl, by go_num, by omega, by rw [It.parts_no HC.out, ← HG.out.2.2.1], by rw [It.parts_no HC.out]; exact HG.out.1, HG.out.2.1⟩
    · have t1 : decide ((i : Int) < (n : Int)) = false := decide_eq_false (by omega)
      have hin : i = n := by omega
      subst hin
      go_wp2_with fail
      go_ret
      have e : (It.parts O i).length = k := HG.out.2.2.1.symm
      refine ⟨a, c, by rw [e]; rfl, by rw [e]; exact own_base2 HG.out.1 hs0, HG.out.2.2.2⟩
end Go.Proofs.Ytegoadhnilmchaa

