/-
  Slices that are read, in plain words; numbers as marks: what may be done.
-/
import Derived.Test.YtlcpfheocenjfaaBs
import Derived.Deep.QuietTactic
import Derived.BigQuiet
namespace Go.Proofs.Ytlcpfheocenjfaa
open Go.RowKit Go.Maps
set_option linter.unusedVariables false
set_option linter.unusedSimpArgs false
/-- a slice that is read: these cells, one behind the other. -/
def Vw (w : World) (a : Option Addr) (xs : List Value) : Prop := xs = [] ∨ ∃ b off, a = some ⟨b, off, none⟩ ∧ ∀ j u, xs[j]? = some u → w.cell? ⟨b, off + j, none⟩ = some u
theorem Vw.keep {w w' : World} {a : Option Addr} {xs : List Value} (h : Vw w a xs) (ho : Only (fun _ => False) w w') : Vw w' a xs := by
  rcases h with h | ⟨b, off, e, hc⟩
  · exact Or.inl h
  · exact Or.inr ⟨b, off, e, fun j u hj => keep0 ho (hc j u hj)⟩
theorem keepS {S : Nat → Prop} {w w' : World} {b k : Nat} {v : Value} (h : Only S w w') (hc : w.cell? ⟨b, k, none⟩ = some v) (hb : ¬ S b) : w'.cell? ⟨b, k, none⟩ = some v := (World.cell?_of_block (a := ⟨b, k, none⟩) (h.block b (World.block_lt_of_cell? w _ hc) hb)).trans hc
theorem Vw.cells {w : World} {a : Option Addr} {xs : List Value} (h : Vw w a xs) (hx : 0 < xs.length) : ∃ b off, a = some ⟨b, off, none⟩ ∧ b < w.heap.size ∧ ∀ j u, xs[j]? = some u → w.cell? ⟨b, off + j, none⟩ = some u := by
  rcases h with h | ⟨b, off, e, hc⟩
  · subst h; simp at hx
  · exact ⟨b, off, e, World.block_lt_of_cell? w ⟨b, off + 0, none⟩ (hc 0 _ (List.getElem?_eq_getElem hx)), hc⟩
theorem Vw.nil (w : World) (a : Option Addr) : Vw w a [] := Or.inl rfl
theorem own_vw {w : World} {base e size n c : Nat} {a : Option Addr} {xs : List Value} (h : w.ownsRow base e size (.slice a n c) n xs) : Vw w a xs := by
  obtain ⟨hl, ⟨hv, h0⟩ | ⟨g, cap, cur, hv, hb, hh, h1, h2, h3, h4⟩⟩ := h
  · exact Or.inl (List.eq_nil_of_length_eq_zero (by rw [hl, h0, Nat.zero_mul]))
  · injection hv with e1
    refine Or.inr ⟨g, 0, e1, fun j u hj => ?_⟩
    rw [Nat.zero_add]
    refine (cell_of_row _ _ _ _ _ _ hh).trans ?_
    rw [← h4, List.getElem?_take] at hj
    split at hj
    · rw [Array.getElem?_toList] at hj
      exact hj
    · cases hj
/-- numbers of eight bits as cells. -/
def u8s (L : List Nat) : List Value := L.map fun (x : Nat) => .int .u8 (x : Int)
theorem u8s_len (L : List Nat) : (u8s L).length = L.length := by simp [u8s]
theorem u8s_snoc (L : List Nat) (x : Nat) : u8s (L ++ [x]) = u8s L ++ [.int .u8 (x : Int)] := by simp [u8s]
theorem u8s_at {L : List Nat} {k x : Nat} (h : L[k]? = some x) : (u8s L)[k]? = some (.int .u8 (x : Int)) := by
  unfold u8s
  rw [List.getElem?_map, h]; rfl
theorem natI_get {L : List Nat} {k x : Nat} (h : L[k]? = some x) : (natI L)[k]? = some (.int .i64 (x : Int)) := by
  unfold natI
  rw [List.getElem?_map, h]; rfl
theorem u8s_one (L : List Nat) : ∀ u ∈ u8s L, u.oneCell' = true := by
  intro u hu
  obtain ⟨x, _, rfl⟩ := List.mem_map.1 hu
  rfl
theorem take_snoc {α : Type} {L : List α} {i : Nat} {x : α} (h : L[i]? = some x) : L.take (i + 1) = L.take i ++ [x] := by
  obtain ⟨hl, he⟩ := List.getElem?_eq_some_iff.1 h
  rw [List.take_add_one, h]
  rfl
theorem info3 : (Try.prog.info? 3).map (fun i => (i.zero, i.size, i.bytes)) = some (some (.int .i64 0), 1, 8) := by kernel_rfl
theorem info54 : (Try.prog.info? 54).map (fun i => (i.zero, i.size, i.bytes)) = some (some (.int .u8 0), 1, 1) := by kernel_rfl
theorem info48 : (Try.prog.info? 48).map (fun i => (i.zero, i.size, i.bytes)) = some (some (.agg #[.int .i64 0, .int .i64 0, .int .i64 0, .int .u8 0]), 4, 32) := by kernel_rfl
def opP (L : List Nat) (w : World) (e : Ending) (w' : World) : Prop := ∃ (a : Option Addr) (c : Nat), e = .returned (.slice a L.length c) ∧ w'.ownsRow w.heap.size 54 1 (.slice a L.length c) L.length (u8s L) ∧ Only (fun _ => False) w w'
set_option maxRecDepth 100000 in
set_option maxHeartbeats 4000000 in
theorem opps_any (L : List Nat) (a0 : Option Addr) (c0 : Nat) (w : World) (hV : Vw w a0 (u8s L)) (hB : ∀ x ∈ L, x < 256) (hn : L.length ≤ 140737488355328) : Calls Try.prog 19 #[.slice a0 L.length c0] w (opP L w) := by
  obtain ⟨i3, g3, g30, g31, g32⟩ := info_parts info54
  have HV : Hid (Vw w a0 (u8s L)) := hV
  have HB : Hid (∀ x ∈ L, x < 256) := hB
  obtain ⟨n, hn'⟩ : ∃ n, n = L.length := ⟨_, rfl⟩
  have HN : Hid (n = L.length) := hn'
  unfold opP
  rw [← hn'] at hn ⊢

  clear hV hB hn'
  go_enter Try.func19, Try.ntmps19
  go_wp2_with fail
  go_loopg [3, 4] n (fun gh v2 v3 wr => ∃ (i : Nat) (a : Option Addr) (c : Nat) (W : World), W = wr ∧ gh = n - i ∧ i ≤ n ∧ v2 = .slice a i c ∧ v3 = .int .i64 (i : Int) ∧ W.ownsRow w.heap.size 54 1 (.slice a i c) i (u8s (L.take i)) ∧ Only (fun b => w.heap.size ≤ b) w W)
  case atStart => exact ⟨0, none, 0, _, rfl, rfl, Nat.zero_le _, rfl, rfl, ⟨rfl, Or.inl ⟨rfl, rfl⟩⟩, Only.refl _ _⟩
  case round =>
    obtain ⟨i, a, c, W, hW, rfl, hi, rfl, rfl, hown, hoW⟩ := hrel
    subst hW
    have HG : Hid (W.ownsRow w.heap.size 54 1 (.slice a i c) i (u8s (L.take i)) ∧ Only (fun b => w.heap.size ≤ b) w W) := ⟨hown, hoW⟩
    have hsz := hoW.size
    clear hown hoW
    by_cases hlt : i < n
    · have t1 : (i : Int) < (n : Int) := by omega
      obtain ⟨x, hx⟩ : ∃ x, L[i]? = some x := ⟨_, List.getElem?_eq_getElem (by rw [← HN.out]; omega)⟩
      obtain ⟨b0, off, e0, hb0, hc⟩ := (HV.out.keep (HG.out.2.old (fun b hb => Or.inl hb))).cells (by rw [u8s_len, ← HN.out]; omega)
      subst e0
      have c1 := hc i _ (u8s_at hx)
      have hx8 : x < 256 := HB.out x (List.mem_of_getElem? hx)
      have HT : Hid (L.take (i + 1) = L.take i ++ [x]) := take_snoc hx
      clear hx hc
      have HVA : Hid ((W.alloc (.cells #[.int .u8 (x : Int)] 54)).heap[W.heap.size]? = some (.cells #[.int .u8 (x : Int)] 54 (0, 0)) ∧ (W.alloc (.cells #[.int .u8 (x : Int)] 54)).heap.size = W.heap.size + 1) := ⟨heap_alloc_new W _, by simp⟩
      go_wp2_with (at_builtin; (refine wpList_append_lies _ rfl _ _ 38 rfl w.heap.size 54 i3 (.int .u8 0) 1 1 Try.underlying38 g3 g30 g31 g32 rfl (by decide) (.slice a i c) i (u8s (L.take i)) rfl (HG.out.1.alloc _) ⟨W.heap.size, 0, none⟩ 1 1 [.int .u8 (x : Int)] rfl rfl (World.news_of_block (cs := #[.int .u8 (x : Int)]) HVA.out.1) (fun u hu => by simp at hu; rcases hu with rfl; rfl) (by decide) (by unfold maxLen; omega) (by omega) (by rw [HVA.out.2]; omega) (W.heap.size + 1) HVA.out.2 ?_; intro g5 cap5 w5 hown5 hgrow5 hat5 hlt5; have hoo : Only (fun b => (Value.slice a i c).ownBlock = some b) W w5 := (((Only.refl (fun b => (Value.slice a i c).ownBlock = some b) W).alloc _)).grown hgrow5 (fun k hk => hk); have H5 : Hid (w5.ownsRow w.heap.size 54 1 (.slice (some ⟨g5, 0, none⟩) (i + 1) cap5) (i + 1) (u8s (L.take (i + 1))) ∧ Only (fun b => w.heap.size ≤ b) w w5) := ⟨by rw [HT.out, u8s_snoc]; exact hown5, HG.out.2.trans (hoo.mono (fun b hb => (own_own HG.out.1 hb).1))⟩; clear hown5 hgrow5 hat5 hoo))
      go_roundg (n - (i + 1))
      case measure => omega
      case rel => exact ⟨i + 1, _, _, _, rfl, rfl, by omega, rfl, by go_num, H5.out.1, H5.out.2⟩
    · have t1 : decide ((i : Int) < (n : Int)) = false := decide_eq_false (by omega)
      have hin : i = n := by omega
      subst hin
      have HE : Hid (L.take i = L) := (by rw [HN.out]; exact List.take_length : L.take i = L)
      go_wp2_with fail
      go_ret
      exact ⟨a, c, rfl, by have := HG.out.1; rw [HE.out] at this; exact this, HG.out.2.old (fun b hb => Or.inl hb)⟩
end Go.Proofs.Ytlcpfheocenjfaa
