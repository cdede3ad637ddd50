/-
  least.Make of an automaton: the least one.
-/
import Derived.Test.YtelifjeppegcmaaNd
import Derived.Test.YtelifjeppegcmaaMb
import Derived.Test.YtelifjeppegcmaaGr
namespace Go.Proofs.Ytelifjeppegcmaa
open Go.RowKit Go.Maps
set_option linter.unusedVariables false
set_option linter.unusedSimpArgs false
theorem Ra.low {W : World} {lo lo' : Nat} {v : Value} {nx : List (List Nat)} {o : List Nat} (h : Ra W lo v nx o) (hl : lo' ≤ lo) : Ra W lo' v nx o := by
  obtain ⟨vX, vO, rows, h1, h2, h3, h4, h5⟩ := h
  exact ⟨vX, vO, rows, h1, h2, own_base h3 hl, fun i r L hr hL => own_base (h4 i r L hr hL) hl, own_base h5 hl⟩
theorem Ra.stay {S : Nat → Prop} {w w' : World} {lo : Nat} {v : Value} {nx : List (List Nat)} {o : List Nat} (h : Ra w lo v nx o) (ho : Only S w w') (hS : ∀ b, S b → b < lo) : Ra w' lo v nx o := by
  obtain ⟨vX, vO, rows, h1, h2, h3, h4, h5⟩ := h
  exact ⟨vX, vO, rows, h1, h2, own_stay h3 ho (fun q hq hs => by have := (own_own h3 hq).1; have := hS q hs; omega), fun i r L hr hL => own_stay (h4 i r L hr hL) ho (fun q hq hs => by have := (own_own (h4 i r L hr hL) hq).1; have := hS q hs; omega), own_stay h5 ho (fun q hq hs => by have := (own_own h5 hq).1; have := hS q hs; omega)⟩
/-- how Make ends. -/
def mkP (n nc : Nat) (nx : Nat → Nat → Nat) (O : Nat → Nat) (w : World) (e : Ending) (w' : World) : Prop := ∃ v rows outs r, e = .returned (.tuple #[v, .int .i64 0]) ∧ Ra w' w.heap.size v rows outs ∧ Hm.Lst n nc nx O rows outs r ∧ Only (fun _ => False) w w'
set_option maxRecDepth 100000 in
set_option maxHeartbeats 4000000 in
theorem make_any (n nc bn on cN bo oo co : Nat) (nx : Nat → Nat → Nat) (O : Nat → Nat) (w : World) (h0 : 0 < n) (hn : n ≤ 100000) (hc : nc ≤ 100000) (hN : Nxt w n nc bn on nx) (hO : ∀ s, s < n → w.cell? ⟨bo, oo + s, none⟩ = some (.int .u32 (O s : Int))) :
    Calls Try.prog 12 #[.agg #[.slice (some ⟨bn, on, none⟩) n cN, .slice (some ⟨bo, oo, none⟩) n co]] w (mkP n nc nx O w) := by
  have HN : Hid (Nxt w n nc bn on nx) := hN
  have HO : Hid (∀ s, s < n → w.cell? ⟨bo, oo + s, none⟩ = some (.int .u32 (O s : Int))) := hO
  clear hN hO
  have HT : Hid _ := two_at w (.cells #[.slice (some ⟨bn, on, none⟩) n cN, .slice (some ⟨bo, oo, none⟩) n co] 27) (.cells #[.slice none 0 0, .slice none 0 0] 27)
  go_enter Try.func12, Try.ntmps12
  go_wp2_with (go_at_call 10; refine (check_true _ co n nc bn on cN nx _ h0 hn hc (HN.out.keep HT.out.2.2.1)).mono ?_; rintro e w1 ⟨rfl, ho1⟩; have HO1 : Hid (Only (fun _ => False) w w1 ∧ w1.heap[w.heap.size]? = some (.cells #[.slice (some ⟨bn, on, none⟩) n cN, .slice (some ⟨bo, oo, none⟩) n co] 27 (0, 0)) ∧ w1.heap[w.heap.size + 1]? = some (.cells #[.slice none 0 0, .slice none 0 0] 27 (0, 0))) := ⟨HT.out.2.2.1.trans ho1, (ho1.block w.heap.size (by rw [HT.out.2.2.2]; omega) (fun h => h)).trans HT.out.1, (ho1.block (w.heap.size + 1) (by rw [HT.out.2.2.2]; omega) (fun h => h)).trans HT.out.2.1⟩; clear ho1)
  have lw1 : w.heap.size + 1 < w1.heap.size := (Array.getElem?_eq_some_iff.1 HO1.out.2.2).1
  have lw0 : w.heap.size < w1.heap.size := by omega
  have HK : Hid (∀ W, Only (fun b => b = w.heap.size + 1) w1 W → W.cell? ⟨w.heap.size, 0, none⟩ = some (.slice (some ⟨bn, on, none⟩) n cN) ∧ W.cell? ⟨w.heap.size, 1, none⟩ = some (.slice (some ⟨bo, oo, none⟩) n co)) := fun W ho => by
    have := (ho.block _ lw0 (by omega)).trans HO1.out.2.1
    exact ⟨cell_blk this, cell_blk this⟩
  have HR : Hid (∀ W, Only (fun _ => False) w1 W → W.heap[w.heap.size + 1]? = some (.cells #[.slice none 0 0, .slice none 0 0] 27 (0, 0))) := fun W ho => (ho.block _ lw1 (fun h => h)).trans HO1.out.2.2
  go_region_held3 (fun w' => w'.cell? ⟨w.heap.size, 0, none⟩ = some (.slice (some ⟨bn, on, none⟩) n cN) ∧ w'.cell? ⟨w.heap.size, 1, none⟩ = some (.slice (some ⟨bo, oo, none⟩) n co)) ((first | exact HK.out _ ((Only.refl (fun b => b = w.heap.size + 1) w1).drew) | exact HK.out _ (((ho3.mono (S' := fun b => b = w.heap.size + 1) (fun _ h => h.elim)).setCell (p := ⟨w.heap.size + 1, 0, none⟩) rfl _).setCell (p := ⟨w.heap.size + 1, 1, none⟩) rfl _) | exact HK.out _ (ho3.mono (S' := fun b => b = w.heap.size + 1) (fun _ h => h.elim)) | exact HK.out _ (ho2.mono (S' := fun b => b = w.heap.size + 1) (fun _ h => h.elim)))) ((first | (go_at_call 19; have hgd := ho2; refine (numbered_any n nc bn on cN bo oo co ob nx O of w2 h0 hn hc (HN.out.keep (HO1.out.1.trans ho2)) (fun s hs => keepC (HO1.out.1.trans ho2) (HO.out s hs)) HG.out.1 HG.out.2.1 HG.out.2.2.1 HG.out.2.2.2).mono ?_; clear hgd; rintro e w3 ⟨v3, rows, outs, r, rfl, hRa, hL, ho23⟩; obtain ⟨vX, vO, rws, rfl, hq1, hq2, hq3, hq4⟩ := hRa; obtain ⟨aX, kX, rfl⟩ := own_form hq2; obtain ⟨aO, kO, rfl⟩ := own_form hq4; have ho3 : Only (fun _ => False) w1 w3 := ho2.trans ho23; have H3 : Hid (Ra w3 w2.heap.size (.agg #[.slice aX rws.length kX, .slice aO outs.length kO]) rows outs ∧ Hm.Lst n nc nx O rows outs r ∧ Only (fun _ => False) w1 w3) := ⟨⟨_, _, rws, rfl, hq1, hq2, hq3, hq4⟩, hL, ho3⟩; have b3 := HR.out _ ho3; have d0 : w3.cell? ⟨w.heap.size + 1, 0, none⟩ = some (.slice none 0 0) := cell_blk b3; have d1 : w3.cell? ⟨w.heap.size + 1, 1, none⟩ = some (.slice none 0 0) := cell_blk b3; have f3 : ∀ y, w3.frozen? ⟨w.heap.size + 1, y, none⟩ = false := (fun y => fz_blk b3 y); have l3 : w.heap.size + 1 < w3.heap.size := World.block_lt_of_cell? w3 _ d0; clear hq1 hq2 hq3 hq4 hL ho23 b3) | (go_at_call 20; refine (grouped_any n nc bn on cN bo oo co nx O w1.drew h0 hn hc (HN.out.keep HO1.out.1.drew) (fun s hs => keepC HO1.out.1.drew (HO.out s hs))).mono ?_; rintro e w2 ⟨ob, of, rfl, hob, hNb, hol, hlt, hEq, ho2'⟩; have ho2 : Only (fun _ => False) w1 w2 := ((Only.refl (fun _ => False) w1).drew).trans ho2'; have HG : Hid (Nb w2 ob of ∧ of.length = n ∧ (∀ s, s < n → of[s]?.getD 0 < n) ∧ (∀ s t, s < n → t < n → (of[s]?.getD 0 = of[t]?.getD 0 ↔ Hm.Eqv nc nx O s t))) := ⟨hNb, hol, hlt, hEq⟩; clear hob hNb hol hlt hEq ho2')))
  all_goals
    go_wp2_with fail
    have hR3 := HR.out _ H3.out.2.2
    refine bodyPost_ret (v := .tuple #[.agg #[.slice aX rws.length kX, .slice aO outs.length kO], .int .i64 0]) (results_row1 (p := 2) (u := 3) rfl _ _ (w.heap.size + 1) 27 #[.slice aX rws.length kX, .slice aO outs.length kO] (0, 0) _ rfl (heap_setCell_at (heap_setCell_at hR3 _) _) Try.underlying27 rfl sz27 rfl) rfl ?_
    have o1 := ((Only.refl (fun b => b = w.heap.size + 1) w3).setCell (p := ⟨w.heap.size + 1, 0, none⟩) rfl (.slice aX rws.length kX)).setCell (p := ⟨w.heap.size + 1, 1, none⟩) rfl (.slice aO outs.length kO)
    have hs2 : w1.heap.size ≤ w2.heap.size := ho2.size
    refine ⟨_, rows, outs, r, rfl, (H3.out.1.stay o1 (fun b hb => by omega)).low (by omega), H3.out.2.1, ?_⟩
    exact (((HO1.out.1.trans H3.out.2.2).mono (S' := fun b => b = w.heap.size + 1) (fun _ h => h.elim)).trans o1).old (fun g hg => Or.inl (by omega))
end Go.Proofs.Ytelifjeppegcmaa
