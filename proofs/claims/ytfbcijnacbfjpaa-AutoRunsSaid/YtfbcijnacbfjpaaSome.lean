/-
  fresh, all, some, begins of the rules' reader.
-/
import Derived.Test.YtfbcijnacbfjpaaNames2
namespace Go.Proofs.Ytfbcijnacbfjpaa
open Go.RowKit Go.Maps
set_option linter.unusedVariables false
set_option linter.unusedSimpArgs false

theorem In.setOther {w : World} {rb : Nat} {S : ByteArray} {x : Rd} {ts : List Rl.Tk} (h : In w rb S x ts) {p : Addr} (hp : p.block ≠ rb) (v : Value) : In (w.setCell p v) rb S x ts := by
  obtain ⟨i, h1, h2⟩ := h
  exact ⟨i, h1.setOther hp v, h2⟩
theorem In.drewN {w : World} {rb : Nat} {S : ByteArray} {x : Rd} {ts : List Rl.Tk} (h : In w rb S x ts) (n : Nat) : In (w.drewN n) rb S x ts := h
theorem In.drew {w : World} {rb : Nat} {S : ByteArray} {x : Rd} {ts : List Rl.Tk} (h : In w rb S x ts) : In w.drew rb S x ts := h
theorem beq_dec (a b : Rl.Str) : (a == b) = decide (a = b) := by rw [Bool.eq_iff_iff]; simp
theorem beg_eq (t : Rl.Tk) : Rl.beg t = (Rl.isNm t || t.text == [46] || t.text == [91] || t.text == [40]) := by unfold Rl.beg; rw [beq_dec, beq_dec, beq_dec]
theorem pow24 : ∀ n : Fin 25, (2 ^ (n : Nat) % 4294967296 - 1) % 4294967296 = ((2 : Int) ^ (n : Nat) - 1) ∧ (2 : Int) ^ (n : Nat) % 4294967296 = 2 ^ (n : Nat) ∧ 1 ≤ (2 : Int) ^ (n : Nat) ∧ (2 : Int) ^ (n : Nat) ≤ 16777216 := by decide

set_option maxRecDepth 100000 in
set_option maxHeartbeats 2000000 in
theorem begins_any (t : Rl.Tk) (w : World) (hs : t.text.length ≤ 4096) : Calls Try.prog 91 #[.agg #[.string (bs t.text), .int .i64 (t.at' : Int)]] w fun e w' => e = .returned (.bool (Rl.beg t)) ∧ Only (fun _ => False) w w' := by
  have ht := bs_toList t.text
  have h1 : (⟨#[46]⟩ : ByteArray).toList = [46] := by rw [Lib.toList_data]
  have h2 : (⟨#[91]⟩ : ByteArray).toList = [91] := by rw [Lib.toList_data]
  have h3 : (⟨#[40]⟩ : ByteArray).toList = [40] := by rw [Lib.toList_data]
  have hB : Hid (Rl.beg t = (Rl.isNm t || t.text == [46] || t.text == [91] || t.text == [40])) := beg_eq t
  obtain ⟨b, hb⟩ : ∃ b, b = Rl.beg t := ⟨_, rfl⟩
  have HB : Hid (b = Rl.beg t) := hb
  rw [← hb]
  clear hb
  by_cases hnm : Rl.isNm t = true
  · have hq : decide (0 < Rl.nml t.text) = true := hnm
    have HM : Hid (Rl.isNm t = true) := hnm
    clear hnm
    go_enter Try.func91, Try.ntmps91
    go_wp2_with (go_at_call 75; refine (isName_any t.text _ _ (by omega)).mono ?_; rintro e w2 ⟨rfl, ho2⟩)
    go_ret
    refine ⟨?_, ((Only.refl _ w).alloc _).trans ho2⟩
    rw [HB.out, hB.out, HM.out]
    rfl
  · have hq : decide (0 < Rl.nml t.text) = false := by simpa [isNm_iff] using hnm
    have HM : Hid (Rl.isNm t = false) := (by simpa using hnm : Rl.isNm t = false)
    clear hnm
    go_enter Try.func91, Try.ntmps91
    go_wp2_with (go_at_call 75; refine (isName_any t.text _ _ (by omega)).mono ?_; rintro e w2 ⟨rfl, ho2⟩; have P2 : Hid (Pb w2 w.heap.size t.text t.at') := (Pb.new w _ _).only ho2 (fun h => h); have p0 := P2.out.c0)
    all_goals
      go_ret
      refine ⟨?_, ((Only.refl _ w).alloc _).trans ho2⟩
      have := hB.out
      rw [← HB.out, HM.out] at this
      refine congrArg (fun b => Ending.returned (.bool b)) (?_ : _ = b)
      rw [this]
      simp [*]

set_option maxRecDepth 100000 in
set_option maxHeartbeats 2000000 in
theorem fresh_any (E : Rl.Env) (rb : Nat) (S : ByteArray) (x : Rd) (ts : List Rl.Tk) (w : World) (h : In w rb S x ts) (hS : S.size ≤ 4096) (hM : Mp w x.mb E) (hmb : x.mb ≠ rb) :
    Calls Try.prog 76 #[.pointer (some ⟨rb, 0, none⟩)] w (nameP rb S x w (Rl.fresh E ts)) := by
  have hn := fun o => name_any rb S x ts (w.alloc o) (h.alloc o) hS
  have hlt := h.lt
  obtain ⟨i, _, hs, hi⟩ := h
  cases hnm : Rl.name ts with
  | error f =>
    have hF : Rl.fresh E ts = .error f := by unfold Rl.fresh; rw [hnm]
    rw [hF]
    rw [hnm] at hn
    have HN : Hid (∀ o, Calls Try.prog 84 #[.pointer (some ⟨rb, 0, none⟩)] (w.alloc o) (nameP rb S x (w.alloc o) (.error f))) := hn
    clear hF hnm hn hs
    go_enter Try.func76, Try.ntmps76
    go_wp2_with (go_at_call 84; refine (HN.out _).mono ?_; rintro e w1 ⟨rfl, ho1⟩)
    exact ⟨rfl, rfl, ((Only.refl _ w).alloc _).trans ho1⟩
  | ok r =>
    obtain ⟨t, ts1⟩ := r
    obtain ⟨_, htl⟩ := name_len hs hnm
    rw [← Lib.size_eq] at htl
    rw [hnm] at hn
    have HN : Hid (∀ o, Calls Try.prog 84 #[.pointer (some ⟨rb, 0, none⟩)] (w.alloc o) (nameP rb S x (w.alloc o) (.ok (t, ts1)))) := hn
    cases hf : Rl.find E t.text with
    | some b =>
      have hF : Rl.fresh E ts = .error (23, t.at') := by unfold Rl.fresh; rw [hnm]; simp only [hf]; rfl
      rw [hF]
      have HF : Hid (Rl.find E t.text = some b) := hf
      clear hF hnm hn hs hf
      go_enter Try.func76, Try.ntmps76
      go_wp2_with (go_at_call 84; refine (HN.out _).mono ?_; rintro e w1 ⟨rfl, hi1, ho1⟩; have HI1 : Hid (In w1 rb S x ts1) := hi1; obtain ⟨i1, hR1, _, _⟩ := hi1; have d7 := hR1.c7; have hlk : ∀ n, (Instr.lookup 99 (.map (some x.mb)) (.string (bs t.text)) true).run Try.prog ((w1.alloc (.cells #[.string (bs t.text), .int .i64 (t.at' : Int)] 124)).drewN n) = .ok (.tuple #[.int .u32 b, .bool true]) ((w1.alloc (.cells #[.string (bs t.text), .int .i64 (t.at' : Int)] 124)).drewN n) := (fun n => by have := ((((hM.alloc _).only ho1 hmb).alloc (.cells #[.string (bs t.text), .int .i64 (t.at' : Int)] 124)).drewN n).look (s := t.text) (by omega); rw [HF.out] at this; exact this); have hl1 := hR1.lt)
      go_quiet (fail)
      go_wp2_with (go_at_call 52; refine (throw_any 23 t.at' _).mono ?_; rintro e w3 ⟨rfl, rfl⟩)
      exact ⟨rfl, rfl, ((((Only.refl _ w).alloc _).trans ho1).alloc _).drewN _⟩
    | none =>
      have hF : Rl.fresh E ts = .ok (t, ts1) := by unfold Rl.fresh; rw [hnm]; simp only [hf]; rfl
      rw [hF]
      have HF : Hid (Rl.find E t.text = none) := hf
      clear hF hnm hn hs hf
      go_enter Try.func76, Try.ntmps76
      go_wp2_with (go_at_call 84; refine (HN.out _).mono ?_; rintro e w1 ⟨rfl, hi1, ho1⟩; have HI1 : Hid (In w1 rb S x ts1) := hi1; obtain ⟨i1, hR1, _, _⟩ := hi1; have d7 := hR1.c7; have hlk : ∀ n, (Instr.lookup 99 (.map (some x.mb)) (.string (bs t.text)) true).run Try.prog ((w1.alloc (.cells #[.string (bs t.text), .int .i64 (t.at' : Int)] 124)).drewN n) = .ok (.tuple #[.int .u32 0, .bool false]) ((w1.alloc (.cells #[.string (bs t.text), .int .i64 (t.at' : Int)] 124)).drewN n) := (fun n => by have := ((((hM.alloc _).only ho1 hmb).alloc (.cells #[.string (bs t.text), .int .i64 (t.at' : Int)] 124)).drewN n).look (s := t.text) (by omega); rw [HF.out] at this; exact this); have hl1 := hR1.lt; have Q3 : Hid (Pb (w1.alloc (.cells #[.string (bs t.text), .int .i64 (t.at' : Int)] 124)) w.heap.size [] 0) := ((Pb.zero w).only ho1 (by omega)).alloc _; have q0 := Q3.out.c0; have q1 := Q3.out.c1; have qf0 := Q3.out.fz 0; have qf1 := Q3.out.fz 1; have hl2 := ho1.size; simp at hl2)
      go_quiet (fail)
      go_wp2_with fail
      refine bodyPost_ret (v := .agg #[.string (bs t.text), .int .i64 (t.at' : Int)]) (by simp [results, Try.results76, go_sem, q0, q1]) rfl ?_
      exact ⟨rfl, (((HI1.out.alloc _).drewN _).setOther (by show w.heap.size ≠ rb; omega) _).setOther (by show w.heap.size ≠ rb; omega) _, ((((((Only.refl _ w).alloc _).trans ho1).alloc _).drewN _).setNew (Nat.le_refl _) _).setNew (Nat.le_refl _) _⟩

set_option maxRecDepth 100000 in
set_option maxHeartbeats 2000000 in
theorem all_any (n : Nat) (rb : Nat) (S : ByteArray) (i : Int) (x : Rd) (w : World) (hR : Rdr w rb S i x) (a : Option Addr) (cap : Nat) (hv : x.vC = .slice a n cap) (hn : n ≤ 24) :
    Calls Try.prog 96 #[.pointer (some ⟨rb, 0, none⟩)] w fun e w' => e = .returned (.int .u32 (Rl.whole n)) ∧ w' = w := by
  have d2 := hR.c2
  rw [hv] at d2
  have hn' : (n : Int) ≤ 24 := by omega
  go_enter Try.func96, Try.ntmps96
  go_wp2_with fail
  go_ret
  exact ⟨congrArg (fun z => Ending.returned (.int .u32 z)) (pow24 ⟨n, by omega⟩).1, rfl⟩
end Go.Proofs.Ytfbcijnacbfjpaa
