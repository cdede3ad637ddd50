/-
  The declared names as a map in memory; classes, names, fresh of the rules' reader.
-/
import Derived.Test.YtfbcijnacbfjpaaTok
import Derived.Maps.OwnSet
import Derived.StringKeys
namespace Go.Proofs.Ytfbcijnacbfjpaa
open Go.RowKit Go.Maps
set_option linter.unusedVariables false
set_option linter.unusedSimpArgs false

theorem law9 : Keyed Try.prog 9 := string_keyed Try.underlying9
theorem zero34 (w : World) : (zeroValue 47).run Try.prog w = .ok (.int .u32 0) w := by kernel_rfl
/-- the map tells the names' classes. -/
def Mp (w : World) (mb : Nat) (E : Rl.Env) : Prop := ∃ D : DataW Unit, w.ownsMap Try.prog 9 (plainElem Try.prog 47) mb E.length D ∧ IsMap D ∧ ∀ s : Rl.Str, D.atKey (.string s) (.lit (.int .u32 0)) = .lit (.int .u32 ((Rl.find E s).getD 0)) ∧ Maps.has D (.string s) = (Rl.find E s).isSome
theorem key9 (s : Rl.Str) (hs : s.length ≤ 4096) : keyOf Try.prog 9 (.string (bs s)) = some (.string s) := by
  have hs' : (bs s).size ≤ maxLen := by rw [bs_size]; unfold maxLen; omega
  unfold keyOf
  simp [Try.underlying9, mapKey, hs']
  rfl
theorem Mp.look {w : World} {mb : Nat} {E : Rl.Env} (h : Mp w mb E) {s : Rl.Str} (hs : s.length ≤ 4096) :
    (Instr.lookup 99 (.map (some mb)) (.string (bs s)) true).run Try.prog w = .ok (.tuple #[.int .u32 ((Rl.find E s).getD 0), .bool (Rl.find E s).isSome]) w := by
  obtain ⟨D, h1, hm, h2⟩ := h
  obtain ⟨v, ps, hr, hv⟩ := h1.look_ok law9 Try.underlying99 (zero34 w) (plainElem_int Try.underlying47 (by decide)) (key9 s hs)
  obtain ⟨c, rfl, hc, _⟩ := plainElem_int_inv Try.underlying47 hv
  have e1 := congrArg Prod.fst hc
  simp only at e1
  rw [(h2 s).1] at e1
  have e2 : (Rl.find E s).getD 0 = c := by
    have e3 := DataW.lit.inj e1
    exact (Lit.int.inj e3).2
  rw [hr, (h2 s).2, e2]
theorem Mp.lt {w : World} {mb : Nat} {E : Rl.Env} (h : Mp w mb E) : mb < w.heap.size := by
  obtain ⟨D, ⟨es, cl, h1, _⟩, _⟩ := h
  exact (Array.getElem?_eq_some_iff.1 h1).1
theorem Mp.only {w w' : World} {mb : Nat} {E : Rl.Env} {P : Nat → Prop} (h : Mp w mb E) (ho : Only P w w') (hn : ¬ P mb) : Mp w' mb E := by
  have hl := h.lt
  obtain ⟨D, ⟨es, cl, h1, h2⟩, h3⟩ := h
  exact ⟨D, ⟨es, cl, (ho.block mb hl hn).trans h1, h2⟩, h3⟩
theorem Mp.drewN {w : World} {mb : Nat} {E : Rl.Env} (h : Mp w mb E) (n : Nat) : Mp (w.drewN n) mb E := h
theorem Mp.alloc {w : World} {mb : Nat} {E : Rl.Env} (h : Mp w mb E) (o : Obj) : Mp (w.alloc o) mb E := h.only ((Only.refl (fun _ => False) w).alloc o) (fun h => h)

/-- how classes ends. -/
def clsP (rb : Nat) (S : ByteArray) (x : Rd) (w : World) (F : Rl.R (Int × List Rl.Tk)) (e : Ending) (w' : World) : Prop :=
  match F with
  | .error f => e = .panicked (thr f.1 f.2) ∧ Only (· = rb) w w'
  | .ok (b, ts) => e = .returned (.int .u32 b) ∧ In w' rb S x ts ∧ Only (· = rb) w w'
/-- a name that must be next, and its classes. -/
def clsF (E : Rl.Env) (ts : List Rl.Tk) : Rl.R (Int × List Rl.Tk) :=
  match Rl.name ts with
  | .error f => .error f
  | .ok (t, ts1) => match Rl.find E t.text with
    | none => .error (22, t.at')
    | some b => .ok (b, ts1)
theorem name_len {l : Rl.Str} {i : Nat} {ts : List Rl.Tk} {t : Rl.Tk} {ts1 : List Rl.Tk} (h : Rl.Strm l i ts) (hn : Rl.name ts = .ok (t, ts1)) : ts = t :: ts1 ∧ t.text.length ≤ l.length := by
  cases ts with
  | nil => exact h.elim
  | cons t0 ts0 =>
    have hn' : (if t0.bad = true then (Except.error (20, t0.at') : Rl.R (Rl.Tk × List Rl.Tk)) else if Rl.isNm t0 = true then .ok (t0, ts0) else .error (21, t0.at')) = .ok (t, ts1) := hn
    split at hn'
    · cases hn'
    · split at hn'
      · injection hn' with hn'
        injection hn' with h1 h2
        subst h1 h2
        refine ⟨rfl, ?_⟩
        rw [h.1, Rl.tk_len]
        have := Rl.plen_le (l.drop (Rl.nx l i))
        rw [List.length_drop] at this
        omega
      · cases hn'

set_option maxRecDepth 100000 in
set_option maxHeartbeats 2000000 in
theorem classes_any (E : Rl.Env) (rb : Nat) (S : ByteArray) (x : Rd) (ts : List Rl.Tk) (w : World) (h : In w rb S x ts) (hS : S.size ≤ 4096) (hM : Mp w x.mb E) (hmb : x.mb ≠ rb) :
    Calls Try.prog 86 #[.pointer (some ⟨rb, 0, none⟩)] w (clsP rb S x w (clsF E ts)) := by
  have hn := name_any rb S x ts w h hS
  have hlt := h.lt
  obtain ⟨i, _, hs, hi⟩ := h
  cases hnm : Rl.name ts with
  | error f =>
    have hF : clsF E ts = .error f := by unfold clsF; rw [hnm]
    rw [hF]
    rw [hnm] at hn
    have HN : Hid (Calls Try.prog 84 #[.pointer (some ⟨rb, 0, none⟩)] w (nameP rb S x w (.error f))) := hn
    clear hF hnm hn hs
    go_enter Try.func86, Try.ntmps86
    go_wp2_with (go_at_call 84; refine HN.out.mono ?_; rintro e w1 ⟨rfl, ho1⟩)
    exact ⟨rfl, rfl, ho1⟩
  | ok r =>
    obtain ⟨t, ts1⟩ := r
    obtain ⟨_, htl⟩ := name_len hs hnm
    rw [← Lib.size_eq] at htl
    rw [hnm] at hn
    have HN : Hid (Calls Try.prog 84 #[.pointer (some ⟨rb, 0, none⟩)] w (nameP rb S x w (.ok (t, ts1)))) := hn
    cases hf : Rl.find E t.text with
    | none =>
      have hF : clsF E ts = .error (22, t.at') := by unfold clsF; rw [hnm]; simp only [hf]
      rw [hF]
      have HF : Hid (Rl.find E t.text = none) := hf
      clear hF hnm hn hs hf
      go_enter Try.func86, Try.ntmps86
      go_wp2_with (go_at_call 84; refine HN.out.mono ?_; rintro e w1 ⟨rfl, hi1, ho1⟩; have HI1 : Hid (In w1 rb S x ts1) := hi1; obtain ⟨i1, hR1, _, _⟩ := hi1; have d7 := hR1.c7; have hlk : ∀ n, (Instr.lookup 99 (.map (some x.mb)) (.string (bs t.text)) true).run Try.prog ((w1.alloc (.cells #[.string (bs t.text), .int .i64 (t.at' : Int)] 124)).drewN n) = .ok (.tuple #[.int .u32 0, .bool false]) ((w1.alloc (.cells #[.string (bs t.text), .int .i64 (t.at' : Int)] 124)).drewN n) := (fun n => by have := (((hM.only ho1 hmb).alloc (.cells #[.string (bs t.text), .int .i64 (t.at' : Int)] 124)).drewN n).look (s := t.text) (by omega); rw [HF.out] at this; exact this); have hl1 := hR1.lt)
      go_quiet (fail)
      go_wp2_with (go_at_call 52; refine (throw_any 22 t.at' _).mono ?_; rintro e w3 ⟨rfl, rfl⟩)
      exact ⟨rfl, rfl, (ho1.alloc _).drewN _⟩
    | some b =>
      have hF : clsF E ts = .ok (b, ts1) := by unfold clsF; rw [hnm]; simp only [hf]
      rw [hF]
      have HF : Hid (Rl.find E t.text = some b) := hf
      clear hF hnm hn hs hf
      go_enter Try.func86, Try.ntmps86
      go_wp2_with (go_at_call 84; refine HN.out.mono ?_; rintro e w1 ⟨rfl, hi1, ho1⟩; have HI1 : Hid (In w1 rb S x ts1) := hi1; obtain ⟨i1, hR1, _, _⟩ := hi1; have d7 := hR1.c7; have hlk : ∀ n, (Instr.lookup 99 (.map (some x.mb)) (.string (bs t.text)) true).run Try.prog ((w1.alloc (.cells #[.string (bs t.text), .int .i64 (t.at' : Int)] 124)).drewN n) = .ok (.tuple #[.int .u32 b, .bool true]) ((w1.alloc (.cells #[.string (bs t.text), .int .i64 (t.at' : Int)] 124)).drewN n) := (fun n => by have := (((hM.only ho1 hmb).alloc (.cells #[.string (bs t.text), .int .i64 (t.at' : Int)] 124)).drewN n).look (s := t.text) (by omega); rw [HF.out] at this; exact this); have hl1 := hR1.lt)
      go_quiet (fail)
      go_wp2_with fail
      go_ret
      exact ⟨rfl, (HI1.out.alloc _).only ((Only.refl (fun _ => False) _).drewN _) (fun h => h), (ho1.alloc _).drewN _⟩
end Go.Proofs.Ytfbcijnacbfjpaa
